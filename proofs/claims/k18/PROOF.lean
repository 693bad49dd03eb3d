import PyProof.Rows.All
import Wide.All
import OpenK.AllK
import Wide.FinOn
import Lean
import PyProof.EqAt
import PyProof.EqKinds
import PyProof.TupleCall
import PyProof.SetKind
import PyProof.SetNew
import PyProof.SetRoads
import PyProof.Walks
import PyProof.Rows.SetListFold
import PyProof.Seq
import PyProof.Rows.SortShell
import PyProof.TupleIter
import PyProof.CollectWalk
import PyProof.ReprRoads
import PyProof.EqLayable
import PyProof.ReprLen
import PyProof.WalkInts
import PyProof.SeqI3
import PyProof.ListMulRoad
import PyProof.ZipIter
import PyProof.EnumFor
import PyProof.EnumMake
import PyProof.Draws
import PyProof.Rows.ZipGen
import PyProof.LayNew
import PyProof.WalksMore
import PyProof.IsiTupleAll
import PyProof.Rows.Range3
import PyProof.Rows.SumAny
import PyProof.Rows.CallKwBuiltin
import PyProof.MinMaxWalk
import PySem.Challenge.RW_boxcover_k18_sizes_within
open PySem renaming wpAny_bind → U0, wpAny_pure → U0f, wpAny_field → U1t, wpAny_seqItems → U15, wpAny_call_entry → U17, wpAny_newObj_type → U2g, wpAny_setField_rec → U2p, wpAny_holding → U2s, mem_of_lookup → U23, wpAny_setField → U3b, wpAny_truthy_bool → U3m, wpAny_pyIter_list → U33, wpAny_onRaise → U36, wpAny_rule → U39, wpAny_pyIter_tuple → U4a, wpAny_updateSeq → U4h, wpAny_attempt → U4j, wpAny_setState_of → U4l, wpAny_askSetting → U4x, wpAny_isInstance → U4y, wpAny_letGo → U5m, wpAny_passesOwn → U5u, wpAny_Call_Name_kw → U5y, wpAny_typeOf → U51, wpAny_getItem_list_slice → U52, wpAny_mono → U54, wpAny_pyIter_zip → U6h, wpAny_updateSeq_pair → U6q, wpAny_setEntries_of → U6u, wpAny_standAt → U65, wpAny_pyIter_slot → U7, wpAny_execs_nil → U7i, wpAny_specialOf → U7k, wpAny_ite_false → U7l, wpAny_newTuple → U7v, call → U7w
open PySem.Heap renaming get?_push_of_some → U0a, lt_size → U0l, get?_push_size → U0p, SameBut → U0y, get?_update_other → U1i, size_push → U1n, get?_update_self → U2a, IsTuple → U3r, ExtBut → U5b, IsSliceOf → U7t
open PySem.W renaming Frag → U0b, nsIn → U00, keepIn → U03, codeIn → U07, mg_of → U08, fnOf → U1b, mg_none_of → U1q, kia_one → U26, kitOne → U3j, findIn → U55, cellsFrom_some → U6b, OpenLaw → U6m, methodObj → U67, instObj → U7h, lookIn → U7s, WalkO → U7y
open Option renaming bind_some → U0c, map_bind → U0g, some → U1k, map_eq_some_iff → U16, map → U2x, toList_some → U4c, getD_some → U42, isSome_iff_exists → U5z, map_some → U6t
open List renaming getElem?_eq_getElem → U0d, map_map → U0e, getD_eq_getElem?_getD → U0h, getElem?_eq_some_iff → U0i, length_cons → U0j, length_map → U0k, size_toArray → U0m, range → U0n, mem_cons → U0o, replicate_succ → U0r, map_cons → U0s, mem_cons_of_mem → U0t, length_append → U0u, getElem?_map → U0v, mem_cons_self → U0z, not_mem_nil → U02, mem_singleton → U04, replicate → U05, getElem?_append_left → U1d, getElem_mem → U1f, mem_of_getElem? → U1h, mem_append_right → U1l, map_nil → U1m, length_nil → U1o, replicate_zero → U1s, map_append → U1u, nil_append → U1x, mem_range → U1z, lookup_cons → U11, mem_append → U12, pairwise_cons → U13, Nodup → U14, length_replicate → U19, mem_map → U2c, cons_append → U2f, getElem?_append_right → U2h, drop_eq_getElem_cons → U2i, getElem?_set_self → U2m, length_take → U2t, length_range → U2z, getElem?_set_ne → U21, filterMap_cons_some → U25, append_nil → U27, take_length → U29, foldl_cons → U3d, length_zip → U3e, all_eq_true → U3g, mem_filter → U3n, forIn_cons → U3p, length_singleton → U3v, length_filter_le → U3w, take_succ → U3x, mem_append_left → U3z, of_mem_zip → U30, length_set → U31, pairwise_append → U32, length_eq_zero_iff → U38, zip_cons_cons → U4b, nodup_cons → U4d, mem_iff_getElem? → U4e, getElem?_toArray → U4f, getElem?_eq_none → U4g, flatten_cons → U4k, flatMap_cons → U4m, Perm → U4q, forIn_nil → U4s, zipIdx_cons → U41, filterMap_cons_none → U43, getElem_of_mem → U45, getElem?_replicate → U46, sum_cons → U47, filterMap_map → U48, lookup_append → U49, length → U5, filter_eq_nil_iff → U5e, filter_congr → U5h, all_cons → U5l, filterMap_cons → U5n, length_pos_iff → U5o, getElem?_range → U5p, mergeSort_perm → U5r, filter_eq_self → U5s, map_congr_left → U5t, pairwise_iff_getElem → U5w, drop_zero → U56, append_assoc → U58, foldl_append → U59, take_of_length_le → U6d, Pairwise → U6e, ext_getElem → U6i, mem_flatMap → U6j, foldl → U6l, zipIdx_nil → U6p, all_map → U6s, filter_filter → U63, length_drop → U7b, isEmpty_nil → U7f, getElem_zip → U7g, cons → U7n, filter_map → U7o, lookup → U7q, toArray → U73, flatMap → U75, range' → U77
open Nat renaming le_refl → U0q, lt_of_lt_of_le → U0w, ne_of_lt → U0x, le_trans → U1a, le_add_right → U1j, ne_of_gt → U1p, reduceAdd → U2k, reduceSub → U2l, le_of_lt → U2u, lt_succ_of_lt → U2y, lt_trans → U3, zero_le → U3i, lt_irrefl → U34, lt_succ_self → U4w, min_self → U44, le_succ → U5a, pow_le_pow_right → U5j, lt_of_le_of_lt → U53, add_lt_add_left → U6w, mul_comm → U7c, zero_add → U7e, not_lt_zero → U7j, succ_mul → U70, le_of_eq → U71
open Ne renaming symm → U01
open Option.some renaming inj → U06
open PySem.Builtin.SmallTypes renaming nextOf → U09, ownedTupleIsFree → U1c, ownedTupleHandOut → U3h
open Bool renaming and_eq_true → U1e, false_ne_true → U1g, false_eq_true → U2b, eq_iff_iff → U22, not_true → U5k, or_eq_true → U5x, and_false → U6z, and_true → U7z
open Array renaming length_toList → U1r, getElem?_eq_getElem → U2d, getElem?_toList → U24, getD_eq_getD_getElem? → U28
open PySem.SetTable renaming below → U1v, grown → U4r, probe → U60
open PySem.Heap.SameBut renaming update → U1w
open PySem.PassesOwn renaming never → U1y
open PySem.F renaming slot_zip_next → U10, plainAttrs_list → U18, slot_list_append → U2q, type_list_append → U2r, args_zip_next_1 → U3l, entry_zip_next → U3q, slot_tuple_iterator_next → U3u, plain_extend_loop → U4p, called_set → U4z, slot_tuple_mul → U5c, args_tuple_add_2 → U50, entry_tuple_add → U57, slot_tuple_add → U6c
open PySem.Obj renaming mapSeq → U2e, mapFields → U35
open PySem.NameKind renaming free → U2j, cell → U3t
open PySem.Value renaming ref → U2n, none → U2w, int → U3f, type → U3s, bool → U3y
open PyProof.Rows renaming callWith_type1 → U2o, slot_tuple_getitem → U20, IntTab → U5q
open PySem.SeqAt renaming shaped → U2v
open PySem.Str renaming ofString → U3a
open Int renaming toNat_natCast → U3c, toNat_of_nonneg → U6v, emod_lt_of_pos → U64, mul_assoc → U66, le_antisymm → U7m, emod_nonneg → U7p, one_mul → U7r, le_of_lt → U74, add_zero → U76, pow_add → U78
open PySem.Around renaming under_plainId → U3k
open PySem.Builtin.List renaming listExtendWith → U3o, listTooLong → U4v, listSameRef → U40, listLengthHint → U5i
open PySem.Builtin.Range renaming rangeSize → U37
open PySem.Manifest renaming ParamKind → U4, Receiver → U6
open PySem.Manifest.ParamKind renaming posOnly → U4i
open False renaming elim → U4n
open PySem.Builtin.Slice renaming slicePlaces → U4o, sliceAdjust → U5v
open PySem.PyData renaming canLay0 → U4t, canLayAll0 → U6a, depthAll → U6o, depth → U6r, eqv → U7x
open PySem.Builtin.Tuple renaming tupleExact → U4u
open PySem.Shared renaming heap → U5d, TypeIs → U6f
open PySem.SetTable.below renaming go → U5f
open PySem.Heap.IsTuple renaming push → U5g
open List.cons renaming inj → U6g
open PyProof.Rows.IsTup renaming new → U6k
open ForInStep renaming yield → U6n
open Sum renaming inl → U6x, inr → U6y
open List.Perm renaming refl → U61, cons → U7u
open PySem.Heap.IsSliceOf renaming new → U62
open List.Pairwise renaming nil → U68
open PySem.SetTable.probe renaming go → U69
open True renaming intro → U7a
open Or renaming inr → U7d, inl → U72
noncomputable section
set_option Elab.async false
set_option maxRecDepth 10000
set_option linter.all false
set_option maxHeartbeats 4000000
namespace PySem.W.Fast
def tw15229694186267092957:=0
def tw15098046068695001800:=0
def tw836700590724897272:=0
def tw11571740915688998673:=0
def tw4315389591839240825:=0
def tw11007797916015112836:=0
def tw8579086924966241682:=0
def tw4013394001390439116:=0
def tw5078163897825141250:=0
def tw14869115029951847165:=0
def tw8802163506488230422:=0
def tw16239626021986016458:=0
def tw17849329042107233154:=0
def tw6155296361474461415:=0
def tw17874933181903062445:=0
def tw18371386952914582891:=0
def tw9709156298606176732:=0
def tw9463309816280140008:=0
def tw14192992584906577900:=0
def tw13883923186678411200:=0
def tw18305577377420942259:=0
def tw12915084200239366746:=0
def tw15947740500645315844:=0
def tw6057435242927425295:=0
def tw10346269983098464990:=0
def tw445981665398388582:=0
def tw18103931901219500285:=0
def tw10555963444802609735:=0
def tw9127113979385194318:=0
def tw50817017160796443:=0
def tw11814121246800854099:=0
def tw12431319416307658208:=0
def tw3015141194912768054:=0
def tw4746864121168293595:=0
def tw5769417408676510465:=0
def tw8838136927395114592:=0
def tw5958244034679123605:=0
def tw1448509235278873617:=0
def tw7423746656487209894:=0
def tw10383014924987694777:=0
def tw9207125246863226071:=0
def tw6450076131429905116:=0
def tw16014862910854472055:=0
def tw12207888233962546505:=0
def tw179829643323307094:=0
def tw6289740053567705436:=0
def tw2883699529153409397:=0
def tw7176222220853532958:=0
def tw18440157983435284745:=0
def tw5848942807206378287:=0
def tw4790677879696239893:=0
def tw1029046756354403292:=0
def tw4043453598895670827:=0
def tw16524750267823793639:=0
def tw14854879780774743309:=0
def tw9601329309342660548:=0
def tw15645590933734374684:=0
def tw10624071416039810006:=0
def tw8215181374621536606:=0
def tw8810133694103062310:=0
def tw14202946408490955944:=0
def tw14035138534230083836:=0
def tw16170958048951992577:=0
def tw15401353187330594543:=0
def tw3405528001338990120:=0
def tw9312556573943963697:=0
def tw3973757721686966336:=0
def tw7083060503699877858:=0
def tw7889095902160798647:=0
def tw603358527150078306:=0
def tw16502236139511764749:=0
def tw14500089591701080808:=0
def tw12944977382817151081:=0
def tw14535051689955074035:=0
def tw2067019622298574397:=0
def tw7891092695476779794:=0
def tw1418105776716140482:=0
def tw4438070501294057960:=0
def tw308603124435455016:=0
def tw10774002713271566642:=0
def tw9203438505073922265:=0
def tw378597587327215309:=0
def tw8471597254979584744:=0
def tw12526151859054818729:=0
def tw2368012071274251164:=0
def tw11507598478110308128:=0
def tw7499452297783695088:=0
def tw8267045567853914797:=0
def tw5195153474978709088:=0
def tw6786856268695569841:=0
def tw13740577009535025731:=0
def tw13496070792534654453:=0
def tw7330841159266735625:=0
def tw4044741743656879446:=0
def tw7513016641842490897:=0
def tw15228142286535432068:=0
def tw5385925621745943276:=0
def tw8458153418497173400:=0
def tw15265743276508360521:=0
def tw4195960613428212230:=0
def tw1192854849447611635:=0
def tw13252347883251577101:=0
def tw14226670598142462876:=0
def tw801180117807618687:=0
def tw6047483942815135338:=0
def tw1754130710412197196:=0
def tw1519982003171622829:=0
def tw6777725387591654453:=0
def tw459926235656973496:=0
def tw10191477962087880863:=0
end PySem.W.Fast
section
set_option maxRecDepth 100000
namespace L2
open PySem PySem.Spec PyProof.Rows
abbrev Key:=Sum Int Str
def oK:Key->Value->Bool
 |.inl k,v=>Value.isInt k v
 |.inr x,v=>Value.isStrOf x v
def Jaf(w:World):Key->Int
 |.inl k=>hashInt k
 |.inr x=>hashStr w x
theorem G6:∀{k:Key} {v:Value},oK k v=true->(∃i t,k=U6x i/\v=U3f i t)∨(∃x t,k=U6y x/\v=Value.str x t)
 |.inl i,v,h=>by
  obtain⟨t,e⟩:=Value.isInt_shape (k:=i) (v:=v) h
  exact .inl ⟨i,t,rfl,e⟩
 |.inr x,v,h=>by
  obtain⟨t,e⟩:=Value.isStrOf_shape (x:=x) (v:=v) h
  exact .inr ⟨x,t,rfl,e⟩
theorem wL(a b:Int):decide ((U6x a:Key)=U6x b)=(a==b):=by
 by_cases e:a=b
 .subst e;simp
 .have h:¬(U6x a:Key)=U6x b:=fun q=>e (U6x.inj q)
  rw[decide_eq_false h]
  exact(beq_eq_false_iff_ne.mpr e).symm
theorem wI(a b:Str):decide ((U6y a:Key)=U6y b)=decide (a=b):=by
 by_cases e:a=b
 .subst e;simp
 .have h:¬(U6y a:Key)=U6y b:=fun q=>e (U6y.inj q)
  rw[decide_eq_false h,decide_eq_false e]
theorem wK(a:Int)(b:Str):decide ((U6x a:Key)=U6y b)=false:=decide_eq_false (fun q=>nomatch q)
theorem wJ(a:Str)(b:Int):decide ((U6y a:Key)=U6x b)=false:=decide_eq_false (fun q=>nomatch q)
def Vz(prog:Program)(w:World):PySem.KeyKind prog w Key where
 is:=oK
 hash:=Jaf w
 inj:=fun v a b ha hb=>by
  rcases G6 ha with ⟨i,t,rfl,rfl⟩|⟨x,t,rfl,rfl⟩
  .rcases G6 hb with ⟨j,u,rfl,e⟩|⟨y,u,rfl,e⟩
   .injection e with e1 _;rw[e1]
   .exact nomatch e
  .rcases G6 hb with ⟨j,u,rfl,e⟩|⟨y,u,rfl,e⟩
   .exact nomatch e
   .injection e with e1 _;rw[e1]
 byValue:=fun k v h=>by
  rcases G6 h with ⟨i,t,rfl,rfl⟩|⟨x,t,rfl,rfl⟩<;>rfl
 pyHash:=fun hv h=>by
  rcases G6 hv with ⟨i,t,rfl,rfl⟩|⟨x,t,rfl,rfl⟩
  .exact wpAny_pyHash_int h
  .exact wpAny_pyHash_str h
 eqBool:=fun hu hv h=>by
  rcases G6 hu with ⟨i,t,rfl,rfl⟩|⟨x,t,rfl,rfl⟩
  .rcases G6 hv with ⟨j,u,rfl,rfl⟩|⟨y,u,rfl,rfl⟩
   .rw[wL] at h;exact wpAny_eqBool_int h
   .rw[wK] at h;exact SeqAt.EqAt.int_str i t y u _ _ _ _ h
  .rcases G6 hv with ⟨j,u,rfl,rfl⟩|⟨y,u,rfl,rfl⟩
   .rw[wJ] at h;exact SeqAt.EqAt.str_int x t j u _ _ _ _ h
   .rw[wI] at h;exact wpAny_eqBool_str h
 «strs»:=fun k x t v h=>by
  rcases G6 h with ⟨i,u,rfl,e⟩|⟨y,u,rfl,e⟩
  .exact nomatch e
  .injection e with e1 _
   subst e1
   cases v<;>rfl
end L2
namespace L2
open PySem PySem.Spec PyProof.Rows
inductive V where
 |non|bl (b:Bool)|int (i:Int)|str (x:Str)|byt (b:Array UInt8)|flt (b:UInt64)|ref (a:Addr)|ty (n:String)
 deriving DecidableEq
def RelV:V->Value->Prop
 |.non,u=>u=U2w
 |.bl b,u=>u=U3y b
 |.int i,u=>∃t,u=U3f i t
 |.str x,u=>∃t,u=Value.str x t
 |.byt b,u=>∃t,u=Value.bytes b t
 |.flt b,u=>∃t,u=Value.float b t
 |.ref a,u=>u=U2n a
 |.ty n,u=>u=U3s n
abbrev Vals:List V->List Value->Prop:=Paired RelV
theorem Vals.length{xs:List V}{us:List Value}(r:Vals xs us):xs.length=us.length:=Paired.length r
theorem Vals.get:∀{xs:List V} {us:List Value} {i:Nat} {x:V},Vals xs us->xs[i]?=some x->∃u,us[i]?=some u/\RelV x u
 |_,_,_,_,.nil,e=>by simp at e
 |_,_,0,_,.cons r _,e=>by simp at e;subst e;exact⟨_,rfl,r⟩
 |_,_,i+1,x,.cons _ t,e=>by
  obtain⟨u,h1,h2⟩:=Vals.get (i:=i) (x:=x) t (by simpa using e)
  exact⟨u,by simpa using h1,h2⟩
theorem Vals.set{x:V}{u:Value}(r:RelV x u):∀{xs:List V} {us:List Value} (i:Nat),Vals xs us->Vals (xs.set i x) (us.set i u)
 |_,_,_,.nil=>.nil
 |_,_,0,.cons _ t=>.cons r t
 |_,_,i+1,.cons q t=>.cons q (Vals.set r i t)
theorem Vals.append:∀{xs ys:List V} {us ws:List Value},Vals xs us->Vals ys ws->Vals (xs++ys) (us++ws)
 |_,_,_,_,.nil,s=>s
 |_,_,_,_,.cons r t,s=>.cons r (Vals.append t s)
theorem Vals.take:∀{xs:List V} {us:List Value} (n:Nat),Vals xs us->Vals (xs.take n) (us.take n)
 |_,_,0,_=>.nil
 |_,_,_+1,.nil=>.nil
 |_,_,n+1,.cons r t=>.cons r (Vals.take n t)
theorem Vals.drop:∀{xs:List V} {us:List Value} (n:Nat),Vals xs us->Vals (xs.drop n) (us.drop n)
 |_,_,0,r=>r
 |_,_,_+1,.nil=>.nil
 |_,_,n+1,.cons _ t=>Vals.drop n t
def je:Option V->Option Value->Prop
 |some v,some u=>RelV v u
 |none,none=>True
 |_,_=>False
def KV{κ:Type}:List (κ×V)->List (κ×Value)->Prop:=Paired fun(p:κ×V) (q:κ×Value)=>p.1=q.1/\RelV p.2 q.2
def kV:Key->V
 |.inl i=>.int i
 |.inr x=>.str x
inductive HO where
  /-- a list -/
 |lst (xs:List V)
  /-- a tuple (never changes) -/
 |tup (xs:List V)
  /-- a dict whose keys are ints and texts; one whose keys are tuples of ints and texts (the empty one is both) -/
 |dK (kvs:List (Key×V))|dT (kvs:List (List Key×V))
  /-- a set of ints: its members, its size -/
 |set (S:Int->Bool) (n:Nat)
  /-- an instance of the class at C, its dict at dx, its attributes -/
 |ins (C dx:Addr) (fs:List (Str×V))
  /-- the dict of the instance at x -/
 |own (x:Addr)
  /-- the dict of an exception -/
 |xd (fs:List (Str×V))
  /-- a bound method, f of x -/
 |met (f x:Addr)
  /-- a range object lo, lo + 1, .. below hi -/
 |rng (lo hi:Int)
  /-- a thing that is known to the object (the script; a dict while a loop walks it): read, never written while it is so -/
 |frz (o:Obj) (u:HO)
  /-- a code object's table -/
 |tbl (ps:Array Value)
  /-- any other thing, by what is true of its one object (a def of one's own: SetO a S n := HO.ext fun h => ..) -/
 |ext (φ:Heap->Prop)
abbrev Hp:=Addr->Option HO
def upd(H:Hp)(a:Addr)(o:HO):Hp:=fun b=>if b=a then some o else H b
theorem CK{H:Hp}{a:Addr}{o:HO}:upd H a o a=some o:=by unfold upd;rw[if_pos rfl]
theorem Bm{H:Hp}{a b:Addr}{o:HO}(h:b≠a):upd H a o b=H b:=by unfold upd;rw[if_neg h]
theorem Dm{H:Hp}{a b:Addr}{o:HO}(h:H a=some o)(h':H b=none):a≠b:=by
 intro e;subst e;rw[h] at h';cases h'
section
variable(P:Program)(w:World)
def Dz(H:Hp)(h:Heap)(a:Addr):HO->Prop
 |.lst xs=>xs.length<=sizeLine/\∃(its:List Value)(n:Nat),Vals xs its/\h.get? a=some { cls:=.type "list",data:=.seq its.toArray n }
 |.tup xs=>xs.length<=sizeLine/\∃its:List Value,Vals xs its/\IsTup h a its.toArray
 |.dK kvs=>kvs.length<=sizeLine/\(a==sysModules)=false/\∃vs,KV kvs vs/\h.DictOf (Vz P w) a vs
 |.dT kvs=>kvs.length<=sizeLine/\(a==sysModules)=false/\∃xs:List (List Key×Addr×Value),
   Paired (fun(p:List Key×V) (q:List Key×Addr×Value)=>p.1=q.1/\H q.2.1=some (.tup (p.1.map kV))/\RelV p.2 q.2.2) kvs xs /\
   ∃o es ep,h.get? a=some o/\o.ExactDict/\o.data=.dict es ep/\es.toList=xs.map (entryOfKey (tupleKind (Vz P w)))/\(xs.map (·.1)).Nodup
 |.set S n=>h.SetOf (intKind P w) a S n
 |.ins C dx fs=>H dx=some (.own a)/\fs.length<=1000/\dx≠a/\h.get? a=some (U7h C dx) /\
   ∃mA,h.Ns1 dx mA/\(∀f,je (fs.lookup f) (mA f))/\PySem.Within mA (fs.map (·.1))
 |.own _=>∃o,h.get? a=some o
 |.xd fs=>∃mA,h.Ns1 a mA/\∀f,je (fs.lookup f) (mA f)
 |.rng lo hi=>∃t u v,h.get? a=some { cls:=.type "range",data:=.fields #[.int lo t,.int hi u,.int 1 v] }
 |.frz o u=>h.get? a=some o/\Dz H h a u
 |.tbl ps=>h.get? a=some { cls:=.none,data:=.fields ps }
 |.met f x=>h.get? a=some (U67 (.ref f) (.ref x))
 |.ext φ=>φ h/\(∃o,h.get? a=some o)/\∀h1 h2:Heap,φ h1->(∀o,h1.get? a=some o->h2.get? a=some o)->φ h2
def HOk(H:Hp)(h:Heap):Prop:=∀a o,H a=some o->Dz P w H h a o
end
section
variable{P:Program}{w:World}{H H':Hp}{h h':Heap}{a:Addr}{o:HO}
theorem Dz.lt(x:Dz P w H h a o):a<h.objs.size:=by
 cases o with
 |lst xs=>obtain⟨_,_,_,_,e⟩:=x;exact U0l e
 |tup xs=>obtain⟨_,_,_,p⟩:=x;exact p.lt
 |dK kvs=>obtain⟨_,_,_,_,o,_,_,e,_⟩:=x;exact U0l e
 |dT kvs=>obtain⟨_,_,_,_,o,_,_,e,_⟩:=x;exact U0l e
 |set S n=>obtain⟨o,_,_,_,e,_⟩:=x;exact U0l e
 |ins C dx fs=>obtain⟨_,_,_,e,_⟩:=x;exact U0l e
 |own y=>obtain⟨_,e⟩:=x;exact U0l e
 |xd fs=>obtain⟨_,⟨_,_,_,e,_⟩,_⟩:=x;exact U0l e
 |rng lo hi=>obtain⟨_,_,_,e⟩:=x;exact U0l e
 |frz ob u=>obtain⟨e,_⟩:=x;exact U0l e
 |tbl ps=>exact U0l (show h.get? a=some _ from x)
 |met f y=>exact U0l (show h.get? a=some _ from x)
 |ext φ=>obtain⟨_,⟨_,e⟩,_⟩:=x;exact U0l e
theorem Paired.uZ{α β:Type}{F G:α->β->Prop}:∀{l₁:List α} {l₂:List β},Paired F l₁ l₂->(∀a b,F a b->G a b)->Paired G l₁ l₂
 |_,_,.nil,_=>.nil
 |_,_,.cons r t,f=>.cons (f _ _ r) (Paired.uZ t f)
theorem Dz.stay(x:Dz P w H h a o)(k:∀b u,(b=a∨H b=some (.own a))->h.get? b=some u->h'.get? b=some u)
  (ho:∀b,H b=some (.own a)->H' b=some (.own a)) (ht:∀b xs,H b=some (.tup xs)->H' b=some (.tup xs)):Dz P w H' h' a o:=by
 induction o with
 |lst xs=>obtain⟨z,its,n,r,e⟩:=x;exact⟨z,its,n,r,k _ _ (.inl rfl) e⟩
 |tup xs=>obtain⟨z,its,r,ob,e,c⟩:=x;exact⟨z,its,r,ob,k _ _ (.inl rfl) e,c⟩
 |dK kvs=>obtain⟨z,y,vs,r,ob,es,ep,e,c⟩:=x;exact⟨z,y,vs,r,ob,es,ep,k _ _ (.inl rfl) e,c⟩
 |dT kvs =>
  obtain⟨z,y,xs,r,ob,es,ep,e,c⟩:=x
  exact⟨z,y,xs,Paired.uZ r fun p q z=>⟨z.1,ht _ _ z.2.1,z.2.2⟩,ob,es,ep,k _ _ (.inl rfl) e,c⟩
 |set S n=>obtain⟨ob,es,ep,t,e,c⟩:=x;exact⟨ob,es,ep,t,k _ _ (.inl rfl) e,c⟩
 |ins C dx fs =>
  obtain⟨d,z,ne,e,mA,⟨od,es,ep,e2,c⟩,r⟩:=x
  exact⟨ho _ d,z,ne,k _ _ (.inl rfl) e,mA,⟨od,es,ep,k _ _ (.inr d) e2,c⟩,r⟩
 |own y=>obtain⟨ob,e⟩:=x;exact⟨ob,k _ _ (.inl rfl) e⟩
 |xd fs=>obtain⟨mA,⟨od,es,ep,e,c⟩,r⟩:=x;exact⟨mA,⟨od,es,ep,k _ _ (.inl rfl) e,c⟩,r⟩
 |rng lo hi=>obtain⟨t,u,v,e⟩:=x;exact⟨t,u,v,k _ _ (.inl rfl) e⟩
 |frz ob u ih=>obtain⟨e,q⟩:=x;exact⟨k _ _ (.inl rfl) e,ih q⟩
 |tbl ps =>
  have e:h.get? a=some { cls:=.none,data:=.fields ps }:=x
  show h'.get? a=some { cls:=.none,data:=.fields ps }
  exact k a _ (.inl rfl) e
 |met f y =>
  have e:h.get? a=some (U67 (.ref f) (.ref y)):=x
  show h'.get? a=some (U67 (.ref f) (.ref y))
  exact k a _ (.inl rfl) e
 |ext φ=>obtain⟨p,⟨o,e⟩,st⟩:=x;exact⟨st _ _ p fun o q=>k _ _ (.inl rfl) q,⟨o,k _ _ (.inl rfl) e⟩,st⟩
theorem HOk.lt(x:HOk P w H h)(e:H a=some o):a<h.objs.size:=(x a o e).lt
theorem HOk.fresh(x:HOk P w H h)(e:h.objs.size<=a):H a=none:=by
 cases q:H a with
 |none=>rfl
 |some u=>exact absurd (U0w (x.lt q) e) (U34 _)
theorem HOk.kept(x:HOk P w H h)(k:∀b u,h.get? b=some u->h'.get? b=some u):HOk P w H h':=fun a o e =>
 (x a o e).stay (fun b u _ q=>k b u q) (fun _ q=>q) fun _ _ q=>q
theorem HOk.laid(x:HOk P w H h)(k:∀b u,h.get? b=some u->h'.get? b=some u)(hp:h.objs.size<=a)(new:Dz P w (upd H a o) h' a o):HOk P w (upd H a o) h':=fun b u e=>by
 have hn:=x.fresh hp
 by_cases hb:b=a
 .subst hb;rw[CK] at e;cases e;exact new
 .rw[Bm hb] at e
  exact(x b u e).stay (fun c v _ q=>k c v q) (fun c q=>by rw[Bm (Dm q hn)];exact q) fun c xs q=>by rw[Bm (Dm q hn)];exact q
end
def Rd(H:Hp)(a:Addr)(u:HO):Prop:=H a=some u∨∃o,H a=some (.frz o u)
theorem Rd.ok{P:Program}{w:World}{H:Hp}{h:Heap}{a:Addr}{u:HO}(r:Rd H a u)(x:HOk P w H h):Dz P w H h a u:=by
 rcases r with r|⟨o,r⟩
 .exact x a u r
 .obtain⟨_,q⟩:=x a _ r
  exact q
def Mut:Option HO->Prop
 |some (.lst _)=>True
 |some (.dK _)=>True
 |some (.dT _)=>True
 |some (.set _ _)=>True
 |some (.ins _ _ _)=>True
 |some (.ext _)=>True
 |_=>False
section
variable{P:Program}{w:World}{H:Hp}{h h':Heap}{x e:Addr}{o':HO}
theorem HOk.write(ok:HOk P w H h)(mu:Mut (H x))(he:e=x∨H e=some (.own x))(k:∀b u,b≠e->h.get? b=some u->h'.get? b=some u)(heo:∃u,h'.get? e=some u)
  (new:Dz P w (upd H x o') h' x o'):HOk P w (upd H x o') h':=fun b u q=>by
 have nown:∀c y,H c=some (.own y)->c≠x:=fun c y r z=>by subst z;rw[r] at mu;exact mu
 have ntup:∀c xs,H c=some (.tup xs)->c≠x:=fun c xs r z=>by subst z;rw[r] at mu;exact mu
 by_cases hb:b=x
 .subst hb;rw[CK] at q;cases q;exact new
 .rw[Bm hb] at q
  by_cases hbe:b=e
  .have q':H b=some (.own x):=by
    rcases he with z|z
    .exact absurd (hbe.trans z) hb
    .rw[hbe];exact z
   rw[q] at q';cases q'
   obtain⟨v,hv⟩:=heo
   exact⟨v,by rw[hbe];exact hv⟩
  .refine(ok b u q).stay (fun c v hc r=>k c v ?_ r) (fun c r=>by rw[Bm (nown c b r)];exact r) fun c xs r=>by rw[Bm (ntup c xs r)];exact r
   rcases hc with rfl|hc
   .exact hbe
   .rintro rfl
    rcases he with z|z
    .exact nown c b hc z
    .rw[hc] at z;cases z;exact hb rfl
end
structure Un(fs ex:List Addr)(H H':Hp)(h h':Heap):Prop where
 keep:∀b o,h.get? b=some o->H b=none->b ∉ fs->b ∉ ex->h'.get? b=some o
 slot:∀b o,h.get? b=some o->H b=none->b∈fs->b ∉ ex->∃sl,h'.get? b=some { o with slots:=sl }
 free:∀b o,h.get? b=some o->H b=none->b ∉ ex->H' b=none
 there:∀b o,h.get? b=some o->b ∉ ex->∃o',h'.get? b=some o'
 tups:∀b xs,H b=some (.tup xs)->H' b=some (.tup xs)
 frzs:∀b o u,H b=some (.frz o u)->H' b=some (.frz o u)
 tbls:∀b ps,H b=some (.tbl ps)->∃more,H' b=some (.tbl (ps++more))
 sy:H sysModules=none->H' sysModules=none
section
variable{fs fs' ex ex':List Addr}{H H1 H2:Hp}{h h1 h2 h':Heap}{a x e:Addr}{o:HO}
theorem Un.any(u:Un fs ex H H1 h h1){b:Addr}{ob:Obj}(q:h.get? b=some ob)(n:H b=none)(hx:b ∉ ex):∃sl,h1.get? b=some { ob with slots:=sl }:=by
 by_cases hb:b∈fs
 .exact u.slot b ob q n hb hx
 .exact⟨ob.slots,u.keep b ob q n hb hx⟩
theorem Un.kept(k:∀b u,h.get? b=some u->h'.get? b=some u):Un fs ex H H h h' :=
 ⟨fun b ob q _ _ _=>k b ob q,fun b ob q _ _ _=>⟨ob.slots,k b ob q⟩,fun _ _ _ n _=>n,fun b ob q _=>⟨ob,k b ob q⟩,fun _ _ q=>q,fun _ _ _ q=>q,fun _ ps q=>⟨#[],by rw[q];simp⟩,id⟩
theorem Un.refl:Un fs ex H H h h:=Un.kept fun _ _ q=>q
theorem Un.laid(k:∀b u,h.get? b=some u->h'.get? b=some u)(hp:h.objs.size<=a)(hn:H a=none)(hsy:sysModules≠a):Un fs ex H (upd H a o) h h' where
 sy:=fun n=>by rw[Bm hsy];exact n
 keep:=fun b u q _ _ _=>k b u q
 slot:=fun b u q _ _ _=>⟨u.slots,k b u q⟩
 free:=fun b u q n _=>by rw[Bm (U0x (U0w (U0l q) hp))];exact n
 there:=fun b u q _=>⟨u,k b u q⟩
 tups:=fun b xs q=>by rw[Bm (Dm q hn)];exact q
 frzs:=fun b u xs q=>by rw[Bm (Dm q hn)];exact q
 tbls:=fun b ps q=>⟨#[],by rw[Bm (Dm q hn),q];simp⟩
theorem Un.write(mu:Mut (H x))(he:e=x∨H e=some (.own x))(k:∀b u,b≠e->h.get? b=some u->h'.get? b=some u)(heo:∃u,h'.get? e=some u):Un fs ex H (upd H x o) h h':=by
 have hx:∀b,H b=none->b≠x:=fun b n z=>by subst z;rw[n] at mu;exact mu
 have hb:∀b,H b=none->b≠e:=fun b n z=>by
  subst z
  rcases he with r|r
  .exact hx b n r
  .rw[n] at r;cases r
 have hm:∀b u,H b=some u->¬Mut (some u)->b≠x:=fun b u q nm z=>by subst z;rw[q] at mu;exact nm mu
 refine⟨fun b u q n _ _=>k b u (hb b n) q,fun b u q n _ _=>⟨u.slots,k b u (hb b n) q⟩,fun b u q n _=>by rw[Bm (hx b n)];exact n,fun b u q _=>?_,
  fun b xs q=>by rw[Bm (hm b _ q fun z=>z)];exact q,fun b u xs q=>by rw[Bm (hm b _ q fun z=>z)];exact q,fun b ps q=>⟨#[],by rw[Bm (hm b _ q fun z=>z),q];simp⟩,fun n=>by rw[Bm (hx _ n)];exact n⟩
 by_cases hbe:b=e
 .subst hbe;exact heo
 .exact⟨u,k b u hbe q⟩
end
def trk(h:Heap)(H:Hp):List Addr:=(U0n h.objs.size).filter fun a=>(H a).isSome
def QJ(h:Heap)(H:Hp):Heap:=PySem.W.hideAll h (trk h H)
theorem jD(h:Heap)(H:Hp):(QJ h H).objs.size=h.objs.size:=PySem.W.hideAll_size _ _
theorem nF{h:Heap}{H:Hp}{b:Addr}{o:Obj}(e:h.get? b=some o)(n:H b=none):(QJ h H).get? b=some o :=
 PySem.W.hideAll_get _ e fun hm=>by
  have q:(H b).isSome=true:=(U3n.mp hm).2
  rw[n] at q;simp at q
theorem qm{h:Heap}{H:Hp}{b:Addr}{o:Obj}(e:(QJ h H).get? b=some o):h.get? b=some o/\H b=none:=by
 have e':h.get? b=some o:=PySem.W.of_hideAll (trk h H) e
 refine⟨e',?_⟩
 cases q:H b with
 |none=>rfl
 |some x =>
  have hm:b∈trk h H:=U3n.mpr ⟨U1z.mpr (U0l e'),by simp[q]⟩
  have z:(QJ h H).get? b=none:=PySem.W.hideAll_none (trk h H) hm
  rw[z] at e;cases e
def tE(g h:Heap)(L:Addr):List (Addr×Obj):=(U0n h.objs.size).filterMap fun a=>if a=L∨(g.get? a).isSome=true then none else (h.get? a).map fun o=>(a,o)
def rest(g h:Heap)(L d:Addr):List (Addr×Obj):=(tE g h L).filter fun p=>decide (p.1≠d)
end L2
namespace L2
open PySem PySem.Spec PyProof.Rows
structure Mod(K:U0b)(mg:Str->Option Value)(base:Heap):Prop where
 kin:K.In base
 glob:base.Ns mainGlobals mg
 blt:∃mb,base.Ns builtinsNs mb/\∀x:Str,x≠"__name__"->mb x=bootBuiltins x
 nolimit:base.NoLimit
/-- the context: a def's body (or a comprehension's block) running. base: fixed through the whole law; s₀, H₀: the entry; outer: the frames whose slots others may change (a def's callers); stack: all frames that run;
   ex: iterators that were made ahead of the entry and are walked here (a comprehension's); fn: the names whose cells were made at the entry (a def: all; a comprehension's block: its own); calm: not within an except suite; pn: pins that every state bears; xe: what is wanted of an exception that leaves the code -/
structure Cx where
 prog:Program
 w:World
 K:U0b
 mg:Str->Option Value
 base:Heap
 A:Around
 N:List Str
 s₀:Shared
 H₀:Hp
 env:Env
 outer:List Env
 stack:List Env
 ex:List Addr
 fn:Str->Bool
 calm:Bool
 pn:List (Addr×Obj)
 xe:Value->Shared->Prop
def frs(l:List Env):List Addr:=l.filterMap (·.frame)
abbrev Cx.fs(X:Cx):List Addr:=frs X.outer
def Vis(sc:Scope)(x:Str):Prop:=sc.names.lookup x=some .local∨sc.names.lookup x=some .cell∨sc.names.lookup x=some .free
def Loc(sc:Scope)(x:Str):Prop:=sc.names.lookup x=some .local∨sc.names.lookup x=some .cell
def Look(env:Env)(h:Heap)(m:Str->Option Value)(x:Str)(u:Value):Prop :=
 (env.kindOf x=some .local/\m x=some u)∨((env.kindOf x=some .cell∨env.kindOf x=some .free)/\∃c,env.cells.lookup x=some c/\h.IsCell c (some u))
structure Cx.Ok(X:Cx):Prop where
 mod:Mod X.K X.mg X.base
 kind:X.env.scope.kind=.function
 glob:X.env.globals=mainGlobals
 blt:X.env.builtins=builtinsNs
 above:X.s₀.heap.objs.size<=X.env.locals
 inj:∀x y c,X.env.cells.lookup x=some c->X.env.cells.lookup y=some c->x=y
 has:∀x,(X.env.kindOf x=some .cell∨X.env.kindOf x=some .free)->∃c,X.env.cells.lookup x=some c
 cab:∀x c,X.fn x=true->X.env.cells.lookup x=some c->X.s₀.heap.objs.size<=c
 hd:X.calm=true->X.A.handled=none
 frames:X.A.frames=some X.stack
 stk:X.stack=X.outer∨(X.stack=X.env::X.outer/\X.env.frame=some X.env.locals)
 exf:∀b∈X.ex,b≠X.env.locals/\∀x c,X.env.cells.lookup x=some c->c≠b
 bs:∀b o,X.base.get? b=some o->X.s₀.heap.get? b=some o/\X.H₀ b=none
 bsz:X.base.objs.size<=X.s₀.heap.objs.size
 noex:∀b o,X.base.get? b=some o->b ∉ X.ex
 exfs:∀b∈X.ex,b ∉ X.fs
 Nt:X.s₀.heap.FunFrames X.base X.outer
 frf:∀b∈X.fs,X.H₀ b=none
 sy:X.H₀ sysModules=none
structure Inv(X:Cx)(pins:List (Addr×Obj))(σ:List (Option V))(H:Hp)(s:Shared):Prop where
 ok:X.Ok
 os:s.os=X.s₀.os
 bare:AllBare s.gens
 base:Un X.fs X.ex X.H₀ H X.s₀.heap s.heap
 loc:∃m,s.heap.Ns X.env.locals m/\∀(i:Nat)(x:Str)(v:V),X.N[i]?=some x->σ[i]?=some (some v)->Vis X.env.scope x->∃u,RelV v u/\Look X.env s.heap m x u
 cell:∀x c,X.env.cells.lookup x=some c->∃v,s.heap.IsCell c v
 free:H X.env.locals=none
 freeC:∀x c,X.env.cells.lookup x=some c->H c=none
 pin:∀p∈X.pn++pins,s.heap.get? p.1=some p.2/\H p.1=none/\p.1≠X.env.locals/\p.1 ∉ X.fs/\∀v,p.2.data≠.cell v
 hok:HOk X.prog X.w H s.heap
 len:σ.length=X.N.length
section
variable{X:Cx}{pins:List (Addr×Obj)}{σ:List (Option V)}{H H':Hp}{s:Shared}{h':Heap}
theorem Cx.Ok.Jad(ok:X.Ok){b:Addr}{o:Obj}(e:X.base.get? b=some o):b ∉ X.fs:=fun hb=>by
 have:=(ok.Nt.mem hb).1
 rw[e] at this;cases this
theorem Inv.bs(I:Inv X pins σ H s):∀b o,X.base.get? b=some o->s.heap.get? b=some o/\H b=none:=fun b o e =>
 ⟨I.base.keep b o (I.ok.bs b o e).1 (I.ok.bs b o e).2 (I.ok.Jad e) (I.ok.noex b o e),I.base.free b o (I.ok.bs b o e).1 (I.ok.bs b o e).2 (I.ok.noex b o e)⟩
theorem Inv.bk(I:Inv X pins σ H s):∀b o,X.base.get? b=some o->s.heap.get? b=some o:=fun b o e=>(I.bs b o e).1
theorem Inv.mod(I:Inv X pins σ H s):Mod X.K X.mg X.base:=I.ok.mod
theorem Inv.kIn(I:Inv X pins σ H s):X.K.In s.heap:=I.ok.mod.kin.keeps I.bk
theorem Inv.fr(I:Inv X pins σ H s):∃m,Fr X.base X.env.locals s.heap m :=
 let ⟨m,hn,_⟩:=I.loc
 ⟨m,hn,I.bk,U1a I.ok.bsz I.ok.above⟩
theorem Inv.lt(I:Inv X pins σ H s):X.env.locals<s.heap.objs.size:=let ⟨_,hn,_⟩:=I.loc;hn.lt
theorem Inv.sz(I:Inv X pins σ H s):X.s₀.heap.objs.size<=s.heap.objs.size:=U1a I.ok.above (U2u I.lt)
theorem Inv.jW(I:Inv X pins σ H s){a:Addr}(h:s.heap.objs.size<=a):a ∉ X.fs:=fun hb=>by
 obtain⟨_,o,ho,_⟩:=I.ok.Nt.mem hb
 exact absurd (U0w (U0l ho) (U1a I.sz h)) (U34 _)
theorem Inv.cne(I:Inv X pins σ H s):∀x c,X.env.cells.lookup x=some c->c≠X.env.locals:=fun x c e z=>by
 obtain⟨v,o,ho,hd⟩:=I.cell x c e
 obtain⟨m,⟨o',es,ep,ho',hd',_⟩,_⟩:=I.loc
 rw[z,ho'] at ho;cases ho;rw[hd'] at hd;cases hd
theorem Inv.Nt(I:Inv X pins σ H s):s.heap.FunFrames X.base X.outer:=by
 have all:∀(l:List Env),(∀b∈frs l,b∈X.fs)->X.s₀.heap.FunFrames X.base l->s.heap.FunFrames X.base l:=by
  intro l
  induction l with
  |nil=>intro _ _;trivial
  |cons env r ih =>
   intro hs hl
   obtain⟨hk,⟨L,o,hf,hn,ho,hd⟩,hr⟩:=hl
   have hL:L∈X.fs:=hs L (by unfold frs;rw[U5n,hf];exact U0z)
   obtain⟨sl,e⟩:=I.base.slot L o ho (I.ok.frf L hL) hL fun z=>I.ok.exfs L z hL
   exact⟨hk,⟨L,_,hf,hn,e,hd⟩,ih (fun b hb=>hs b (by unfold frs;rw[U5n,hf];exact U0t _ hb)) hr⟩
 exact all X.outer (fun _ hb=>hb) I.ok.Nt
theorem Inv.stack(I:Inv X pins σ H s):s.heap.FunFrames X.base X.stack:=by
 rcases I.ok.stk with e|⟨e,hf⟩
 .rw[e];exact I.Nt
 .rw[e]
  obtain⟨m,hn,_⟩:=I.loc
  refine .cons (by rw[I.ok.kind];decide) hf hn ?_ I.Nt
  exact Heap.get?_none_of_le (U1a I.ok.bsz I.ok.above)
theorem Inv.R7(I:Inv X pins σ H s):∀b∈frs X.stack,b∈X.env.locals::X.fs:=fun b hb=>by
 rcases I.ok.stk with e|⟨e,hf⟩
 .rw[e] at hb;exact U0t _ hb
 .rw[e] at hb
  unfold frs at hb
  rw[U5n,hf] at hb
  exact hb
theorem Inv.bG(I:Inv X pins σ H s):∀b∈frs X.stack,H b=none:=fun b hb=>by
 rcases U0o.mp (I.R7 b hb) with e|hb
 .rw[e];exact I.free
 .obtain⟨_,o,ho,_⟩:=I.ok.Nt.mem hb
  exact I.base.free b o ho (I.ok.frf b hb) fun z=>I.ok.exfs b z hb
theorem Inv.cW(I:Inv X pins σ H s):sysModules<s.heap.objs.size:=by
 obtain⟨o,_,_,e,_⟩:=I.ok.mod.glob
 exact U3 (by decide:(1:Nat)<3) (U0l (I.bk _ _ e))
theorem Inv.Vr(I:Inv X pins σ H s):H sysModules=none:=I.base.sy I.ok.sy
theorem Inv.step{g':Array GenState}{t':Nat}{d':Drawn}{ch:List Addr}(I:Inv X pins σ H s)
  (hch:∀b∈ch,(b∈X.ex∨X.s₀.heap.objs.size<=b)/\b≠X.env.locals/\(∀x c,X.env.cells.lookup x=some c->c≠b)/\∀p∈X.pn++pins,p.1≠b)
  (keep:∀b o,b≠X.env.locals->b ∉ X.fs->b ∉ ch->s.heap.get? b=some o->H b=none->h'.get? b=some o)
  (slot:∀b o,b≠X.env.locals->b∈X.fs->b ∉ ch->s.heap.get? b=some o->H b=none->∃sl,h'.get? b=some { o with slots:=sl }) (free:∀b o,b ∉ ch->s.heap.get? b=some o->H b=none->H' b=none)
  (there:∀b o,b ∉ ch->s.heap.get? b=some o->∃o',h'.get? b=some o')
  (tups:∀b xs,H b=some (.tup xs)->H' b=some (.tup xs)) (frzs:∀b o u,H b=some (.frz o u)->H' b=some (.frz o u)) (tbls:∀b ps,H b=some (.tbl ps)->∃more,H' b=some (.tbl (ps++more)))
  (ns:∀m,s.heap.Ns X.env.locals m->h'.Ns X.env.locals m) (hok:HOk X.prog X.w H' h') (hg:AllBare g') (sy:H sysModules=none->H' sysModules=none) :
  Inv X pins σ H' { s with heap:=h',gens:=g',drawn:=d',toks:=t' }:=by
 have neL:∀b o,X.s₀.heap.get? b=some o->b≠X.env.locals:=fun b o e=>U0x (U0w (U0l e) I.ok.above)
 have neC:∀b o,X.s₀.heap.get? b=some o->b ∉ X.ex->b ∉ ch:=fun b o e hx hb=>by
  rcases(hch b hb).1 with z|z
  .exact hx z
  .exact absurd (U0w (U0l e) z) (U34 _)
 have cellK:∀x c,X.env.cells.lookup x=some c->∀v,s.heap.IsCell c v->h'.IsCell c v:=fun x c e v ⟨o,ho,hd⟩=>by
  have nch:c ∉ ch:=fun z=>(hch c z).2.2.1 x c e rfl
  by_cases hc:c∈X.fs
  .obtain⟨sl,q⟩:=slot c o (I.cne x c e) hc nch ho (I.freeC x c e)
   exact⟨_,q,hd⟩
  .exact⟨o,keep c o (I.cne x c e) hc nch ho (I.freeC x c e),hd⟩
 refine⟨I.ok,I.os,hg,⟨fun b o e n hb hx=>?_,fun b o e n hb hx=>?_,fun b o e n hx=>?_,fun b o e hx=>?_,fun b xs e=>tups b xs (I.base.tups b xs e),fun b o xs e=>frzs b o xs (I.base.frzs b o xs e),fun b ps e=>?_,fun n=>sy (I.base.sy n)⟩,?_,fun x c e=>?_,?_,fun x c e=>?_,fun p hp=>?_,hok,I.len⟩
 .exact keep b o (neL b o e) hb (neC b o e hx) (I.base.keep b o e n hb hx) (I.base.free b o e n hx)
 .obtain⟨sl,e1⟩:=I.base.slot b o e n hb hx
  obtain⟨sl',e2⟩:=slot b _ (neL b o e) hb (neC b o e hx) e1 (I.base.free b o e n hx)
  exact⟨sl',e2⟩
 .obtain⟨o',e1⟩:=I.base.there b o e hx
  exact free b o' (neC b o e hx) e1 (I.base.free b o e n hx)
 .obtain⟨o',e1⟩:=I.base.there b o e hx
  exact there b o' (neC b o e hx) e1
 .obtain⟨m1,e1⟩:=I.base.tbls b ps e
  obtain⟨m2,e2⟩:=tbls b _ e1
  exact⟨m1++m2,by rw[e2,Array.append_assoc]⟩
 .obtain⟨m,hn,hl⟩:=I.loc
  refine⟨m,ns m hn,fun i x v e1 e2 e3=>?_⟩
  obtain⟨u,r,l⟩:=hl i x v e1 e2 e3
  refine⟨u,r,?_⟩
  rcases l with l|⟨k,c,e,z⟩
  .exact .inl l
  .exact .inr ⟨k,c,e,cellK x c e _ z⟩
 .obtain⟨v,z⟩:=I.cell x c e
  exact⟨v,cellK x c e v z⟩
 .obtain⟨m,⟨o,_,_,ho,_⟩,_⟩:=I.loc
  exact free _ o (fun z=>(hch _ z).2.1 rfl) ho I.free
 .obtain⟨v,o,ho,hd⟩:=I.cell x c e
  exact free c o (fun z=>(hch c z).2.2.1 x c e rfl) ho (I.freeC x c e)
 .obtain⟨e,n,ne,nf,d⟩:=I.pin p hp
  have nch:p.1 ∉ ch:=fun z=>(hch p.1 z).2.2.2 p hp rfl
  exact⟨keep p.1 p.2 ne nf nch e n,free p.1 p.2 nch e n,ne,nf,d⟩
theorem Inv.un{t':Nat}(I:Inv X pins σ H s)(u:Un X.fs [] H H' s.heap h')(hok:HOk X.prog X.w H' h'):Inv X pins σ H' { s with heap:=h',toks:=t' }:=by
 obtain⟨m,⟨o,es,ep,ho,r⟩,_⟩:=id I.loc
 obtain⟨sl,hL⟩:=u.any ho I.free (by simp)
 exact I.step (g':=s.gens) (d':=s.drawn) (ch:=[]) (fun _ z=>nomatch z) (fun b o _ hb _ e n=>u.keep b o e n hb (by simp)) (fun b o _ hb _ e n=>u.slot b o e n hb (by simp)) (fun b o _ e n=>u.free b o e n (by simp)) (fun b o _ e=>u.there b o e (by simp)) u.tups u.frzs u.tbls (fun m' hm=>by
  obtain⟨o',es',ep',ho',r'⟩:=hm
  rw[ho] at ho';cases ho'
  exact⟨_,es',ep',hL,r'⟩) hok I.bare u.sy
theorem Inv.call{g':Array GenState}{t':Nat}{d':Drawn}{ch:List Addr}(I:Inv X pins σ H s)(u:Un (frs X.stack) ch H H' s.heap h')(hok:HOk X.prog X.w H' h')(hg:AllBare g')
  (hch:∀b∈ch,(b∈X.ex∨X.s₀.heap.objs.size<=b)/\b≠X.env.locals/\(∀x c,X.env.cells.lookup x=some c->c≠b)/\∀p∈X.pn++pins,p.1≠b) :
  Inv X pins σ H' { s with heap:=h',gens:=g',drawn:=d',toks:=t' }:=by
 obtain⟨m,⟨o,es,ep,ho,r⟩,_⟩:=id I.loc
 obtain⟨sl,hL⟩:=u.any ho I.free fun z=>(hch _ z).2.1 rfl
 exact I.step (ch:=ch) hch (fun b o hL hb hc e n=>u.keep b o e n (fun z=>(U0o.mp (I.R7 b z)).elim hL hb) hc) (fun b o _ _ hc e n=>u.any e n hc) (fun b o hc e n=>u.free b o e n hc) (fun b o hc e=>u.there b o e hc) u.tups u.frzs u.tbls (fun m' hm=>by
  obtain⟨o',es',ep',ho',r'⟩:=hm
  rw[ho] at ho';cases ho'
  exact⟨_,es',ep',hL,r'⟩) hok hg u.sy
theorem Inv.turned{t':Nat}{it:Addr}(I:Inv X pins σ H s)(k:∀b o,b≠it->s.heap.get? b=some o->h'.get? b=some o)(hn:H it=none)(hL:it≠X.env.locals)
  (h1:it∈X.ex∨X.s₀.heap.objs.size<=it) (h2:∀x c,X.env.cells.lookup x=some c->c≠it) (h3:∀p∈X.pn++pins,p.1≠it):Inv X pins σ H { s with heap:=h',toks:=t' }:=by
 have nit:∀b u,H b=some u->b≠it:=fun b u e z=>by rw[z,hn] at e;cases e
 refine I.step (g':=s.gens) (d':=s.drawn) (ch:=[it]) (fun b hb=>?_) (fun b o _ _ hc e _=>k b o (fun z=>hc (by simp[z])) e) (fun b o _ _ hc e _=>⟨o.slots,k b o (fun z=>hc (by simp[z])) e⟩) (fun _ _ _ _ n=>n)
  (fun b o hc e=>⟨o,k b o (fun z=>hc (by simp[z])) e⟩) (fun _ _ e=>e) (fun _ _ _ e=>e) (fun b ps e=>⟨#[],by rw[e];simp⟩) (fun m hm=>?_) (fun b u e=>?_) I.bare id
 .have e:b=it:=by simpa using hb
  subst e
  exact⟨h1,hL,h2,h3⟩
 .obtain⟨o,es,ep,ho,r⟩:=hm
  exact⟨o,es,ep,k _ o (U01 hL) ho,r⟩
 .refine(I.hok b u e).stay (fun c v hc q=>k c v ?_ q) (fun _ q=>q) fun _ _ q=>q
  rcases hc with z|z
  .rw[z];exact nit b u e
  .exact nit c _ z
theorem Inv.tok(I:Inv X pins σ H s)(t:Nat):Inv X pins σ H { s with toks:=t }:=I.un (h':=s.heap) (t':=t) Un.refl I.hok
theorem Inv.kept{t':Nat}(I:Inv X pins σ H s)(k:∀b u,s.heap.get? b=some u->h'.get? b=some u):Inv X pins σ H { s with heap:=h',toks:=t' }:=I.un (Un.kept k) (I.hok.kept k)
theorem Inv.laid{a:Addr}{o:HO}{t':Nat}(I:Inv X pins σ H s)(k:∀b u,s.heap.get? b=some u->h'.get? b=some u)(hp:s.heap.objs.size<=a)(new:Dz X.prog X.w (upd H a o) h' a o) :
  Inv X pins σ (upd H a o) { s with heap:=h',toks:=t' }:=I.un (Un.laid k hp (I.hok.fresh hp) (U0x (U0w I.cW hp))) (I.hok.laid k hp new)
theorem Inv.write{x e:Addr}{o:HO}{t':Nat}(I:Inv X pins σ H s)(mu:Mut (H x))(he:e=x∨H e=some (.own x))(k:∀b u,b≠e->s.heap.get? b=some u->h'.get? b=some u)(heo:∃u,h'.get? e=some u)
  (new:Dz X.prog X.w (upd H x o) h' x o):Inv X pins σ (upd H x o) { s with heap:=h',toks:=t' }:=I.un (Un.write mu he k heo) (I.hok.write mu he k heo new)
theorem Inv.weak{σ':List (Option V)}(I:Inv X pins σ H s)(hl:σ'.length=σ.length)(w:∀(i:Nat) v,σ'[i]?=some (some v)->σ[i]?=some (some v)):Inv X pins σ' H s :=
 ⟨I.ok,I.os,I.bare,I.base,let ⟨m,hn,hl'⟩:=I.loc;⟨m,hn,fun i x v e1 e2 e3=>hl' i x v e1 (w i v e2) e3⟩,I.cell,I.free,I.freeC,I.pin,I.hok,hl.trans I.len⟩
theorem Inv.Ry{pins':List (Addr×Obj)}(I:Inv X pins σ H s)(h:∀p∈pins',s.heap.get? p.1=some p.2/\H p.1=none/\p.1≠X.env.locals/\p.1 ∉ X.fs/\∀v,p.2.data≠.cell v):Inv X pins' σ H s :=
 ⟨I.ok,I.os,I.bare,I.base,I.loc,I.cell,I.free,I.freeC,fun p hp=>(U12.mp hp).elim (fun z=>I.pin p (U3z _ z)) (h p),I.hok,I.len⟩
theorem Yx{N:List Str}(hN:N.Nodup){i j:Nat}{x:Str}(a:N[i]?=some x)(b:N[j]?=some x):i=j:=by
 obtain⟨h1,e1⟩:=U0i.mp a
 obtain⟨h2,e2⟩:=U0i.mp b
 exact(List.getElem_inj hN).mp (e1.trans e2.symm)
theorem WY{M:Model}{A:Around}{E:Value->Shared->Prop}{i:Nat}{x:Str}{v:V}{u:Value}{Q:Unit->Shared->Prop}(I:Inv X pins σ H s)(hN:X.N.Nodup)(hi:X.N[i]?=some x)(hx:Loc X.env.scope x)(r:RelV v u)
  (h:∀s',Inv X pins (σ.set i (some v)) H s'->(∃a,U0y a s.heap s'.heap/\(a=X.env.locals∨X.env.cells.lookup x=some a))->Q () s') (hf:X.fn x=true∨X.env.scope.names.lookup x=some .local:=by first|exact .inl rfl|exact .inr rfl|assumption):wpAny M A (storeName X.env x u) Q E s:=by
 obtain⟨m,hn,hl⟩:=id I.loc
 have hcls:(X.env.scope.kind==.class||(X.env.scope.kind==.module&&X.env.locals != X.env.globals))=false:=by rw[I.ok.kind];rfl
 have hiσ:i<σ.length:=by rw[I.len];exact(U0i.mp hi).1
 have cne:=I.cne
 have tracked:∀{a:Addr} {h':Heap},(∃o,s.heap.get? a=some o/\H a=none)->U0y a s.heap h'->HOk X.prog X.w H h':=fun {a h'} ha hs b ob e=>by
  obtain⟨_,_,hfree⟩:=ha
  refine(I.hok b ob e).stay (fun c w' hc q=>(hs.2 c ?_).trans q) (fun _ q=>q) fun _ _ q=>q
  rintro rfl
  rcases hc with rfl|hc
  .rw[hfree] at e;cases e
  .rw[hfree] at hc;cases hc
 rcases hx with hk|hk
 .refine wpAny_storeName_local hk hn (fun h' hn' hs=>?_) hcls
  obtain⟨oL,_,_,hoL,_⟩:=id hn
  refine h _ ⟨I.ok,I.os,I.bare,⟨fun b o e n hb hx=>?_,fun b o e n hb hx=>?_,I.base.free,fun b o e hx=>?_,I.base.tups,I.base.frzs,I.base.tbls,I.base.sy⟩,⟨_,hn',fun j y v' e1 e2 e3=>?_⟩,fun y c e=>?_,I.free,I.freeC,fun p hp=>?_,tracked ⟨oL,hoL,I.free⟩ hs,by simpa using I.len⟩ ⟨_,hs,.inl rfl⟩
  .exact(hs.2 b (U0x (U0w (U0l e) I.ok.above))).trans (I.base.keep b o e n hb hx)
  .obtain⟨sl,e1⟩:=I.base.slot b o e n hb hx
   exact⟨sl,(hs.2 b (U0x (U0w (U0l e) I.ok.above))).trans e1⟩
  .obtain⟨o',e1⟩:=I.base.there b o e hx
   exact⟨o',(hs.2 b (U0x (U0w (U0l e) I.ok.above))).trans e1⟩
  .by_cases hj:j=i
   .subst hj
    rw[hi] at e1;cases e1
    rw[U2m hiσ] at e2
    cases e2
    exact⟨u,r,.inl ⟨hk,by simp⟩⟩
   .rw[U21 (U01 hj)] at e2
    obtain⟨u',r',q⟩:=hl j y v' e1 e2 e3
    refine⟨u',r',?_⟩
    rcases q with ⟨k,e⟩|⟨k,c,e,z⟩
    .refine .inl ⟨k,?_⟩
     have:y≠x:=fun e=>hj (Yx hN e1 (e ▸ hi))
     simp[this,e]
    .exact .inr ⟨k,c,e,z.sameBut hs (cne y c e)⟩
  .obtain⟨w',z⟩:=I.cell y c e
   exact⟨w',z.sameBut hs (cne y c e)⟩
  .obtain⟨e,n,ne,nf,d⟩:=I.pin p hp
   exact⟨(hs.2 p.1 ne).trans e,n,ne,nf,d⟩
 .have hfn:X.fn x=true:=by
   rcases hf with z|z
   .exact z
   .rw[z] at hk;cases hk
  obtain⟨c,hc⟩:=I.ok.has x (.inl hk)
  obtain⟨w',z⟩:=I.cell x c hc
  refine wpAny_storeName_cell I.ok.kind hk hc z (fun h' hc' hs=>?_)
  obtain⟨oc,hoc,hocd⟩:=id z
  refine h { s with heap:=h' } ⟨I.ok,I.os,I.bare,⟨fun b o e n hb hx=>?_,fun b o e n hb hx=>?_,I.base.free,fun b o e hx=>?_,I.base.tups,I.base.frzs,I.base.tbls,I.base.sy⟩,⟨m,hn.sameBut hs (U01 (cne x c hc)),fun j y v' e1 e2 e3=>?_⟩,fun y c' e=>?_,I.free,I.freeC,fun p hp=>?_,tracked ⟨oc,hoc,I.freeC x c hc⟩ hs,by simpa using I.len⟩ ⟨c,hs,.inr hc⟩
  .exact(hs.2 b (U0x (U0w (U0l e) (I.ok.cab x c hfn hc)))).trans (I.base.keep b o e n hb hx)
  .obtain⟨sl,e1⟩:=I.base.slot b o e n hb hx
   exact⟨sl,(hs.2 b (U0x (U0w (U0l e) (I.ok.cab x c hfn hc)))).trans e1⟩
  .obtain⟨o',e1⟩:=I.base.there b o e hx
   exact⟨o',(hs.2 b (U0x (U0w (U0l e) (I.ok.cab x c hfn hc)))).trans e1⟩
  .by_cases hj:j=i
   .subst hj
    rw[hi] at e1;cases e1
    rw[U2m hiσ] at e2
    cases e2
    exact⟨u,r,.inr ⟨.inl hk,c,hc,hc'⟩⟩
   .rw[U21 (U01 hj)] at e2
    obtain⟨u',r',q⟩:=hl j y v' e1 e2 e3
    refine⟨u',r',?_⟩
    rcases q with q|⟨k,c',e,z'⟩
    .exact .inl q
    .refine .inr ⟨k,c',e,z'.sameBut hs ?_⟩
     rintro rfl
     exact hj (Yx hN e1 (I.ok.inj _ _ _ e hc ▸ hi))
  .by_cases hcc:c'=c
   .subst hcc;exact⟨_,hc'⟩
   .obtain⟨w2,z2⟩:=I.cell y c' e
    exact⟨w2,z2.sameBut hs hcc⟩
  .obtain⟨e,n,ne,nf,d⟩:=I.pin p hp
   refine⟨(hs.2 p.1 ?_).trans e,n,ne,nf,d⟩
   intro q
   rw[q,hoc] at e
   have q':oc=p.2:=U06 e
   exact d w' (by rw[←q'];exact hocd)
theorem QS{M:Model}{A:Around}{E:Value->Shared->Prop}{i:Nat}{x:Str}{v:V}{u:Value}{Q:Unit->Shared->Prop}(I:Inv X pins σ H s)(hN:X.N.Nodup)(hi:X.N[i]?=some x)(hx:Loc X.env.scope x)(r:RelV v u)
  (h:∀s',Inv X pins (σ.set i (some v)) H s'->Q () s') (hf:X.fn x=true∨X.env.scope.names.lookup x=some .local:=by first|exact .inl rfl|exact .inr rfl|assumption):wpAny M A (storeName X.env x u) Q E s :=
 WY I hN hi hx r (fun s' I' _=>h s' I') hf
theorem Inv.call'{s':Shared}{ch:List Addr}(I:Inv X pins σ H s)(ho:s'.os=s.os)(u:Un (frs X.stack) ch H H' s.heap s'.heap)(hok:HOk X.prog X.w H' s'.heap)(hg:AllBare s'.gens)
  (hch:∀b∈ch,(b∈X.ex∨X.s₀.heap.objs.size<=b)/\b≠X.env.locals/\(∀x c,X.env.cells.lookup x=some c->c≠b)/\∀p∈X.pn++pins,p.1≠b):Inv X pins σ H' s':=by
 obtain⟨h',g',d',t',o'⟩:=s'
 have e:o'=s.os:=ho
 subst e
 exact I.call (g':=g') (t':=t') (d':=d') u hok hg hch
end
abbrev XK:=Value->Option Addr->Hp->Prop
abbrev St:=List (Option V)
abbrev VK:=V->Hp->Prop
abbrev TE:=St->Hp->VK->Prop
abbrev TT:=St->Hp->(Bool->Hp->Prop)->Prop
abbrev TA:=St->Hp->(List V->Hp->Prop)->Prop
structure Ends where
 nx:St->Hp->Prop
 rt:VK
 bk:St->Hp->Prop:=fun _ _=>False
 ct:St->Hp->Prop:=fun _ _=>False
abbrev TS:=Ends->St->Hp->Prop
def EP(X:Cx)(pins:List (Addr×Obj))(σ:St)(Q:VK)(u:Value)(s':Shared):Prop:=∃v H',Inv X pins σ H' s'/\RelV v u/\Q v H'
def TP(X:Cx)(pins:List (Addr×Obj))(σ:St)(Q:Bool->Hp->Prop)(b:Bool)(s':Shared):Prop:=∃H',Inv X pins σ H' s'/\Q b H'
def AP(X:Cx)(pins:List (Addr×Obj))(σ:St)(Q:List V->Hp->Prop)(us:List Value)(s':Shared):Prop:=∃vs H',Inv X pins σ H' s'/\Vals vs us/\Q vs H'
def SP(X:Cx)(pins:List (Addr×Obj))(D:Ends)(f:Flow)(s':Shared):Prop :=
 match f with
 |.next=>∃σ' H',Inv X pins σ' H' s'/\D.nx σ' H'
 |.brk=>∃σ' H',Inv X pins σ' H' s'/\D.bk σ' H'
 |.cont=>∃σ' H',Inv X pins σ' H' s'/\D.ct σ' H'
 |.ret u=>∃v σ' H',Inv X pins σ' H' s'/\RelV v u/\D.rt v H'
def PE(X:Cx)(e:Expr)(t:TE):Prop :=
 ∀(pins:List (Addr×Obj))(s:Shared)(σ:St)(H:Hp)(Q:VK),Inv X pins σ H s->t σ H Q->wpAny (model X.prog X.w) X.A (eval e X.env) (EP X pins σ Q) X.xe s
def PT(X:Cx)(e:Expr)(t:TT):Prop :=
 ∀(pins:List (Addr×Obj))(s:Shared)(σ:St)(H:Hp)(Q:Bool->Hp->Prop),Inv X pins σ H s->t σ H Q->wpAny (model X.prog X.w) X.A (isTrue e X.env (eval e X.env)) (TP X pins σ Q) X.xe s
def PW(X:Cx)(e:Expr)(t:TT):Prop :=
 ∀(whole:Sem Value)(pins:List (Addr×Obj))(s:Shared)(σ:St)(H:Hp)(Q:Bool->Hp->Prop),Inv X pins σ H s->t σ H Q->wpAny (model X.prog X.w) X.A (isTrue e X.env whole) (TP X pins σ Q) X.xe s
theorem PW.pt{X:Cx}{e:Expr}{t:TT}(h:PW X e t):PT X e t:=h _
def PA(X:Cx)(es:List Expr)(t:TA):Prop :=
 ∀(pos:Pos)(pins:List (Addr×Obj))(s:Shared)(σ:St)(H:Hp)(Q:List V->Hp->Prop),Inv X pins σ H s->t σ H Q->wpAny (model X.prog X.w) X.A (spliced (backTo pos (starEach es X.env))) (AP X pins σ Q) X.xe s
def PS(X:Cx)(st:Stmt)(t:TS):Prop :=
 ∀(pins:List (Addr×Obj))(s:Shared)(σ:St)(H:Hp)(D:Ends),Inv X pins σ H s->t D σ H->wpAny (model X.prog X.w) X.A (exec st X.env) (SP X pins D) X.xe s
def PSs(X:Cx)(st:List Stmt)(t:TS):Prop :=
 ∀(pins:List (Addr×Obj))(s:Shared)(σ:St)(H:Hp)(D:Ends),Inv X pins σ H s->t D σ H->wpAny (model X.prog X.w) X.A (execs st X.env) (SP X pins D) X.xe s
theorem thn{α:Type}{t:Sem α}{Q Q':α->Shared->Prop}{M:Model}{A:Around}{E:Value->Shared->Prop}{s:Shared}(h:wpAny M A t Q E s)(hQ:∀a s,Q a s->Q' a s):wpAny M A t Q' E s:=U54 h hQ fun _ _ x=>x
end L2
namespace L2
open PySem PySem.Spec PyProof.Rows
section
variable{X:Cx}
theorem bin{a b:Expr}{ta tb:TE}(ha:PE X a ta)(hb:PE X b tb){pins:List (Addr×Obj)}{s:Shared}{σ:St}{H:Hp}{R:V->V->Hp->Prop}(I:Inv X pins σ H s)(h:ta σ H fun x H1=>tb σ H1 fun y H2=>R x y H2)
  {α:Type} {Q:α->Shared->Prop} {f:Value->Value->Sem α}
  (hf:∀v u s2 x y H2,Inv X pins σ H2 s2->RelV x v->RelV y u->R x y H2->wpAny (model X.prog X.w) X.A (f v u) Q X.xe s2) :
  wpAny (model X.prog X.w) X.A (eval a X.env) (fun v s₁=>wpAny (model X.prog X.w) X.A (eval b X.env) (fun u s₂=>wpAny (model X.prog X.w) X.A (f v u) Q X.xe s₂) X.xe s₁) X.xe s:=by
 refine thn (ha pins s σ H _ I h) fun v s1 ⟨x,H1,I1,r1,q1⟩=>?_
 refine thn (hb pins s1 σ H1 _ I1 q1) fun u s2 ⟨y,H2,I2,r2,q2⟩=>?_
 exact hf v u s2 x y H2 I2 r1 r2 q2
def uF(i:Nat):TE:=fun σ H Q=>∃v,σ[i]?=some (some v)/\Q v H
def tC(v:V):TE:=fun _ H Q=>Q v H
theorem fP{i:Nat}{x:Str}{pos:Pos}(hN:X.N[i]?=some x)(hv:Vis X.env.scope x)(hd:(x==("__debug__":Str))=false:=by decide)(hcd:(x==("__classdict__":Str))=false:=by decide):PE X (.Name x pos) (uF i):=by
 intro pins s σ H Q I h
 obtain⟨v,e,h⟩:=h
 obtain⟨m,hn,hl⟩:=I.loc
 obtain⟨u,r,l⟩:=hl i x v hN e hv
 have fin:EP X pins σ Q u s:=⟨v,H,I,r,h⟩
 rcases l with ⟨hk,hm⟩|⟨hk,c,hc,hcell⟩
 .exact wpAny_Name (wpAny_loadName_local I.ok.kind hk hn hm fin) hd
 .rcases hk with hk|hk
  .exact wpAny_Name (wpAny_loadName_cell I.ok.kind hk hc hcell fin) hd
  .exact wpAny_Name (wpAny_loadName_free I.ok.kind hk hc hcell fin hcd) hd
theorem Uq{i j pos}:PE X (.Constant (.int i) j pos) (tC (.int i)):=fun _ _ _ H _ I h=>wpAny_Constant_int ⟨.int i,H,I.tok _,⟨_,rfl⟩,h⟩
theorem yd{b j pos}:PE X (.Constant (.bool b) j pos) (tC (.bl b)):=fun _ _ _ H _ I h=>Constant_bool ⟨.bl b,H,I,rfl,h⟩
theorem vY{j pos}:PE X (.Constant .none j pos) (tC .non):=fun _ _ _ H _ I h=>Constant_none ⟨.non,H,I,rfl,h⟩
def Gl(X:Cx)(x:Str):Prop:=X.env.kindOf x=some .globalImplicit
theorem bT{E:Value->Shared->Prop}{pins:List (Addr×Obj)}{s:Shared}{σ:St}{H:Hp}{x:Str}{u:Value}{pos:Pos}{Q:Value->Shared->Prop}(I:Inv X pins σ H s)(hg:Gl X x)(hm:X.mg x=some u)(h:Q u s)
  (hd:(x==("__debug__":Str))=false:=by decide):wpAny (model X.prog X.w) X.A (eval (.Name x pos) X.env) Q E s :=
 Calls.Name_function_global I.ok.kind hg (Calls.loadGlobal_global (by rw[I.ok.glob];exact I.mod.glob.keeps I.bk) hm h) hd
theorem K1{E:Value->Shared->Prop}{pins:List (Addr×Obj)}{s:Shared}{σ:St}{H:Hp}{x:Str}{u:Value}{pos:Pos}{Q:Value->Shared->Prop}(I:Inv X pins σ H s)(hg:Gl X x)(hm:X.mg x=none)(hv:bootBuiltins x=some u)(h:Q u s)
  (hn:x≠"__name__":=by decide) (hd:(x==("__debug__":Str))=false:=by decide):wpAny (model X.prog X.w) X.A (eval (.Name x pos) X.env) Q E s:=by
 obtain⟨mb,h1,h2⟩:=I.mod.blt
 exact Calls.Name_function_global I.ok.kind hg (Calls.loadGlobal_builtin (by rw[I.ok.glob];exact I.mod.glob.keeps I.bk) hm (by rw[I.ok.blt];exact h1.keeps I.bk) ((h2 x hn).trans hv) h) hd
theorem bN{x:Str}{v:V}{u:Value}{pos:Pos}(hg:Gl X x)(hm:X.mg x=some u)(r:RelV v u)(hd:(x==("__debug__":Str))=false:=by decide):PE X (.Name x pos) (tC v) :=
 fun _ _ _ H _ I h=>bT I hg hm ⟨v,H,I,r,h⟩ hd
theorem qZ{x:Str}{v:V}{u:Value}{pos:Pos}(hg:Gl X x)(hm:X.mg x=none)(hv:bootBuiltins x=some u)(r:RelV v u)(hn:x≠"__name__":=by decide)(hd:(x==("__debug__":Str))=false:=by decide):PE X (.Name x pos) (tC v) :=
 fun _ _ _ H _ I h=>K1 I hg hm hv ⟨v,H,I,r,h⟩ hn hd
variable{a b:Expr}{ta tb:TE}{pos:Pos}
def PC(X:Cx)(op:CmpOp)(a b:Expr)(t:TE):Prop :=
 ∀(pins:List (Addr×Obj))(s:Shared)(σ:St)(H:Hp)(Q:VK),Inv X pins σ H s->t σ H Q ->
  wpAny (model X.prog X.w) X.A (eval a X.env) (fun v s₁=>wpAny (model X.prog X.w) X.A (eval b X.env) (fun u s₂=>wpAny (model X.prog X.w) X.A (compareOp op v u) (EP X pins σ Q) X.xe s₂) X.xe s₁) X.xe s
theorem mC(b:Expr){op:CmpOp}(h:op≠.In)(h2:op≠.NotIn):behindInMarks op b=false:=by
 have e1:(op==CmpOp.In)=false:=by cases op<;>first|rfl|exact absurd rfl h
 have e2:(op==CmpOp.NotIn)=false:=by cases op<;>first|rfl|exact absurd rfl h2
 cases b<;>simp[behindInMarks,e1,e2]
def tB(t:TE):TT:=fun σ H Q=>t σ H fun x H1=>∃c,x=.bl c/\Q c H1
theorem Ja6{op:CmpOp}{t:TE}(h:PC X op a b t)(h1:behindInMarks op b=false:=by first|exact mC _ (by decide) (by decide)|rfl):PT X (.Compare a [op] [b] pos) (tB t):=by
 intro pins s σ H Q I hw
 refine wpAny_isTrue_Compare1 (thn (h pins s σ H _ I hw) fun v s1 h1=>thn h1 fun u s2 h2=>thn h2 fun c s3 ⟨x,H1,I1,r1,q1⟩=>?_) h1
 obtain⟨d,rfl,q⟩:=q1
 cases r1
 exact U3m ⟨H1,I1,q⟩
theorem vJ{e:Expr}{t:TE}(h:PE X e t)(he:∀whole,isTrue e X.env whole=(do let v ←whole;standAt e.pos;holding [v] (truthy v)):=by intro _;rfl):PT X e (tB t):=by
 intro pins s σ H Q I hw
 refine isTrue_plain (thn (h pins s σ H _ I hw) fun v s1 ⟨x,H1,I1,r1,q1⟩=>?_) (he _)
 obtain⟨d,rfl,q⟩:=q1
 cases r1
 exact U3m ⟨H1,I1,q⟩
variable{tA tB':TT}{rest:List Expr}
def Ku(t u:TT):TT:=fun σ H Q=>t σ H fun c H1=>if c=true then u σ H1 Q else Q false H1
def tOr(t u:TT):TT:=fun σ H Q=>t σ H fun c H1=>if c=true then Q true H1 else u σ H1 Q
def KY(t:TT):TT:=fun σ H Q=>t σ H fun c H1=>Q (!c) H1
theorem qH(ha:PT X a tA):PW X (.BoolOp .And [a] pos) tA:=by
 intro wh pins s σ H Q I h
 refine isTrue_and (thn (ha pins s σ H Q I h) fun c s1 e=>?_)
 cases c with
 |true=>exact isTrue_and_nil e
 |false=>exact e
theorem vH(ha:PT X a tA):PW X (.BoolOp .Or [a] pos) tA:=by
 intro wh pins s σ H Q I h
 refine isTrue_or (thn (ha pins s σ H Q I h) fun c s1 e=>?_)
 cases c with
 |false=>exact isTrue_or_nil e
 |true=>exact e
theorem vI(ha:PT X a tA)(hb:PW X (.BoolOp .And (b::rest) pos) tB'):PW X (.BoolOp .And (a::b::rest) pos) (Ku tA tB'):=by
 intro wh pins s σ H Q I h
 refine isTrue_and (thn (ha pins s σ H _ I h) fun c s1 ⟨H1,I1,q1⟩=>?_)
 cases c with
 |true=>exact hb wh pins s1 σ H1 Q I1 q1
 |false=>exact⟨H1,I1,q1⟩
theorem yU(ha:PT X a tA)(hb:PW X (.BoolOp .Or (b::rest) pos) tB'):PW X (.BoolOp .Or (a::b::rest) pos) (tOr tA tB'):=by
 intro wh pins s σ H Q I h
 refine isTrue_or (thn (ha pins s σ H _ I h) fun c s1 ⟨H1,I1,q1⟩=>?_)
 cases c with
 |true=>exact⟨H1,I1,q1⟩
 |false=>exact hb wh pins s1 σ H1 Q I1 q1
theorem vK(ha:PT X a tA):PT X (.UnaryOp .Not a pos) (KY tA):=by
 intro pins s σ H Q I h
 exact isTrue_not (ha pins s σ H (fun c H1=>Q (!c) H1) I h)
def yN(ta tb:TE):TE:=fun σ H Q=>ta σ H fun x H1=>∃c,x=.bl c/\if c=true then tb σ H1 Q else Q (.bl false) H1
def yK(ta:TE):TE:=fun σ H Q=>ta σ H fun x H1=>∃c,x=.bl c/\Q (.bl (!c)) H1
theorem vW{op}{t:TE}(h:PE X a t):PE X (.BoolOp op [a] pos) t:=fun pins s σ H Q I hw=>BoolOp_one (h pins s σ H Q I hw)
theorem vZ(ha:PE X a ta)(hb:PE X (.BoolOp .And (b::rest) pos) tb):PE X (.BoolOp .And (a::b::rest) pos) (yN ta tb):=by
 intro pins s σ H Q I h
 refine BoolOp_and (thn (ha pins s σ H _ I h) fun v s1 ⟨x,H1,I1,r1,q1⟩=>?_)
 obtain⟨c,rfl,q1⟩:=q1
 cases r1
 refine U3m ?_
 cases c with
 |true=>exact hb pins s1 σ H1 Q I1 q1
 |false=>exact⟨.bl false,H1,I1,rfl,q1⟩
theorem vX(ha:PE X a ta):PE X (.UnaryOp .Not a pos) (yK ta):=by
 intro pins s σ H Q I h
 refine UnaryOp_ (thn (ha pins s σ H _ I h) fun v s1 ⟨x,H1,I1,r1,q1⟩=>?_)
 obtain⟨c,rfl,q1⟩:=q1
 cases r1
 exact not_of (U3m ⟨.bl (!c),H1,I1,rfl,q1⟩)
end
end L2
namespace L2
open PySem PySem.Spec PyProof.Rows
def SqL(K:U0b)(H:Hp)(a:Addr)(xs:List V):Prop :=
 Rd H a (.lst xs) ∨
  ∃(o:Obj)(its:Array Value)(n:Nat),K.lookup a=some o/\o.cls=.type "list"/\o.dict=none/\o.data=.seq its n/\its.size<=sizeLine/\Vals xs its.toList
def SqT(K:U0b)(H:Hp)(a:Addr)(xs:List V):Prop :=
 Rd H a (.tup xs) ∨
  ∃(o:Obj)(its:Array Value)(n:Nat),K.lookup a=some o/\o.cls=.type "tuple"/\o.data=.seq its n/\its.size<=sizeLine/\Vals xs its.toList
def Jak:Value->Option V
 |.none=>some .non
 |.bool b=>some (.bl b)
 |.int i _=>some (.int i)
 |.str x _=>some (.str x)
 |.bytes b _=>some (.byt b)
 |.float b _=>some (.flt b)
 |.ref a=>some (.ref a)
 |.type n=>some (.ty n)
 |_=>none
theorem RelV.abs{x:V}{u:Value}(r:RelV x u):Jak u=some x:=by
 cases x with
 |non=>cases r;rfl
 |bl _=>cases r;rfl
 |int _=>obtain⟨t,rfl⟩:=r;rfl
 |str _=>obtain⟨t,rfl⟩:=r;rfl
 |byt _=>obtain⟨t,rfl⟩:=r;rfl
 |flt _=>obtain⟨t,rfl⟩:=r;rfl
 |ref _=>cases r;rfl
 |ty _=>cases r;rfl
theorem RelV.inj{x y:V}{u:Value}(r:RelV x u)(q:RelV y u):x=y:=U06 (r.abs.symm.trans q.abs)
theorem Vals.inj:∀{xs ys:List V} {us:List Value},Vals xs us->Vals ys us->xs=ys
 |_,_,_,.nil,.nil=>rfl
 |_,_,_,.cons r t,.cons r' t'=>by rw[r.inj r',Vals.inj t t']
section
variable{X:Cx}{pins:List (Addr×Obj)}{σ:St}{H:Hp}{s:Shared}{a:Addr}{xs ys:List V}
theorem SqL.of{K:U0b}(h:H a=some (.lst xs)):SqL K H a xs:=.inl (.inl h)
theorem SqT.of{K:U0b}(h:H a=some (.tup xs)):SqT K H a xs:=.inl (.inl h)
theorem Inv.list(I:Inv X pins σ H s)(h:SqL X.K H a xs):∃its:List Value,Vals xs its/\PlainL s.heap a its.toArray/\xs.length<=sizeLine:=by
 rcases h with h|⟨o,its,n,hk,hc,hd,hs,hz,r⟩
 .obtain⟨z,its,n,r,e⟩:=h.ok I.hok
  exact⟨its,r,⟨_,n,e,rfl,rfl,rfl⟩,z⟩
 .refine⟨its.toList,r,⟨o,n,I.kIn a o hk,hc,hd,by simpa using hs⟩,?_⟩
  have e:=r.length
  simp only[U1r] at e
  omega
theorem Inv.tuple(I:Inv X pins σ H s)(h:SqT X.K H a xs):∃its:List Value,Vals xs its/\IsTup s.heap a its.toArray/\xs.length<=sizeLine:=by
 rcases h with h|⟨o,its,n,hk,hc,hs,hz,r⟩
 .obtain⟨z,its,r,p⟩:=h.ok I.hok
  exact⟨its,r,p,z⟩
 .refine⟨its.toList,r,⟨o,I.kIn a o hk,hc,n,by simpa using hs⟩,?_⟩
  have e:=r.length
  simp only[U1r] at e
  omega
theorem Inv.Yy(I:Inv X pins σ H s)(h:SqL X.K H a xs)(h':SqL X.K H a ys):xs=ys:=by
 obtain⟨its,r,⟨o,n,e,_,_,d⟩,_⟩:=I.list h
 obtain⟨its',r',⟨o',n',e',_,_,d'⟩,_⟩:=I.list h'
 rw[e] at e';cases e'
 rw[d] at d'
 injection d' with d1 _
 have:its=its':=by simpa using congrArg Array.toList d1
 subst this
 exact r.inj r'
theorem Inv.gZ(I:Inv X pins σ H s)(h:SqT X.K H a xs)(h':SqT X.K H a ys):xs=ys:=by
 obtain⟨its,r,⟨o,e,_,n,d⟩,_⟩:=I.tuple h
 obtain⟨its',r',⟨o',e',_,n',d'⟩,_⟩:=I.tuple h'
 rw[e] at e';cases e'
 rw[d] at d'
 injection d' with d1 _
 have:its=its':=by simpa using congrArg Array.toList d1
 subst this
 exact r.inj r'
end
abbrev Cx.wish(X:Cx)(E:Value->Shared->Prop):Cx:={ X with xe:=E }
abbrev Cx.nox(X:Cx):Cx:=X.wish fun _ _=>False
theorem Cx.Ok.wish{X:Cx}(ok:X.Ok)(E:Value->Shared->Prop):(X.wish E).Ok :=
 ⟨ok.mod,ok.kind,ok.glob,ok.blt,ok.above,ok.inj,ok.has,ok.cab,ok.hd,ok.frames,ok.stk,ok.exf,ok.bs,ok.bsz,ok.noex,ok.exfs,ok.Nt,ok.frf,ok.sy⟩
theorem Cx.Ok.M7{X:Cx}{E:Value->Shared->Prop}(ok:(X.wish E).Ok):X.Ok :=
 ⟨ok.mod,ok.kind,ok.glob,ok.blt,ok.above,ok.inj,ok.has,ok.cab,ok.hd,ok.frames,ok.stk,ok.exf,ok.bs,ok.bsz,ok.noex,ok.exfs,ok.Nt,ok.frf,ok.sy⟩
section
variable{X:Cx}{pins:List (Addr×Obj)}{σ:St}{H:Hp}{s:Shared}{E:Value->Shared->Prop}
theorem Inv.wish(I:Inv X pins σ H s)(E:Value->Shared->Prop):Inv (X.wish E) pins σ H s:=⟨I.ok.wish E,I.os,I.bare,I.base,I.loc,I.cell,I.free,I.freeC,I.pin,I.hok,I.len⟩
theorem Inv.M7(I:Inv (X.wish E) pins σ H s):Inv X pins σ H s:=⟨I.ok.M7,I.os,I.bare,I.base,I.loc,I.cell,I.free,I.freeC,I.pin,I.hok,I.len⟩
theorem SP.M7{D:Ends}{f:Flow}{s':Shared}(h:SP (X.wish E) pins D f s'):SP X pins D f s':=by
 cases f with
 |next=>obtain⟨σ',H',I,q⟩:=h;exact⟨σ',H',I.M7,q⟩
 |brk=>obtain⟨σ',H',I,q⟩:=h;exact⟨σ',H',I.M7,q⟩
 |cont=>obtain⟨σ',H',I,q⟩:=h;exact⟨σ',H',I.M7,q⟩
 |ret u=>obtain⟨v,σ',H',I,r,q⟩:=h;exact⟨v,σ',H',I.M7,r,q⟩
theorem PSs.nox{st:List Stmt}{t:TS}(h:PSs X.nox st t):PSs X st t:=fun pins s σ H D I hw =>
 U54 (h pins s σ H D (I.wish _) hw) (fun _ _ q=>q.M7) fun _ _ z=>U4n z
end
section
variable{X:Cx}{st:Stmt}{rest:List Stmt}{t u:TS}{e:Expr}{te:TE}{pos:Pos}
def yL:TS:=fun D σ H=>D.nx σ H
def zc(t u:TS):TS:=fun D σ H=>t { D with nx:=u D } σ H
theorem qN:PSs X [] yL:=fun _ _ σ H _ I h=>U7i ⟨σ,H,I,h⟩
theorem lQ(h1:PS X st t)(h2:PSs X rest u):PSs X (st::rest) (zc t u):=by
 intro pins s σ H D I h
 refine wpAny_execs_cons (thn (h1 pins s σ H { D with nx:=u D } I h) fun f s1 q=>?_)
 cases f with
 |next =>
  obtain⟨σ',H',I',q⟩:=q
  exact h2 pins s1 σ' H' D I' q
 |ret v=>exact q
 |brk=>exact q
 |cont=>exact q
theorem qM(h1:PS X st t):PSs X [st] t:=by
 intro pins s σ H D I h
 refine wpAny_execs_cons (thn (h1 pins s σ H D I h) fun f s1 q=>?_)
 cases f with
 |next=>exact U7i q
 |ret v=>exact q
 |brk=>exact q
 |cont=>exact q
theorem Inv.quiet{pins:List (Addr×Obj)}{σ:St}{H:Hp}{s:Shared}(I:Inv X pins σ H s):interactive X.env=false:=by simp[interactive,I.ok.kind]
def yM(te:TE):TS:=fun D σ H=>te σ H fun _ H1=>D.nx σ H1
theorem qO(he:PE X e te)(hs:swapsWith e none pos.line X.env=pure false:=by rfl):PS X (.Expr e pos) (yM te):=by
 intro pins s σ H D I h
 exact wpAny_Expr_any (thn (he pins s σ H _ I h) fun v s1 ⟨x,H1,I1,r1,q1⟩=>⟨σ,H1,I1,q1⟩) I.quiet hs
def zf(te:TE):TS:=fun D σ H=>te σ H D.rt
theorem vM(he:PE X e te):PS X (.Return (some e) pos) (zf te):=by
 intro pins s σ H D I h
 exact wpAny_Return_some (thn (he pins s σ H _ I h) fun v s1 ⟨x,H1,I1,r1,q1⟩=>⟨x,σ,H1,I1,r1,q1⟩)
def zp(c:TT)(t u:TS):TS:=fun D σ H=>c σ H fun b H1=>if b=true then t D σ H1 else u D σ H1
theorem yV{c:Expr}{a b:List Stmt}{tc:TT}(hc:PT X c tc)(ha:PSs X a t)(hb:PSs X b u):PS X (.If c a b pos) (zp tc t u):=by
 intro pins s σ H D I h
 refine wpAny_If (thn (hc pins s σ H _ I h) fun d s1 ⟨H1,I1,q1⟩=>?_)
 cases d with
 |true=>exact ha pins s1 σ H1 D I1 q1
 |false=>exact hb pins s1 σ H1 D I1 q1
def ux:TS:=fun _ _ _=>False
theorem lR:PS X st ux:=fun _ _ _ _ _ _ h=>h.elim
end
abbrev TG:=V->St->Hp->(St->Hp->Prop)->Prop
abbrev TGs:=List V->St->Hp->(St->Hp->Prop)->Prop
def PG(X:Cx)(target:Expr)(t:TG):Prop :=
 ∀(pins:List (Addr×Obj))(s:Shared)(σ:St)(H:Hp)(v:V)(u:Value)(Q:St->Hp->Prop),Inv X pins σ H s->RelV v u->t v σ H Q ->
  wpAny (model X.prog X.w) X.A (assign target X.env u) (fun _ s'=>∃σ' H',Inv X pins σ' H' s'/\Q σ' H') X.xe s
def PGs(X:Cx)(ts:List Expr)(t:TGs):Prop :=
 ∀(pins:List (Addr×Obj))(s:Shared)(σ:St)(H:Hp)(vs:List V)(us:List Value)(Q:St->Hp->Prop),Inv X pins σ H s->Vals vs us->t vs σ H Q ->
  wpAny (model X.prog X.w) X.A (assignInOrder ((assignEach ts X.env).map (·.2)) us) (fun _ s'=>∃σ' H',Inv X pins σ' H' s'/\Q σ' H') X.xe s
abbrev jc:=V->V->V->Hp->(Hp->Prop)->Prop
def uh(X:Cx)(t:jc):Prop :=
 ∀(pins:List (Addr×Obj))(s:Shared)(σ:St)(H:Hp)(o i v:V)(ov iv u:Value)(Q:Hp->Prop),Inv X pins σ H s->RelV o ov->RelV i iv->RelV v u->t o i v H Q ->
  wpAny (model X.prog X.w) X.A (setItem ov iv u) (fun _ s'=>∃H',Inv X pins σ H' s'/\Q H') X.xe s
section
variable{X:Cx}{pos:Pos}
def Xx(i:Nat):TG:=fun v σ H Q=>Q (σ.set i (some v)) H
theorem qW{i:Nat}{x:Str}(hN:X.N.Nodup)(hi:X.N[i]?=some x)(hx:Loc X.env.scope x)(hf:X.fn x=true∨X.env.scope.names.lookup x=some .local:=by first|exact .inl rfl|exact .inr rfl|assumption):PG X (.Name x pos) (Xx i):=by
 intro pins s σ H v u Q I r h
 exact wpAny_assign_Name (QS I hN hi hx r (fun s' I'=>⟨_,H,I',h⟩) hf)
def jZ:TGs:=fun vs σ H Q=>vs=[]/\Q σ H
def dF(t:TG)(u:TGs):TGs:=fun vs σ H Q=>∃v r,vs=v::r/\t v σ H fun σ' H'=>u r σ' H' Q
theorem qU:PGs X [] jZ:=by
 intro pins s σ H vs us Q I r h
 obtain⟨e,h⟩:=h
 subst e
 cases r
 exact assignInOrder_nil ⟨σ,H,I,h⟩
theorem lW{e:Expr}{es:List Expr}{t:TG}{u:TGs}(h1:PG X e t)(h2:PGs X es u)
  (hs:(assignEach (e::es) X.env).map (·.2)=assign e X.env::(assignEach es X.env).map (·.2):=by rfl):PGs X (e::es) (dF t u):=by
 intro pins s σ H vs us Q I r h
 obtain⟨v,vr,e1,h⟩:=h
 subst e1
 cases r with
 |cons r rr =>
  rw[hs]
  refine assignInOrder_cons (thn (h1 pins s σ H _ _ _ I r h) fun _ s1 ⟨σ1,H1,I1,q1⟩=>?_)
  exact h2 pins s1 σ1 H1 _ _ Q I1 rr q1
def jY(K:U0b)(n:Nat)(t:TGs):TG:=fun v σ H Q=>∃a xs,v=.ref a/\SqT K H a xs/\xs.length=n/\t xs σ H Q
theorem vR{es:List Expr}{k:Nat}{t:TGs}{n:Nat}(hc:X.calm=true)(h:PGs X es t)
  (hn:(assignEach es X.env).length=n:=by rfl) (hst:(assignEach es X.env).findIdx? (·.1)=none:=by rfl):PG X (.Tuple es k pos) (jY X.K n t):=by
 intro pins s σ H v u Q I r hw
 obtain⟨a,xs,e1,hq,hl,hw⟩:=hw
 subst e1
 cases r
 obtain⟨its,rv,ht,hz⟩:=I.tuple hq
 refine assign_Tuple_tuple (I.ok.hd hc) ht (by simp[hn,←hl,rv.length]) hst fun h' hx=>?_
 have I1:Inv X pins σ H { s with heap:=h' }:=I.kept (t':=s.toks) fun b o e=>hx b o (U0x (U0l e)) e
 exact h pins _ σ H xs _ Q I1 (by simpa using rv) hw
def Jah(to ti:TE)(t:jc):TG:=fun v σ H Q=>to σ H fun o H1=>ti σ H1 fun i H2=>t o i v H2 fun H3=>Q σ H3
theorem vU{o i:Expr}{to ti:TE}{t:jc}(ho:PE X o to)(hi:PE X i ti)(hs:uh X t)
  (ha:∀v,assign (.Subscript o i pos) X.env v=(do
   let ov ←holding [v] (eval o X.env)
   let iv ←holding [v,ov] (eval i X.env)
   standAt pos
   holding [v,ov,iv] (setItem ov iv v)
   release [v,ov,iv] []):=by intro _;rfl):PG X (.Subscript o i pos) (Jah to ti t):=by
 intro pins s σ H v u Q I r h
 rw[ha]
 refine U0 (U2s (thn (ho pins s σ H _ I h) fun ov s1 ⟨x,H1,I1,r1,q1⟩=>?_))
 refine U0 (U2s (thn (hi pins s1 σ H1 _ I1 q1) fun iv s2 ⟨y,H2,I2,r2,q2⟩=>?_))
 refine U0 (U65 (U0 (U2s (thn (hs pins s2 σ H2 x y v ov iv u _ I2 r1 r2 r q2) fun _ s3 ⟨H3,I3,q3⟩=>?_))))
 exact wpAny_release ⟨σ,H3,I3,q3⟩
def uI(te:TE)(g:TG):TS:=fun D σ H=>te σ H fun x H1=>g x σ H1 D.nx
theorem fO{tg e:Expr}{te:TE}{g:TG}(he:PE X e te)(hg:PG X tg g)(hs:swapsWithSole [tg] e pos.line X.env=pure false:=by rfl)(hw:swappedStores [tg] e X.env=pure none:=by rfl)
  (h1:(assignEach [tg] X.env).map (·.2)=[assign tg X.env]:=by rfl):PS X (.Assign [tg] e pos) (uI te g):=by
 intro pins s σ H D I h
 refine wpAny_Assign_stores (thn (he pins s σ H _ I h) fun v s1 ⟨x,H1,I1,r1,q1⟩=>?_) hs hw
 rw[h1]
 exact thn (hg pins s1 σ H1 x v _ I1 r1 q1) fun _ s2 q=>q
theorem vL{i:Nat}{x:Str}{e:Expr}{te:TE}{pos':Pos}(hN:X.N.Nodup)(hi:X.N[i]?=some x)(hx:Loc X.env.scope x)(he:PE X e te)(hs:swapsWith e (some (.Name x pos')) pos.line X.env=pure false:=by rfl)(hf:X.fn x=true∨X.env.scope.names.lookup x=some .local:=by first|exact .inl rfl|exact .inr rfl|assumption) :
  PS X (.Assign [.Name x pos'] e pos) (uI te (Xx i)):=by
 intro pins s σ H D I h
 refine wpAny_Assign_Name (thn (he pins s σ H _ I h) fun v s1 ⟨y,H1,I1,r1,q1⟩=>?_) hs
 exact QS I1 hN hi hx r1 (fun s2 I2=>⟨_,H1,I2,q1⟩) hf
def zj(i j:Nat)(ta:TA):TS:=fun D σ H=>ta σ H fun vs H1=>∃v w,vs=[v,w]/\D.nx ((σ.set i (some v)).set j (some w)) H1
theorem vN{i j:Nat}{x y:Str}{a b:Expr}{ta:TA}{px py pt:Pos}{kt k2 pt2}(hc:X.calm=true)(hN:X.N.Nodup)(hi:X.N[i]?=some x)(hj:X.N[j]?=some y)(hij:i≠j)
  (hx:X.env.scope.names.lookup x=some .local) (hy:X.env.scope.names.lookup y=some .local) (ha:PA X [a,b] ta)
  (hw:swappedStores [.Tuple [.Name x px,.Name y py] kt pt] (.Tuple [a,b] k2 pt2) X.env=pure (some [x,y]))
  (hs:swapsWithSole [.Tuple [.Name x px,.Name y py] kt pt] (.Tuple [a,b] k2 pt2) pos.line X.env=pure false:=by rfl) :
  PS X (.Assign [.Tuple [.Name x px,.Name y py] kt pt] (.Tuple [a,b] k2 pt2) pos) (zj i j ta):=by
 intro pins s σ H D I h
 rw[exec_Assign_arm]
 refine U0 (U65 ?_)
 rw[hs]
 refine U0 (U0f ?_)
 rw[if_neg (by decide)]
 refine U0 (Tuple_ (thn (ha _ pins s σ H _ I h) fun us s1 ⟨vs,H1,I1,r1,q1⟩=>?_))
 obtain⟨v,w,e1,q1⟩:=q1
 subst e1
 obtain⟨u1,u2,rfl,rv,rw'⟩:∃u1 u2,us=[u1,u2]/\RelV v u1/\RelV w u2:=by
  cases r1 with
  |cons p q =>
   cases q with
   |cons p' q' =>
    cases q'
    exact⟨_,_,rfl,p,p'⟩
 refine U2g ?_ (by show 2<=sizeLine;decide)
 have I2:Inv X pins σ H1 { s1 with heap:=s1.heap.push { cls:=.type "tuple",data:=.seq [u1,u2].toArray } }:=I1.kept (t':=s1.toks) fun b o e=>U0a _ e
 rw[hw]
 refine U0 (U0f ?_)
 show wpAny (model X.prog X.w) X.A (do rule "assign.swapped-stores";let items ←unpackItems (.ref s1.heap.objs.size) 2 none;assignInOrder [fun v=>bindName X.env y v,fun v=>bindName X.env x v] items.reverse;pure Flow.next) _ _ _
 refine U0 (U39 (U0 (unpackItems_tuple (items:=#[u1,u2]) (I.ok.hd hc) (U6k s1.heap _) fun h' hx'=>?_)))
 have I3:=I2.kept (h':=h') (t':=s1.toks) fun b o e=>hx' b o (U0x (U0l e)) e
 show wpAny _ _ (assignInOrder [fun v=>bindName X.env y v,fun v=>bindName X.env x v] [u2,u1] >>= fun _=>pure Flow.next) _ _ _
 refine U0 (assignInOrder_cons (wpAny_bindName (QS I3 hN hj (.inl hy) rw' (fun s2 I4=>?_) (.inr hy))))
 refine assignInOrder_cons (wpAny_bindName (QS I4 hN hi (.inl hx) rv (fun s3 I5=>assignInOrder_nil (U0f ?_)) (.inr hx)))
 rw[List.set_comm _ _ (U01 hij)] at I5
 exact⟨_,H1,I5,q1⟩
end
section
variable{X:Cx}{pos:Pos}
end
structure It where
 go:Nat->Hp->Prop
 yld:Nat->Hp->V->Hp->Prop
 stop:Nat->Hp->Prop
def Ny(X:Cx)(pins:List (Addr×Obj))(H:Hp)(b:Addr):Prop :=
 H b=none/\b≠X.env.locals/\b ∉ X.fs/\(b∈X.ex∨X.s₀.heap.objs.size<=b)/\(∀x c,X.env.cells.lookup x=some c->c≠b)/\∀p∈X.pn++pins,p.1≠b
theorem Inv.Tc{X:Cx}{pins:List (Addr×Obj)}{σ:St}{H H':Hp}{s:Shared}{b:Addr}(I:Inv X pins σ H s)(hb:s.heap.objs.size<=b)(hn:H' b=none):Ny X pins H' b:=by
 refine⟨hn,U1p (U0w I.lt hb),I.jW hb,.inr (U1a I.sz hb),fun x c e z=>?_,fun p hp z=>?_⟩
 .obtain⟨v,q⟩:=I.cell x c e
  exact absurd (U0w q.lt (by rw[z];exact hb)) (U34 _)
 .exact absurd (U0w (U0l (I.pin p hp).1) (by rw[z];exact hb)) (U34 _)
structure Turn(P:Program)(w:World)(K:U0b)(tg:Expr)(J:It)(fp:List Addr)(it:Addr)(tn:Nat->Heap->Prop):Prop where
 mem:it∈fp
 obj:∀i h,tn i h->∀b∈fp,∃o,h.get? b=some o/\∀v,o.data≠.cell v
 keep:∀i h h',tn i h->(∀b∈fp,∀o,h.get? b=some o->h'.get? b=some o)->tn i h'
 item:∀(X:Cx),X.prog=P->X.w=w->X.K=K->X.calm=true->∀(i:Nat)(pins:List (Addr×Obj))(s:Shared)(σ:St)(H:Hp)(E:Value->Shared->Prop),Inv X pins σ H s->(∀b∈fp,Ny X pins H b)->tn i s.heap->J.go i H ->
  wpAny (model P w) X.A (pyNext (.ref it)) (fun r s1=>∃u,r=some u /\
   wpAny (model P w) X.A (letOwnedTupleGo tg (.ref it) u) (fun _ s2=>∃x H',Inv X pins σ H' s2/\RelV x u/\J.yld i H x H'/\tn (i+1) s2.heap/\∀b∈fp,H' b=none) E s1) E s
 done:∀(X:Cx),X.prog=P->X.w=w->X.K=K->X.calm=true->∀(i:Nat)(pins:List (Addr×Obj))(s:Shared)(σ:St)(H:Hp)(E:Value->Shared->Prop),Inv X pins σ H s->(∀b∈fp,Ny X pins H b)->tn i s.heap->J.stop i H ->
  wpAny (model P w) X.A (pyNext (.ref it)) (fun r s1=>r=none/\Inv X pins σ H s1) E s
 self:∀(A:Around)(i:Nat)(s:Shared)(Q:Value->Shared->Prop)(E:Value->Shared->Prop),tn i s.heap->Q (.ref it) s->wpAny (model P w) A (pyIter (.ref it)) Q E s
abbrev TI:=St->Hp->(It->Hp->Prop)->Prop
def PIE(X:Cx)(pins:List (Addr×Obj))(σ:St)(tg:Expr)(R:It->Hp->Prop)(itv:Value)(s2:Shared):Prop :=
 ∃(it:Addr)(fp:List Addr)(tn:Nat->Heap->Prop)(J:It)(H':Hp),itv=.ref it/\Inv X pins σ H' s2/\Turn X.prog X.w X.K tg J fp it tn/\tn 0 s2.heap/\(∀b∈fp,Ny X pins H' b)/\R J H'
def PI(X:Cx)(tg iter:Expr)(wi:TI):Prop :=
 ∀(pins:List (Addr×Obj))(s:Shared)(σ:St)(H:Hp)(R:It->Hp->Prop),Inv X pins σ H s->wi σ H R ->
  wpAny (model X.prog X.w) X.A (eval iter X.env) (fun v s1=>wpAny (model X.prog X.w) X.A (pyIter v) (PIE X pins σ tg R) X.xe s1) X.xe s
theorem Xw{M:Model}{A:Around}{E:Value->Shared->Prop}{s:Shared}{tg:Expr}{it:Addr}{u:Value}{o:Obj}{n:String}{vs:Array Value}{Q:Unit->Shared->Prop}(ho:s.heap.get? it=some o)(hc:o.cls=.type n)(hd:o.data=.fields vs)
  (hn:["enumerate","zip","dict_itemiterator","dict_reverseitemiterator","odict_iterator","itertools.zip_longest","itertools.pairwise"].contains n=false) (hQ:Q () s):wpAny M A (letOwnedTupleGo tg (.ref it) u) Q E s:=by
 unfold letOwnedTupleGo
 cases tg<;>first
  |exact U0f hQ
  |(cases u<;>first
    |exact U0f hQ
    |(refine U0 (wpAny_load ho ?_)
      rw[hc,hd]
      show wpAny M A (if (["enumerate","zip","dict_itemiterator","dict_reverseitemiterator","odict_iterator","itertools.zip_longest","itertools.pairwise"].contains n&&vs[0]?==some (rawInt _))=true then _ else _) Q E s
      rw[if_neg (by intro h;rw[hn,Bool.false_and] at h;cases h)]
      exact U0f hQ))
def Itl(K:U0b)(a:Addr):It :=
 ⟨fun i H=>∃xs x,SqL K H a xs/\xs[i]?=some x,fun i H x H'=>H'=H/\∀xs,SqL K H a xs->xs[i]?=some x,fun i H=>∃xs,SqL K H a xs/\xs.length<=i⟩
def Itt(K:U0b)(a:Addr):It :=
 ⟨fun i H=>∃xs x,SqT K H a xs/\xs[i]?=some x,fun i H x H'=>H'=H/\∀xs,SqT K H a xs->xs[i]?=some x,fun i H=>∃xs,SqT K H a xs/\xs.length<=i⟩
def Itr(lo:Int)(n:Nat):It:=⟨fun i _=>i<n,fun i H x H'=>H'=H/\x=.int (lo+i),fun i _=>n<=i⟩
theorem gW{P:Program}{w:World}{K:U0b}{tg:Expr}(a it:Addr):Turn P w K tg (Itl K a) [it] it (fun i h=>h.IsListIter it a i) where
 mem:=by simp
 obj:=fun i h st b hb=>by
  have e:b=it:=by simpa using hb
  subst e
  obtain⟨o,e,c,d⟩:=st
  exact⟨o,e,fun v z=>by rw[d] at z;cases z⟩
 keep:=fun i h h' st k=>st.at fun o e=>k it (by simp) o e
 item:=by
  intro X hP hw hK hc i pins s σ H E I hf st hg
  subst hP hw hK
  obtain⟨xs,x,hq,hx⟩:=hg
  obtain⟨its,rv,p,hz⟩:=I.list hq
  obtain⟨u,hu,ru⟩:=rv.get hx
  obtain⟨f0,f1,f2,f3,f4,f5⟩:=hf it (by simp)
  refine wpAny_pyNext_list_item st p.isList (x:=u) (by simpa using hu) fun h' st' sb=>?_
  have I1:Inv X pins σ H { s with heap:=h' }:=I.turned (t':=s.toks) (fun b o hb e=>(sb.2 b hb).trans e) f0 f1 f3 f4 f5
  obtain⟨o,e,c,d⟩:=id st'
  exact⟨u,rfl,Xw (s:={ s with heap:=h' }) e c d (by decide) ⟨x,H,I1,ru,⟨rfl,fun ys hy=>by rw[I.Yy hy hq];exact hx⟩,st',fun b hb=>(hf b hb).1⟩⟩
 done:=by
  intro X hP hw hK hc i pins s σ H E I hf st hg
  subst hP hw hK
  obtain⟨xs,hq,hx⟩:=hg
  obtain⟨its,rv,p,hz⟩:=I.list hq
  obtain⟨f0,f1,f2,f3,f4,f5⟩:=hf it (by simp)
  have hl:=rv.length
  exact wpAny_pyNext_list_end (I.ok.hd hc) st p.isList (by simp;omega) fun h' eb=>⟨rfl,I.turned (t':=s.toks) (fun b o hb e=>eb b o hb e) f0 f1 f3 f4 f5⟩
 self:=fun _ _ _ _ _ st h=>wpAny_pyIter_listiter st h
theorem dG{P:Program}{w:World}{K:U0b}{tg:Expr}(a it:Addr):Turn P w K tg (Itt K a) [it] it (fun i h=>h.IsTupleIter it a i) where
 mem:=by simp
 obj:=fun i h st b hb=>by
  have e:b=it:=by simpa using hb
  subst e
  obtain⟨o,e,c,d⟩:=st
  exact⟨o,e,fun v z=>by rw[d] at z;cases z⟩
 keep:=fun i h h' st k=>st.at fun o e=>k it (by simp) o e
 item:=by
  intro X hP hw hK hc i pins s σ H E I hf st hg
  subst hP hw hK
  obtain⟨xs,x,hq,hx⟩:=hg
  obtain⟨its,rv,p,hz⟩:=I.tuple hq
  obtain⟨u,hu,ru⟩:=rv.get hx
  obtain⟨f0,f1,f2,f3,f4,f5⟩:=hf it (by simp)
  refine wpAny_pyNext_tuple_item st (show s.heap.IsTuple a its.toArray from p) (x:=u) (by simpa using hu) fun h' st' sb=>?_
  have I1:Inv X pins σ H { s with heap:=h' }:=I.turned (t':=s.toks) (fun b o hb e=>(sb.2 b hb).trans e) f0 f1 f3 f4 f5
  obtain⟨o,e,c,d⟩:=id st'
  exact⟨u,rfl,Xw (s:={ s with heap:=h' }) e c d (by decide) ⟨x,H,I1,ru,⟨rfl,fun ys hy=>by rw[I.gZ hy hq];exact hx⟩,st',fun b hb=>(hf b hb).1⟩⟩
 done:=by
  intro X hP hw hK hc i pins s σ H E I hf st hg
  subst hP hw hK
  obtain⟨xs,hq,hx⟩:=hg
  obtain⟨its,rv,p,hz⟩:=I.tuple hq
  obtain⟨f0,f1,f2,f3,f4,f5⟩:=hf it (by simp)
  have hl:=rv.length
  exact wpAny_pyNext_tuple_end (I.ok.hd hc) st (show s.heap.IsTuple a its.toArray from p) (by simp;omega) fun h' eb=>⟨rfl,I.turned (t':=s.toks) (fun b o hb e=>eb b o hb e) f0 f1 f3 f4 f5⟩
 self:=fun _ _ _ _ _ st h=>wpAny_pyIter_tupleiter st h
theorem dH{P:Program}{w:World}{K:U0b}{tg:Expr}(it:Addr)(lo:Int)(n:Nat):Turn P w K tg (Itr lo n) [it] it (fun i h=>IsRangeIter h it (lo+(i:Nat)*1) ((n:Int)-(i:Nat)) 1) where
 mem:=by simp
 obj:=fun i h st b hb=>by
  have e:b=it:=by simpa using hb
  subst e
  exact⟨_,st,fun v z=>by
   have z':Data.fields _=Data.cell v:=z
   cases z'⟩
 keep:=fun i h h' st k=>k it (by simp) _ st
 item:=by
  intro X hP hw hK hc i pins s σ H E I hf st hg
  subst hP hw hK
  obtain⟨f0,f1,f2,f3,f4,f5⟩:=hf it (by simp)
  have W:=Walks.range (prog:=X.prog) (w:=X.w) (I.ok.hd hc) it lo 1 n
  refine W.item i s _ _ hg st fun v h' tk hv st' kk=>?_
  obtain⟨t,rfl⟩:=hv
  have I1:Inv X pins σ H { s with heap:=h',toks:=tk }:=I.turned (fun b o hb e=>kk b o (by simpa using hb) e) f0 f1 f3 f4 f5
  refine⟨_,rfl,Xw (s:={ s with heap:=h',toks:=tk }) (n:="range_iterator") st' rfl rfl (by decide) ⟨.int (lo+i),H,I1,⟨t,?_⟩,⟨rfl,rfl⟩,st',fun b hb=>(hf b hb).1⟩⟩
  rw[Int.mul_one]
 done:=by
  intro X hP hw hK hc i pins s σ H E I hf st hg
  subst hP hw hK
  obtain⟨f0,f1,f2,f3,f4,f5⟩:=hf it (by simp)
  exact wpAny_pyNext_range_end (I.ok.hd hc) st (by have:n<=i:=hg;omega) fun h' eb=>⟨rfl,I.turned (t':=s.toks) (fun b o hb e=>eb b o hb e) f0 f1 f3 f4 f5⟩
 self:=fun _ _ _ _ _ st h=>wpAny_pyIter_rangeiter st h
end L2
namespace L2
open PySem PySem.Spec PyProof.Rows
section
variable{X:Cx}{tg:Expr}
theorem lK{pins:List (Addr×Obj)}{σ:St}{H:Hp}{s:Shared}{R:It->Hp->Prop}{E:Value->Shared->Prop}{lo hi:Int}{t u v:Tok}{tk:Nat}(I:Inv X pins σ H s)(h1:-(2^62)<=lo)(h2:lo<2^62)(h3:-(2^62)<=hi)(h4:hi<2^62)
  (q:R (Itr lo (hi-lo).toNat) H):wpAny (model X.prog X.w) X.A (pyIter (.ref s.heap.objs.size)) (PIE X pins σ tg R) E { s with heap:=s.heap.push { cls:=.type "range",data:=.fields #[.int lo t,.int hi u,.int 1 v] },toks:=tk }:=by
 refine wpAny_pyIter_range (IsRange.new ..) (small_one h1 h2 h3 h4) ?_
 have I1:Inv X pins σ H { s with heap:=s.heap.push { cls:=.type "range",data:=.fields #[.int lo t,.int hi u,.int 1 v] },toks:=tk }:=I.kept fun b o e=>U0a _ e
 refine⟨(s.heap.push { cls:=.type "range",data:=.fields #[.int lo t,.int hi u,.int 1 v] }).objs.size,[(s.heap.push { cls:=.type "range",data:=.fields #[.int lo t,.int hi u,.int 1 v] }).objs.size],_,_,H,rfl,
  I1.kept (t':=tk) fun b o e=>U0a _ e,dH _ lo (hi-lo).toNat,?_,fun b hb=>?_,q⟩
 .have e1:lo+((0:Nat):Int)*1=lo:=by simp
  have e2:(((hi-lo).toNat:Nat):Int)-((0:Nat):Int)=U37 lo hi 1:=by rw[rangeSize_one];split<;>omega
  show IsRangeIter _ _ (lo+((0:Nat):Int)*1) ((((hi-lo).toNat:Nat):Int)-((0:Nat):Int)) 1
  rw[e1,e2]
  exact U0p _ rfl
 .have e:b=(s.heap.push { cls:=.type "range",data:=.fields #[.int lo t,.int hi u,.int 1 v] }).objs.size:=by simpa using hb
  subst e
  exact I1.Tc (U0q _) (I1.hok.fresh (U0q _))
def zG(ta:TA):TI:=fun σ H R=>ta σ H fun vs H1=>∃j:Int,vs=[.int j]/\-(2^62)<=j/\j<2^62/\R (Itr 0 j.toNat) H1
theorem ig{a:Expr}{ta:TA}{p pos:Pos}(hg:Gl X "range")(hm:X.mg "range"=none)(ha:PA X [a] ta)(hs:starEach [a] X.env=[(false,eval a X.env)]:=by rfl):PI X tg (.Call (.Name "range" p) [a] [] pos) (zG ta):=by
 intro pins s σ H R I h
 refine Call_ (K1 I hg hm boot_range (U2o (thn (ha pos pins s σ H _ I h) fun us s1 ⟨vs,H1,I1,r1,q1⟩=>?_) hs rfl))
 obtain⟨j,e,q1,q2,q⟩:=q1
 subst e
 cases r1 with
 |cons r rr =>
  cases rr
  obtain⟨t,rfl⟩:=r
  exact call_range_1 (lK I1 (by omega) (by omega) q1 q2 (by simpa using q))
def zq(wi:TI)(g:TG)(tb:TS):TS:=fun D σ H=>wi σ H fun J H1=>∃W:Nat->Nat->St->Hp->Prop,(∃m,W 0 m σ H1)/\∀i m σ H,W i m σ H ->
 (J.stop i H/\D.nx σ H)∨(J.go i H/\∃N:St->Hp->Prop,(∀σ' H',N σ' H'->∃m',m'<m/\W (i+1) m' σ' H')/\∀x H',J.yld i H x H'->g x σ H' fun σ2 H2=>tb { D with nx:=N,ct:=N,bk:=D.nx } σ2 H2)
def M9(fp:List Addr)(h:Heap):List (Addr×Obj):=fp.filterMap fun b=>(h.get? b).map fun o=>(b,o)
theorem NQ{fp:List Addr}{h:Heap}{b:Addr}{o:Obj}(hb:b∈fp)(e:h.get? b=some o):(b,o)∈M9 fp h:=List.mem_filterMap.mpr ⟨b,hb,by rw[e];rfl⟩
theorem Wm{fp:List Addr}{h:Heap}{p:Addr×Obj}(hp:p∈M9 fp h):p.1∈fp/\h.get? p.1=some p.2:=by
 obtain⟨b,hb,e⟩:=List.mem_filterMap.mp hp
 cases q:h.get? b with
 |none=>rw[q] at e;cases e
 |some o =>
  rw[q] at e
  have e':(b,o)=p:=U06 e
  subst e'
  exact⟨hb,q⟩
theorem Inv.pinned{pins:List (Addr×Obj)}{σ:St}{H:Hp}{s:Shared}{fp:List Addr}(I:Inv X pins σ H s)(hf:∀b∈fp,Ny X pins H b)(ho:∀b∈fp,∃o,s.heap.get? b=some o/\∀v,o.data≠.cell v):Inv X (pins++M9 fp s.heap) σ H s :=
 I.Ry fun p hp=>(U12.mp hp).elim (fun z=>I.pin p (U1l _ z)) fun z=>by
  obtain⟨hb,e⟩:=Wm z
  obtain⟨f0,f1,f2,_⟩:=hf p.1 hb
  obtain⟨o,e',d⟩:=ho p.1 hb
  rw[e] at e';cases e'
  exact⟨e,f0,f1,f2,d⟩
theorem Inv.QL{pins pl:List (Addr×Obj)}{σ:St}{H:Hp}{s:Shared}(I:Inv X (pins++pl) σ H s):Inv X pins σ H s:=I.Ry fun p hp=>I.pin p (U1l _ (U3z _ hp))
theorem vO{iter:Expr}{body:List Stmt}{wi:TI}{g:TG}{tb:TS}{pos:Pos}(hp:PassesOwn (model X.prog X.w) X.A X.env X.xe)(hc:X.calm=true)(hi:PI X tg iter wi)(hg:PG X tg g)(hb:PSs X body tb)
  (hs:∀x,foldedSetIterable iter X.env x=pure x:=by intro _;rfl):PS X (.For tg iter body [] pos) (zq wi g tb):=by
 intro pins s σ H D I h
 refine wpAny_For (thn (hi pins s σ H _ I h) fun v s1 h1=>thn h1 fun itv s2 h2=>?_) hs
 obtain⟨it,fp,tn,J,H2,e,I2,T,st2,f2,W,⟨m0,w0⟩,turn⟩:=h2
 subst e
 -- what stays true of the iterator's objects through the loop
 have stat:∀{H':Hp},(∀b∈fp,H' b=none)->∀b∈fp,Ny X pins H' b:=fun hn b hb=>⟨hn b hb,(f2 b hb).2⟩
 refine codeAny_forLoop_any (fun n s'=>∃i σ' H',Inv X pins σ' H' s'/\tn i s'.heap/\(∀b∈fp,H' b=none)/\W i n σ' H') ?_ m0 ⟨0,σ,H2,I2,st2,fun b hb=>(f2 b hb).1,w0⟩
 rintro n s3 ⟨i,σ3,H3,I3,st3,fr3,w3⟩
 rcases turn i n σ3 H3 w3 with ⟨stop,qn⟩|⟨go,N,hN,step⟩
 .refine U5u hp (thn (T.done X rfl rfl rfl hc i pins s3 σ3 H3 X.xe I3 (stat fr3) st3 stop) fun r s4 ⟨hr,I4⟩=>?_)
  subst hr
  exact U7i ⟨σ3,H3,I4,qn⟩
 .refine U5u hp (thn (T.item X rfl rfl rfl hc i pins s3 σ3 H3 X.xe I3 (stat fr3) st3 go) fun r s4 ⟨u,hr,h4⟩=>?_)
  subst hr
  refine U5u hp (thn h4 fun _ s5 ⟨x,H5,I5,r5,y5,st5,fr5⟩=>?_)
  have I5':=I5.pinned (stat fr5) (T.obj _ _ st5)
  refine U5u hp (thn (hg _ s5 σ3 H5 x u _ I5' r5 (step x H5 y5)) fun _ s6 ⟨σ6,H6,I6,q6⟩=>?_)
  refine U5u hp (thn (hb _ s6 σ6 H6 _ I6 q6) fun f s7 q7=>?_)
  have again:∀{σ7:St} {H7:Hp},Inv X (pins++M9 fp s5.heap) σ7 H7 s7->N σ7 H7->∃m,m<n/\∃i σ' H',Inv X pins σ' H' s7/\tn i s7.heap/\(∀b∈fp,H' b=none)/\W i m σ' H':=fun {σ7 H7} I7 n7=>by
   obtain⟨m',hm,w7⟩:=hN σ7 H7 n7
   refine⟨m',hm,i+1,σ7,H7,I7.QL,T.keep _ _ _ st5 fun b hb o e=>(I7.pin (b,o) (U1l _ (U1l _ (NQ hb e)))).1,fun b hb=>?_,w7⟩
   obtain⟨o,e,d⟩:=T.obj _ _ st5 b hb
   exact(I7.pin (b,o) (U1l _ (U1l _ (NQ hb e)))).2.1
  cases f with
  |next=>obtain⟨σ7,H7,I7,n7⟩:=q7;exact again I7 n7
  |cont=>obtain⟨σ7,H7,I7,n7⟩:=q7;exact again I7 n7
  |brk=>obtain⟨σ7,H7,I7,q7⟩:=q7;exact⟨σ7,H7,I7.QL,q7⟩
  |ret v=>obtain⟨x7,σ7,H7,I7,r7,q7⟩:=q7;exact⟨x7,σ7,H7,I7.QL,r7,q7⟩
end
end L2
namespace L2
open PySem PySem.Spec PyProof.Rows
abbrev R2:=V->V->Hp->VK->Prop
def OpR(X:Cx)(f:Value->Value->Sem Value)(r:R2):Prop :=
 ∀(pins:List (Addr×Obj))(s:Shared)(σ:St)(H:Hp)(x y:V)(v u:Value)(Q:VK),Inv X pins σ H s->RelV x v->RelV y u->r x y H Q ->
  wpAny (model X.prog X.w) X.A (f v u) (EP X pins σ Q) X.xe s
def UnR(X:Cx)(f:Value->Sem Value)(r:V->Hp->VK->Prop):Prop :=
 ∀(pins:List (Addr×Obj))(s:Shared)(σ:St)(H:Hp)(x:V)(v:Value)(Q:VK),Inv X pins σ H s->RelV x v->r x H Q ->
  wpAny (model X.prog X.w) X.A (f v) (EP X pins σ Q) X.xe s
def Dc(X:Cx)(f:Value)(r:List V->Hp->VK->Prop):Prop :=
 ∀(pins:List (Addr×Obj))(s:Shared)(σ:St)(H:Hp)(xs:List V)(us:List Value)(Q:VK),Inv X pins σ H s->Vals xs us->r xs H Q ->
  wpAny (model X.prog X.w) X.A (call f us) (EP X pins σ Q) X.xe s
def tOp(r:R2)(ta tb:TE):TE:=fun σ H Q=>ta σ H fun x H1=>tb σ H1 fun y H2=>r x y H2 Q
def tUn(r:V->Hp->VK->Prop)(ta:TE):TE:=fun σ H Q=>ta σ H fun x H1=>r x H1 Q
def rI(C:Int->Int->Prop)(g:Int->Int->V):R2:=fun x y H Q=>∃i j,x=.int i/\y=.int j/\C i j/\Q (g i j) H
def rI0(g:Int->Int->V):R2:=fun x y H Q=>∃i j,x=.int i/\y=.int j/\Q (g i j) H
def rU(g:Int->V):V->Hp->VK->Prop:=fun x H Q=>∃i,x=.int i/\Q (g i) H
section
variable{X:Cx}{a b c:Expr}{ta tb tc:TE}{pos:Pos}
theorem cV(ha:PE X a ta)(hb:PE X b tb){pins:List (Addr×Obj)}{s:Shared}{σ:St}{H:Hp}{R:V->V->Hp->Prop}(I:Inv X pins σ H s)
  (h:ta σ H fun x H1=>tb σ H1 fun y H2=>R x y H2) {Q:Value->Shared->Prop} {f:Value->Value->Sem Value}
  (hf:∀v u s2 x y H2,Inv X pins σ H2 s2->RelV x v->RelV y u->R x y H2->wpAny (model X.prog X.w) X.A (f v u) Q X.xe s2) :
  wpAny (model X.prog X.w) X.A (eval a X.env) (fun v s₁=>wpAny (model X.prog X.w) X.A (eval b X.env) (fun u s₂=>wpAny (model X.prog X.w) X.A (f v u) Q X.xe s₂) X.xe s₁) X.xe s:=by
 refine thn (ha pins s σ H _ I h) fun v s1 ⟨x,H1,I1,r1,q1⟩=>?_
 refine thn (hb pins s1 σ H1 _ I1 q1) fun u s2 ⟨y,H2,I2,r2,q2⟩=>?_
 exact hf v u s2 x y H2 I2 r1 r2 q2
theorem yX{op:Operator}{r:R2}(ho:OpR X (binaryOp op) r)(ha:PE X a ta)(hb:PE X b tb):PE X (.BinOp a op b pos) (tOp r ta tb):=by
 intro pins s σ H Q I h
 exact wpAny_BinOp (cV ha hb I h fun v u s2 x y H2 I2 rx ry q=>ho pins s2 σ H2 x y v u Q I2 rx ry q)
theorem yW{op:UnaryOp}{r:V->Hp->VK->Prop}(ho:UnR X (unaryOp op) r)(ha:PE X a ta):PE X (.UnaryOp op a pos) (tUn r ta):=by
 intro pins s σ H Q I h
 exact UnaryOp_ (thn (ha pins s σ H _ I h) fun v s1 ⟨x,H1,I1,r1,q1⟩=>ho pins s1 σ H1 x v Q I1 r1 q1)
theorem opI{f:Value->Value->Sem Value}{C:Int->Int->Prop}{g:Int->Int->Int}
  (rule:∀(i j:Int)(t u:Tok)(s:Shared)(Q:Value->Shared->Prop)(E:Value->Shared->Prop),C i j->Q (.int (g i j) s.toks) { s with toks:=s.toks+1 }->wpAny (model X.prog X.w) X.A (f (.int i t) (.int j u)) Q E s) :
  OpR X f (rI C fun i j=>.int (g i j)):=by
 intro pins s σ H x y v u Q I rx ry h
 obtain⟨i,j,rfl,rfl,hc,q⟩:=h
 obtain⟨t,rfl⟩:=rx
 obtain⟨t',rfl⟩:=ry
 exact rule i j t t' s _ _ hc ⟨.int (g i j),H,I.tok _,⟨_,rfl⟩,q⟩
theorem uY{f:Value->Value->Sem Value}{g:Int->Int->Int}
  (rule:∀(i j:Int)(t u:Tok)(s:Shared)(Q:Value->Shared->Prop)(E:Value->Shared->Prop),Q (.int (g i j) s.toks) { s with toks:=s.toks+1 }->wpAny (model X.prog X.w) X.A (f (.int i t) (.int j u)) Q E s) :
  OpR X f (rI0 fun i j=>.int (g i j)):=by
 intro pins s σ H x y v u Q I rx ry h
 obtain⟨i,j,rfl,rfl,q⟩:=h
 obtain⟨t,rfl⟩:=rx
 obtain⟨t',rfl⟩:=ry
 exact rule i j t t' s _ _ ⟨.int (g i j),H,I.tok _,⟨_,rfl⟩,q⟩
theorem cR{f:Value->Value->Sem Value}{g:Int->Int->Bool}
  (rule:∀(i j:Int)(t u:Tok)(s:Shared)(Q:Value->Shared->Prop)(E:Value->Shared->Prop),Q (.bool (g i j)) s->wpAny (model X.prog X.w) X.A (f (.int i t) (.int j u)) Q E s) :
  OpR X f (rI0 fun i j=>.bl (g i j)):=by
 intro pins s σ H x y v u Q I rx ry h
 obtain⟨i,j,rfl,rfl,q⟩:=h
 obtain⟨t,rfl⟩:=rx
 obtain⟨t',rfl⟩:=ry
 exact rule i j t t' s _ _ ⟨.bl (g i j),H,I,rfl,q⟩
def jh(i j:Int):Prop:=0<=j/\j<=1000000/\i.natAbs<2^64
def YD(i j:Int):Prop:=(-(2^64)<i/\i<2^64)∨(-(2^64)<j/\j<2^64)
theorem YD.ok{i j:Int}(h:YD i j):IntMulOk i j:=by
 rcases h with ⟨h1,h2⟩|⟨h1,h2⟩
 .exact .of_left (intBits_le_64 h1 h2)
 .exact .of_right (intBits_le_64 h1 h2)
theorem vo:OpR X (binaryOp .Add) (rI0 fun i j=>.int (i+j)):=uY fun _ _ _ _ _ _ _ q=>add_int q
theorem Gx:OpR X (binaryOp .Sub) (rI0 fun i j=>.int (i-j)):=uY fun _ _ _ _ _ _ _ q=>sub_int q
theorem vg:OpR X (binaryOp .Mult) (rI YD fun i j=>.int (i*j)):=opI fun _ _ _ _ _ _ _ hc q=>mul_int q hc.ok
theorem LK:OpR X (binaryOp .Mod) (rI (fun _ j=>0<j) fun i j=>.int (i%j)):=opI fun i j _ _ _ _ _ hc q=>by
 have h1:(0:Int)<j:=hc
 exact mod_int' (by omega) (by rw[Int.fmod_eq_emod_of_nonneg i (by omega)];exact q)
theorem Hi:OpR X (binaryOp .Pow) (rI jh fun i j=>.int (i^j.toNat)):=opI fun _ _ _ _ _ _ _ hc q=>pow_int_small hc.1 hc.2.1 hc.2.2 q
theorem unI{f:Value->Sem Value}{g:Int->Int}
  (rule:∀(i:Int)(t:Tok)(s:Shared)(Q:Value->Shared->Prop)(E:Value->Shared->Prop),Q (.int (g i) s.toks) { s with toks:=s.toks+1 }->wpAny (model X.prog X.w) X.A (f (.int i t)) Q E s) :
  UnR X f (rU fun i=>.int (g i)):=by
 intro pins s σ H x v Q I rx h
 obtain⟨i,rfl,q⟩:=h
 obtain⟨t,rfl⟩:=rx
 exact rule i t s _ _ ⟨.int (g i),H,I.tok _,⟨_,rfl⟩,q⟩
theorem Uk:UnR X (unaryOp .USub) (rU fun i=>.int (-i)):=unI fun _ _ _ _ _ q=>neg_int q
end
def uK:V->V->Bool
 |.non,.non=>true|.non,.int _=>true|.int _,.non=>true|.non,.bl _=>true|.bl _,.non=>true|.non,.str _=>true|.str _,.non=>true
 |.int _,.int _=>true|.bl _,.bl _=>true|.str _,.str _=>true|.byt _,.byt _=>true
 |.int _,.str _=>true|.str _,.int _=>true|.bl _,.str _=>true|.str _,.bl _=>true
 |_,_=>false
def rEq:R2:=fun x y H Q=>uK x y=true/\Q (.bl (decide (x=y))) H
def rNe:R2:=fun x y H Q=>uK x y=true/\Q (.bl (!decide (x=y))) H
theorem cC{i j:Int}:decide (V.int i=V.int j)=(i==j):=by
 rw[U22]
 simp
theorem gC{i j:Bool}:decide (V.bl i=V.bl j)=(i==j):=by
 rw[U22]
 simp
theorem bw{i j:Str}:decide (V.str i=V.str j)=(i==j):=by
 rw[U22]
 simp
theorem cD{i j:Array UInt8}:decide (V.byt i=V.byt j)=(i.toList==j.toList):=by
 rw[U22]
 cases i
 cases j
 simp
section
variable{X:Cx}{a b c:Expr}{ta tb tc:TE}{pos:Pos}
theorem DQ{pins:List (Addr×Obj)}{σ:St}{H:Hp}{s:Shared}{Q:VK}{k k':Bool}(I:Inv X pins σ H s)(q:Q (.bl k) H)(e:k=k'):EP X pins σ Q (.bool k') s:=by
 subst e
 exact⟨.bl k,H,I,rfl,q⟩
theorem yp:OpR X (compareOp .Eq) rEq:=by
 intro pins s σ H x y v u Q I rx ry h
 obtain⟨hs,q⟩:=h
 cases x with
 |non =>
  cases rx
  cases y with
  |non=>cases ry;exact PySem.EqNone.eq_none_none (DQ I q (by simp))
  |bl j=>cases ry;exact PySem.EqNone.eq_none_bool (DQ I q (by simp))
  |int j=>obtain⟨t',rfl⟩:=ry;exact PySem.EqNone.eq_none_int (DQ I q (by simp))
  |str j=>obtain⟨t',rfl⟩:=ry;exact PySem.EqNone.eq_none_str (DQ I q (by simp))
  |_=>exact absurd (show false=true from hs) U1g
 |bl i =>
  cases rx
  cases y with
  |non=>cases ry;exact PySem.EqNone.eq_bool_none (DQ I q (by simp))
  |bl j=>cases ry;exact eq_bool (DQ I q gC)
  |str j=>obtain⟨t',rfl⟩:=ry;exact PySem.EqMixed.eq_bool_str (DQ I q (by simp))
  |_=>exact absurd (show false=true from hs) U1g
 |int i =>
  obtain⟨t,rfl⟩:=rx
  cases y with
  |non=>cases ry;exact PySem.EqNone.eq_int_none (DQ I q (by simp))
  |int j=>obtain⟨t',rfl⟩:=ry;exact eq_int (DQ I q cC)
  |str j=>obtain⟨t',rfl⟩:=ry;exact PySem.EqMixed.eq_int_str (DQ I q (by simp))
  |_=>exact absurd (show false=true from hs) U1g
 |str i =>
  obtain⟨t,rfl⟩:=rx
  cases y with
  |non=>cases ry;exact PySem.EqNone.eq_str_none (DQ I q (by simp))
  |bl j=>cases ry;exact PySem.EqMixed.eq_str_bool (DQ I q (by simp))
  |int j=>obtain⟨t',rfl⟩:=ry;exact PySem.EqMixed.eq_str_int (DQ I q (by simp))
  |str j=>obtain⟨t',rfl⟩:=ry;exact eq_str (DQ I q bw)
  |_=>exact absurd (show false=true from hs) U1g
 |byt i =>
  obtain⟨t,rfl⟩:=rx
  cases y with
  |byt j=>obtain⟨t',rfl⟩:=ry;exact PySem.W.eq_bytes (DQ I q cD)
  |_=>exact absurd (show false=true from hs) U1g
 |_=>cases y<;>exact absurd (show false=true from hs) U1g
theorem yh:OpR X (compareOp .NotEq) rNe:=by
 intro pins s σ H x y v u Q I rx ry h
 obtain⟨hs,q⟩:=h
 cases x with
 |non =>
  cases rx
  cases y with
  |non=>cases ry;exact PySem.EqNone.ne_none_none (DQ I q (by simp))
  |bl j=>cases ry;exact PySem.EqNone.ne_none_bool (DQ I q (by simp))
  |int j=>obtain⟨t',rfl⟩:=ry;exact PySem.EqNone.ne_none_int (DQ I q (by simp))
  |str j=>obtain⟨t',rfl⟩:=ry;exact PySem.EqNone.ne_none_str (DQ I q (by simp))
  |_=>exact absurd (show false=true from hs) U1g
 |bl i =>
  cases rx
  cases y with
  |non=>cases ry;exact PySem.EqNone.ne_bool_none (DQ I q (by simp))
  |bl j=>cases ry;exact ne_bool (DQ I q (congrArg not gC))
  |str j=>obtain⟨t',rfl⟩:=ry;exact PySem.EqMixed.ne_bool_str (DQ I q (by simp))
  |_=>exact absurd (show false=true from hs) U1g
 |int i =>
  obtain⟨t,rfl⟩:=rx
  cases y with
  |non=>cases ry;exact PySem.EqNone.ne_int_none (DQ I q (by simp))
  |int j=>obtain⟨t',rfl⟩:=ry;exact ne_int (DQ I q (congrArg not cC))
  |str j=>obtain⟨t',rfl⟩:=ry;exact PySem.EqMixed.ne_int_str (DQ I q (by simp))
  |_=>exact absurd (show false=true from hs) U1g
 |str i =>
  obtain⟨t,rfl⟩:=rx
  cases y with
  |non=>cases ry;exact PySem.EqNone.ne_str_none (DQ I q (by simp))
  |bl j=>cases ry;exact PySem.EqMixed.ne_str_bool (DQ I q (by simp))
  |int j=>obtain⟨t',rfl⟩:=ry;exact PySem.EqMixed.ne_str_int (DQ I q (by simp))
  |str j=>obtain⟨t',rfl⟩:=ry;exact ne_str (DQ I q (congrArg not bw))
  |_=>exact absurd (show false=true from hs) U1g
 |byt i =>
  obtain⟨t,rfl⟩:=rx
  cases y with
  |byt j=>obtain⟨t',rfl⟩:=ry;exact PySem.W.ne_bytes (DQ I q (congrArg not cD))
  |_=>exact absurd (show false=true from hs) U1g
 |_=>cases y<;>exact absurd (show false=true from hs) U1g
theorem dB:OpR X (compareOp .Lt) (rI0 fun i j=>.bl (decide (i<j))):=cR fun _ _ _ _ _ _ _ q=>lt_int q
theorem yj:OpR X (compareOp .LtE) (rI0 fun i j=>.bl (decide (i<=j))):=cR fun _ _ _ _ _ _ _ q=>le_int q
theorem Ug:OpR X (compareOp .Gt) (rI0 fun i j=>.bl (decide (j<i))):=cR fun _ _ _ _ _ _ _ q=>gt_int q
theorem oJ:OpR X (compareOp .GtE) (rI0 fun i j=>.bl (decide (j<=i))):=cR fun _ _ _ _ _ _ _ q=>ge_int q
theorem qd:OpR X (compareOp .IsNot) (fun x y H Q=>y=.non/\Q (.bl (!decide (x=.non))) H):=by
 intro pins s σ H x y v u Q I rx ry h
 obtain⟨rfl,q⟩:=h
 cases ry
 refine isnot_none_gen (DQ I q ?_)
 cases x<;>first
  |(cases rx;rfl)
  |(obtain⟨t,rfl⟩:=rx;rfl)
theorem OpR.or{f:Value->Value->Sem Value}{r r':R2}(h:OpR X f r)(h':OpR X f r'):OpR X f (fun x y H Q=>r x y H Q∨r' x y H Q):=by
 intro pins s σ H x y v u Q I rx ry q
 rcases q with q|q
 .exact h pins s σ H x y v u Q I rx ry q
 .exact h' pins s σ H x y v u Q I rx ry q
theorem Dd(b:Expr){op:CmpOp}(h:op≠.In:=by decide)(h2:op≠.NotIn:=by decide):behindInMarks op b=false:=by
 have e1:(op==CmpOp.In)=false:=by cases op<;>first|rfl|exact absurd rfl h
 have e2:(op==CmpOp.NotIn)=false:=by cases op<;>first|rfl|exact absurd rfl h2
 cases b<;>simp[behindInMarks,e1,e2]
theorem bO{op:CmpOp}{r:R2}(ho:OpR X (compareOp op) r)(ha:PE X a ta)(hb:PE X b tb)(hm:behindInMarks op b=false):PE X (.Compare a [op] [b] pos) (tOp r ta tb):=by
 intro pins s σ H Q I h
 exact wpAny_Compare1 (cV ha hb I h fun v u s2 x y H2 I2 rx ry q=>ho pins s2 σ H2 x y v u Q I2 rx ry q) hm
def cu(t:TE):TT:=fun σ H Q=>t σ H fun x H'=>∃k,x=.bl k/\Q k H'
theorem qL{op:CmpOp}{r:R2}(ho:OpR X (compareOp op) r)(ha:PE X a ta)(hb:PE X b tb)(hm:behindInMarks op b=false):PT X (.Compare a [op] [b] pos) (cu (tOp r ta tb)):=by
 intro pins s σ H Q I h
 refine wpAny_isTrue_Compare1 (thn (ha pins s σ H _ I h) fun v s1 ⟨x,H1,I1,r1,q1⟩=>thn (hb pins s1 σ H1 _ I1 q1) fun u s2 ⟨y,H2,I2,r2,q2⟩ =>
  thn (ho pins s2 σ H2 x y v u _ I2 r1 r2 q2) fun c s3 ⟨z,H3,I3,r3,k,e,q3⟩=>?_) hm
 subst e
 cases r3
 exact U3m ⟨H3,I3,q3⟩
def fJ(r r':R2)(ta tb tc:TE):TE:=fun σ H Q=>ta σ H fun x H1=>tb σ H1 fun y H2=>r x y H2 fun z H3=>∃k,z=.bl k /\
 (if k=true then tc σ H3 fun w' H4=>r' y w' H4 Q else Q (.bl false) H3)
theorem lO{op op':CmpOp}{r r':R2}(ho:OpR X (compareOp op) r)(ho':OpR X (compareOp op') r')(ha:PE X a ta)(hb:PE X b tb)(hc:PE X c tc)
  (hm:lastMarks [op,op'] [b,c]=false:=by with_unfolding_all rfl):PT X (.Compare a [op,op'] [b,c] pos) (cu (fJ r r' ta tb tc)):=by
 intro pins s σ H Q I h
 refine isTrue_chain (thn (ha pins s σ H _ I h) fun v s1 ⟨x,H1,I1,r1,q1⟩=>test_link (thn (hb pins s1 σ H1 _ I1 q1) fun u s2 ⟨y,H2,I2,r2,q2⟩ =>
  thn (ho pins s2 σ H2 x y v u _ I2 r1 r2 q2) fun d s3 ⟨z,H3,I3,r3,k,e,q3⟩=>?_)) hm
 subst e
 cases r3
 refine U3m ?_
 cases k with
 |false =>
  obtain⟨k',e',q'⟩:=q3
  cases e'
  exact ite_ff ⟨H3,I3,q'⟩
 |true =>
  refine ite_tt (test_last (thn (hc pins s3 σ H3 _ I3 q3) fun w' s4 ⟨z',H4,I4,r4,q4⟩=>thn (ho' pins s4 σ H4 y z' u w' _ I4 r2 r4 q4) fun d' s5 ⟨z2,H5,I5,r5,k2,e2,q5⟩=>?_))
  subst e2
  cases r5
  exact U3m ⟨H5,I5,q5⟩
theorem RD:(sizeLine:Nat)<2^63:=by rw[sizeLine_eq];decide
theorem dZ:OpR X (binaryOp .Add) (fun x y H Q=>∃i j,x=.str i/\y=.str j/\i.length+j.length<=sizeLine/\Q (.str (i++j)) H):=by
 intro pins s σ H x y v u Q I rx ry h
 obtain⟨i,j,rfl,rfl,hz,q⟩:=h
 obtain⟨t,rfl⟩:=rx
 obtain⟨t',rfl⟩:=ry
 exact add_str (fun t' tk=>⟨.str (i++j),H,I.tok _,⟨_,rfl⟩,q⟩) hz
theorem vals1{x:V}{us:List Value}(r:Vals [x] us):∃u,us=[u]/\RelV x u:=by
 cases r with
 |cons r1 r2=>cases r2;exact⟨_,rfl,r1⟩
theorem vals2{x y:V}{us:List Value}(r:Vals [x,y] us):∃u w',us=[u,w']/\RelV x u/\RelV y w':=by
 cases r with
 |cons r1 r2 =>
  cases r2 with
  |cons r3 r4=>cases r4;exact⟨_,_,rfl,r1,r3⟩
theorem Ks(hc:X.calm=true):Dc X (.builtin "max") (fun xs H Q=>∃i j,xs=[.int i,.int j]/\Q (.int (if j>i then j else i)) H):=by
 intro pins s σ H xs us Q I r h
 obtain⟨i,j,rfl,q⟩:=h
 obtain⟨u,w',rfl,⟨t,rfl⟩,⟨t',rfl⟩⟩:=vals2 r
 refine max_two_ints (I.ok.hd hc) fun h' tk k=>⟨_,H,I.kept k,?_,q⟩
 by_cases hj:j>i
 .rw[if_pos hj,if_pos hj];exact⟨_,rfl⟩
 .rw[if_neg hj,if_neg hj];exact⟨_,rfl⟩
theorem Ma(hc:X.calm=true):Dc X (.builtin "min") (fun xs H Q=>∃i j,xs=[.int i,.int j]/\Q (.int (if j<i then j else i)) H):=by
 intro pins s σ H xs us Q I r h
 obtain⟨i,j,rfl,q⟩:=h
 obtain⟨u,w',rfl,⟨t,rfl⟩,⟨t',rfl⟩⟩:=vals2 r
 refine min_two_ints (I.ok.hd hc) fun h' tk k=>⟨_,H,I.kept k,?_,q⟩
 by_cases hj:j<i
 .rw[if_pos hj,if_pos hj];exact⟨_,rfl⟩
 .rw[if_neg hj,if_neg hj];exact⟨_,rfl⟩
theorem XJ:Dc X (.type "int") (fun xs H Q=>(∃i,xs=[.int i]/\Q (.int i) H)∨∃k,xs=[.bl k]/\Q (.int (if k then 1 else 0)) H):=by
 intro pins s σ H xs us Q I r h
 rcases h with ⟨i,rfl,q⟩|⟨k,rfl,q⟩
 .obtain⟨u,rfl,t,rfl⟩:=vals1 r
  exact call_int_int ⟨.int i,H,I,⟨_,rfl⟩,q⟩
 .obtain⟨u,rfl,r1⟩:=vals1 r
  cases r1
  exact call_int_bool ⟨.int (if k then 1 else 0),H,I.tok _,⟨_,rfl⟩,q⟩
end
end L2
namespace L2
open PySem PySem.Spec PyProof.Rows
structure jf(h:Heap)(x dx C:Addr)(mA:Str->Option Value):Prop where
 obj:h.get? x=some (U7h C dx)
 ns:h.Ns1 dx mA
 ne:dx≠x
theorem j5{h:Heap}{dx:Addr}{mA:Str->Option Value}(n:h.Ns1 dx mA):∃od,h.get? dx=some od/\∀name,U7s name od=some (mA name):=by
 obtain⟨o,es,ep,ho,hd,hk,_,hm⟩:=n
 refine⟨o,ho,fun name=>?_⟩
 have e:=hm name
 unfold nsFind findBy at e
 rw[←Array.find?_toList] at e
 unfold U7s
 rw[hd]
 dsimp only
 split
 .rename_i y q
  rw[q] at e
  exact congrArg some e
 .rename_i q
  rw[q] at e
  have a:es.toList.any (·.refKey)=false:=by
   rw[List.any_eq_false]
   intro y hy
   obtain⟨z,t,hkey⟩:=hk y (Array.mem_toList_iff.mp hy)
   simp[DictEntry.refKey,hkey]
  have a':¬es.toList.any (·.refKey)=true:=by rw[a];exact U1g
  rw[if_neg a']
  exact congrArg some e
theorem jf.look{h:Heap}{x dx C:Addr}{mA:Str->Option Value}(I:jf h x dx C mA):∃od,PySem.W.InstAt h x (U7h C dx) C (some od)/\∀name,U7s name od=some (mA name) :=
 let ⟨od,ho,hl⟩:=j5 I.ns
 ⟨od,⟨I.obj,rfl,rfl,ho⟩,hl⟩
section
variable{prog:Program}{w:World}{A:Around}{E:Value->Shared->Prop}{s:Shared}{K:U0b}{x dx C f:Addr}{mA:Str->Option Value}{name:Str}{v:Value}
end
section
variable{P:Program}{w:World}{H H':Hp}{h h':Heap}{a C dx:Addr}{fs fs':List (Str×V)}
theorem rQ(hok:HOk P w H h)(e:H a=some (.ins C dx fs)):∃mA,jf h a dx C mA/\(∀f,je (fs.lookup f) (mA f))/\PySem.Within mA (fs.map (·.1))/\fs.length<=1000/\H dx=some (.own a):=by
 obtain⟨d,z,ne,ob,mA,n,r,q⟩:=(show Dz P w H h a (.ins C dx fs) from hok a _ e)
 exact⟨mA,⟨ob,n,ne⟩,r,q,z,d⟩
end
structure Cls(K:U0b)(C:Addr):Prop where
 pg:PySem.W.plainGet K C Str.empty=true
 hd:PySem.W.hasDictIn K C=true
 po:PySem.W.plainOver K C=true
 sa:U55 K (.ref C) "__setattr__"=some (some (.builtin "object.__setattr__"))
theorem Cls.get{K:U0b}{C:Addr}(c:Cls K C)(f:Str):PySem.W.plainGet K C f=true:=c.pg
structure Con(K:U0b)(C:Addr)(f:Str)(v:V)(u:Value):Prop where
 at_:U55 K (.ref C) f=some (some u)
 rel:RelV v u
 get:PySem.W.specialIn K u "__get__"=some none
 cp:PySem.W.copiedNames.contains f=false
structure Meth(K:U0b)(C:Addr)(m:Str)(f:Addr):Prop where
 at_:U55 K (.ref C) m=some (some (.ref f))
 fn:PySem.W.isFn K (.ref f)=true
 kp:U03 K (.ref f)=true
section
variable{X:Cx}{pins:List (Addr×Obj)}{σ:St}{H:Hp}{s:Shared}{a C dx:Addr}{fs:List (Str×V)}{f:Str}{v:V}{A:Around}{E:Value->Shared->Prop}
end
section
variable{X:Cx}{o e value:Expr}{f:Str}{pos pos' tpos:Pos}{ta tv:TE}
end
section
variable{X:Cx}{pins:List (Addr×Obj)}{σ:St}{H:Hp}{s:Shared}{A:Around}{E:Value->Shared->Prop}{Q:Value->Shared->Prop}{c:Value}{b:Bool}
inductive Kc (K:U0b) (H:Hp):V->Value->Prop where
 |non:Kc K H .non (.type "NoneType")
 |bl (x:Bool):Kc K H (.bl x) (.type "bool")
 |int (i:Int):Kc K H (.int i) (.type "int")
 |str (x:Str):Kc K H (.str x) (.type "str")
 |flt (x:UInt64):Kc K H (.flt x) (.type "float")
 |lst {a:Addr} {xs:List V} (e:H a=some (.lst xs)):Kc K H (.ref a) (.type "list")
 |frz {a:Addr} {o:Obj} {xs:List V} (e:H a=some (.frz o (.lst xs))):Kc K H (.ref a) (.type "list")
 |tup {a:Addr} {xs:List V} (e:H a=some (.tup xs)):Kc K H (.ref a) (.type "tuple")
 |dK {a:Addr} {kvs:List (Key×V)} (e:H a=some (.dK kvs)):Kc K H (.ref a) (.type "dict")
 |dT {a:Addr} {kvs:List (List Key×V)} (e:H a=some (.dT kvs)):Kc K H (.ref a) (.type "dict")
 |ins {a C dx:Addr} {fs:List (Str×V)} (e:H a=some (.ins C dx fs)) (cl:Cls K C) (ha:U55 K (.ref C) "__class__"=some (some (.builtin "object.__class__")))
   (hn:PySem.W.specialIn K (.builtin "object.__class__") "__get__"=some (some (.builtin "getset_descriptor.__get__"))) (htk:PySem.W.takesIn K (.builtin "object.__class__")=some true)
   (hm:PySem.W.mroIn K C (.type "object")=some true):Kc K H (.ref a) (.ref C)
theorem j9{x:V}{u t:Value}(I:Inv X pins σ H s)(rx:RelV x u)(ty:Kc X.K H x t)(e:U3j X.K t c=some b)(h:∀tk,Q (.bool b) { s with toks:=tk }) :
  wpAny (model X.prog X.w) A (call (.builtin "isinstance") [u,c]) Q E s:=by
 cases ty with
 |non=>cases (show u=U2w from rx);exact U26 PySem.W.kitx_none I.kIn U7a e (fun z=>nomatch z) h
 |bl y=>cases (show u=U3y y from rx);exact U26 PySem.W.kitx_bool I.kIn U7a e (fun z=>nomatch z) h
 |int i=>obtain⟨t,q⟩:=(show ∃t,u=U3f i t from rx);cases q;exact U26 PySem.W.kitx_int I.kIn U7a e (fun z=>nomatch z) h
 |str y=>obtain⟨t,q⟩:=(show ∃t,u=Value.str y t from rx);cases q;exact U26 PySem.W.kitx_str I.kIn U7a e (fun z=>nomatch z) h
 |flt y=>obtain⟨t,q⟩:=(show ∃t,u=Value.float y t from rx);cases q;exact U26 PySem.W.kitx_float I.kIn U7a e (fun z=>nomatch z) h
 |@lst a xs ea =>
  cases (show u=U2n a from rx)
  obtain⟨_,_,n,_,h1⟩:=(show Dz X.prog X.w H s.heap a (.lst xs) from I.hok a _ ea)
  exact U26 PySem.W.kitx_list I.kIn ⟨_,h1,rfl⟩ e (fun z=>nomatch z) h
 |@frz a ob xs ea =>
  cases (show u=U2n a from rx)
  obtain⟨_,_,_,n,_,h1⟩:=(show Dz X.prog X.w H s.heap a (.frz ob (.lst xs)) from I.hok a _ ea)
  exact U26 PySem.W.kitx_list I.kIn ⟨_,h1,rfl⟩ e (fun z=>nomatch z) h
 |@tup a xs ea =>
  cases (show u=U2n a from rx)
  obtain⟨_,_,_,p⟩:=(show Dz X.prog X.w H s.heap a (.tup xs) from I.hok a _ ea)
  obtain⟨o,h1,h2,_⟩:=p
  exact U26 PySem.W.kitx_tuple I.kIn ⟨o,h1,h2⟩ e (fun z=>nomatch z) h
 |@dK a kvs ea =>
  cases (show u=U2n a from rx)
  obtain⟨_,_,vs,_,p⟩:=(show Dz X.prog X.w H s.heap a (.dK kvs) from I.hok a _ ea)
  obtain⟨o,es,ep,h1,h2,_⟩:=p
  exact U26 PySem.W.kitx_dict I.kIn ⟨o,h1,h2.1⟩ e (fun z=>nomatch z) h
 |@dT a kvs ea =>
  cases (show u=U2n a from rx)
  obtain⟨_,_,xs,_,o,es,ep,h1,h2,_⟩:=(show Dz X.prog X.w H s.heap a (.dT kvs) from I.hok a _ ea)
  exact U26 PySem.W.kitx_dict I.kIn ⟨o,h1,h2.1⟩ e (fun z=>nomatch z) h
 |@ins a C dx fs ea cl ha hn htk hm =>
  cases (show u=U2n a from rx)
  obtain⟨mA,O,_⟩:=rQ I.hok ea
  obtain⟨od,J,_⟩:=O.look
  exact U26 (PySem.W.kitx_own (cl.get _) cl.hd ha hn htk hm) I.kIn J e (fun z=>nomatch z) h
end
end L2
namespace L2
open PySem PySem.Spec PyProof.Rows
structure FW(k:Nat)(A:Around):Prop where
 hd:A.handled=none
 dp:A.depth+3*k+5<recursionLimit
 un:A.units+16*k+200<cLine
 gd:A.guards=some []
theorem FW.mono{j k:Nat}{A:Around}(r:FW k A)(h:j<=k):FW j A:=⟨r.hd,by have:=r.dp;omega,by have:=r.un;omega,r.gd⟩
theorem FW.deeper{k:Nat}{A:Around}(r:FW (k+1) A)(env:Env):FW k (A.deeper env) :=
 ⟨r.hd,by have:=r.dp;show A.depth+1+3*k+5<_;omega,by have:=r.un;show A.units+3+16*k+200<_;omega,r.gd⟩
theorem FW.depth{k:Nat}{A:Around}(r:FW k A):A.depth<recursionLimit:=by have:=r.dp;omega
theorem FW.units{k:Nat}{A:Around}(r:FW k A):A.units+64<cLine:=by have:=r.un;omega
def uH:TA:=fun _ H Q=>Q [] H
def o8(ta:TE)(tr:TA):TA:=fun σ H Q=>ta σ H fun x H1=>tr σ H1 fun xs H2=>Q (x::xs) H2
section
variable{X:Cx}{e:Expr}{es:List Expr}{te:TE}{t:TA}{pos:Pos}
theorem Ur:PA X [] uH:=fun _ _ _ _ H Q I h=>Calls.spliced_nil ⟨[],H,I,.nil,h⟩
theorem Rz(ha:PE X e te)(hr:PA X es t)(hs:starEach (e::es) X.env=(false,eval e X.env)::starEach es X.env:=by rfl):PA X (e::es) (o8 te t):=by
 intro pos pins s σ H Q I h
 rw[hs]
 show wpAny _ _ (spliced ((false,eval e X.env)::backTo pos (starEach es X.env))) _ _ s
 refine Calls.spliced_cons (thn (ha pins s σ H _ I h) fun u s1 ⟨x,H1,I1,r1,q1⟩=>?_)
 exact thn (hr pos pins s1 σ H1 _ I1 q1) fun us s2 ⟨xs,H2,I2,r2,q2⟩=>⟨x::xs,H2,I2,.cons r1 r2,q2⟩
def uG(t:TA):TE:=fun σ H Q=>t σ H fun xs H1=>xs.length<=sizeLine/\∀p,H1 p=none->Q (.ref p) (upd H1 p (.tup xs))
def zm(t:TA):TE:=fun σ H Q=>t σ H fun xs H1=>xs.length<=sizeLine/\∀p,H1 p=none->Q (.ref p) (upd H1 p (.lst xs))
theorem vV{x1}(h:PA X es t):PE X (.Tuple es x1 pos) (uG t):=by
 intro pins s σ H Q I hq
 refine wpAny_Tuple_spliced (thn (h pos pins s σ H _ I hq) fun us s1 ⟨xs,H1,I1,r,z,q⟩=>⟨by rw[←r.length];exact z,?_⟩)
 have hf:H1 s1.heap.objs.size=none:=I1.hok.fresh (U0q _)
 refine⟨.ref s1.heap.objs.size,upd H1 s1.heap.objs.size (.tup xs),I1.laid (t':=s1.toks) (fun b u e=>U0a _ e) (U0q _) ?_,rfl,q _ hf⟩
 exact⟨z,us,r,⟨_,U0p _ rfl,rfl,_,rfl⟩⟩
theorem fQ(h:PA X es t):PE X (.List es pos) (zm t):=by
 intro pins s σ H Q I hq
 refine wpAny_List_spliced (thn (h pos pins s σ H _ I hq) fun us s1 ⟨xs,H1,I1,r,z,q⟩=>⟨by rw[←r.length];exact z,?_⟩)
 have hf:H1 s1.heap.objs.size=none:=I1.hok.fresh (U0q _)
 refine⟨.ref s1.heap.objs.size,upd H1 s1.heap.objs.size (.lst xs),I1.laid (t':=s1.toks) (fun b u e=>U0a _ e) (U0q _) ?_,rfl,q _ hf⟩
 exact⟨z,us,0,r,U0p _ rfl⟩
end
abbrev Sp:=List V->Hp->VK->XK->Prop
abbrev CXT:=List Env->Hp->Shared->XK->Value->Shared->Prop
structure cg(P:Program)(w:World)(K:U0b)(mg:Str->Option Value)(base:Heap)(A:Around)(outer:List Env)(s:Shared)(H:Hp):Prop where
 frames:A.frames=some outer
 mod:Mod K mg base
 bs:∀b o,base.get? b=some o->s.heap.get? b=some o/\H b=none
 bsz:base.objs.size<=s.heap.objs.size
 Nt:s.heap.FunFrames base outer
 frf:∀b∈frs outer,H b=none
 hok:HOk P w H s.heap
 bare:AllBare s.gens
 sy:H sysModules=none
def CE(outer:List Env)(P:Program)(w:World)(H:Hp)(s:Shared)(Q:VK)(u:Value)(s':Shared):Prop :=
 ∃v H',s'.os=s.os/\AllBare s'.gens/\Un (frs outer) [] H H' s.heap s'.heap/\HOk P w H' s'.heap/\RelV v u/\Q v H'
def CR(CX:CXT)(outer:List Env)(P:Program)(w:World)(H:Hp)(s:Shared)(Q:VK)(E:XK)(r:Result)(s':Shared):Prop :=
 match r with
 |.ok (.ret u)=>CE outer P w H s Q u s'
 |.ok _=>False
 |.error e=>CX outer H s E e s'
structure Cv(P:Program)(w:World)(K:U0b)(mg:Str->Option Value)(base:Heap)(CX:CXT)(k:Nat)(f:Addr)(fd:FuncData)(ps:List Str)(sp:Sp):Prop where
 len:∀vs H Q E,sp vs H Q E->vs.length=ps.length
 run:∀(A:Around)(outer:List Env)(s:Shared)(H:Hp)(args:Args)(us:List Value)(vs:List V)(Q:VK)(E:XK),FW k A->cg P w K mg base A outer s H->BindsTo s fd args (ps.zip us)->Vals vs us->sp vs H Q E ->
  codeAny (model P w) A (.call (.ref f) args) (CR CX outer P w H s Q E) s
theorem Cv.mono{P:Program}{w:World}{K:U0b}{mg:Str->Option Value}{base:Heap}{CX:CXT}{j k:Nat}{f:Addr}{fd:FuncData}{ps:List Str}{sp:Sp}(F:Cv P w K mg base CX j f fd ps sp)(h:j<=k) :
  Cv P w K mg base CX k f fd ps sp:=⟨F.len,fun A outer s H args us vs Q E hr=>F.run A outer s H args us vs Q E (hr.mono h)⟩
theorem Cv.imp{P:Program}{w:World}{K:U0b}{mg:Str->Option Value}{base:Heap}{CX:CXT}{k:Nat}{f:Addr}{fd:FuncData}{ps:List Str}{sp sp':Sp}(F:Cv P w K mg base CX k f fd ps sp)
  (h:∀vs H Q E,sp' vs H Q E->sp vs H Q E):Cv P w K mg base CX k f fd ps sp' :=
 ⟨fun vs H Q E q=>F.len vs H Q E (h _ _ _ _ q),fun A outer s H args us vs Q E hr he hb hv hs=>F.run A outer s H args us vs Q E hr he hb hv (h _ _ _ _ hs)⟩
section
variable{X:Cx}{pins:List (Addr×Obj)}{σ:St}{H:Hp}{s s':Shared}
theorem Inv.env0(I:Inv X pins σ H s):cg X.prog X.w X.K X.mg X.base X.A X.stack s H :=
 ⟨I.ok.frames,I.ok.mod,I.bs,U1a I.ok.bsz I.sz,I.stack,I.bG,I.hok,I.bare,I.Vr⟩
theorem Inv.after{Q:VK}{u:Value}(I:Inv X pins σ H s)(h:CE X.stack X.prog X.w H s Q u s'):EP X pins σ Q u s':=by
 obtain⟨v,H',os,bare,un,hok,r,q⟩:=h
 obtain⟨hh,g,d,t,os'⟩:=s'
 obtain rfl:os'=s.os:=os
 exact⟨v,H',I.call (h':=hh) (g':=g) (d':=d) (t':=t) (ch:=[]) un hok bare (fun b z=>absurd z (by simp)),r,q⟩
end
def o9(sp:Sp)(dvs:List V)(E:XK)(t:TA):TE:=fun σ H Q=>t σ H fun vs H1=>sp (vs++dvs) H1 Q E
def Binds(K:U0b)(fd:FuncData)(ps:List Str)(ds:List Value):Prop :=
 ∀(s:Shared)(us:List Value),K.In s.heap->(us++ds).length=ps.length->BindsTo s fd ⟨us,[]⟩ (ps.zip (us++ds))
theorem Binds.all{K:U0b}{fd:FuncData}{ps:List Str}(h:∀us:List Value,us.length=ps.length->bindArgs fd ⟨us,[]⟩=pure (ps.zip us)):Binds K fd ps []:=fun s us _ hl=>by
 rw[U27] at hl ⊢
 exact .of_eq (h us hl)
def Passes(CX:CXT)(X:Cx)(E:XK):Prop:=∀(pins:List (Addr×Obj))(σ:St)(H:Hp)(s:Shared)(e:Value)(s':Shared),Inv X pins σ H s->CX X.stack H s E e s'->X.xe e s'
section
variable{X:Cx}{CX:CXT}{k:Nat}{f C:Addr}{fd:FuncData}{ps:List Str}{sp:Sp}{dvs:List V}{ds:List Value}{E:XK}{x m:Str}{p pos apos:Pos}{e o:Expr}{es:List Expr}{ta:TE}{t:TA}
theorem vG{pins:List (Addr×Obj)}{σ:St}{H:Hp}{s:Shared}{Q:VK}{us:List Value}{vs:List V}(F:Cv X.prog X.w X.K X.mg X.base CX k f fd ps sp)(hr:FW k X.A)(hb:Binds X.K fd ps ds)(hd:Vals dvs ds)(hx:Passes CX X E)
  (I:Inv X pins σ H s) (r:Vals vs us) (h:sp (vs++dvs) H Q E):wpAny (model X.prog X.w) X.A (call (.ref f) us) (EP X pins σ Q) X.xe s:=by
 have r2:Vals (vs++dvs) (us++ds):=r.append hd
 have hl:(us++ds).length=ps.length:=by rw[←r2.length];exact F.len _ _ _ _ h
 refine wpAny_call (codeAny_mono (F.run X.A X.stack s H ⟨us,[]⟩ (us++ds) (vs++dvs) Q E hr I.env0 (hb s us I.kIn hl) r2 h) fun r s' hq=>?_)
 cases r with
 |error e=>exact hx pins σ H s e s' I hq
 |ok fl =>
  cases fl with
  |ret u=>exact I.after hq
  |next=>exact U4n hq
  |brk=>exact U4n hq
  |cont=>exact U4n hq
theorem qY(F:Cv X.prog X.w X.K X.mg X.base CX k f fd ps sp)(hr:FW k X.A)(hg:Gl X x)(hm:X.mg x=some (.ref f))(hk:U03 X.K (.ref f)=true)(hb:Binds X.K fd ps ds)(hd:Vals dvs ds)(hx:Passes CX X E)
  (ha:PA X (e::es) t) (hdb:(x==("__debug__":Str))=false:=by decide) (he:starEach (e::es) X.env=(false,eval e X.env)::starEach es X.env:=by rfl) (hpl:(backTo pos (starEach es X.env)).any (·.1)=false:=by rfl) :
  PE X (.Call (.Name x p) (e::es) [] pos) (o9 sp dvs E t):=by
 intro pins s σ H Q I h
 refine U5y (bT I hg hm ?_ hdb)
 refine PySem.W.callWith_K (h₀:=X.base) I.ok.mod.kin hk (thn (ha pos pins s σ H _ I h) fun us s1 ⟨vs,H1,I1,r,q⟩=>⟨I1.kIn,?_⟩) he hpl
 exact vG F hr hb hd hx I1 r q
structure Mk(K:U0b)(C f:Addr):Prop where
 makes:PySem.W.makesIn K C=true
 init:U55 K (.ref C) "__init__"=some (some (.ref f))
 fn:PySem.W.isFn K (.ref f)=true
 kp:U03 K (.ref C)=true
end
section
variable{X:Cx}{CX:CXT}{k:Nat}{f C:Addr}{fd:FuncData}{ps ks:List Str}{sp:Sp}{E:XK}{x m:Str}{p pos apos kpos:Pos}{e o:Expr}{es:List Expr}{kws:List Keyword}{te ta:TE}{t tk:TA}{nm:Option Str}
structure Ja8(K:U0b)(fd:FuncData)(ps ks:List Str)(g:List Value->List Value->List Value)(gV:List V->List V->List V):Prop where
 to:∀(s:Shared)(us ws:List Value),K.In s.heap->(g us ws).length=ps.length->BindsTo s fd ⟨us,ks.zip ws⟩ (ps.zip (g us ws))
 rel:∀{vs:List V} {us:List Value} {zs:List V} {ws:List Value},Vals vs us->Vals zs ws->Vals (gV vs zs) (g us ws)
variable{g:List Value->List Value->List Value}{gV:List V->List V->List V}
end
structure CP(N P:List Str)(sc:Scope):Prop where
 kind:sc.kind=.function
 co:sc.isCoroutine=false
 gen:sc.isGenerator=false
 nd:N.Nodup
 pre:N.take P.length=P
 par:∀x∈P,sc.names.lookup x=some .local∨sc.names.lookup x=some .cell
 nofree:∀y∈sc.names,y.2≠.free
theorem XM{kindOf:Str->Option NameKind}{x:Str}:∀{binds:List (Str×Value)} {m:Str->Option Value},(∀v,(x,v) ∉ binds)->bindL kindOf binds m x=m x
 |[],_,_=>rfl
 |(n,v)::r,m,h=>by
  unfold bindL
  rw[XM fun w hw=>h w (U0t _ hw)]
  split
  .have:x≠n:=by rintro rfl;exact h v U0z
   simp[this]
  .rfl
theorem XR{kindOf:Str->Option NameKind}{x:Str}:∀{binds:List (Str×Value)} {m:Str->Option Value},(∀v,(x,v) ∉ binds)->bindC kindOf binds m x=m x
 |[],_,_=>rfl
 |(n,v)::r,m,h=>by
  unfold bindC
  rw[XR fun w hw=>h w (U0t _ hw)]
  split
  .rfl
  .have:x≠n:=by rintro rfl;exact h v U0z
   simp[this]
theorem XQ{kindOf:Str->Option NameKind}{x:Str}{v:Value}:∀{P:List Str} {vs:List Value} {i:Nat} {m:Str->Option Value},P.Nodup->P[i]?=some x->vs[i]?=some v->kindOf x=some .local ->
  bindL kindOf (P.zip vs) m x=some v
 |[],_,_,_,_,h,_,_=>by simp at h
 |_::_,[],_,_,_,_,h,_=>by simp at h
 |p::P,w::vs,0,m,nd,h1,h2,hk=>by
  simp at h1 h2;subst h1;subst h2
  show bindL kindOf ((p,w)::P.zip vs) m p=_
  unfold bindL
  rw[XM fun v hv=>(U4d.mp nd).1 (U30 hv).1,if_pos hk]
  simp
 |p::P,w::vs,i+1,m,nd,h1,h2,hk=>by
  show bindL kindOf ((p,w)::P.zip vs) m x=_
  unfold bindL
  exact XQ (i:=i) (U4d.mp nd).2 (by simpa using h1) (by simpa using h2) hk
theorem XS{kindOf:Str->Option NameKind}{x:Str}{v:Value}:∀{P:List Str} {vs:List Value} {i:Nat} {m:Str->Option Value},P.Nodup->P[i]?=some x->vs[i]?=some v->kindOf x≠some .local ->
  bindC kindOf (P.zip vs) m x=some v
 |[],_,_,_,_,h,_,_=>by simp at h
 |_::_,[],_,_,_,_,h,_=>by simp at h
 |p::P,w::vs,0,m,nd,h1,h2,hk=>by
  simp at h1 h2;subst h1;subst h2
  show bindC kindOf ((p,w)::P.zip vs) m p=_
  unfold bindC
  rw[XR fun v hv=>(U4d.mp nd).1 (U30 hv).1,if_neg hk]
  simp
 |p::P,w::vs,i+1,m,nd,h1,h2,hk=>by
  show bindC kindOf ((p,w)::P.zip vs) m x=_
  unfold bindC
  exact XS (i:=i) (U4d.mp nd).2 (by simpa using h1) (by simpa using h2) hk
def start(N:List Str)(vs:List V):St:=vs.map some++U05 (N.length-vs.length) none
def Qz(CX:CXT)(P:Program)(w:World)(K:U0b)(mg:Str->Option Value)(base:Heap)(N:List Str)(qual:Str)(scope:Scope)(f:Addr)(cd:Value)(A:Around)(outer:List Env)(s:Shared)(H:Hp)(E:XK):Cx where
 prog:=P
 w:=w
 K:=K
 mg:=mg
 base:=base
 A:=A.deeper (envOfC qual scope s.heap.objs.size f cd)
 N:=N
 s₀:=s
 H₀:=H
 env:=envOfC qual scope s.heap.objs.size f cd
 outer:=outer
 stack:=envOfC qual scope s.heap.objs.size f cd::outer
 ex:=[]
 calm:=true
 fn:=fun _=>true
 pn:=[]
 xe:=fun e s'=>wpAny (model P w) (A.deeper (envOfC qual scope s.heap.objs.size f cd)) (leaving (envOfC qual scope s.heap.objs.size f cd) e) (fun _ s''=>CX outer H s E e s'') (fun e' s''=>CX outer H s E e' s'') s'
theorem ZJ{sc:Scope}{n:Nat}{x:Str}(h:sc.names.lookup x=some .cell):∃c,(cellsFrom n sc.names []).lookup x=some c:=by
 have q:=U6b sc.names n [] (.inl h)
 exact U5z.mp q
theorem jB{CX:CXT}{P:Program}{w:World}{K:U0b}{mg:Str->Option Value}{base:Heap}{N ps:List Str}{qual:Str}{scope:Scope}{f:Addr}{cd:Value}{A:Around}{outer:List Env}{s s1:Shared}{H:Hp}{E:XK}{us:List Value}{vs:List V}
  (S:CP N ps scope) (hd:A.handled=none) (e0:cg P w K mg base A outer s H) (hl:vs.length=ps.length) (r:Vals vs us)
  (x:InCallC s s.heap.objs.size (bindL (envOfC qual scope s.heap.objs.size f cd).kindOf (ps.zip us) fun _=>none) (cellsFrom (s.heap.objs.size+1) scope.names []) (bindC (envOfC qual scope s.heap.objs.size f cd).kindOf (ps.zip us) fun _=>none) s1) :
  Inv (Qz CX P w K mg base N qual scope f cd A outer s H E) [] (start N vs) H s1:=by
 have hpl:ps.length<=N.length:=by have:=congrArg U5 S.pre;rw[U2t] at this;omega
 obtain⟨h1,tk,rfl,hk⟩:=x.done
 have noA:∀b:Addr,b ∉ (Qz CX P w K mg base N qual scope f cd A outer s H E).ex:=fun b z=>absurd (show b∈([]:List Addr) from z) (by simp)
 refine⟨⟨e0.mod,S.kind,rfl,rfl,U0q _,fun y z c h1 h2=>?_,fun y hy=>?_,fun y c _ h=>?_,fun _=>hd,Around.frames_deeper e0.frames,.inr ⟨rfl,rfl⟩,fun b z=>absurd z (noA b),e0.bs,e0.bsz,fun b _ _=>noA b,fun b z=>absurd z (noA b),e0.Nt,e0.frf,e0.sy⟩,
  rfl,e0.bare,Un.kept hk,⟨_,x.toInCall.ns,fun i y v h1 h2 h3=>?_⟩,fun y c h=>⟨_,x.cell y c h⟩,e0.hok.fresh (U0q _),fun y c h=>?_,fun p hp=>absurd (show p∈([]:List (Addr×Obj)) from hp) (by simp),e0.hok.kept hk,?_⟩
 .exact name_of_addr x.apart (U23 h1) (U23 h2)
 .have hy:scope.names.lookup y=some .cell∨scope.names.lookup y=some .free:=hy
  rcases hy with hy|hy
  .exact ZJ hy
  .exact absurd rfl (S.nofree _ (U23 hy))
 .exact U2u (x.above y c (U23 h))
 .have hi:i<vs.length:=by
   unfold start at h2
   by_cases hi:i<vs.length
   .exact hi
   .rw[U2h (by simpa using hi)] at h2
    rw[U46] at h2
    split at h2<;>cases h2
  have ha:vs[i]?=some v:=by
   unfold start at h2
   rw[U1d (by simpa using hi),U0v] at h2
   cases e:vs[i]? with
   |none=>rw[e] at h2;cases h2
   |some a=>rw[e] at h2;cases h2;rfl
  obtain⟨u,hu,rv⟩:=r.get ha
  have hp:ps[i]?=some y:=by
   rw[←S.pre,List.getElem?_take_of_lt (by omega)];exact h1
  have ndP:ps.Nodup:=by rw[←S.pre];exact S.nd.sublist (List.take_sublist _ _)
  refine⟨u,rv,?_⟩
  rcases S.par y (U1h hp) with k|k
  .exact .inl ⟨k,XQ ndP hp hu k⟩
  .obtain⟨c,e⟩:=ZJ (n:=s.heap.objs.size+1) k
   refine .inr ⟨.inl k,c,e,?_⟩
   have q:=x.cell y c e
   rw[XS ndP hp hu (by show scope.names.lookup y≠_;rw[k];decide)] at q
   exact q
 .exact e0.hok.fresh (U2u (x.above y c (U23 h)))
 .unfold start
  show _=N.length
  rw[U0u,U0k,U19]
  omega
theorem zJ{CX:CXT}{P:Program}{w:World}{K:U0b}{mg:Str->Option Value}{base:Heap}{k:Nat}{f:Addr}{name qual:Str}{params:Arguments}{body:List Stmt}{scope:Scope}{dV kV doc pm cdv ct oc:Value}{an od:Option Addr}
  {osl:Array (Option Value)} {N ps:List Str} {sp:Sp} (lk:K.lookup f=some ⟨oc,od,.func (U1b name qual params body scope dV kV doc pm an cdv ct),osl⟩) (hcd:U07 K cdv qual=true) (S:CP N ps scope)
  (len:∀vs H Q E,sp vs H Q E->vs.length=ps.length)
  (hbody:∀(A:Around)(outer:List Env)(s:Shared)(H:Hp)(vs:List V)(Q:VK)(E:XK),FW k (A.deeper (envOfC qual scope s.heap.objs.size f cdv))->sp vs H Q E ->
   ∃t,PSs (Qz CX P w K mg base N qual scope f cdv A outer s H E) body t/\t { nx:=fun _ H'=>Q .non H',rt:=Q } (start N vs) H) :
  Cv P w K mg base CX (k+1) f (U1b name qual params body scope dV kV doc pm an cdv ct) ps sp:=by
 refine⟨len,fun A outer s H args us vs Q E hr e0 hb r hsp=>?_⟩
 have hl:=len _ _ _ _ hsp
 have KX:K.In s.heap:=e0.mod.kin.keeps fun b o e=>(e0.bs b o e).1
 have lim:s.heap.NoLimit:=e0.mod.nolimit.keeps fun b o e=>(e0.bs b o e).1
 have hkind:∀y∈ps.zip us,scope.names.lookup y.1=some .local∨(scope.names.lookup y.1=some .cell/\((cellsFrom (s.heap.objs.size+1) scope.names []).lookup y.1).isSome=true):=fun⟨n,v⟩ hy=>by
  rcases S.par n (U30 hy).1 with q|q
  .exact .inl q
  .exact .inr ⟨q,U6b _ _ _ (.inl q)⟩
 refine codeAny_call_function hr.depth (KX _ _ lk) rfl S.co S.gen rfl (PySem.W.codeRec_of KX hcd) (hb _ _ _ _ ?_)
 refine wpAny_newFunctionEnv_cells S.kind hkind fun env he s1 x=>?_
 subst he
 refine⟨lim.keeps x.toInCall.keep,codeAny_func ?_⟩
 obtain⟨t,ht,hq⟩:=hbody A outer s H vs Q E (hr.deeper _) hsp
 have I:Inv (Qz CX P w K mg base N qual scope f cdv A outer s H E) [] (start N vs) H s1:=jB S hr.hd e0 hl r x
 refine U54 (ht [] s1 (start N vs) H _ I hq) (fun fl s' hs=>?_) fun e s' hs=>hs
 have fin:∀{σ':St} {H':Hp} {v:V} {u:Value},Inv (Qz CX P w K mg base N qual scope f cdv A outer s H E) [] σ' H' s'->RelV v u->Q v H'->CE outer P w H s Q u s' :=
  fun {σ' H' v u} J rv q=>⟨v,H',J.os,J.bare,J.base,J.hok,rv,q⟩
 cases fl with
 |ret u =>
  obtain⟨v,σ',H',J,rv,q⟩:=hs
  exact fin J rv q
 |next =>
  obtain⟨σ',H',J,q⟩:=hs
  exact fin (v:=V.non) (u:=U2w) J rfl q
 |brk =>
  obtain⟨_,_,_,q⟩:=hs
  exact U4n q
 |cont =>
  obtain⟨_,_,_,q⟩:=hs
  exact U4n q
end L2
namespace L2
open PySem PySem.Spec PyProof.Rows
section
variable{X:Cx}{x:Str}{p pos:Pos}{e:Expr}{es:List Expr}{t:TA}{id T:String}{r:List V->Hp->VK->Prop}
def tCB(r:List V->Hp->VK->Prop)(t:TA):TE:=fun σ H Q=>t σ H fun vs H1=>r vs H1 Q
theorem Yt(hc:Dc X (.builtin id) r)(hg:Gl X x)(hm:X.mg x=none)(hv:bootBuiltins x=some (.builtin id))(ha:PA X (e::es) t)(hn:x≠"__name__":=by decide)(hdb:(x==("__debug__":Str))=false:=by decide)
  (he:starEach (e::es) X.env=(false,eval e X.env)::starEach es X.env:=by rfl) (hpl:(backTo pos (starEach es X.env)).any (·.1)=false:=by rfl):PE X (.Call (.Name x p) (e::es) [] pos) (tCB r t):=by
 intro pins s σ H Q I h
 refine U5y (K1 I hg hm hv ?_ hn hdb)
 exact PyProof.Rows.callWith_builtin1 (thn (ha pos pins s σ H _ I h) fun us s1 ⟨vs,H1,I1,r1,q1⟩=>hc pins s1 σ H1 vs us Q I1 r1 q1) he hpl
theorem Kr(hc:Dc X (.type T) r)(hg:Gl X x)(hm:X.mg x=none)(hv:bootBuiltins x=some (.type T))(ha:PA X (e::es) t)(hn:x≠"__name__":=by decide)(hdb:(x==("__debug__":Str))=false:=by decide)
  (he:starEach (e::es) X.env=(false,eval e X.env)::starEach es X.env:=by rfl) (hpl:(backTo pos (starEach es X.env)).any (·.1)=false:=by rfl):PE X (.Call (.Name x p) (e::es) [] pos) (tCB r t):=by
 intro pins s σ H Q I h
 refine U5y (K1 I hg hm hv ?_ hn hdb)
 exact U2o (thn (ha pos pins s σ H _ I h) fun us s1 ⟨vs,H1,I1,r1,q1⟩=>hc pins s1 σ H1 vs us Q I1 r1 q1) he hpl
end
end L2
namespace HT
open PySem PyProof.Rows
section
open PySem.SeqAt
open PySem.AutoSeq1 (wpAny_loadPart')
open PySem.MeetsSeq PySem.MeetsSeq2 PySem.MeetsSeq3
end
section
variable{prog:Program}{w:World}{A:Around}{E:Value->Shared->Prop}{s:Shared}
theorem su{t b:Addr}{vs ws:List Value}{Q:Value->Shared->Prop}(ht:IsTup s.heap t vs.toArray)(hb:IsTup s.heap b ws.toArray)(hv:vs≠[])
  (h1:ws=[]->Q (.ref t) s) (h2:ws≠[]->Q (.ref s.heap.objs.size) { s with heap:=s.heap.push { cls:=.type "tuple",data:=.seq (vs++ws).toArray } })
  (hsz:vs.length+ws.length<=sizeLine):wpAny (model prog w) A (binaryOp .Add (.ref t) (.ref b)) Q E s:=by
 obtain⟨⟨cls,dd,data,sl⟩,ho,hc,n,hd⟩:=id ht
 obtain⟨⟨cls2,dd2,data2,sl2⟩,ho2,hc2,n2,hd2⟩:=id hb
 simp only at hc hd hc2 hd2
 subst hc hd hc2 hd2
 have e:vs.toArray++ws.toArray=(vs++ws).toArray:=by simp
 by_cases hw:ws=[]
 .exact concat_meets ⟨_,ho,rfl⟩ ⟨_,ho2,rfl⟩ noFill_tuple_add seq_tuple_add U6c U57 (U50 _ _)
   (tuple_addW1 t b vs.toArray ws.toArray n n2 dd dd2 sl sl2 (by simpa using hv) (by simp[hw])) ⟨ho,ho2,h1 hw⟩
 .refine concat_meets ⟨_,ho,rfl⟩ ⟨_,ho2,rfl⟩ noFill_tuple_add seq_tuple_add U6c U57 (U50 _ _)
   (tuple_addW2 t b vs.toArray ws.toArray n n2 dd dd2 sl sl2 (by simpa using hv) (by simpa using hw) (by rw[U0m,U0m];exact hsz)) ⟨ho,ho2,?_⟩
  rw[e]
  exact h2 hw
def sIx(n d:Nat):Option Int->Nat
 |none=>d
 |some v=>if v<0 then (v+(n:Int)).toNat else min v.toNat n
theorem vD(n d:Nat)(hd:d<=n)(o:Option Int):sIx n d o<=n:=by
 cases o with
 |none=>exact hd
 |some v =>
  show(if v<0 then (v+(n:Int)).toNat else min v.toNat n)<=n
  by_cases hv:v<0
  .rw[if_pos hv];omega
  .rw[if_neg hv];exact Nat.min_le_right _ _
theorem cH(v:Int)(n d:Nat):(if v<0 then max (v+(n:Int)) 0 else min v (n:Int))=((sIx n d (some v):Nat):Int):=by
 show(if v<0 then max (v+(n:Int)) 0 else min v (n:Int))=(((if v<0 then (v+(n:Int)).toNat else min v.toNat n):Nat):Int)
 by_cases hv:v<0
 .simp only[if_pos hv];omega
 .simp only[if_neg hv];omega
theorem fH(lo hi:Option Int)(n:Nat):U5v lo hi 1 (n:Int)=(((sIx n 0 lo:Nat):Int),((sIx n n hi:Nat):Int)):=by
 have h1:¬((1:Int)<0):=by omega
 unfold U5v
 simp only[h1,if_false]
 refine Prod.ext ?_ ?_
 .cases lo with
  |none=>rfl
  |some v=>exact cH v n 0
 .cases hi with
  |none=>rfl
  |some v=>exact cH v n n
theorem dU(i j:Nat):U4o (i:Int) (j:Int) 1=j-i:=by
 unfold U4o
 have h1:(1:Int)>0:=by omega
 simp only[h1,if_true,Int.ediv_one]
 split<;>omega
theorem V4{v:Value}{o:Option Int}{Q:Option Int->Shared->Prop}(p:IsPart v o)(h:Q o s):wpAny (model prog w) A (Builtin.Slice.slicePartIndex v) Q E s:=by
 cases p with
 |none=>exact slicePart_none h
 |int i t=>exact slicePart_int h
theorem Oh{sl:Addr}{vl vu:Value}{lo hi:Option Int}{n:Nat}{Q:Int×Int×Nat->Shared->Prop}(hs:s.heap.IsSliceOf sl vl vu .none)(pl:IsPart vl lo)(pu:IsPart vu hi)
  (h:Q (((sIx n 0 lo:Nat):Int),1,sIx n n hi-sIx n 0 lo) s):wpAny (model prog w) A (Builtin.Slice.sliceApplied (.ref sl) (pure (n:Int))) Q E s:=by
 obtain⟨os,hos,hcs,hds⟩:=id hs
 unfold Builtin.Slice.sliceApplied Builtin.Slice.sliceFields
 refine U0 (U0 (U1t hos hds (x:=vl) rfl (U0 (U1t hos hds (x:=vu) rfl (U0 (U1t hos hds (x:=.none) rfl (U0f ?_)))))))
 refine U0 (slicePart_none ?_)
 show wpAny _ _ (if ((1:Int)==0)=true then _ else _) _ _ s
 rw[if_neg (by decide)]
 refine U0 (V4 pl (U0 (V4 pu (U0 (U0f ?_)))))
 show wpAny _ _ (match U5v lo hi 1 (n:Int) with|(lo,hi)=>pure (lo,(1:Int),U4o lo hi 1)) _ _ s
 rw[fH lo hi n]
 show wpAny _ _ (pure (((sIx n 0 lo:Nat):Int),(1:Int),U4o ((sIx n 0 lo:Nat):Int) ((sIx n n hi:Nat):Int) 1)) _ _ s
 rw[dU]
 exact U0f h
theorem lV(xs:Array Value)(i k:Nat):((U0n k).filterMap fun(m:Nat)=>xs[((i:Int)+(m:Int)*1).toNat]?).toArray=((xs.toList.drop i).take k).toArray:=by
 have e:(fun(m:Nat)=>xs[((i:Int)+(m:Int)*1).toNat]?)=fun m=>xs[i+m]?:=by
  funext m
  have:((i:Int)+(m:Int)*1).toNat=i+m:=by omega
  rw[this]
 rw[e]
 have:=pick_run xs i k
 rw[U48] at this
 have e2:((fun x=>xs[x]?)∘fun x=>i+x)=fun m=>xs[i+m]?:=rfl
 rw[e2] at this
 rw[this]
theorem Sd{t sl:Addr}{items:Array Value}{vl vu:Value}{lo hi:Option Int}{Q:Value->Shared->Prop}(ht:IsTup s.heap t items)(hs:s.heap.IsSliceOf sl vl vu .none)(pl:IsPart vl lo)(pu:IsPart vu hi)
  (hw:¬(sIx items.size 0 lo=0/\sIx items.size items.size hi=items.size))
  (h:Q (.ref s.heap.objs.size) { s with heap:=s.heap.push { cls:=.type "tuple",data:=.seq ((items.toList.drop (sIx items.size 0 lo)).take (sIx items.size items.size hi-sIx items.size 0 lo)).toArray } })
  (hsz:items.size<=sizeLine):wpAny (model prog w) A (getItem (.ref t) (.ref sl)) Q E s:=by
 have htake:sizeOk (.seq ((items.toList.drop (sIx items.size 0 lo)).take (sIx items.size items.size hi-sIx items.size 0 lo)).toArray):=by
  show((items.toList.drop (sIx items.size 0 lo)).take (sIx items.size items.size hi-sIx items.size 0 lo)).toArray.size<=sizeLine
  rw[U0m,U2t,U7b,U1r]
  omega
 have hj:sIx items.size items.size hi<=items.size:=vD _ _ (U0q _) hi
 obtain⟨os,hos,hcs,hds⟩:=id hs
 have hTs:s.TypeIs (.ref sl) "slice":=⟨os,hos,hcs⟩
 unfold getItem
 try with_reducible refine U2s ?_
 first|refine U0 (U0f ?_)|skip
 refine U0 (wpAny_sequenceKey ht.typeIs (by decide) ?_)
 refine U0 (wpAny_callSpecial?_slot (name:=U3a "__getitem__") ht.typeIs U20
  (U17 U20 ht.typeIs entry_tuple_getitem ?_ (args_tuple_getitem _ _)))
 show wpAny _ _ (Builtin.Tuple.tupleItemsOf (.ref t) >>= _) _ _ s
 refine U0 (tupleItemsOf_ ht ?_)
 refine U0 (U51 hTs ?_)
 rw[if_pos (by decide)]
 refine U0 (Oh hs pl pu ?_)
 have hno:¬((((sIx items.size 0 lo:Nat):Int)==0&&(1:Int)==1&&(sIx items.size items.size hi-sIx items.size 0 lo)==items.size)=true):=by
  intro q
  rw[U1e,U1e] at q
  have q1:((sIx items.size 0 lo:Nat):Int)=0:=eq_of_beq q.1.1
  have q2:sIx items.size items.size hi-sIx items.size 0 lo=items.size:=eq_of_beq q.2
  exact hw ⟨by omega,by omega⟩
 show wpAny _ _ (if (((sIx items.size 0 lo:Nat):Int)==0&&(1:Int)==1&&(sIx items.size items.size hi-sIx items.size 0 lo)==items.size)=true then _ else _) _ _ s
 rw[if_neg hno,lV]
 first
  |exact U0 (m:=U4u _) (U2g (U0f ⟨_,rfl,U0f h⟩) htake)
  |exact U0 (m:=U4u _) (U2g (U0 (U0f (U0f ⟨_,rfl,U0f h⟩))) htake)
  |exact U0 (U0 (m:=U4u _) (U2g (U0f (U0f ⟨_,rfl,U0f h⟩)) htake))
  |exact U0 (U0 (m:=U4u _) (U2g (U0f ⟨_,rfl,U0f h⟩) htake))
end
end HT
namespace L2
open PySem PySem.Spec PyProof.Rows
abbrev TO:=St->Hp->(Option Int->Hp->Prop)->Prop
def PO(X:Cx)(e:Option Expr)(t:TO):Prop :=
 ∀(pins:List (Addr×Obj))(s:Shared)(σ:St)(H:Hp)(Q:Option Int->Hp->Prop),Inv X pins σ H s->t σ H Q ->
  wpAny (model X.prog X.w) X.A (evalPart e X.env) (fun u s'=>∃o H',Inv X pins σ H' s'/\IsPart u o/\Q o H') X.xe s
def pN:TO:=fun _ H Q=>Q none H
def yJ(t:TE):TO:=fun σ H Q=>t σ H fun x H1=>∃i,x=.int i/\Q (some i) H1
theorem intsAre_of{ns:List Int}:∀{us:List Value},Vals (ns.map V.int) us->IntsAre us ns:=by
 induction ns with
 |nil=>intro us r;rw[U1m] at r;cases r;exact .nil
 |cons n ns ih =>
  intro us r
  rw[U0s] at r
  cases r with
  |cons r1 r2 =>
   obtain⟨t,e⟩:=r1
   subst e
   exact .cons n t (ih r2)
section
variable{X:Cx}{e:Expr}{te:TE}{lo hi:Option Expr}{tl th:TO}{pos p2:Pos}
theorem qQ:PO X none pN:=by
 intro pins s σ H Q I h
 rw[evalPart_none]
 exact U0f ⟨none,H,I,.none,h⟩
theorem qP(h:PE X e te):PO X (some e) (yJ te):=by
 intro pins s σ H Q I hw
 rw[evalPart_some]
 refine thn (h pins s σ H _ I hw) fun u s1 ⟨x,H1,I1,r1,q1⟩=>?_
 obtain⟨i,rfl,q⟩:=q1
 obtain⟨t,rfl⟩:=r1
 exact⟨some i,H1,I1,.int i t,q⟩
def SlR(X:Cx)(r:V->Option Int->Option Int->Hp->VK->Prop):Prop :=
 ∀(pins:List (Addr×Obj))(s:Shared)(σ:St)(H:Hp)(x:V)(v vl vu:Value)(lo hi:Option Int)(sl:Addr)(Q:VK),Inv X pins σ H s->RelV x v->s.heap.IsSliceOf sl vl vu .none->IsPart vl lo->IsPart vu hi->r x lo hi H Q ->
  ∃T id,typeLookup (.type T) "__getitem__"=pure (some (.builtin id))/\s.TypeIs v T/\wpAny (model X.prog X.w) X.A (getItem v (.ref sl)) (EP X pins σ Q) X.xe s
theorem SlR.or{r r':V->Option Int->Option Int->Hp->VK->Prop}(h:SlR X r)(h':SlR X r'):SlR X (fun x lo hi H Q=>r x lo hi H Q∨r' x lo hi H Q):=by
 intro pins s σ H x v vl vu lo hi sl Q I rx hs pl pu q
 rcases q with q|q
 .exact h pins s σ H x v vl vu lo hi sl Q I rx hs pl pu q
 .exact h' pins s σ H x v vl vu lo hi sl Q I rx hs pl pu q
def tSl(r:V->Option Int->Option Int->Hp->VK->Prop)(te:TE)(tl th:TO):TE:=fun σ H Q=>te σ H fun x H1=>tl σ H1 fun l H2=>th σ H2 fun u H3=>r x l u H3 Q
theorem lX{r:V->Option Int->Option Int->Hp->VK->Prop}(hr:SlR X r)(he:PE X e te)(hl:PO X lo tl)(hu:PO X hi th):PE X (.Subscript e (.Slice lo hi none p2) pos) (tSl r te tl th):=by
 intro pins s σ H Q I h
 refine Subscript_ (thn (he pins s σ H _ I h) fun v s1 ⟨x,H1,I1,r1,q1⟩=>?_)
 refine wpAny_Slice (thn (hl pins s1 σ H1 _ I1 q1) fun vl s2 ⟨l,H2,I2,pl,q2⟩=>thn (hu pins s2 σ H2 _ I2 q2) fun vu s3 ⟨u,H3,I3,pu,q3⟩=>?_)
 rw[evalPart_none]
 refine U0f ?_
 have I4:Inv X pins σ H3 { s3 with heap:=s3.heap.push { cls:=.type "slice",data:=.fields #[vl,vu,.none] } }:=I3.kept (t':=s3.toks) fun b ob q=>U0a _ q
 obtain⟨T,id,hT,ht,hg⟩:=hr pins { s3 with heap:=s3.heap.push { cls:=.type "slice",data:=.fields #[vl,vu,.none] } } σ H3 x v vl vu l u s3.heap.objs.size Q I4 r1 (U62 ..) pl pu q3
 show wpAny (model X.prog X.w) X.A (subscriptTail e (.Slice lo hi none p2) v (.ref s3.heap.objs.size)) (EP X pins σ Q) X.xe { s3 with heap:=s3.heap.push { cls:=.type "slice",data:=.fields #[vl,vu,.none] } }
 exact tail_any (ops:=[.ref s3.heap.objs.size,v]) ht hT hg (by with_unfolding_all rfl)
def Kv(xs:List V)(lo hi:Option Int):List V:=(xs.drop (HT.sIx xs.length 0 lo)).take (HT.sIx xs.length xs.length hi-HT.sIx xs.length 0 lo)
theorem T9(xs:List V)(lo hi:Option Int):(Kv xs lo hi).length<=xs.length:=by
 unfold Kv
 rw[U2t,U7b]
 omega
def zu(K:U0b):V->Option Int->Option Int->Hp->VK->Prop:=fun x lo hi H Q=>∃a xs,x=.ref a/\SqT K H a xs /\
 ¬(HT.sIx xs.length 0 lo=0/\HT.sIx xs.length xs.length hi=xs.length)/\∀p,H p=none->Q (.ref p) (upd H p (.tup (Kv xs lo hi)))
theorem uy:SlR X (zu X.K):=by
 intro pins s σ H x v vl vu lo hi sl Q I rx hs pl pu h
 obtain⟨a,xs,rfl,hx,hw,q⟩:=h
 cases rx
 obtain⟨its,r,ht,hz⟩:=I.tuple hx
 have hlen:its.toArray.size=xs.length:=by rw[U0m];exact r.length.symm
 refine⟨"tuple",_,U20.lookup,ht.typeIs,?_⟩
 refine HT.Sd ht hs pl pu (by rw[hlen];exact hw) ?_ (by rw[hlen];exact hz)
 rw[hlen]
 refine⟨.ref s.heap.objs.size,_,I.laid (t':=s.toks) (o:=.tup (Kv xs lo hi)) (fun b ob q=>U0a _ q) (U0q _) ?_,rfl,q _ (I.hok.fresh (U0q _))⟩
 exact⟨U1a (T9 xs lo hi) hz,_,(r.drop (HT.sIx xs.length 0 lo)).take (HT.sIx xs.length xs.length hi-HT.sIx xs.length 0 lo),U6k _ _⟩
def yR(K:U0b):R2:=fun x y H Q=>∃a b xs ys,x=.ref a/\y=.ref b/\SqT K H a xs/\SqT K H b ys/\xs≠[]/\xs.length+ys.length<=sizeLine /\
 (ys=[]->Q (.ref a) H)/\(ys≠[]->∀p,H p=none->Q (.ref p) (upd H p (.tup (xs++ys))))
theorem Vals.S7{xs:List V}{us:List Value}(r:Vals xs us):us=[]↔xs=[]:=by
 cases r with
 |nil=>simp
 |cons _ _=>simp
theorem qe:OpR X (binaryOp .Add) (yR X.K):=by
 intro pins s σ H x y v u Q I rx ry h
 obtain⟨a,b,xs,ys,rfl,rfl,ha,hb,hx,hz,q1,q2⟩:=h
 cases rx
 cases ry
 obtain⟨its,r1,p1,_⟩:=I.tuple ha
 obtain⟨its2,r2,p2,_⟩:=I.tuple hb
 refine HT.su p1 p2 (fun z=>hx (r1.S7.mp z)) (fun z=>⟨.ref a,H,I,rfl,q1 (r2.S7.mp z)⟩) (fun z=>?_) (by rw[←r1.length,←r2.length];exact hz)
 refine⟨.ref s.heap.objs.size,_,I.laid (t':=s.toks) (o:=.tup (xs++ys)) (fun b ob q=>U0a _ q) (U0q _) ?_,rfl,q2 (fun w=>z (r2.S7.mpr w)) _ (I.hok.fresh (U0q _))⟩
 exact⟨by rw[U0u];exact hz,_,r1.append r2,U6k _ _⟩
end
end L2
namespace L2
open PySem PySem.Spec PyProof.Rows
def ixN(n:Nat)(i:Int):Option Nat:=if 0<=i then (if i<n then some i.toNat else none) else if -(n:Int)<=i then some (i+n).toNat else none
def atI{α:Type}(xs:List α)(i:Int):Option α:=(ixN xs.length i).bind fun j=>xs[j]?
theorem bU{n:Nat}{i:Int}{j:Nat}(h:ixN n i=some j):seqIndex? i n=some j/\j<n/\-(n:Int)<=i/\i<n:=by
 unfold ixN at h
 by_cases h0:0<=i
 .rw[if_pos h0] at h
  by_cases h1:i<n
  .rw[if_pos h1] at h
   have e:i.toNat=j:=U06 h
   exact⟨by rw[seqIndex_of h0 h1,e],by omega,by omega,h1⟩
  .rw[if_neg h1] at h;cases h
 .rw[if_neg h0] at h
  by_cases h1:-(n:Int)<=i
  .rw[if_pos h1] at h
   have e:(i+n).toNat=j:=U06 h
   exact⟨by rw[seqIndex_neg (by omega) h1,e],by omega,h1,by omega⟩
  .rw[if_neg h1] at h;cases h
theorem W8{α:Type}{xs:List α}{i:Int}{v:α}(h:atI xs i=some v):∃j,seqIndex? i xs.length=some j/\xs[j]?=some v/\j<xs.length/\-(xs.length:Int)<=i/\i<xs.length:=by
 unfold atI at h
 cases e:ixN xs.length i with
 |none=>rw[e] at h;cases h
 |some j =>
  rw[e] at h
  obtain⟨h1,h2,h3,h4⟩:=bU e
  exact⟨j,h1,h,h2,h3,h4⟩
theorem Nm{α:Type}{xs:List α}{j:Nat}{v:α}(h:xs[j]?=some v):atI xs (j:Int)=some v:=by
 have hj:j<xs.length:=(U0i.mp h).1
 have e:ixN xs.length (j:Int)=some j:=by
  unfold ixN
  rw[if_pos (by omega),if_pos (by omega)];simp
 unfold atI;rw[e];exact h
theorem ZM{α:Type}(xs:List α)(v:α):atI (xs++[v]) (-1)=some v:=by
 have hl:(xs++[v]).length=xs.length+1:=by simp
 have e:ixN (xs++[v]).length (-1)=some xs.length:=by
  unfold ixN
  rw[hl,if_neg (by decide),if_pos (by omega)]
  congr 1
  omega
 unfold atI
 rw[e]
 show(xs++[v])[xs.length]?=some v
 simp
def SX(b:Expr):Prop:=∀o i,subscripted b false o i=operate [o,i] (getItem o i)
def IxR(X:Cx)(r:R2):Prop :=
 ∀(value slice:Expr)(pins:List (Addr×Obj))(s:Shared)(σ:St)(H:Hp)(x y:V)(v u:Value)(Q:VK),Inv X pins σ H s->RelV x v->RelV y u->r x y H Q ->
  subscripted slice false v u=operate [v,u] (getItem v u)->wpAny (model X.prog X.w) X.A (subscriptTail value slice v u) (EP X pins σ Q) X.xe s
def MtR(X:Cx)(id:String)(r:V->List V->Hp->VK->Prop):Prop :=
 ∀(pins:List (Addr×Obj))(s:Shared)(σ:St)(H:Hp)(x:V)(xs:List V)(v:Value)(us:List Value)(Q:VK),Inv X pins σ H s->RelV x v->Vals xs us->r x xs H Q ->
  wpAny (model X.prog X.w) X.A (call (.builtin id) (v::us)) (EP X pins σ Q) X.xe s
section
variable{X:Cx}{a b:Expr}{ta tb:TE}{pos:Pos}
theorem IxR.or{r r':R2}(h:IxR X r)(h':IxR X r'):IxR X (fun x y H Q=>r x y H Q∨r' x y H Q):=by
 intro value slice pins s σ H x y v u Q I rx ry q hs
 rcases q with q|q
 .exact h value slice pins s σ H x y v u Q I rx ry q hs
 .exact h' value slice pins s σ H x y v u Q I rx ry q hs
theorem yZ{r:R2}(hr:IxR X r)(ha:PE X a ta)(hb:PE X b tb)(hs:SX b):PE X (.Subscript a b pos) (tOp r ta tb):=by
 intro pins s σ H Q I h
 exact Subscript_ (cV ha hb I h fun v u s2 x y H2 I2 rx ry q=>hr a b pins s2 σ H2 x y v u Q I2 rx ry q (hs _ _))
def uV(K:U0b):R2:=fun x y H Q=>∃p xs i v,x=.ref p/\y=.int i/\SqL K H p xs/\atI xs i=some v/\Q v H
def uT(K:U0b):R2:=fun x y H Q=>∃p xs i v,x=.ref p/\y=.int i/\SqT K H p xs/\atI xs i=some v/\Q v H
def uU:R2:=fun x y H Q=>∃z i c,x=.str z/\y=.int i/\z.length<=sizeLine/\atI z.cps.toList i=some c/\Q (.str ⟨#[c]⟩) H
theorem rK:IxR X (uV X.K):=by
 intro value slice pins s σ H x y v u Q I rx ry h hs
 obtain⟨p,xs,i,z,rfl,rfl,hq,he,q⟩:=h
 cases rx
 obtain⟨t,rfl⟩:=ry
 obtain⟨its,r,pl,hz⟩:=I.list hq
 obtain⟨j,h1,h2,h3,h4,h5⟩:=W8 he
 obtain⟨w,ew,rw'⟩:=r.get h2
 have hl:=r.length
 have hn:=RD
 have fin:EP X pins σ Q w s:=⟨z,H,I,rw',q⟩
 by_cases h0:0<=i
 .have hj:i.toNat=j:=by
   rw[seqIndex_of h0 h5] at h1
   exact U06 h1
  exact item_listR pl.isList h0 (by omega) (by rw[hj];simpa using ew) fin hs
 .have hj:(i+(its.toArray.size:Int)).toNat=j:=by
   rw[seqIndex_neg (by omega) h4] at h1
   rw[U0m,←hl]
   exact U06 h1
  exact subscriptTail_builtinR (x:=w) pl.isList.typeIs slot_list_getitem.lookup
   (wpAny_getItem_list_neg (Q:=fun r s'=>r=w/\EP X pins σ Q r s') pl.isList (by omega) (by rw[U0m]<;>omega) (by omega) (by rw[hj];simpa using ew) ⟨rfl,fin⟩) hs
theorem wO:IxR X (uT X.K):=by
 intro value slice pins s σ H x y v u Q I rx ry h hs
 obtain⟨p,xs,i,z,rfl,rfl,hq,he,q⟩:=h
 cases rx
 obtain⟨t,rfl⟩:=ry
 obtain⟨its,r,pl,hz⟩:=I.tuple hq
 obtain⟨j,h1,h2,h3,h4,h5⟩:=W8 he
 obtain⟨w,ew,rw'⟩:=r.get h2
 have hl:=r.length
 have hn:=RD
 have fin:EP X pins σ Q w s:=⟨z,H,I,rw',q⟩
 exact subscriptTail_builtinR (x:=w) pl.typeIs slot_tuple_getitem.lookup
  (getItem_tuple (j:=j) (Q:=fun r s'=>r=w/\EP X pins σ Q r s') pl (by omega) (by omega) (by rw[U0m,←hl];exact h1) (by simpa using ew) ⟨rfl,fin⟩) hs
theorem wQ:IxR X uU:=by
 intro value slice pins s σ H x y v u Q I rx ry h hs
 obtain⟨z,i,c,rfl,rfl,hz,he,q⟩:=h
 obtain⟨t,rfl⟩:=rx
 obtain⟨t',rfl⟩:=ry
 obtain⟨j,h1,h2,h3,h4,h5⟩:=W8 he
 have hl:z.cps.toList.length=z.length:=by simp[Str.length]
 rw[hl] at h1 h4 h5
 have hn:=RD
 exact tail_any (typeIs_str s z t) slot_str_getitem.lookup (getItem_str (c:=c) (by
  have e1:decide (i < -(2^63:Int))=false:=decide_eq_false (by omega)
  have e2:decide (i≥2^63)=false:=decide_eq_false (by omega)
  rw[e1,e2,Bool.or_false]) (by rw[h1];simpa using h2) ⟨.str ⟨#[c]⟩,H,I.tok _,⟨_,rfl⟩,q⟩) hs
def rIx(K:U0b):R2:=fun x y H Q=>uV K x y H Q∨uT K x y H Q∨uU x y H Q
theorem Bk:IxR X (rIx X.K):=rK.or (wO.or wQ)
theorem eF(its:List Value)(n j:Nat)(u:Value):U2e (·.setIfInBounds j u) { cls:=.type "list",data:=.seq its.toArray n }={ cls:=.type "list",data:=.seq (its.set j u).toArray n }:=by
 simp[U2e]
theorem Inv.lst{pins:List (Addr×Obj)}{σ:St}{H:Hp}{s:Shared}{p:Addr}{xs:List V}(I:Inv X pins σ H s)(h:H p=some (.lst xs)) :
  ∃(its:List Value)(n:Nat),Vals xs its/\s.heap.get? p=some { cls:=.type "list",data:=.seq its.toArray n }/\xs.length<=sizeLine:=by
 obtain⟨z,its,n,r,e⟩:=I.hok p _ h
 exact⟨its,n,r,e,z⟩
theorem Inv.wC{pins:List (Addr×Obj)}{σ:St}{H:Hp}{s:Shared}{p:Addr}{xs ys:List V}{its its':List Value}{n n':Nat}{f:Obj->Obj}(I:Inv X pins σ H s)(h:H p=some (.lst xs))
  (ho:s.heap.get? p=some { cls:=.type "list",data:=.seq its.toArray n }) (hf:f { cls:=.type "list",data:=.seq its.toArray n }={ cls:=.type "list",data:=.seq its'.toArray n' }) (r:Vals ys its') (hz:ys.length<=sizeLine) (t:Nat) :
  Inv X pins σ (upd H p (.lst ys)) { s with heap:=s.heap.update p f,toks:=t }:=by
 have e:(s.heap.update p f).get? p=some { cls:=.type "list",data:=.seq its'.toArray n' }:=by
  rw[U2a f ho (by rw[hf]<;>rfl),hf]
 refine I.write (x:=p) (e:=p) (by rw[h];trivial) (.inl rfl) (fun b u hb q=>(U1i _ _ (U01 hb)).trans q) ⟨_,e⟩ ?_
 exact⟨hz,its',n',r,e⟩
def yP:V->V->V->Hp->(Hp->Prop)->Prop:=fun o i v H Q=>∃p xs k j,o=.ref p/\i=.int k/\H p=some (.lst xs)/\ixN xs.length k=some j/\Q (upd H p (.lst (xs.set j v)))
theorem set_list:uh X yP:=by
 intro pins s σ H o i v ov iv u Q I ro ri rv h
 obtain⟨p,xs,k,j,rfl,rfl,hp,hj,q⟩:=h
 cases ro
 obtain⟨t,rfl⟩:=ri
 obtain⟨its,n,r,ho,hz⟩:=I.lst hp
 obtain⟨h1,h2,h3,h4⟩:=bU hj
 have hl:=r.length
 have hn:=RD
 have I':Inv X pins σ (upd H p (.lst (xs.set j v))) { s with heap:=s.heap.update p (U2e (·.setIfInBounds j u)) } :=
  I.wC hp ho (eF its n j u) (r.set rv j) (by rw[U31];exact hz) s.toks
 by_cases h0:0<=k
 .have hk:k.toNat=j:=by
   rw[seqIndex_of h0 h4] at h1
   exact U06 h1
  exact PySem.W.ki_setAt ho h0 (by omega) (by rw[U0m,←hl];exact h4) (by rw[hk];exact⟨_,I',q⟩)
 .have hk:(k+(its.toArray.size:Int)).toNat=j:=by
   rw[seqIndex_neg (by omega) h3] at h1
   rw[U0m,←hl]
   exact U06 h1
  exact PySem.W.ki_setBack ho (by omega) (by rw[U0m,←hl];exact h3) (by omega) (by rw[hk];exact⟨_,I',q⟩)
theorem ZQ(lo hi:Option Int)(n:Nat):(sliceBounds lo hi none n).1=((HT.sIx n 0 lo:Nat):Int)/\(sliceBounds lo hi none n).2.1=((HT.sIx n n hi:Nat):Int)/\(sliceBounds lo hi none n).2.2=1:=by
 refine⟨?_,?_,rfl⟩
 .cases lo with
  |none=>simp[sliceBounds,HT.sIx]
  |some i =>
   simp only[sliceBounds,HT.sIx,Option.getD_none,show(1:Int)>0 by decide,if_true]
   by_cases h:i<0
   .simp only[h,if_true]<;>omega
   .simp only[h,if_false]<;>omega
 .cases hi with
  |none=>simp[sliceBounds,HT.sIx]
  |some i =>
   simp only[sliceBounds,HT.sIx,Option.getD_none,show(1:Int)>0 by decide,if_true]
   by_cases h:i<0
   .simp only[h,if_true]<;>omega
   .simp only[h,if_false]<;>omega
theorem Xd(its:List Value)(lo hi:Option Int):slicePick its.toArray lo hi none=((its.drop (HT.sIx its.length 0 lo)).take (HT.sIx its.length its.length hi-HT.sIx its.length 0 lo)).toArray:=by
 obtain⟨h1,h2,h3⟩:=ZQ lo hi its.toArray.size
 unfold slicePick
 rw[h1,h2,h3]
 simp only[sliceRange_one,pick_run,U0m]<;>rfl
def uN(K:U0b):V->Option Int->Option Int->Hp->VK->Prop:=fun x lo hi H Q=>∃a xs,x=.ref a/\SqL K H a xs/\∀p,H p=none->Q (.ref p) (upd H p (.lst (Kv xs lo hi)))
theorem pQ:SlR X (uN X.K):=by
 intro pins s σ H x v vl vu lo hi sl Q I rx hs pl pu h
 obtain⟨a,xs,rfl,hx,q⟩:=h
 cases rx
 obtain⟨its,r,ht,hz⟩:=I.list hx
 have hlen:=r.length
 refine⟨"list",_,slot_list_getitem.lookup,ht.isList.typeIs,?_⟩
 refine U52 ht.isList hs pl pu .none (by simp) ?_ (by rw[U0m]<;>omega)
 rw[Xd,←hlen]
 refine⟨.ref s.heap.objs.size,_,I.laid (t':=s.toks) (o:=.lst (Kv xs lo hi)) (fun b ob q=>U0a _ q) (U0q _) ?_,rfl,q _ (I.hok.fresh (U0q _))⟩
 exact⟨U1a (T9 xs lo hi) hz,_,0,(r.drop (HT.sIx xs.length 0 lo)).take (HT.sIx xs.length xs.length hi-HT.sIx xs.length 0 lo),U0p _ rfl⟩
theorem Et:Dc X (.builtin "len") (fun xs H Q=>∃p ys,xs=[.ref p]/\(SqL X.K H p ys∨SqT X.K H p ys)/\Q (.int ys.length) H):=by
 intro pins s σ H xs us Q I r h
 obtain⟨p,ys,rfl,hq,q⟩:=h
 obtain⟨u,rfl,rx⟩:=vals1 r
 cases rx
 have hn:=RD
 rcases hq with hq|hq
 .obtain⟨its,r',pl,hz⟩:=I.list hq
  have hlen:=r'.length
  exact Calls.call_len_list pl.isList (by simp only[U0m]<;>omega) ⟨.int ys.length,H,I.tok _,⟨s.toks+1,by rw[U0m,hlen]⟩,q⟩
 .obtain⟨its,r',pl,hz⟩:=I.tuple hq
  have hlen:=r'.length
  exact len_tuple pl (by simp only[U0m]<;>omega) ⟨.int ys.length,H,I.tok _,⟨s.toks+1,by rw[U0m,hlen]⟩,q⟩
theorem Dc.or{f:Value}{r r':List V->Hp->VK->Prop}(h:Dc X f r)(h':Dc X f r'):Dc X f (fun xs H Q=>r xs H Q∨r' xs H Q):=by
 intro pins s σ H xs us Q I rs q
 rcases q with q|q
 .exact h pins s σ H xs us Q I rs q
 .exact h' pins s σ H xs us Q I rs q
theorem Rp:Dc X (.type "list") (fun xs H Q=>∃p ys,xs=[.ref p]/\(SqL X.K H p ys∨SqT X.K H p ys)/\∀l,H l=none->Q (.ref l) (upd H l (.lst ys))):=by
 intro pins s σ H xs us Q I r h
 obtain⟨p,ys,rfl,hq,q⟩:=h
 obtain⟨u,rfl,rx⟩:=vals1 r
 cases rx
 have fin:∀(its:List Value),Vals ys its->ys.length<=sizeLine->∀(h':Heap)(c':Nat),(∀b o',s.heap.get? b=some o'->h'.get? b=some o') ->
   h'.get? s.heap.objs.size=some { cls:=.type "list",dict:=none,data:=.seq its.toArray c',slots:=#[] }->EP X pins σ Q (.ref s.heap.objs.size) { s with heap:=h' }:=fun its r' hz h' c' kp e =>
  ⟨.ref s.heap.objs.size,_,I.laid (t':=s.toks) kp (U0q _) (show Dz X.prog X.w _ h' _ (.lst ys) from ⟨hz,its,c',r',e⟩),rfl,q _ (I.hok.fresh (U0q _))⟩
 rcases hq with hq|hq
 .obtain⟨its,r',pl,hz⟩:=I.list hq
  have hlen:=r'.length
  obtain⟨o,ho,hc,n,hd⟩:=pl.isList
  exact call_list_seq p (.inl rfl) ho hc hd (fun h' c' kp e=>fin its r' hz h' c' kp e) (by simp only[U0m]<;>omega)
 .obtain⟨its,r',pl,hz⟩:=I.tuple hq
  have hlen:=r'.length
  obtain⟨o,ho,hc,n,hd⟩:=pl
  exact call_list_seq p (.inr rfl) ho hc hd (fun h' c' kp e=>fin its r' hz h' c' kp e) (by simp only[U0m]<;>omega)
theorem J5:Dc X (.type "tuple") (fun xs H Q=>∃p ys,xs=[.ref p]/\((SqL X.K H p ys/\∀l,H l=none->Q (.ref l) (upd H l (.tup ys)))∨(SqT X.K H p ys/\Q (.ref p) H))):=by
 intro pins s σ H xs us Q I r h
 obtain⟨p,ys,rfl,h⟩:=h
 obtain⟨u,rfl,rx⟩:=vals1 r
 cases rx
 rcases h with ⟨hq,q⟩|⟨hq,q⟩
 .obtain⟨its,r',pl,hz⟩:=I.list hq
  have hlen:=r'.length
  refine call_tuple_list pl.isList (fun h' kp=>?_) (by simp only[U0m]<;>omega)
  have I1:Inv X pins σ H { s with heap:=h' }:=I.kept (t':=s.toks) kp
  have I2:Inv X pins σ (upd H h'.objs.size (.tup ys)) { s with heap:=h'.push { cls:=.type "tuple",data:=.seq its.toArray } } :=
   I1.laid (t':=s.toks) (fun b o e=>U0a _ e) (U0q _) (show Dz X.prog X.w _ _ _ (.tup ys) from ⟨hz,its,r',U6k _ _⟩)
  exact⟨.ref h'.objs.size,_,I2,rfl,q _ (I1.hok.fresh (U0q _))⟩
 .obtain⟨its,r',pl,hz⟩:=I.tuple hq
  exact call_tuple_same pl ⟨.ref p,H,I,rfl,q⟩
def tyV(K:U0b)(T:String)(x:V)(H:Hp):Prop:=match x with
 |.str _=>T="str"
 |.int _=>T="int"
 |.ref p=>(T="list"/\∃xs,SqL K H p xs)∨(T="tuple"/\∃o,K.lookup p=some o/\o.cls=.type "tuple"/\o.dict=none) ∨
   (T="dict"/\((∃kvs,H p=some (.dK kvs))∨∃kvs,H p=some (.dT kvs)))∨(T="set"/\∃S n,H p=some (.set S n))
 |_=>False
theorem uw{pins:List (Addr×Obj)}{σ:St}{H:Hp}{s:Shared}{T:String}{x:V}{v:Value}(I:Inv X pins σ H s)(r:RelV x v)(ty:tyV X.K T x H) :
  s.TypeIs v T/\∀a,v=.ref a->∃ob,s.heap.get? a=some ob/\ob.dict=none:=by
 cases x with
 |str z =>
  obtain⟨t,rfl⟩:=r
  cases (show T="str" from ty)
  exact⟨typeIs_str s z t,fun _ e=>nomatch e⟩
 |int i =>
  obtain⟨t,rfl⟩:=r
  cases (show T="int" from ty)
  exact⟨typeIs_int s i t,fun _ e=>nomatch e⟩
 |ref p =>
  cases r
  rcases ty with ⟨rfl,xs,hq⟩|⟨rfl,o,hk,hc,hd⟩|⟨rfl,hk⟩|⟨rfl,S,n,hk⟩
  .obtain⟨its,_,pl,_⟩:=I.list hq
   refine⟨pl.isList.typeIs,fun a e=>?_⟩
   cases e
   obtain⟨o,n,e,c,hd,_⟩:=pl
   exact⟨o,e,hd⟩
  .refine⟨⟨o,I.kIn p o hk,hc⟩,fun a e=>?_⟩
   cases e
   exact⟨o,I.kIn _ o hk,hd⟩
  .have z:∃o,s.heap.get? p=some o/\o.ExactDict:=by
    rcases hk with ⟨kvs,hk⟩|⟨kvs,hk⟩
    .obtain⟨_,_,_,_,o,_,_,e,ex,_⟩:=I.hok p _ hk
     exact⟨o,e,ex⟩
    .obtain⟨_,_,_,_,o,_,_,e,ex,_⟩:=I.hok p _ hk
     exact⟨o,e,ex⟩
   obtain⟨o,e,ex⟩:=z
   refine⟨⟨o,e,ex.1⟩,fun a e2=>?_⟩
   cases e2
   exact⟨o,e,ex.2.1⟩
  .obtain⟨o,_,_,_,e,ex,_⟩:=I.hok p _ hk
   refine⟨⟨o,e,ex.1⟩,fun a e2=>?_⟩
   cases e2
   exact⟨o,e,ex.2.1⟩
 |_=>exact U4n ty
def tBM(K:U0b)(T:String)(r:V->List V->Hp->VK->Prop)(to:TE)(t:TA):TE:=fun σ H Q=>to σ H fun x H1=>tyV K T x H1/\t σ H1 fun xs H2=>r x xs H2 Q
variable{o e:Expr}{es:List Expr}{to:TE}{t:TA}{name:Str}{apos cpos:Pos}{T id:String}{r:V->List V->Hp->VK->Prop}
theorem yc(pa:PlainAttrs T)(slot:Slot T name id)(hty:typeOf (.builtin id)=pure (.type "method_descriptor"))(hm:MtR X id r)(ho:PE X o to)(ha:PA X (e::es) t)
  (hbase:attributeBase o name X.env (eval o X.env)=eval o X.env:=by rfl)
  (hfew:((backTo cpos (starEach (e::es) X.env)).all (fun x=>!x.1)&&(backToKw cpos (keywordEach [] X.env)).all (fun x=>x.1.isSome)
   && decide ((e::es).length+([]:List Keyword).length+(if ([]:List Keyword).isEmpty then 0 else 1)<30))=true:=by rfl)
  (hline:(apos.endLine==cpos.line)=true:=by rfl) (hs:starEach (e::es) X.env=(false,eval e X.env)::starEach es X.env:=by rfl) (hplain:(backTo cpos (starEach es X.env)).any (·.1)=false:=by rfl) :
  PE X (.Call (.Attribute o name apos) (e::es) [] cpos) (tBM X.K T r to t):=by
 intro pins s σ H Q I h
 refine wpAny_Call_method_late hbase hfew hline rfl (thn (ho pins s σ H _ I h) fun v s1 ⟨x,H1,I1,r1,ty,q1⟩=>?_)
 obtain⟨h1,h2⟩:=uw I1 r1 ty
 refine⟨T,id,pa,slot,hty,h1,h2,?_⟩
 have hA:=ha cpos pins s1 σ H1 _ I1 q1
 rw[hs] at hA ⊢
 refine Calls.callWith_builtin (by show(false||(backTo cpos (starEach es X.env)).any (·.1))=false;rw[hplain]<;>rfl) (Calls.evalArgs_plain ?_)
 exact thn hA fun us s2 ⟨vs,H2,I2,r2,q2⟩=>hm pins s2 σ H2 x vs v us Q I2 r1 r2 q2
/- xs.append(e), list.index on a module's tuple .. are MtR facts of 06m -/
end
end L2
namespace L2
open PySem PySem.Spec PyProof.Rows
def MtM(X:Cx)(id:String)(r:V->List V->Hp->VK->Prop):Prop :=
 ∀(pins:List (Addr×Obj))(s:Shared)(σ:St)(H:Hp)(x:V)(xs:List V)(v:Value)(us:List Value)(Q:VK),Inv X pins σ H s->RelV x v->Vals xs us->r x xs H Q ->
  wpAny (model X.prog X.w) X.A (call (.builtin id) (v::us)) (EP X pins σ Q) X.xe s
theorem Vals.one:∀{x:V} {us:List Value},Vals [x] us->∃u,us=[u]/\RelV x u
 |_,_,.cons r .nil=>⟨_,rfl,r⟩
theorem Vals.eraseIdx:∀{xs:List V} {us:List Value} (i:Nat),Vals xs us->Vals (xs.eraseIdx i) (us.eraseIdx i)
 |_,_,_,.nil=>.nil
 |_,_,0,.cons _ t=>t
 |_,_,i+1,.cons r t=>.cons r (Vals.eraseIdx i t)
theorem Vals.rep{xs:List V}{us:List Value}(h:Vals xs us):∀k:Nat,Vals (U05 k xs).flatten (U05 k us).flatten
 |0=>.nil
 |k+1=>by
  rw[U0r,U0r,U4k,U4k]
  exact Vals.append h (Vals.rep h k)
theorem Wo{α:Type}:∀(l:List α)(i:Nat),(l.eraseIdx i).length<=l.length
 |[],_=>U0q _
 |_::_,0=>U5a _
 |_::r,i+1=>Nat.succ_le_succ (Wo r i)
theorem foldl_rep(its:List Value):∀(k:Nat)(acc:List Value),
  U6l (fun x1 x2=>x1++x2) acc.toArray (U05 k its.toArray)=(acc++(U05 k its).flatten).toArray
 |0,acc=>by simp
 |k+1,acc=>by
  have e:acc.toArray++its.toArray=(acc++its).toArray:=by simp
  have e2:(acc++its)++(U05 k its).flatten=acc++(U05 (k+1) its).flatten:=by
   rw[U0r,U4k,U58]
  rw[←e2,←foldl_rep its k (acc++its),←e,U0r,U3d]
section
variable{X:Cx}{pins:List (Addr×Obj)}{σ:St}{H:Hp}{s:Shared}{l b:Addr}{xs ys zs:List V}
theorem Inv.jX{its its':List Value}{n:Nat}{f:Array Value->Array Value}{t':Nat}(I:Inv X pins σ H s)(hH:H l=some (.lst xs))
  (e:s.heap.get? l=some { cls:=.type "list",data:=.seq its.toArray n }) (hf:f its.toArray=its'.toArray) (hv:Vals ys its') (hz:ys.length<=sizeLine) :
  Inv X pins σ (upd H l (.lst ys)) { s with heap:=s.heap.update l (U2e f),toks:=t' }:=by
 have q:=PySem.IsL.update e f
 rw[hf] at q
 refine I.write (x:=l) (e:=l) (by rw[hH];exact trivial) (.inl rfl) (fun b' u hb hu=>(U1i s.heap (U2e f) (U01 hb)).trans hu) ⟨_,q⟩ ?_
 exact⟨hz,its',_,hv,q⟩
theorem Inv.uc{its:List Value}{t':Nat}(I:Inv X pins σ H s)(hv:Vals ys its)(hz:ys.length<=sizeLine) :
  Inv X pins σ (upd H s.heap.objs.size (.lst ys)) { s with heap:=s.heap.push { cls:=.type "list",data:=.seq its.toArray },toks:=t' } :=
 I.laid (fun _ _ q=>U0a _ q) (U0q _) ⟨hz,its,0,hv,U0p _ rfl⟩
theorem Inv.fresh(I:Inv X pins σ H s):H s.heap.objs.size=none:=I.hok.fresh (U0q _)
theorem Inv.TY(I:Inv X pins σ H s)(hH:H l=some (.lst xs)):xs.length<=sizeLine/\∃(its:List Value)(n:Nat),Vals xs its/\xs.length=its.length/\s.heap.get? l=some { cls:=.type "list",data:=.seq its.toArray n }:=by
 obtain⟨z,its,n,r,e⟩:=I.hok l _ hH
 exact⟨z,its,n,r,r.length,e⟩
theorem Yw{n:Nat}(h:n<=sizeLine):U4v n=false:=by
 unfold U4v
 exact decide_eq_false (by omega)
end
section
variable{X:Cx}
def bK:V->List V->Hp->VK->Prop:=fun x vs H Q=>∃l xs y,x=.ref l/\vs=[y]/\H l=some (.lst xs)/\xs.length<sizeLine/\Q .non (upd H l (.lst (xs++[y])))
theorem Ho:MtM X "list.append" bK:=by
 intro pins s σ H x vs v us Q I rx rv h
 obtain⟨l,xs,y,rfl,rfl,hH,hz,q⟩:=h
 cases rx
 obtain⟨u,rfl,ru⟩:=rv.one
 obtain⟨z,its,n,r,hl,e⟩:=I.TY hH
 refine call_meets F.slot_list_append ⟨_,e,rfl⟩ F.entry_list_append (F.args_list_append_2 _ _) (PySem.list_append l its.toArray n u (by rw[U0m];omega)) ⟨e,?_⟩
 refine⟨.non,_,I.jX (its':=its++[u]) hH e (by simp) (r.append (.cons ru .nil)) ?_,rfl,q⟩
 rw[U0u,U3v]
 omega
def bJ:V->List V->Hp->VK->Prop:=fun x vs H Q=>∃l b xs zs,x=.ref l/\vs=[.ref b]/\H l=some (.lst xs)/\H b=some (.lst zs)/\xs.length+zs.length<=sizeLine/\Q .non (upd H l (.lst (xs++zs)))
theorem j4:MtM X "list.extend" bJ:=by
 intro pins s σ H x vs v us Q I rx rv h
 obtain⟨l,b,xs,zs,rfl,rfl,hH,hB,hz,q⟩:=h
 cases rx
 obtain⟨u,rfl,ru⟩:=rv.one
 cases ru
 obtain⟨z,its,n,r,hl,e⟩:=I.TY hH
 obtain⟨z2,its2,n2,r2,hl2,e2⟩:=I.TY hB
 have hsz:its.toArray.size+its2.toArray.size<=sizeLine:=by rw[U0m,U0m];omega
 have hlong:¬(!its.toArray.isEmpty&&U4v (its.toArray.size+its2.toArray.size))=true:=by
  rw[Yw hsz,U6z]
  exact U1g
 refine call_meets F.slot_list_extend ⟨_,e,rfl⟩ F.entry_list_extend (F.args_list_extend_2 _ _)
  (AutoSeq1.list_extend_list_list_0 l its.toArray n b its2.toArray n2 hlong (by rw[U0m];omega) (by omega)) ⟨e,e2,?_⟩
 refine⟨.non,_,I.jX (its':=its++its2) hH e (by simp) (r.append r2) ?_,rfl,q⟩
 rw[U0u]
 omega
def fL:V->List V->Hp->VK->Prop:=fun x vs H Q=>∃l xs i k y,x=.ref l/\vs=[.int i]/\H l=some (.lst xs)/\-(2^63)<=i/\i<2^63/\seqIndex? i xs.length=some k/\xs[k]?=some y/\Q y (upd H l (.lst (xs.eraseIdx k)))
theorem mD:MtM X "list.pop" fL:=by
 intro pins s σ H x vs v us Q I rx rv h
 obtain⟨l,xs,i,k,y,rfl,rfl,hH,h1,h2,hk,hy,q⟩:=h
 cases rx
 obtain⟨u,rfl,ru⟩:=rv.one
 obtain⟨t,rfl⟩:=ru
 obtain⟨z,its,n,r,hl,e⟩:=I.TY hH
 obtain⟨w,hw,rw'⟩:=r.get hy
 refine call_meets F.slot_list_pop ⟨_,e,rfl⟩ F.entry_list_pop (F.args_list_pop_2 _ _)
  (MeetsSeq.list_pop_at l its.toArray n i t k w (fitsIndex_both h1 h2) (by rw[U0m,←hl];exact hk) (by rw[←U24];exact hw) (by rw[U0m];omega)) ⟨e,?_⟩
 refine⟨y,_,I.jX (its':=its.eraseIdx k) hH e ?_ (r.eraseIdx k) ?_,rw',q⟩
 .show its.toArray.eraseIdxIfInBounds k=(its.eraseIdx k).toArray
  rw[List.eraseIdxIfInBounds_toArray]
 .have:=Wo xs k
  omega
def uX:R2:=fun x y H Q=>∃l b xs zs,x=.ref l/\y=.ref b/\H l=some (.lst xs)/\H b=some (.lst zs)/\xs.length+zs.length<=sizeLine/\∀p,H p=none->Q (.ref p) (upd H p (.lst (xs++zs)))
theorem vm:OpR X (binaryOp .Add) uX:=by
 intro pins s σ H x y v u Q I rx ry h
 obtain⟨l,b,xs,zs,rfl,rfl,hH,hB,hz,q⟩:=h
 cases rx
 cases ry
 obtain⟨z,its,n,r,hl,e⟩:=I.TY hH
 obtain⟨z2,its2,n2,r2,hl2,e2⟩:=I.TY hB
 refine PySem.P.add_list e e2 ?_ (by rw[U0m,U0m];omega)
 have ea:its.toArray++its2.toArray=(its++its2).toArray:=by simp
 rw[ea]
 exact⟨.ref _,_,I.uc (t':=s.toks) (r.append r2) (by rw[U0u];omega),rfl,q _ I.fresh⟩
def uQ:R2:=fun x y H Q=>∃l k xs,x=.ref l/\y=.int k/\H l=some (.lst xs)/\-(2^63)<=k/\k<2^63/\xs.length*k.toNat<=sizeLine /\
 ∀p,H p=none->Q (.ref p) (upd H p (.lst (U05 k.toNat xs).flatten))
theorem len_rep{α:Type}(xs:List α)(k:Nat):(U05 k xs).flatten.length=k*xs.length:=by
 induction k with
 |zero=>simp
 |succ k ih=>rw[U0r,U4k,U0u,ih,U70,Nat.add_comm]
theorem vd:OpR X (binaryOp .Mult) uQ:=by
 intro pins s σ H x y v u Q I rx ry h
 obtain⟨l,k,xs,rfl,rfl,hH,h1,h2,hz,q⟩:=h
 cases rx
 obtain⟨t,rfl⟩:=ry
 obtain⟨z,its,n,r,hl,e⟩:=I.TY hH
 have hlen:its.toArray.size*k.toNat<=sizeLine:=by rw[U0m,←hl];exact hz
 have hcap:¬its.toArray.size*k.toNat>(2^63-1)/8:=by
  have:(sizeLine:Nat)<=(2^63-1)/8:=by decide
  omega
 have hfit:¬(!Builtin.List.listFitsIndex k)=true:=by
  rw[fitsIndex_both h1 h2]
  exact U1g
 have hlong:¬U4v (its.toArray.size*k.toNat)=true:=by
  rw[Yw hlen]
  exact U1g
 have hnew:U6l (fun x1 x2=>x1++x2) #[] (U05 (if its.toArray.isEmpty=true then 0 else k.toNat) its.toArray)=(U05 k.toNat its).flatten.toArray:=by
  have f0:∀m:Nat,U6l (fun x1 x2=>x1++x2) #[] (U05 m its.toArray)=(U05 m its).flatten.toArray:=fun m=>by
   have:=foldl_rep its m []
   rw[U1x] at this
   exact this
  rw[f0]
  cases its with
  |nil=>simp
  |cons a r'=>rw[if_neg (by simp)]
 refine wpAny_binaryOp_repeat_ref (T:="list") (U:="int") (by decide) ⟨_,e,rfl⟩ (fun s'=>typeIs_int s' k t) noFill_list_mul F.fills_int_mul F.slot_int_rmul repeat_list F.slot_int_index.lookup
  (call_meets F.slot_int_rmul (typeIs_int s k t) F.entry_int_rmul (F.args_int_rmul_2 _ _) (int___rmul___int_list k t l its.toArray n)
   ⟨e,rfl,⟨_,e,rfl⟩,call_meets F.slot_list_mul ⟨_,e,rfl⟩ F.entry_list_mul (F.args_list_mul_2 _ _) (AutoListH.list___mul___list_int_3 l its.toArray n k t hfit hcap hlong) ⟨e,?_⟩⟩)
 rw[hnew]
 exact⟨.ref _,_,I.uc (t':=s.toks) (r.rep k.toNat) (by rw[len_rep,U7c];exact hz),rfl,q _ I.fresh⟩
end
section
variable{prog:Program}{w:World}{A:Around}{E:Value->Shared->Prop}{s:Shared}
set_option maxRecDepth 100000 in
end
section
variable{X:Cx}
end
end L2
namespace Att
open PySem PySem.W PySem.Calls PyProof.Rows
theorem Vp{P:Params}{h:Heap}:∀(ns:List Int)(vs:List Value),WellAll P h vs (ns.map WData.int)->IntsAre vs ns:=by
 intro ns
 induction ns with
 |nil =>
  intro vs w
  rw[U1m] at w
  cases w
  exact .nil
 |cons n ns ih =>
  intro vs w
  rw[U0s] at w
  cases w with
  |cons a b =>
   cases a
   exact .cons _ _ (ih _ b)
theorem iJ{l:OpenLaw}{n:Nat}(hn:l.most=some n){P:Params}{h:Heap}{args:List WData}{vals:List Value}
  (hpre:l.row.toRowW.claim.pre args=true) (hwl:WellAll P h vals args) :
  ∃a vs ns,vals=[U2n a]/\args=[WData.list (ns.map WData.int)]/\h.get? a=some { cls:=.type "list",data:=.seq vs.toArray }/\IntsAre vs ns/\ns.length<=n:=by
 have hsh:WShape.hasAll [] args [.list .int]=true:=(pre_splitW hpre).1
 have hc:l.pre.holds [] { args:=args }=true:=(pre_splitW hpre).2
 obtain⟨d,r,rfl,h1,h2⟩:=hasAllW_cons hsh
 obtain rfl:=hasAllW_nil h2
 obtain⟨xs,rfl,h3⟩:=hasW_list h1
 obtain⟨ns,rfl⟩:=items_int h3
 have hlen:ns.length<=n:=by
  unfold OpenLaw.pre at hc
  have h4:(WTm.not (.lt (.lit (.int (n:Int))) (.len (.arg 0)))).holds [] { args:=[.list (ns.map .int)] }=true:=by
   have h4:=(holds_andW hc).1
   rw[hn] at h4
   exact h4
  have h5:=condW_of h4 (w_not (w_lt w_lit (w_len_list (w_arg rfl))))
  rw[U0k] at h5
  refine Nat.le_of_not_lt fun q=>?_
  have q':(n:Int)<((ns.length:Nat):Int):=by omega
  first
   |(rw[decide_eq_true q'] at h5;exact absurd h5 (by decide))
   |(simp at h5;omega)
 cases hwl with
 |cons w1 w2 =>
  cases w2
  cases w1 with
  |list ho hall=>exact⟨_,_,ns,rfl,rfl,ho,Vp ns _ hall,hlen⟩
theorem iT(l:OpenLaw)(args:List WData):l.row.toRowW.claim.post args (.bool true) args=true :=
 postW_of (r:=l.row.toRowW) (X:=(true==true))
  (show WShape.has [] (.bool true) .bool=true by first|rfl|decide|simp[WShape.has,WShape.arms,WShape.armsAll])
  (show(WTm.eq .res (.lit (.bool true))).value [] { args:=args,res:=some (.bool true),after:=args }=some (.bool (true==true)) from w_eq_bool (w_res rfl) w_lit) rfl
theorem eG{R:WRecords}{cl:Str->Option Addr}{h:Heap}{a:Addr}{ds:List WData}{as:List Addr}(r:ReadsAllW R cl h [.ref a] [.list ds] as)(lo:∀b∈as,(b==sysModules)=false):a≠sysModules:=by
 cases r with
 |cons r1 _ =>
  cases r1 with
  |list _ _ _ _=>exact fun z=>by have:=lo a (by simp);rw[z] at this;simp at this
theorem aW{l:OpenLaw}{n:Nat}{q:Program}{loose:List Str}{XP:(Str->Option Value)->Heap->Prop}{YP:World->Heap->Prop}{d:DefRec}
  (hn:l.most=some n) (hdf:d.params.defaults=[])
  (call:∀(w:World)(s₀ s₁:Shared)(mg mb:Str->Option Value)(fa:Addr)(o:Obj)(pm cd doc:Value)(a:Addr)(vs:List Value)(ns:List Int),
   Ground q loose [] XP w s₀ mg mb s₁.heap->YP w s₁.heap ->
   s₁.heap.get? fa=some o->o.data=.func (docDef d.name d.params d.body d.scope pm cd doc)->s₁.heap.CodeRec cd d.name->mg d.name=some (.ref fa) ->
   s₁.heap.get? a=some { cls:=.type "list",data:=.seq vs.toArray }->IntsAre vs ns->ns.length<=n->a≠sysModules->s₁.gens=#[] ->
   codeAny (model l.prog w) callerA (.call (.ref fa) ⟨[.ref a],[]⟩) (fun r s'=>r=.ok (.ret (.bool true))/\OldK s₁.heap s'.heap/\s'.os=s₁.os/\AllBare s'.gens) s₁) :
  WalkO q loose XP YP l.row.toRowW d [] (fun f vs=>U7w f vs):=by
 intro w s₀ s₁ mg mb G Y fa o pm cd doc dV kV ho hd hcd hD hmg hg args vals as hpre hlay hrd hwl hlo
 obtain rfl:dV=.none:=Dflts.none hD hdf
 obtain rfl:kV=.none:=Dflts.noKw hD
 obtain⟨a,vs,ns,rfl,rfl,hobj,hints,hlen⟩:=iJ hn hpre hwl
 refine enter_call (codeAny_mono (call w s₀ s₁ mg mb fa o pm cd doc a vs ns G Y ho (fd_plain hd) hcd hmg hobj hints hlen (eG hrd hlo) hg) fun r s' hq=>?_)
 obtain⟨rfl,h2,h3,h4⟩:=hq
 exact⟨.inl ⟨.bool true,.bool true,[],rfl,fun _=>rfl,.bool true,iT l _,fun _=>⟨U68,fun _ hm=>(nomatch hm)⟩⟩,h2,h3,h4⟩
section
variable{prog:Program}{w:World}{A:Around}{E:Value->Shared->Prop}{s:Shared}{K:Frag}
end
end Att
namespace L2
open PySem PySem.Spec PyProof.Rows
theorem RN:∀{vs:List Value} {ns:List Int},IntsAre vs ns->Vals (ns.map V.int) vs
 |_,_,.nil=>.nil
 |_,_,.cons n t h=>.cons ⟨t,rfl⟩ (RN h)
def Only(H:Hp):Prop:=∀b,H b=none∨∃o xs,H b=some (.frz o (.lst xs))
theorem mR{P:Program}{w:World}{K:U0b}{mg mb:Str->Option Value}{CX:CXT}{k:Nat}{fa a:Addr}{fd:FuncData}{x:Str}{sp:Sp}{s₁:Shared}{vs:List Value}{ns:List Int}
  (KX:K.In s₁.heap) (hns:s₁.heap.Ns mainGlobals mg) (hb:s₁.heap.Ns builtinsNs mb) (hbb:∀x:Str,x≠"__name__"->mb x=bootBuiltins x) (hlim:s₁.heap.NoLimit) (hg:s₁.gens=#[])
  (ha:s₁.heap.get? a=some { cls:=.type "list",data:=.seq vs.toArray }) (hi:IntsAre vs ns) (hl:ns.length<=sizeLine) (hasy:a≠sysModules) (hr:FW k callerA)
  (F:∀base:Heap,K.In base->base.Ns mainGlobals mg->Cv P w K mg base CX k fa fd [x] sp) (hbind:∀(s:Shared)(u:Value),BindsTo s fd ⟨[u],[]⟩ [(x,u)])
  (hsp:∀H:Hp,Only H->SqL K H a (ns.map V.int)->sp [.ref a] H (fun v _=>v=.bl true) fun _ _ _=>False)
  (hCX:∀H e s',CX [] H s₁ (fun _ _ _=>False) e s'->False) :
  codeAny (model P w) callerA (.call (.ref fa) ⟨[.ref a],[]⟩) (fun r s'=>r=.ok (.ret (.bool true))/\OldK s₁.heap s'.heap/\s'.os=s₁.os/\AllBare s'.gens) s₁:=by
 have rv:=RN hi
 have lenV:=hi.length
 -- from an abstract heap in which nothing but the script may be tracked
 have core:∀H:Hp,Only H->SqL K H a (ns.map V.int)->HOk P w H s₁.heap->(∀b,H b≠none->b=a)->(H a≠none->K.lookup a=none) ->
   codeAny (model P w) callerA (.call (.ref fa) ⟨[.ref a],[]⟩) (fun r s'=>r=.ok (.ret (.bool true))/\OldK s₁.heap s'.heap/\s'.os=s₁.os/\AllBare s'.gens) s₁:=by
  intro H hO hS hok hA hK
  have base_of:∀{b:Addr} {o:Obj},s₁.heap.get? b=some o->H b=none->(QJ s₁.heap H).get? b=some o:=fun e n=>nF e n
  have noA:∀{b:Addr} {o:Obj} {es:Array DictEntry} {ep:Nat},s₁.heap.get? b=some o->o.data=.dict es ep->H b=none:=fun {b o es ep} e d=>by
   cases q:H b with
   |none=>rfl
   |some u =>
    have e':b=a:=hA b (by rw[q];simp)
    subst e'
    rw[ha] at e;cases e
    have d':Data.seq vs.toArray _=Data.dict es ep:=d
    cases d'
  have nsK:∀{b:Addr} {m:Str->Option Value},s₁.heap.Ns b m->(QJ s₁.heap H).Ns b m:=fun {b m} ⟨o,es,ep,e,d,r⟩=>⟨o,es,ep,base_of e (noA e d),d,r⟩
  have hKb:K.In (QJ s₁.heap H):=fun b o e=>base_of (KX b o e) (by
   cases q:H b with
   |none=>rfl
   |some u =>
    have e':b=a:=hA b (by rw[q];simp)
    subst e'
    rw[hK (by rw[q];simp)] at e;cases e)
  have hM:Mod K mg (QJ s₁.heap H):=⟨hKb,nsK hns,⟨mb,nsK hb,hbb⟩,let ⟨mc,h1,h2⟩:=hlim;⟨mc,nsK h1,h2⟩⟩
  have e0:cg P w K mg (QJ s₁.heap H) callerA [] s₁ H:=⟨rfl,hM,fun b o e=>qm e,U71 (jD _ _),trivial,fun b hb=>absurd (show b∈([]:List Addr) from hb) (by simp),hok,.of_eq hg,Classical.byContradiction fun z=>hasy (hA _ z).symm⟩
  refine codeAny_mono ((F _ hKb (nsK hns)).run callerA [] s₁ H ⟨[.ref a],[]⟩ [.ref a] [.ref a] _ _ hr e0 (hbind s₁ (.ref a)) (.cons rfl .nil) (hsp H hO hS)) fun r s' h=>?_
  cases r with
  |error e=>exact(hCX H e s' h).elim
  |ok fl =>
   cases fl with
   |next=>exact U4n h
   |brk=>exact U4n h
   |cont=>exact U4n h
   |ret u =>
    obtain⟨v,H',os,bare,un,hok',r',q⟩:=h
    have q':v=.bl true:=q
    subst q'
    obtain rfl:u=U3y true:=r'
    refine⟨rfl,OldK.of_keep fun b o e=>?_,os,bare⟩
    cases q:H b with
    |none=>exact un.keep b o e q (by intro z;exact absurd (show b∈([]:List Addr) from z) (by simp)) (by simp)
    |some u =>
     rcases hO b with z|⟨ob,xs,z⟩
     .rw[q] at z;cases z
     .have z2:=un.frzs b ob _ z
      obtain⟨e1,_⟩:=hok b _ z
      obtain⟨e2,_⟩:=hok' b _ z2
      rw[e] at e1;cases e1
      exact e2
 cases hk:K.lookup a with
 |some o =>
  -- the script is one of the module's own objects
  have e:=KX a o hk
  rw[ha] at e
  cases e
  refine core (fun _=>none) (fun _=>.inl rfl) (.inr ⟨_,vs.toArray,_,hk,rfl,rfl,rfl,by rw[U0m,lenV];exact hl,by simpa using rv⟩) (fun b u z=>by have z':(none:Option HO)=some u:=z;cases z') (fun b z=>absurd rfl z) fun z=>absurd rfl z
 |none =>
  refine core (fun b=>if b=a then some (.frz { cls:=.type "list",data:=.seq vs.toArray } (.lst (ns.map V.int))) else none) (fun b=>?_) (.inl (.inr ⟨{ cls:=.type "list",data:=.seq vs.toArray },if_pos rfl⟩)) (fun b u z=>?_) (fun b z=>?_) fun _=>hk
  .by_cases hb:b=a
   .exact .inr ⟨_,_,if_pos hb⟩
   .exact .inl (if_neg hb)
  .by_cases hb:b=a
   .have z':=(if_pos hb).symm.trans z
    cases z'
    subst hb
    exact⟨ha,by rw[U0k];exact hl,vs,_,rv,ha⟩
   .have z':=(if_neg hb).symm.trans z
    cases z'
  .by_cases hb:b=a
   .exact hb
   .exact absurd (if_neg hb) z
end L2
namespace L2
open PySem PySem.Spec PyProof.Rows
abbrev KOf{K:U0b}{h:Heap}(_:K.In h):U0b:=K
theorem walk_of{l:U6m}{n k:Nat}{q:Program}{loose:List Str}{XP:(Str->Option Value)->Heap->Prop}{YP:World->Heap->Prop}{d:DefRec}{K:Params->U0b}{CX:World->CXT}{sp:World->Sp}{x:Str}
  (hn:l.most=some n) (hn2:n<=sizeLine) (hdf:d.params.defaults=[]) (hr:FW k callerA)
  (hY:∀(w:World)(h:Heap),YP w h->(K w.params).In h)
  (F:∀(w:World)(mg:Str->Option Value)(fa:Addr)(h:Heap),(K w.params).In h->h.Ns mainGlobals mg->mg d.name=some (.ref fa) ->
   ∃fd:FuncData,(∀(s:Shared)(u:Value),BindsTo s fd ⟨[u],[]⟩ [(x,u)]) /\
    ∀base:Heap,(K w.params).In base->base.Ns mainGlobals mg->Cv l.prog w (K w.params) mg base (CX w) k fa fd [x] (sp w))
  (hsp:∀(w:World)(H:Hp)(a:Addr)(ns:List Int),ns.length<=n->Only H->SqL (K w.params) H a (ns.map V.int)->sp w [.ref a] H (fun v _=>v=.bl true) fun _ _ _=>False)
  (hCX:∀(w:World)(H:Hp)(s:Shared)(e:Value)(s':Shared),CX w [] H s (fun _ _ _=>False) e s'->False) :
  U7y q loose XP YP l.row.toRowW d [] (fun f vs=>U7w f vs):=by
 refine Att.aW hn hdf fun w s₀ s₁ mg mb fa o pm cd doc a vs ns G Y ho hd hcd hmg hobj hints hlen hasy hg=>?_
 have KX:=hY w _ Y
 obtain⟨fd,hb,hF⟩:=F w mg fa _ KX G.T.g hmg
 exact mR KX G.T.g G.T.b G.T.builtins G.T.nolimit hg hobj hints (U1a hlen hn2) hasy hr hF hb (fun H hO hS=>hsp w H a ns hlen hO hS) fun H e s'=>hCX w H s₁ e s'
theorem jm{l:U6m}{n k:Nat}{q:Program}{loose:List Str}{XP:(Str->Option Value)->Heap->Prop}{YP:World->Heap->Prop}{d:DefRec}{K:Params->U0b}{CX:CXT}{sp:U0b->Sp}{x:Str}
  (hn:l.most=some n) (hn2:n<=sizeLine) (hdf:d.params.defaults=[]) (hr:FW k callerA)
  (hY:∀(w:World)(h:Heap),YP w h->(K w.params).In h)
  (F:∀(w:World)(mg:Str->Option Value)(fa:Addr)(h:Heap),(K w.params).In h->h.Ns mainGlobals mg->mg d.name=some (.ref fa) ->
   ∃fd:FuncData,(∀(s:Shared)(u:Value),BindsTo s fd ⟨[u],[]⟩ [(x,u)]) /\
    ∀base:Heap,(K w.params).In base->base.Ns mainGlobals mg->Cv l.prog w (K w.params) mg base CX k fa fd [x] (sp (K w.params)))
  (hsp:∀(K:U0b)(H:Hp)(a:Addr)(ns:List Int),ns.length<=n->Only H->SqL K H a (ns.map V.int)->sp K [.ref a] H (fun v _=>v=.bl true) fun _ _ _=>False)
  (hCX:∀(H:Hp)(s:Shared)(e:Value)(s':Shared),CX [] H s (fun _ _ _=>False) e s'->False) :
  U7y q loose XP YP l.row.toRowW d [] (fun f vs=>U7w f vs) :=
 walk_of (K:=K) (CX:=fun _=>CX) (sp:=fun w=>sp (K w.params)) hn hn2 hdf hr hY F (fun w H a ns h1 h2 h3=>hsp (K w.params) H a ns h1 h2 h3) fun _ H s e s'=>hCX H s e s'
end L2
/- THE LAST THEOREM (shape; LID, My.* are yours):
   My.Adr: a structure of the addresses that your layer names (classes, functions); My.Txt K t: a structure (Prop) of the equations over K;
   My.txt_mk : {K} {implicit addresses ..} (e1 : nsIn K mainGlobals "law" = some (some (.ref f))) (e2 : K.lookup f = some ⟨oc, od, .func (fnOf "law" "law" params body scope dV kV doc pm an cdv ct), sl⟩) (e3 : codeIn K cdv "law" = true) .. : ∃ t, My.Txt K t

set_option maxRecDepth 100000 in
set_option maxHeartbeats 0 in
theorem PySem.Challenge.cw_LID_holds : PySem.Challenge.rw_LID.Holds := by
  w_on; o_law; k_head; (case hw => w_witness2)
  k_fill
  refine L2.walk_of (l := PySem.Challenge.rw_LID) (n := 63) (k := 40) (x := "script") (CX := fun w => ..) (sp := fun _ => My.sp_law) rfl (by decide) rfl ⟨rfl, by decide, by decide⟩ (fun w h Y => PySem.W.kIn_of Y) ?F ?S ?C
  case F =>
    intro w mg fa h KX G hmg
    have T : ∃ t, My.Txt (L2.KOf KX) t := by
      dsimp only [L2.KOf]                          -- K must stand as «<heap const> w.params» for k_is
      refine' My.txt_mk ?e1 ?e2 ?e3 ..
      (case e1 => PySem.W.k_is)                    -- in the order: a name -> its address -> its object -> its parts
      (case e2 => PySem.W.k_is)
      ..
    obtain ⟨t, T⟩ := T
    have e0 := hmg.symm.trans (PySem.W.mg_of KX G T.law)
    cases e0                                       -- fa is the law's own address
    exact ⟨_, fun s u => .of_eq rfl, fun base kb nb => My.law_fn T kb nb⟩     -- if «.of_eq rfl» comes too early: refine' ⟨_, ?b, fun base kb nb => My.law_fn T kb nb⟩; exact fun s u => .of_eq rfl
  case S => exact fun w H a ns hl hO hS => ..
  case C => exact ..
(the tactic k_is has no namespace: write k_is) -/
namespace L2
open PySem PySem.Spec PyProof.Rows
def CN(s:Stmt):Arguments:=match s with
 |.FunctionDef _ a _ _ _ _ _ _ _ _=>a
 |_=>{ posonlyargs:=[],args:=[],vararg:=none,kwonlyargs:=[],kw_defaults:=[],kwarg:=none,defaults:=[] }
def Bt(s:Stmt):List Stmt:=match s with
 |.FunctionDef _ _ b _ _ _ _ _ _ _=>b
 |_=>[]
def Al(s:Stmt):Scope:=match s with
 |.FunctionDef _ _ _ _ _ _ sc _ _ _=>sc
 |_=>{ kind:=.function,names:=[],isGenerator:=false,isCoroutine:=false }
abbrev CX0:CXT:=fun _ _ _ _ _ _=>False
abbrev E0:XK:=fun _ _ _=>False
theorem yg{X:Cx}:Passes CX0 X E0:=fun _ _ _ _ _ _ _ h=>h.elim
structure Fun(K:U0b)(x qual:Str)(st:Stmt)(f:Addr)(fd:FuncData):Prop where
 ex:∃(oc:Value)(od:Option Addr)(kV doc pm:Value)(an:Option Addr)(cdv ct:Value)(osl:Array (Option Value)),
  fd=U1b x qual (CN st) (Bt st) (Al st) .none kV doc pm an cdv ct/\K.lookup f=some ⟨oc,od,.func fd,osl⟩/\U07 K cdv qual=true
 kp:U03 K (.ref f)=true
section
variable{P:Program}{w:World}{K:U0b}{mg:Str->Option Value}{base:Heap}
theorem Fun.ok{x qual:Str}{st:Stmt}{f:Addr}{fd:FuncData}{N ps:List Str}{k:Nat}{sp:Sp}(F:Fun K x qual st f fd)(S:CP N ps (Al st))(len:∀vs H Q E,sp vs H Q E->vs.length=ps.length)
  (hbody:∀(cdv:Value)(A:Around)(outer:List Env)(s:Shared)(H:Hp)(vs:List V)(Q:VK)(E:XK),FW k (A.deeper (envOfC qual (Al st) s.heap.objs.size f cdv))->sp vs H Q E ->
   ∃t,PSs (Qz CX0 P w K mg base N qual (Al st) f cdv A outer s H E).nox (Bt st) t/\t { nx:=fun _ H'=>Q .non H',rt:=Q } (start N vs) H):Cv P w K mg base CX0 (k+1) f fd ps sp:=by
 obtain⟨oc,od,kV,doc,pm,an,cdv,ct,osl,rfl,lk,hcd⟩:=F.ex
 refine zJ lk hcd S len fun A outer s H vs Q E hr hsp=>?_
 obtain⟨t,h,q⟩:=hbody cdv A outer s H vs Q E hr hsp
 exact⟨t,h.nox,q⟩
theorem Fun.binds{x qual:Str}{st:Stmt}{f:Addr}{fd:FuncData}{ps:List Str}(F:Fun K x qual st f fd)
  (h:∀(kV doc pm:Value)(an:Option Addr)(cdv ct:Value)(us:List Value),us.length=ps.length->bindArgs (U1b x qual (CN st) (Bt st) (Al st) .none kV doc pm an cdv ct) ⟨us,[]⟩=pure (ps.zip us)):Binds K fd ps []:=by
 obtain⟨oc,od,kV,doc,pm,an,cdv,ct,osl,rfl,lk,hcd⟩:=F.ex
 exact .all (h kV doc pm an cdv ct)
theorem DR{x qual:Str}{st:Stmt}{f:Addr}{oc:Value}{od an:Option Addr}{osl:Array (Option Value)}{kV doc pm cdv ct:Value}(l:K.lookup f=some ⟨oc,od,.func (U1b x qual (CN st) (Bt st) (Al st) .none kV doc pm an cdv ct),osl⟩)
  (c:U07 K cdv qual=true) (k:U03 K (.ref f)=true):Fun K x qual st f (U1b x qual (CN st) (Bt st) (Al st) .none kV doc pm an cdv ct):=⟨⟨oc,od,kV,doc,pm,an,cdv,ct,osl,rfl,l,c⟩,k⟩
end
theorem Wc{n:Nat}(h:n<=1000):n<sizeLine:=U53 h (by decide)
section
variable{X:Cx}
theorem pv(i:Nat){x:Str}{pos:Pos}(hN:X.N[i]?=some x:=by rfl)(hv:Vis X.env.scope x:=by first|exact U72 rfl|exact U7d (U72 rfl)|exact U7d (U7d rfl))(hd:(x==("__debug__":Str))=false:=by decide)
  (hcd:(x==("__classdict__":Str))=false:=by decide):PE X (.Name x pos) (uF i):=fP hN hv hd hcd
end
def Same(H H':Hp):Prop:=∀b o,H b=some o->H' b=some o
theorem Same.refl(H:Hp):Same H H:=fun _ _ h=>h
theorem Same.free{H H':Hp}(e:Same H H'){l:Addr}(h:H' l=Option.none):H l=Option.none:=by
 cases q:H l with
 |none=>rfl
 |some o =>
  rw[e l o q] at h
  cases h
end L2
end
section
namespace SetP
open PySem
def Kd(xs:Array Nat):Prop:=xs.toList.Pairwise (·<·)
theorem lJ:Kd #[]:=U68
theorem dR(n:Nat):Kd (Array.range n):=by
 unfold Kd
 rw[Array.toList_range]
 exact List.pairwise_lt_range
theorem Kd.lt{xs:Array Nat}(h:Kd xs){i k:Nat}(hik:i<k)(hk:k<xs.size):xs.getD i 0<xs.getD k 0:=by
 have q:=U5w.mp h i k (by rw[U1r];omega) (by rw[U1r];exact hk) hik
 rw[U28,U28,U2d (by omega),U2d hk]
 simpa using q
theorem Kd.le{xs:Array Nat}(h:Kd xs){i k:Nat}(hik:i<=k)(hk:k<xs.size):xs.getD i 0<=xs.getD k 0:=by
 rcases Nat.lt_or_eq_of_le hik with z|z
 .exact U2u (h.lt z hk)
 .rw[z];exact U0q _
theorem W6{xs:Array Nat}{j:Nat}(h:Kd xs):∀(fuel lo hi:Nat),lo<=hi->hi<=xs.size->hi-lo<=fuel->(∀i,i<lo->xs.getD i 0<j)->(∀i,hi<=i->i<xs.size->j<=xs.getD i 0) ->
  U5f xs j fuel lo hi<=xs.size/\(∀i,i<U5f xs j fuel lo hi->xs.getD i 0<j)/\∀i,U5f xs j fuel lo hi<=i->i<xs.size->j<=xs.getD i 0
 |0,lo,hi,h1,h2,h3,h4,h5=>by
  have e:lo=hi:=by omega
  subst e
  unfold U5f
  exact⟨h2,h4,h5⟩
 |fuel+1,lo,hi,h1,h2,h3,h4,h5=>by
  unfold U5f
  by_cases hlt:lo<hi
  .rw[if_pos hlt]
   have hm:(lo+hi)/2<hi:=by omega
   have hl:lo<=(lo+hi)/2:=by omega
   have e:xs.getD ((lo+hi)/2) j=xs.getD ((lo+hi)/2) 0:=by
    rw[U28,U28,U2d (by omega)]
    rfl
   dsimp only
   rw[e]
   by_cases hc:xs.getD ((lo+hi)/2) 0<j
   .rw[if_pos hc]
    exact W6 h fuel _ hi (by omega) h2 (by omega) (fun i hi'=>U53 (h.le (by omega) (by omega)) hc) h5
   .rw[if_neg hc]
    exact W6 h fuel lo _ (by omega) (by omega) (by omega) h4 (fun i hi' hs=>U1a (Nat.le_of_not_lt hc) (h.le hi' hs))
  .rw[if_neg hlt]
   have e:lo=hi:=by omega
   subst e
   exact⟨h2,h4,h5⟩
theorem Qo{xs:Array Nat}{j:Nat}(h:Kd xs):U1v xs j<=xs.size/\(∀i,i<U1v xs j->xs.getD i 0<j)/\∀i,U1v xs j<=i->i<xs.size->j<=xs.getD i 0:=by
 unfold U1v
 exact W6 h xs.size 0 xs.size (U3i _) (U0q _) (by omega) (fun i hi=>absurd hi (U7j _)) fun i h1 h2=>absurd h2 (by omega)
theorem Vi{xs:Array Nat}(h:Kd xs){i:Nat}(hi:i<xs.size):U1v xs (xs.getD i 0+1)=i+1:=by
 obtain⟨a,b,c⟩:=Qo (j:=xs.getD i 0+1) h
 generalize U1v xs (xs.getD i 0+1)=r at a b c
 rcases Nat.lt_trichotomy r (i+1) with z|z|z
 .have:=c i (by omega) hi;omega
 .exact z
 .have h1:=b (i+1) z
  have h2:xs.getD i 0<xs.getD (i+1) 0:=h.lt (U4w i) (by omega)
  omega
theorem Vh{xs:Array Nat}(h:Kd xs):U1v xs 0=0:=by
 obtain⟨a,b,c⟩:=Qo (j:=0) h
 generalize U1v xs 0=r at a b c
 cases r with
 |zero=>rfl
 |succ r=>exact absurd (b 0 (by omega)) (U7j _)
theorem Zt{xs:Array Nat}{j:Nat}(h:Kd xs)(hn:xs[U1v xs j]?≠some j):Kd (SetTable.insertAt xs (U1v xs j) j):=by
 obtain⟨a,b,c⟩:=Qo (j:=j) h
 unfold Kd
 rw[SetTable.toList_insertAt]
 generalize U1v xs j=p at a b c hn
 have getT:∀i,i<xs.size->xs.toList[i]?=some (xs.getD i 0):=fun i hi=>by
  rw[U24,U28,U2d hi];rfl
 refine U32.mpr ⟨h.sublist (List.take_sublist _ _),U13.mpr ⟨fun y hy=>?_,h.sublist (List.drop_sublist _ _)⟩,fun x hx y hy=>?_⟩
 .obtain⟨i,hi⟩:=U4e.mp hy
  rw[List.getElem?_drop] at hi
  have hlt:p+i<xs.size:=by
   have:=(U0i.mp hi).1
   rwa [U1r] at this
  rw[getT _ hlt] at hi
  have e:=U06 hi
  have h1:=c (p+i) (U1j _ _) hlt
  rw[←e]
  rcases Nat.lt_or_eq_of_le h1 with z|z
  .exact z
  .exfalso
   have hp:p<xs.size:=by omega
   have h2:=c p (U0q _) hp
   have h3:=h.le (U1j p i) hlt
   have h4:xs.getD p 0=j:=by omega
   apply hn
   have:=getT p hp
   rw[U24] at this
   rw[this,h4]
 .have hxj:x<j:=by
   obtain⟨i,hi⟩:=U4e.mp hx
   have hip:i<p:=by
    have:=(U0i.mp hi).1
    rw[U2t] at this;omega
   rw[List.getElem?_take_of_lt hip] at hi
   have hlt:i<xs.size:=by
    have:=(U0i.mp hi).1
    rwa [U1r] at this
   rw[getT _ hlt] at hi
   rw[←U06 hi]
   exact b i hip
  rcases U0o.mp hy with z|z
  .rw[z];exact hxj
  .obtain⟨i,hi⟩:=U4e.mp z
   rw[List.getElem?_drop] at hi
   have hlt:p+i<xs.size:=by
    have:=(U0i.mp hi).1
    rwa [U1r] at this
   rw[getT _ hlt] at hi
   rw[←U06 hi]
   exact U0w hxj (c (p+i) (U1j _ _) hlt)
def Off(t:SetTable)(j:Nat):Prop:=t.place[U1v t.place j]?≠some j
theorem Sv{t:SetTable}{j:Nat}(h:∀i,t.slot j≠.live i):Off t j:=fun e=>by
 apply h (U1v t.place j)
 unfold SetTable.slot
 dsimp only
 rw[e]
 simp
theorem RV{t:SetTable}{f:Nat->Int}{h:Int}{j:Nat}{d:Option Nat}:∀(fuel:Nat)(p:SetTable.Probe),(∀d,p.dummy=some d->Off t d)->U69 t f h fuel p=some (.empty j d)->Off t j/\∀d',d=some d'->Off t d'
 |0,_,_,e=>by unfold U69 at e;cases e
 |fuel+1,p,hp,e=>by
  unfold U69 at e
  cases hs:t.slot p.j with
  |empty =>
   rw[hs] at e
   have e':=U06 e
   cases e'
   exact⟨Sv (fun i z=>by rw[hs] at z;exact SetTable.Slot.noConfusion z),hp⟩
  |dummy =>
   rw[hs] at e
   refine RV fuel _ (fun d' hd=>?_) e
   have hd':(t.advance { p with dummy:=some p.j }).dummy=some p.j:=by
    unfold SetTable.advance;dsimp only;split<;>rfl
   rw[hd'] at hd
   cases hd
   exact Sv fun i z=>by rw[hs] at z;cases z
  |live i =>
   rw[hs] at e
   dsimp only at e
   split at e
   .cases e
   .refine RV fuel _ (fun d' hd=>hp d' ?_) e
    rw[←hd]
    unfold SetTable.advance
    split<;>rfl
theorem Ze{t:SetTable}{h:Int}{j:Nat}{b:Bool}(e:t.freeSlot h=some (j,b)):Off t j:=by
 unfold SetTable.freeSlot at e
 split at e
 .rename_i j' d q
  unfold U60 at q
  obtain⟨o1,o2⟩:=RV _ _ (fun d hd=>by unfold SetTable.probeStart at hd;cases hd) q
  have e':=U06 e
  cases d with
  |none=>cases e';exact o1
  |some d=>cases e';exact o2 _ rfl
 .cases e
def TabOk(L:Bool)(t:SetTable):Prop:=Kd t.place/\t.led=L
theorem TabOk.fresh(L:Bool)(f m:Nat):TabOk L (.fresh f m L):=⟨lJ,rfl⟩
theorem TabOk.standIn{L:Bool}{t:SetTable}(h:TabOk L t)(n:Nat):TabOk L (t.standIn n):=⟨dR n,h.2⟩
theorem TabOk.orStandIn{L:Bool}{t:SetTable}(h:TabOk L t)(n:Nat):TabOk L (t.orStandIn n):=by
 unfold SetTable.orStandIn
 split
 .exact h
 .exact h.standIn n
theorem TabOk.pH{L:Bool}{t:SetTable}(h:TabOk L t)(b:Bool):TabOk L { t with plain:=b }:=h
theorem eO{L:Bool}{t:SetTable}(h:TabOk L t)(es:Array (Int×Value))(k:Int)(x:Value):TabOk L (layNew t es k x).2.1:=by
 unfold layNew
 split
 .rename_i slot wasDummy q
  exact TabOk.orStandIn (t:=(t.put slot).1) ⟨Zt h.1 (Ze q),h.2⟩ _
 .exact h.standIn _
theorem Ti{α:Type}(g:Nat->Option α):∀l:List Nat,List.Sublist ((l.filterMap fun j=>(g j).map (j,·)).map (·.1)) l
 |[]=>List.Sublist.slnil
 |j::r=>by
  rw[U5n]
  cases hg:g j with
  |none=>exact(Ti g r).cons j
  |some a=>exact(Ti g r).cons_cons j
theorem ZV{L:Bool}{t:SetTable}(h:TabOk L t)(es:Array (Int×Value))(n:Nat):TabOk L (relayAll t es n).2.1:=by
 unfold relayAll
 split
 .rename_i t' order q
  dsimp only
  split
  .unfold SetTable.relaid SetTable.laid at q
   cases ho:SetTable.layClean (SetTable.sizeAbove n-1) (es.map (·.1)) with
   |none=>rw[ho] at q;cases q
   |some owner =>
    rw[ho] at q
    have q':=U06 q
    cases q'
    refine⟨?_,h.2⟩
    show U6e (·<·) (U73 _).toList
    exact List.pairwise_lt_range.sublist (Ti (fun j=>owner.getD j none) _)
  .exact h.standIn _
 .exact h.standIn _
end SetP
end
section
set_option maxRecDepth 100000
namespace SetP
open PySem PyProof.Rows
abbrev Ol(w:World):Bool:=!(w.params.followText "set-order")
structure SetT(prog:Program)(w:World)(h:Heap)(a:Addr)(ds:List Int):Prop where
 nd:ds.Nodup
 ex:∃o es ep t,h.get? a=some o/\o.ExactSet/\o.data=.set es ep t/\ElemsOf (intKind prog w) es.toList/\(∀k,decide (k∈ds)=true↔∃e∈es.toList,(intKind prog w).is k e.2=true) /\
  es.size<scanBound/\t.fits es.size=true/\es.size=ds.length/\TabOk (Ol w) t
def GZ(ds:List Int)(k:Int):List Int:=if k∈ds then ds else ds++[k]
theorem UW{ds:List Int}(h:ds.Nodup)(k:Int):(GZ ds k).Nodup:=by
 unfold GZ
 split
 .exact h
 .rename_i hk
  exact List.nodup_append.mpr ⟨h,by simp,fun a ha b hb=>by rw[U04] at hb;subst hb;rintro rfl;exact hk ha⟩
theorem Wn{ds:List Int}{k j:Int}:j∈GZ ds k↔j∈ds∨j=k:=by
 unfold GZ
 split
 .rename_i hk
  exact⟨.inl,fun z=>z.elim id fun e=>e ▸ hk⟩
 .rw[U12,U04]
theorem jR(ds:List Int)(k:Int):(GZ ds k).length<=ds.length+1:=by
 unfold GZ
 split
 .omega
 .rw[U0u,U3v];omega
section
variable{prog:Program}{w:World}{A:Around}{E:Value->Shared->Prop}{s:Shared}
theorem SetT.sameBut{h h':Heap}{a:Addr}{ds:List Int}(x:SetT prog w h a ds)(hs:∀o,h.get? a=some o->h'.get? a=some o):SetT prog w h' a ds:=by
 obtain⟨nd,o,es,ep,t,e,r⟩:=x
 exact⟨nd,o,es,ep,t,hs o e,r⟩
theorem SetT.stored{h:Heap}{a:Addr}{o:Obj}{es es':Array (Int×Value)}{ep:Nat}{t t':SetTable}{ds:List Int}(ho:h.get? a=some o)(hex:o.ExactSet)(hd:o.data=.set es ep t)(nd:ds.Nodup)
  (hel:ElemsOf (intKind prog w) es'.toList) (hm:∀k,decide (k∈ds)=true↔∃e∈es'.toList,(intKind prog w).is k e.2=true) (hb:es'.size<scanBound) (hf:t'.fits es'.size=true) (hn:es'.size=ds.length) (ht:TabOk (Ol w) t') :
  (h.update a (Obj.putSet es' t')).get? a=some { o with data:=.set es' (ep+1) t' }/\SetT prog w (h.update a (Obj.putSet es' t')) a ds:=by
 obtain⟨g,_⟩:=SetOf_store (knd:=intKind prog w) ho hex hd hel hm hb hf
 exact⟨g,nd,_,es',ep+1,t',g,hex,rfl,hel,hm,hb,hf,hn,ht⟩
theorem Xc{g:Bool->Sem Unit}(hg:∀(b:Bool)(s₁:Shared)(Q':Unit->Shared->Prop),Q' () s₁->wpAny (model prog w) A (g b) Q' E s₁)
  {a:Addr} {o:Obj} {es es1:Array (Int×Value)} {ep:Nat} {t t2:SetTable} {ds:List Int} (ho:s.heap.get? a=some o) (hex:o.ExactSet) (hd:o.data=.set es ep t) (nd:ds.Nodup)
  (hel:ElemsOf (intKind prog w) es1.toList) (hm:∀k,decide (k∈ds)=true↔∃e∈es1.toList,(intKind prog w).is k e.2=true) (hb:es1.size<scanBound) (hf:t2.fits es1.size=true) (hn:es1.size=ds.length) (ht:TabOk (Ol w) t2)
  {dummy:Bool} {R:Option Bool->Shared->Prop} (h:∀h',U0y a s.heap h'->SetT prog w h' a ds->R (some true) { s with heap:=h' }) :
  wpAny (model prog w) A (do
    storeSet a es1 t2
    if (!dummy&&t2.tooFull)=true then do
      g (relayAll t2 es1 (U4r es1.size)).2.2
      storeSet a (relayAll t2 es1 (U4r es1.size)).1 (relayAll t2 es1 (U4r es1.size)).2.1
      pure (some true)
     else pure (some true)) R E s:=by
 obtain⟨g1,T1⟩:=SetT.stored (prog:=prog) (w:=w) ho hex hd nd hel hm hb hf hn ht
 have sb1:=U1w s.heap a (Obj.putSet es1 t2)
 refine U0 (wpAny_storeSet_of ho hd ?_ (fits_of_scanBound hb))
 split
 .have p:=relayAll_perm t2 es1 (U4r es1.size)
  have f:=relayAll_fits t2 es1 (U4r es1.size)
  have tb:=ZV ht es1 (U4r es1.size)
  generalize relayAll t2 es1 (U4r es1.size)=RR at p f tb
  obtain⟨es2,t3,gave⟩:=RR
  have sz:es2.size=es1.size:=by simpa using p.length_eq
  have T2:=SetT.stored (prog:=prog) (w:=w) (es':=es2) (t':=t3) g1 hex rfl nd (hel.perm p) (fun k=>(hm k).trans ⟨fun⟨e,he,q⟩=>⟨e,p.mem_iff.mpr he,q⟩,fun⟨e,he,q⟩=>⟨e,p.mem_iff.mp he,q⟩⟩)
   (by rw[sz];exact hb) f (by rw[sz];exact hn) tb
  refine U0 (hg _ _ _ (U0 (wpAny_storeSet_of g1 rfl ?_ (fits_of_scanBound (by show es2.size<_;rw[sz];exact hb)))))
  exact U0f (h _ (sb1.trans (U1w _ a _)) T2.2)
 .exact U0f (h _ sb1 T1)
theorem aY{a:Addr}{ds:List Int}{k:Int}{t0:Tok}{Q:Bool->Shared->Prop}(hS:SetT prog w s.heap a ds)(room:ds.length+1<scanBound)
  (h:∀b h',U0y a s.heap h'->SetT prog w h' a (GZ ds k)->Q b { s with heap:=h' }):wpAny (model prog w) A (setAddHashed a (.int k t0) ((intKind prog w).hash k)) Q E s:=by
 obtain⟨nd,o,es,ep,t,ho,hex,hd,hel,hm,hb,hf,hn,ht⟩:=hS
 have hkey:(intKind prog w).is k (.int k t0)=true:=intKind_is prog w k t0
 have hsc:(U3f k t0).scannable=true:=rfl
 unfold setAddHashed setAddHashedIn
 refine U2s (U0 (U4l ho hd hf ?_))
 dsimp only
 rw[byScan_of hsc hb hel,if_pos rfl]
 unfold setAddByScan
 refine U0 (U0 (U39 (U0 (wpAny_setScan_of hkey ho hd hf hel ?_))))
 cases hr:List.findIdx? (fun e=>(intKind prog w).is k e.2) es.toList with
 |some j =>
  obtain⟨hj,hpj,_⟩:=List.findIdx?_eq_some_iff_getElem.mp hr
  have hk:k∈ds:=of_decide_eq_true ((hm k).mpr ⟨es.toList[j],U1f hj,hpj⟩)
  refine U0f (U0f ?_)
  have q:=h false s.heap (U0y.refl a s.heap) (by
   have e:GZ ds k=ds:=by unfold GZ;rw[if_pos hk]
   rw[e];exact⟨nd,o,es,ep,t,ho,hex,hd,hel,hm,hb,hf,hn,ht⟩)
  cases s;exact q
 |none =>
  have hk:k ∉ ds:=fun z=>by
   obtain⟨e,he,hp⟩:=(hm k).mp (decide_eq_true z)
   have q:=List.findIdx?_eq_none_iff.mp hr e he
   rw[hp] at q;cases q
  have eA:GZ ds k=ds++[k]:=by unfold GZ;rw[if_neg hk]
  have p:=layNew_perm t es ((intKind prog w).hash k) (.int k t0)
  have f:=layNew_fits t es ((intKind prog w).hash k) (.int k t0)
  have tb:=eO ht es ((intKind prog w).hash k) (.int k t0)
  generalize layNew t es ((intKind prog w).hash k) (.int k t0)=LL at p f tb
  obtain⟨es1,t1,dummy,gave⟩:=LL
  dsimp only at p f tb ⊢
  rw[Array.toList_push] at p
  have hel1:ElemsOf (intKind prog w) es1.toList:=(hel.push hkey hsc).perm p
  have sz:es1.size=(GZ ds k).length:=by
   have q:=p.length_eq
   rw[U1r,U0u,U3v,U1r] at q
   rw[q,eA,U0u,U3v,hn]
  have hm1:∀j,decide (j∈GZ ds k)=true↔∃e∈es1.toList,(intKind prog w).is j e.2=true:=fun j=>by
   rw[←mem_push_iff (S:=fun k'=>decide (k'∈ds)) hkey hm p j]
   simp only[decide_eq_true_eq,U5x,Wn]
  have hb1:es1.size<scanBound:=by rw[sz,eA,U0u,U3v];exact room
  refine U0 ?_
  have gw:∀(b:Bool)(s₁:Shared)(Q':Unit->Shared->Prop),Q' () s₁->wpAny (model prog w) A (match b with|true=>rule "set.scan.the-table-gave-way"|false=>pure ()) Q' E s₁:=fun b s₁ Q' q=>by
   cases b
   .exact U0f q
   .exact U39 q
  refine gw _ _ _ ?_
  split
  .refine U0 ?_
   rw[hashByValue_scannable 8 hsc]
   refine U0f (Xc gw ho hex hd (UW nd k) hel1 hm1 hb1 ?_ sz ?_ fun h' sb T=>U0f (h true h' sb T))
   .split
    .exact f
    .exact SetTable.fits_plain_off f
   .split
    .exact tb
    .exact tb.pH false
  .refine U0 (U0f ?_)
   rw[if_pos rfl]
   exact Xc gw ho hex hd (UW nd k) hel1 hm1 hb1 f sz tb fun h' sb T=>U0f (h true h' sb T)
end
end SetP
end
section
set_option maxRecDepth 100000
namespace SetP
open PySem PyProof.Rows
theorem X5:entryFor table "set.update.loop"=some Builtin.«set.update.loop»:=entryFor_of_tree (by kernel_rfl)
theorem RW:plainId "set.update.loop"=true:=by decide +kernel
def once(ns:List Int):List Int:=ns.foldl GZ []
theorem iw(ns:List Int)(k:Int):once (ns++[k])=GZ (once ns) k:=by unfold once;rw[U59];rfl
theorem O8:∀(ns:List Int),(once ns).Nodup/\(once ns).length<=ns.length/\∀j,j∈once ns↔j∈ns:=by
 intro ns
 have all:∀(ns ds:List Int),ds.Nodup->(ns.foldl GZ ds).Nodup/\(ns.foldl GZ ds).length<=ds.length+ns.length/\∀j,j∈ns.foldl GZ ds↔j∈ds∨j∈ns:=by
  intro ns
  induction ns with
  |nil=>intro ds h;exact⟨h,by simp,fun j=>by simp⟩
  |cons n r ih =>
   intro ds h
   obtain⟨a,b,c⟩:=ih (GZ ds n) (UW h n)
   refine⟨a,?_,fun j=>?_⟩
   .have:=jR ds n
    rw[U3d,U0j];omega
   .rw[U3d,c j,Wn,U0o]
    constructor
    .rintro((z|z)|z)
     .exact .inl z
     .exact .inr (.inl z)
     .exact .inr (.inr z)
    .rintro(z|z|z)
     .exact .inl (.inl z)
     .exact .inl (.inr z)
     .exact .inr z
 obtain⟨a,b,c⟩:=all ns [] List.nodup_nil
 exact⟨a,by rw[U1o,U7e] at b;exact b,fun j=>by rw[show once ns=ns.foldl GZ [] from rfl,c j];simp⟩
section
variable{prog:Program}{w:World}{A:Around}{E:Value->Shared->Prop}{s:Shared}
theorem jo{R:Result->Shared->Prop}{S I l:Addr}{items:Array Value}{ns:List Int}(hh:A.handled=none)(hi:IntsAre items.toList ns)(hb:items.size+1<scanBound)(hSI:S≠I)(hSl:S≠l)(hIl:I≠l) :
  ∀(k i:Nat)(s:Shared),items.size-i=k->i<=items.size->s.heap.IsListIter I l i->s.heap.IsList l items->SetT prog w s.heap S (once (ns.take i)) ->
   (∀h' tk,(∀b o,b≠S->b≠I->s.heap.get? b=some o->h'.get? b=some o)->SetT prog w h' S (once ns)->R (.ok (.ret .none)) { s with heap:=h',toks:=tk }) ->
   codeAny (model prog w) A (.builtin "set.update.loop" ⟨[.ref S,.ref I],[]⟩) R s:=by
 have hlen:items.size=ns.length:=by have:=hi.length;simpa using this
 intro k
 induction k with
 |zero =>
  intro i s hk hi' it il T hR
  have e:i=items.size:=by omega
  subst e
  refine codeAny_builtin X5 ?_
  rw[U3k RW _]
  show wpAny _ A.in1 (pyNext (.ref I) >>= _) _ _ s
  refine U0 (wpAny_pyNext_list_end hh it il (by simp) fun h' eb=>?_)
  show wpAny _ A.in1 (ret U2w) _ _ _
  refine U0f (hR h' s.toks (fun b o _ hbI q=>eb b o hbI q) ?_)
  rw[U6d (by omega)] at T
  exact T.sameBut fun o q=>eb S o hSI q
 |succ k ih =>
  intro i s hk hi' it il T hR
  have hlt:i<items.size:=by omega
  refine codeAny_builtin X5 ?_
  rw[U3k RW _]
  show wpAny _ A.in1 (pyNext (.ref I) >>= _) _ _ s
  refine U0 (wpAny_pyNext_list_item it il (x:=items[i]) (by simp[hlt]) fun h1 it1 sb1=>?_)
  have hn:i<ns.length:=by omega
  obtain⟨t0,hv⟩:∃t0,items[i]=.int ns[i] t0:=by
   have all:∀{vs:List Value} {ms:List Int},IntsAre vs ms->∀(j:Nat)(h1:j<vs.length)(h2:j<ms.length),∃t0,vs[j]=.int ms[j] t0:=by
    intro vs ms r
    induction r with
    |nil=>intro j h1;simp at h1
    |cons n t _ ih=>intro j h1 h2;cases j with
     |zero=>exact⟨t,rfl⟩
     |succ j=>exact ih j (by simpa using h1) (by simpa using h2)
   have q:=all hi i (by simpa using hlt) hn
   simpa using q
  rw[hv]
  show wpAny _ A.in1 (holding [U3f ns[i] t0] (setAdd S (.int ns[i] t0)) >>= _) _ _ _
  have T1:SetT prog w h1 S (once (ns.take i)):=T.sameBut fun o q=>(sb1.2 S hSI).trans q
  have il1:h1.IsList l items:=by
   obtain⟨o,ho,r⟩:=il
   exact⟨o,(sb1.2 l hIl.symm).trans ho,r⟩
  refine U0 (U2s ?_)
  unfold setAdd
  refine U2s (U0 ((intKind prog w).pyHash (k:=ns[i]) (intKind_is _ _ _ _) ?_))
  have room:(once (ns.take i)).length+1<scanBound:=by
   have q:=(O8 (ns.take i)).2.1
   rw[U2t] at q
   omega
  refine aY (s:={ s with heap:=h1,toks:=s.toks+1 }) T1 room fun b h2 sb2 T2=>?_
  have T2':SetT prog w h2 S (once (ns.take (i+1))):=by
   rw[List.take_succ_eq_append_getElem hn,iw];exact T2
  refine U0f ⟨plainId_quiet RW _,ih (i+1) _ (by omega) hlt ?_ ?_ T2' fun h' tk hk' T'=>?_⟩
  .obtain⟨o,ho,r⟩:=it1
   exact⟨o,(sb2.2 I hSI.symm).trans ho,r⟩
  .obtain⟨o,ho,r⟩:=il1
   exact⟨o,(sb2.2 l hSl.symm).trans ho,r⟩
  .exact hR h' tk (fun c o hcS hcI q=>hk' c o hcS hcI ((sb2.2 c hcS).trans ((sb1.2 c hcI).trans q))) T'
theorem yq(a:Value){Q₁:Value->Shared->Prop}
  (h:Q₁ (.ref s.heap.objs.size) { s with heap:=s.heap.push { cls:=.type "set",dict:=none,data:=.set #[] 0 (.fresh 0 0 (Ol w)) } }) :
  codeAny (model prog w) A (.call (.builtin "set.__new__") ⟨[.type "set",a],[]⟩) (wants Q₁ E) s:=by
 refine codeAny_of_tree ?_
 have hck:checkBuiltinCall "set.__new__" ⟨[.type "set",a],[]⟩=pure ():=by kernel_rfl
 show wpAny _ A.in1 (checkBuiltinCall "set.__new__" ⟨[.type "set",a],[]⟩ >>= fun _=>again (.builtin "set.__new__" ⟨[.type "set",a],[]⟩)) _ _ s
 rw[hck]
 refine U0 (U0f (U0f ⟨plainId_quiet F.plain_set_new _,codeAny_builtin F.entry_set_new ?_⟩))
 rw[U3k F.plain_set_new _]
 have hsub:=sub_set_self
 unfold Builtin.«set.__new__» Builtin.Frozenset.newClass
 obtain⟨hp,g,d,tk,os⟩:=s
 dsimp only
 wp_walk
 refine U4x (U0f ?_)
 simp only[newObj]
 exact U0 (wpAny_alloc (U0f (U0f h)))
theorem nA{M:Model}{self a:Value}{Q:Unit->Shared->Prop}(hT:s.TypeIs self "set")(hQ:Q () s):wpAny M A (checkBuiltinCall "set.__init__" ⟨[self,a],[]⟩) Q E s:=by
 simp only[checkBuiltinCall,kind_set_init,split_set_init,sig_set_init]
 refine U0 (U4y hT sub_set_self ?_)
 simp only[U5k,U2b,if_false]
 unfold Bind.checkArgs
 dsimp only
 refine U0 (m:=Bind.printed "set" true _ _) (printed_name (by decide) ?_)
 refine U0 (m:=Bind.printed "*" false _ _) (printed_star (self:=self) rfl hT fun short=>?_)
 have one:(if (U6.self==U6.none)=true then [self,a].length else [self,a].length-1)=1:=by
  have z:(U6.self==U6.none)=false:=by decide
  simp[z]
 rw[one]
 simp only[U1m]
 have z1:(U4i==U4i)=true:=by decide
 have z2:(U4i==U4.posOrKw)=false:=by decide
 have z3:(U4i==U4.varPos)=false:=by decide
 have fine:Bind.check ⟨.positional,"set","*",.self,[⟨"iterable",.posOnly,false⟩]⟩ "set" short 1 []=pure ():=by
  simp[Bind.check,Bind.checkCount,Bind.isPositional,z1,z2,z3]
 rw[fine]
 exact U0f hQ
set_option maxHeartbeats 3200000 in
theorem pW{l:Addr}{items:Array Value}{ns:List Int}{Q:Value->Shared->Prop}(hh:A.handled=none)(hl:s.heap.IsList l items)(hi:IntsAre items.toList ns)(hb:items.size+1<scanBound)
  (h:∀h' tk,(∀b o,s.heap.get? b=some o->h'.get? b=some o)->SetT prog w h' s.heap.objs.size (once ns)->Q (.ref s.heap.objs.size) { s with heap:=h',toks:=tk }) :
  wpAny (model prog w) A (call (.type "set") [.ref l]) Q E s:=by
 have hmade:=U4z.made
 have hsub:=U4z.sub
 have h1:=U4z.notType
 have h2:=U4z.canCreate
 have hct:checkTypeCall "set" ⟨[.ref l],[]⟩=pure ():=by kernel_rfl
 obtain⟨c,tl,hmro⟩:=U4z.mro
 refine wpAny_call (codeAny_of_tree ?_)
 show wpAny _ _ (callAny (.type "set") ⟨[.ref l],[]⟩) _ _ s
 refine U0f ⟨Code.quiet_builtin _ (by decide +kernel),codeAny_builtin F.entry_type_call ?_⟩
 rw[Around.under_plain (weight_type_call_type "set" [.ref l] []) rfl]
 repeat (any_goals (first|assumption|wp_step))
 refine codeAny_mono (yq (.ref l) (E:=E) (Q₁:=fun obj s₁=>obj=.ref s.heap.objs.size/\s₁={ s with heap:=s.heap.push { cls:=.type "set",dict:=none,data:=.set #[] 0 (.fresh 0 0 (Ol w)) } }) ⟨rfl,rfl⟩) fun r s₁ hr=>?_
 cases r with
 |error e=>exact hr
 |ok fl =>
  cases fl with
  |ret obj =>
   obtain⟨rfl,rfl⟩:=hr
   generalize hg1:s.heap.push { cls:=.type "set",dict:=none,data:=.set #[] 0 (.fresh 0 0 (Ol w)) }=g1
   have e1:g1.get? s.heap.objs.size=some { cls:=.type "set",dict:=none,data:=.set #[] 0 (.fresh 0 0 (Ol w)) }:=hg1 ▸ U0p _ rfl
   have k1:∀b o,s.heap.get? b=some o->g1.get? b=some o:=fun b o q=>hg1 ▸ U0a _ q
   have z1:g1.objs.size=s.heap.objs.size+1:=by rw[←hg1,U1n]
   have hT:U6f { s with heap:=g1 } (.ref s.heap.objs.size) "set":=⟨_,e1,rfl⟩
   have hli:=U4z.init.lookup
   have hbi:=U4z.init.bind (.ref s.heap.objs.size)
   repeat (any_goals (first|assumption|wp_step))
   refine codeAny_mono (codeAny_call_builtin (R:=wants (fun r s₂=>r=.none/\∃h' tk,s₂={ s with heap:=h',toks:=tk }/\(∀b o,s.heap.get? b=some o->h'.get? b=some o)/\SetT prog w h' s.heap.objs.size (once ns)) E)
    U4z.init.plain F.entry_set_init (nA hT ?_)) fun r₂ s₂ hr₂=>?_
   .obtain⟨ol,hol,hcl,nl,hdl⟩:=hl
    obtain⟨ocls,odict,odata,oslots⟩:=ol
    simp only at hcl hdl
    subst hcl hdl
    have q1:g1.get? l=some { cls:=.type "list",dict:=odict,data:=.seq items nl,slots:=oslots }:=k1 _ _ hol
    have il:g1.IsList l items:=⟨_,q1,rfl,nl,rfl⟩
    have hlS:l<s.heap.objs.size:=U0l hol
    have hs1:isSubtype (.type "list") (.type "set")=pure false:=by rw[isSubtype_type];kernel_rfl
    have hs2:isSubtype (.type "list") (.type "frozenset")=pure false:=by rw[isSubtype_type];kernel_rfl
    have hs3:(U3s "list"==U3s "dict")=false:=by decide
    unfold Builtin.«set.__init__» noKeywords Builtin.Frozenset.updateFrom
    generalize hPI:pyIter=PI
    wp_walk
    subst hPI
    refine U33 il (U0 (wpAny_runValue ?_))
    have n1:s.heap.objs.size≠g1.objs.size:=by rw[z1];exact U0x (U4w _)
    have n2:s.heap.objs.size≠l:=U1p hlS
    have n3:g1.objs.size≠l:=by rw[z1];exact U1p (U2y hlS)
    refine jo (l:=l) (items:=items) (by simpa using hh) hi hb n1 n2 n3 (items.size-0) 0 _ (by omega) (U3i _) ⟨_,U0p _ rfl,rfl,rfl⟩ ?_ ?_ ?_
    .obtain⟨o,ho,r⟩:=il
     exact⟨o,U0a _ ho,r⟩
    .refine⟨List.nodup_nil,_,#[],0,_,U0a _ e1,⟨rfl,rfl,rfl⟩,rfl,fun e he=>by simp at he,fun k=>by simp[once],by decide,by rfl,rfl,TabOk.fresh _ _ _⟩
    .intro h' tk hk T
     show wpAny _ _ _ _ _ _
     refine U0f ?_
     show wpAny _ _ (ret U2w) _ _ _
     refine U0f ⟨rfl,h',tk,rfl,fun b o q=>?_,T⟩
     have hb':=U0l q
     exact hk b o (U0x hb') (by rw[z1];exact U0x (U2y hb')) (U0a _ (k1 b o q))
   .cases r₂ with
    |error e=>exact hr₂
    |ok fl₂ =>
     cases fl₂ with
     |ret r =>
      obtain⟨rfl,h',tk,rfl,hk,T⟩:=hr₂
      repeat (any_goals (first|assumption|wp_step))
      exact h h' tk hk T
     |_=>exact hr₂.elim
  |_=>exact hr.elim
end
end SetP
end
section
set_option maxRecDepth 100000
namespace SetP
open PySem PyProof.Rows
theorem Qk{α:Type}:∀(l:List α)(i:Nat)(h:i<l.length),(l[i]::l.eraseIdx i).Perm l
 |[],i,h=>absurd h (by simp)
 |x::r,0,_=>U61 _
 |x::r,i+1,h=>(U4q.swap x _ _).trans (U7u x (Qk r i (by simpa using h)))
theorem Sq:∀{ds ns:List Int},ds.Nodup->(∀k,k∈ds->k∈ns)->ns.length<=ds.length->ns.Perm ds
 |[],ns,_,_,h=>by
  have e:ns=[]:=U38.mp (by simpa using h)
  rw[e]
 |d::r,ns,nd,sub,h=>by
  have hd:d∈ns:=sub d U0z
  have p:=List.perm_cons_erase hd
  obtain⟨h1,h2⟩:=U4d.mp nd
  refine p.trans (U7u d (Sq h2 (fun k hk=>?_) ?_))
  .have hne:k≠d:=fun e=>h1 (e ▸ hk)
   exact(List.mem_erase_of_ne hne).mpr (sub k (U0t _ hk))
  .rw[List.length_erase_of_mem hd]
   rw[U0j] at h
   omega
theorem bM{α:Type}(next:Nat->Nat):∀(fuel k:Nat)(left:List α)(out:Array α),left.length=fuel->(pickOrder.go next fuel k left out).toList.Perm (out.toList++left)
 |0,_,left,out,h=>by
  have e:left=[]:=U38.mp h
  subst e
  unfold pickOrder.go
  simp
 |fuel+1,k,left,out,h=>by
  unfold pickOrder.go
  have hi:next k%left.length<left.length:=Nat.mod_lt _ (by omega)
  rw[U0d hi]
  dsimp only
  refine(bM next fuel (k+1) _ _ (by rw[List.length_eraseIdx_of_lt hi];omega)).trans ?_
  rw[Array.toList_push,U58]
  exact U4q.append_left _ (Qk _ _ hi)
theorem iY{α:Type}(next:Nat->Nat)(xs:Array α):(pickOrder next xs).toList.Perm xs.toList:=by
 unfold pickOrder
 simpa using bM next xs.size 0 xs.toList #[] (by simp)
section
variable{M:Model}{A:Around}{E:Value->Shared->Prop}
theorem fC{src:Source}{n:Nat}{s:Shared}{Q:Nat->Shared->Prop}(hn:n≠0)(h:∀i d',i<n->Q i { s with drawn:=d' }):wpAny M A (choose src n) Q E s :=
 fun _ _ _=>⟨hn,h _ _ (Nat.mod_lt _ (Nat.pos_of_ne_zero hn))⟩
theorem Qw{α:Type}:∀(n:Nat)(xs:List α)(s:Shared)(Q:List α->Shared->Prop),xs.length<=n->(∀ys d',ys.Perm xs->Q ys { s with drawn:=d' })->wpAny M A (drawOrder n xs) Q E s
 |0,xs,s,Q,h,q=>by
  have e:xs=[]:=U38.mp (by omega)
  subst e
  unfold drawOrder
  exact U0f (q [] s.drawn (U61 _))
 |n+1,[],s,Q,h,q=>by
  unfold drawOrder
  exact U0f (q [] s.drawn (U61 _))
 |n+1,x::xs,s,Q,h,q=>by
  unfold drawOrder
  refine U0 (fC (by simp) fun i d' hi=>?_)
  rw[U0d hi]
  dsimp only
  refine U0 (Qw n _ _ _ (by rw[List.length_eraseIdx_of_lt hi];simp at h ⊢;omega) fun ys d'' p=>U0f (q _ d'' ?_))
  exact(U7u _ p).trans (Qk _ _ hi)
end
theorem Fg:Slot "set_iterator" "__next__" "set_iterator.__next__" :=
 .of (owner:="set_iterator") (n:="__next__") (by rw[typeLookup_type,builtinLookup_eq_fast];kernel_rfl) (by decide +kernel) (by decide +kernel) (by decide +kernel)
  (by first|exact .inl (by decide +kernel)|exact .inr (by decide +kernel)) (by rw[isSubtype_type];kernel_rfl)
theorem Oi:entryFor table "set_iterator.__next__"=some Builtin.«set_iterator.__next__»:=entryFor_of_tree (by kernel_rfl)
theorem Pb(a:Value):argsOk "set_iterator.__next__" ⟨[a],[]⟩:=by unfold argsOk;kernel_rfl
theorem WL:entryFor table "set.__iter__"=some Builtin.«frozenset.__iter__» :=
 entryFor_alias (id':="frozenset.__iter__") (by kernel_rfl) rfl (by decide +kernel) (by kernel_rfl)
def K6(first:Value)(i:Nat)(S:Addr)(n ep:Nat):Obj:={ cls:=.type "set_iterator",data:=.fields #[first,.int i 0,.ref S,.int n 0,.int ep 0] }
inductive Road (w:World) (h:Heap) (es:Array (Int×Value)) (ep:Nat) (t:SetTable) (S it T:Addr) (vs:List Value) (i:Nat):Value->Prop
 |text (k:Int):w.params.followText "set-order"=true->(∀(j:Nat),vs[j]?=((pickOrder (w.params.setOrder S ep) es)[j]?).map fun(e:Int×Value)=>e.2)->Road w h es ep t S it T vs i (.int k 0)
 |plain:w.params.followText "set-order"=false->(!t.plain&&decide (es.size>1))=false->TabOk true t->(∀(j:Nat),vs[j]?=(es[j]?).map fun(e:Int×Value)=>e.2)->Road w h es ep t S it T vs i (.int ((if i=0 then 0 else t.place.getD (i-1) 0+1:Nat):Int) 0)
 |drawn (ps:List Nat):T≠it->h.get? T=some { cls:=.type "tuple",data:=.seq (ps.map fun(p:Nat)=>rawInt p).toArray 0 }->(∀p∈ps,p<es.size)->(∀(j:Nat),vs[j]?=(ps[j]?).bind fun p=>(es[p]?).map fun(e:Int×Value)=>e.2)->Road w h es ep t S it T vs i (.ref T)
structure NK(w:World)(h:Heap)(it S T:Addr)(vs:List Value)(i:Nat):Prop where
 ne:it≠S
 ex:∃o es ep t first,h.get? S=some o/\o.data=.set es ep t/\t.fits es.size=true/\vs.length=es.size/\h.get? it=some (K6 first i S es.size ep)/\Road w h es ep t S it T vs i first
section
variable{prog:Program}{w:World}{A:Around}{E:Value->Shared->Prop}{s:Shared}
theorem NK.keep{h h':Heap}{it S T:Addr}{vs:List Value}{i:Nat}(x:NK w h it S T vs i)(k:∀b∈[it,S,T],∀o,h.get? b=some o->h'.get? b=some o):NK w h' it S T vs i:=by
 obtain⟨ne,o,es,ep,t,first,a,b,c,d,e,r⟩:=x
 refine⟨ne,o,es,ep,t,first,k S (by simp) _ a,b,c,d,k it (by simp) _ e,?_⟩
 cases r with
 |text k1 z1 z2=>exact .text k1 z1 z2
 |plain z1 z2 z3 z4=>exact .plain z1 z2 z3 z4
 |drawn ps z1 z2 z3 z4=>exact .drawn ps z1 (k T (by simp) _ z2) z3 z4
theorem wR{S:Addr}{ds:List Int}{Q:Value->Shared->Prop}(hS:SetT prog w s.heap S ds)
  (h:∀h' d' it T vs,(∀b o,s.heap.get? b=some o->h'.get? b=some o)->s.heap.objs.size<=it->(T=S∨s.heap.objs.size<=T)->NK w h' it S T vs 0->(∃ns,IntsAre vs ns/\ns.Perm ds)->Q (.ref it) { s with heap:=h',drawn:=d' }) :
  wpAny (model prog w) A (pyIter (.ref S)) Q E s:=by
 obtain⟨nd,o,es,ep,t,ho,hex,hd,hel,hm,hb,hf,hn,ht⟩:=hS
 have hT:s.TypeIs (.ref S) "set":=⟨o,ho,hex.1⟩
 have hlt:=U0l ho
 -- the members as ints
 have intsV:∀(l:List (Int×Value)),ElemsOf (intKind prog w) l->∃ns,IntsAre (l.map (·.2)) ns/\∀k,k∈ns↔∃e∈l,(intKind prog w).is k e.2=true:=by
  intro l
  induction l with
  |nil=>intro _;exact⟨[],.nil,fun k=>by simp⟩
  |cons e r ih =>
   intro he
   obtain⟨ns,a,b⟩:=ih he.tail
   obtain⟨⟨k0,hk0,_⟩,_⟩:=he.head
   obtain⟨t0,e0⟩:=Value.isInt_shape (show Value.isInt k0 e.2=true from hk0)
   refine⟨k0::ns,by rw[U0s,e0];exact .cons k0 t0 a,fun k=>?_⟩
   rw[U0o,b k]
   constructor
   .rintro(z|⟨e',he',q⟩)
    .exact⟨e,U0z,by rw[z];exact hk0⟩
    .exact⟨e',U0t _ he',q⟩
   .rintro⟨e',he',q⟩
    rcases U0o.mp he' with z|z
    .subst z;exact .inl ((intKind prog w).inj _ _ _ q hk0)
    .exact .inr ⟨e',z,q⟩
 -- any order of the members is the ints in some order
 have fin:∀(l:List (Int×Value)),l.Perm es.toList->∃ns,IntsAre (l.map (·.2)) ns/\ns.Perm ds:=fun l p=>by
  obtain⟨ns,a,b⟩:=intsV l (hel.perm p)
  refine⟨ns,a,?_⟩
  have hsub:ds ⊆ ns:=fun k hk=>(b k).mpr (by
   obtain⟨e,he,q⟩:=(hm k).mp (decide_eq_true hk)
   exact⟨e,p.mem_iff.mpr he,q⟩)
  have hle:ns.length<=ds.length:=by
   have q1:(l.map (·.2)).length=ns.length:=IntsAre.length a
   rw[U0k] at q1
   exact U71 (by rw[←q1,p.length_eq,U1r,hn])
  exact Sq nd (fun k hk=>hsub hk) hle
 refine U7 hT F.slot_set_iter (U17 F.slot_set_iter hT WL ?_ (F.args_set_iter_1 _))
 unfold Builtin.«frozenset.__iter__» Builtin.Frozenset.slot0 slotArgs
 simp only[U7f,U5k,U2b,↓reduceIte,bind_assoc,U1o,bne_self_eq_false]
 unfold Builtin.Frozenset.addrOf Builtin.Frozenset.sizeOf
 refine U0 (U0f ?_)
 try dsimp only
 refine U0 (U0f ?_)
 refine U0 (U0 (U6u ho hd hf (U0f ?_)))
 unfold setDrawn setsByText
 simp only[bind_assoc]
 refine U0 (U4l ho hd hf ?_)
 refine U0 (U4x ?_)
 refine U0 (U0f (U0 (U0f ?_)))
 show wpAny (model prog w) A.in1 (if (!(w.params.followText "set-order")&&(!t.plain&&decide (es.size>1)))=true then _ else _) _ _ s
 have len2:∀(ps:List Nat),ps.Perm (U0n es.size)->((ps.filterMap fun p=>es[p]?)).Perm es.toList/\∀(j:Nat),((ps.filterMap fun p=>es[p]?).map (·.2))[j]?=(ps[j]?).bind fun p=>(es[p]?).map fun(e:Int×Value)=>e.2:=fun ps p=>by
  refine⟨(p.filterMap _).trans (by rw[filterMap_getElem?_range]),?_⟩
  have all:∀(ps:List Nat),(∀p∈ps,p<es.size)->∀(j:Nat),((ps.filterMap fun p=>es[p]?).map (·.2))[j]?=(ps[j]?).bind fun p=>(es[p]?).map fun(e:Int×Value)=>e.2:=by
   intro ps
   induction ps with
   |nil=>intro _ j;simp
   |cons q r ih =>
    intro hq j
    have hq':q<es.size:=hq q U0z
    rw[U25 (b:=es[q]) (by simp[hq'])]
    cases j with
    |zero=>simp[hq']
    |succ j=>simpa using ih (fun p hp=>hq p (U0t _ hp)) j
  exact all ps fun q hq=>U1z.mp (p.mem_iff.mp hq)
 split
 .rename_i hc
  refine U0 (Qw es.size (U0n es.size) s _ (by simp) fun ps d' p=>?_)
  obtain⟨p1,p2⟩:=len2 ps p
  refine U0 (U2g ?_ ?_)
  .refine U0 (wpAny_setEpoch_of (U0a _ ho) hd hf ?_)
   refine U0 (U2g (U0f ⟨_,rfl,"set_iterator",_,⟨_,U0p _ rfl,rfl⟩,Fg.lookup,?_⟩))
   refine h _ d' _ s.heap.objs.size ((ps.filterMap fun p=>es[p]?).map (·.2)) (fun b o' e=>U0a _ (U0a _ e)) ?_ (.inr (U0q _)) ?_ (fin _ p1)
   .show s.heap.objs.size<=(s.heap.push _).objs.size
    rw[U1n];exact U5a _
   .refine⟨?_,o,es,ep,t,_,U0a _ (U0a _ ho),hd,hf,?_,U0p _ rfl,.drawn ps ?_ (U0a _ (U0p _ rfl)) (fun q hq=>U1z.mp (p.mem_iff.mp hq)) p2⟩
    .show(s.heap.push _).objs.size≠S
     rw[U1n];exact U1p (U2y hlt)
    .rw[U0k,p1.length_eq,U1r]
    .show s.heap.objs.size≠(s.heap.push _).objs.size
     rw[U1n];exact U0x (U4w _)
  .show _<=sizeLine
   rw[U0m,U0k,p.length_eq,U2z]
   exact fits_of_scanBound hb
 .rename_i hc
  refine U0 (U0f (U0 (wpAny_setEpoch_of ho hd hf ?_)))
  refine U0 (U2g (U0f ⟨_,rfl,"set_iterator",_,⟨_,U0p _ rfl,rfl⟩,Fg.lookup,?_⟩))
  by_cases ht':w.params.followText "set-order"=true
  .have pp:=iY (w.params.setOrder S ep) es
   have q:=h (s.heap.push (K6 (rawInt 0) 0 S es.size ep)) s.drawn s.heap.objs.size S ((pickOrder (w.params.setOrder S ep) es).toList.map (·.2)) (fun b o' e=>U0a _ e) (U0q _) (.inl rfl)
    ⟨U1p hlt,o,es,ep,t,_,U0a _ ho,hd,hf,by rw[U0k,pp.length_eq,U1r],U0p _ rfl,.text 0 ht' fun j=>by rw[U0v,U24]⟩ (fin _ pp)
   exact q
  .have hf':w.params.followText "set-order"=false:=by simpa using ht'
   have hL:Ol w=true:=by show(!_)=true;rw[hf'];rfl
   rw[hL] at ht
   have hdr:(!t.plain&&decide (es.size>1))=false:=by
    rw[hf'] at hc
    simpa using hc
   have q:=h (s.heap.push (K6 (rawInt 0) 0 S es.size ep)) s.drawn s.heap.objs.size S (es.toList.map (·.2)) (fun b o' e=>U0a _ e) (U0q _) (.inl rfl)
    ⟨U1p hlt,o,es,ep,t,_,U0a _ ho,hd,hf,by rw[U0k,U1r],U0p _ rfl,.plain hf' hdr ht fun j=>by rw[U0v,U24]⟩ (fin _ (U61 _))
   exact q
end
end SetP
end
section
set_option maxRecDepth 100000
namespace SetP
open PySem PyProof.Rows
section
variable{prog:Program}{w:World}{A:Around}{E:Value->Shared->Prop}{s:Shared}
theorem VB(first x:Value)(i:Nat)(S:Addr)(n ep:Nat):U35 (·.setIfInBounds 0 x) (K6 first i S n ep)=K6 x i S n ep:=rfl
theorem eV(first:Value)(i:Nat)(S:Addr)(n ep:Nat):U35 (·.setIfInBounds 1 (rawInt ((i:Int)+1))) (K6 first i S n ep)=K6 first (i+1) S n ep:=rfl
theorem Rf{S:Addr}{o:Obj}{es:Array (Int×Value)}{ep slot given:Nat}{t:SetTable}{Q:Option (Value×Nat)->Shared->Prop}(ho:s.heap.get? S=some o)(hd:o.data=.set es ep t)(hf:t.fits es.size=true)
  (z:w.params.followText "set-order"=true) (h:Q (((pickOrder (w.params.setOrder S ep) es)[given]?).map fun e=>(e.2,slot)) s):wpAny (model prog w) A (setNext S slot given ep) Q E s:=by
 unfold setNext
 refine U0 (U4l ho hd hf ?_)
 unfold setsByText
 refine U0 (U0 (U4x (U0f ?_)))
 show wpAny _ _ (if (w.params.followText "set-order")=true then _ else _) _ _ s
 rw[if_pos z]
 show wpAny _ _ (if (ep != ep)=true then _ else _) _ _ s
 rw[if_neg (by simp)]
 unfold setWalk
 refine U0 (U0 (U4l ho hd hf ?_))
 unfold setsByText
 refine U0 (U0 (U4x (U0f ?_)))
 show wpAny _ _ (if (w.params.followText "set-order")=true then _ else _) _ _ s
 rw[if_pos z]
 exact U0 (U4x (U0f (U0f h)))
theorem Qp{S:Addr}{o:Obj}{es:Array (Int×Value)}{ep slot given:Nat}{t:SetTable}{Q:Option (Value×Nat)->Shared->Prop}(ho:s.heap.get? S=some o)(hd:o.data=.set es ep t)(hf:t.fits es.size=true)
  (z:w.params.followText "set-order"=false) (z2:(!t.plain&&decide (es.size>1))=false) (z3:t.led=true)
  (h:Q (match es[U1v t.place slot]?,t.place[U1v t.place slot]? with|some (_,x),some j=>some (x,j+1)|_,_=>none) s):wpAny (model prog w) A (setNext S slot given ep) Q E s:=by
 unfold setNext
 refine U0 (U4l ho hd hf ?_)
 unfold setsByText
 refine U0 (U0 (U4x (U0f ?_)))
 show wpAny _ _ (if (w.params.followText "set-order")=true then _ else _) _ _ s
 rw[if_neg (by rw[z];simp)]
 show wpAny _ _ (if (!t.plain&&decide (es.size>1))=true then _ else _) _ _ s
 rw[if_neg (by rw[z2];simp)]
 refine U0 ?_
 show wpAny _ _ (if (!t.led&&!es.isEmpty)=true then _ else _) _ _ s
 rw[if_neg (by rw[z3];simp)]
 exact U0f (U0f h)
theorem eE{it S T:Addr}{vs:List Value}{i:Nat}{v:Value}{Q:Option Value->Shared->Prop}(x:NK w s.heap it S T vs i)(hv:vs[i]?=some v)
  (h:∀h',U0y it s.heap h'->NK w h' it S T vs (i+1)->Q (some v) { s with heap:=h' }):wpAny (model prog w) A (pyNext (.ref it)) Q E s:=by
 obtain⟨ne,o,es,ep,t,first,ho,hd,hf,hl,hi,r⟩:=x
 have hT:s.TypeIs (.ref it) "set_iterator":=⟨_,hi,rfl⟩
 unfold pyNext
 refine U0 (U4j (wpAny_callSpecial?_slot (name:=U3a "__next__") hT Fg (U17 Fg hT Oi ?_ (Pb _))))
 unfold Builtin.«set_iterator.__next__» slotArgs
 simp only[U7f,U5k,U2b,↓reduceIte,U1o,bne_self_eq_false]
 refine U0 (U0f ?_)
 refine U0 (wpAny_fieldsOf hi rfl ?_)
 show wpAny _ _ (setEntries S >>= _) _ _ s
 refine U0 (U6u ho hd hf ?_)
 show wpAny _ _ (if ((es.size:Int) != (es.size:Int))=true then _ else _) _ _ s
 rw[if_neg (by simp)]
 have lt:i<vs.length:=(U0i.mp hv).1
 have upd1:∀{h1:Heap} {f1:Value},h1.get? it=some (K6 f1 i S es.size ep)->(h1.update it (U35 (·.setIfInBounds 1 (rawInt ((i:Int)+1))))).get? it=some (K6 f1 (i+1) S es.size ep):=fun {h1 f1} e=>by
  rw[←eV f1 i S es.size ep];exact U2a _ e rfl
 have upd0:∀{h1:Heap} {f1 y:Value},h1.get? it=some (K6 f1 i S es.size ep)->(h1.update it (U35 (·.setIfInBounds 0 y))).get? it=some (K6 y i S es.size ep):=fun {h1 f1 y} e=>by
  rw[←VB f1 y i S es.size ep];exact U2a _ e rfl
 cases r with
 |text k z1 z2 =>
  show wpAny _ _ (setNext S k.toNat i ep >>= _) _ _ s
  refine U0 (Rf ho hd hf z1 ?_)
  have q:=z2 i
  rw[hv] at q
  cases hp:(pickOrder (w.params.setOrder S ep) es)[i]? with
  |none=>rw[hp] at q;cases q
  |some e =>
   rw[hp] at q
   have q':v=e.2:=U06 q
   subst q'
   refine U0 (U3b hi rfl (by simp) (U0 (U3b (upd0 hi) rfl (by simp) (U0f ⟨_,rfl,U0f (h _ ((U1w ..).trans (U1w ..)) ⟨ne,o,es,ep,t,_,?_,hd,hf,hl,upd1 (upd0 hi),.text _ z1 z2⟩)⟩))))
   rw[U1i _ _ ne,U1i _ _ ne];exact ho
 |plain z1 z2 z3 z4 =>
  show wpAny _ _ (setNext S (Int.toNat ((if i=0 then 0 else t.place.getD (i-1) 0+1:Nat):Int)) i ep >>= _) _ _ s
  rw[U3c]
  refine U0 (Qp ho hd hf z1 z2 z3.2 ?_)
  have psz:t.place.size=es.size:=by
   have q:=hf
   simp only[SetTable.fits,U1e,beq_iff_eq] at q
   exact q.1
  have hb:U1v t.place (if i=0 then 0 else t.place.getD (i-1) 0+1)=i:=by
   cases i with
   |zero=>rw[if_pos rfl];exact Vh z3.1
   |succ i=>rw[if_neg (by omega)];exact Vi z3.1 (by omega)
  rw[hb]
  have q:=z4 i
  rw[hv] at q
  have hie:i<es.size:=by omega
  have hip:i<t.place.size:=by omega
  rw[U2d hie] at q ⊢
  rw[U2d hip]
  have q':v=es[i].2:=U06 q
  subst q'
  show wpAny _ _ (setField (.ref it) 0 (rawInt ((t.place[i]+1:Nat):Int)) >>= _) _ _ s
  refine U0 (U3b hi rfl (by simp) (U0 (U3b (upd0 hi) rfl (by simp) (U0f ⟨_,rfl,U0f (h _ ((U1w ..).trans (U1w ..)) ⟨ne,o,es,ep,t,_,?_,hd,hf,hl,upd1 (upd0 hi),?_⟩)⟩))))
  .rw[U1i _ _ ne,U1i _ _ ne];exact ho
  .have e:t.place[i]=t.place.getD (i+1-1) 0:=by
    rw[U28,Nat.add_sub_cancel,U2d hip];rfl
   have rr:∀hp:Heap,Road w hp es ep t S it T vs (i+1) (.int ((t.place[i]+1:Nat):Int) 0):=fun hp=>by
    have r1:Road w hp es ep t S it T vs (i+1) (.int ((if i+1=0 then 0 else t.place.getD (i+1-1) 0+1:Nat):Int) 0):=.plain z1 z2 z3 z4
    rw[if_neg (by omega),←e] at r1
    exact r1
   exact rr _
 |drawn ps z1 z2 z3 z4 =>
  show wpAny _ _ (seqItems? (.ref T) >>= _) _ _ s
  refine U0 (U15 z2 rfl ?_)
  have q:=z4 i
  rw[hv] at q
  cases hp:ps[i]? with
  |none=>rw[hp] at q;cases q
  |some p =>
   rw[hp] at q
   have hlt:p<es.size:=z3 p (U1h hp)
   have q2:some v=(es[p]?).map fun(e:Int×Value)=>e.2:=q
   rw[U2d hlt] at q2
   have q':v=es[p].2:=U06 q2
   subst q'
   have hg:((ps.map fun(p:Nat)=>rawInt p).toArray)[i]?=some (rawInt p):=by
    rw[U4f,U0v,hp];rfl
   show wpAny _ _ (match ((ps.map fun(p:Nat)=>rawInt p).toArray)[(i:Int).toNat]? with|some (.int place _)=>_|some _=>_|none=>_) _ _ s
   rw[U3c,hg]
   show wpAny _ _ (setNextDrawn S p ep >>= _) _ _ s
   unfold setNextDrawn
   refine U0 (U0 (U4l ho hd hf ?_))
   show wpAny _ _ (if (ep != ep)=true then _ else _) _ _ s
   rw[if_neg (by simp)]
   dsimp only
   rw[U2d hlt]
   refine U0f ?_
   refine U0 (U3b hi rfl (by simp) (U0f ⟨_,rfl,U0f (h _ (U1w ..) ⟨ne,o,es,ep,t,_,?_,hd,hf,hl,upd1 hi,.drawn ps z1 ?_ z3 z4⟩)⟩))
   .rw[U1i _ _ ne];exact ho
   .rw[U1i _ _ z1.symm];exact z2
theorem iz{it S T:Addr}{vs:List Value}{Q:Option Value->Shared->Prop}(hh:A.handled=none)(x:NK w s.heap it S T vs vs.length)
  (h:∀h',U5b it s.heap h'->Q none { s with heap:=h' }):wpAny (model prog w) A (pyNext (.ref it)) Q E s:=by
 obtain⟨ne,o,es,ep,t,first,ho,hd,hf,hl,hi,r⟩:=x
 have hT:s.TypeIs (.ref it) "set_iterator":=⟨_,hi,rfl⟩
 unfold pyNext
 refine U0 (U4j (wpAny_callSpecial?_slot (name:=U3a "__next__") hT Fg (U17 Fg hT Oi ?_ (Pb _))))
 unfold Builtin.«set_iterator.__next__» slotArgs
 simp only[U7f,U5k,U2b,↓reduceIte,U1o,bne_self_eq_false]
 refine U0 (U0f ?_)
 refine U0 (wpAny_fieldsOf hi rfl ?_)
 show wpAny _ _ (setEntries S >>= _) _ _ s
 refine U0 (U6u ho hd hf ?_)
 show wpAny _ _ (if ((es.size:Int) != (es.size:Int))=true then _ else _) _ _ s
 rw[if_neg (by simp)]
 have stop:∀{s1:Shared},U5b it s.heap s1.heap->s1={ s with heap:=s1.heap }->wpAny (model prog w) A.in1 (newExc (.type "StopIteration") [] >>= fun e=>(raiseNew e:Sem Fin)) (fun fin s'=>∃v,fin=.done (.ret v)/\wpAny (model prog w) A (pure (some v)) Q E s')
   (fun e s'=>wpAny (model prog w) A (do if ←isInstance e (.type "StopIteration") then pure none else throw e) Q E s') s1:=fun {s1} eb es1=>by
  refine U0 ?_
  simp only[newExc,newTuple]
  refine U0 (U2g ?_ (by size_fits))
  refine U0 (m:=firstArgMember _ _) (wpAny_of_eq (a:=U2w) (by first|rfl|(simp only[firstArgMember];rfl)) ?_)
  refine U2g ?_ (by size_fits)
  simp only[raiseNew]
  refine U0 (wpAny_handled ?_)
  rw[show A.in1.handled=none from hh]
  refine U0 (U0f (wpAny_throw ?_))
  refine U0 (U4y (T:="StopIteration") (b:=true) ⟨_,U0p _ rfl,rfl⟩ isSubtype_stop ?_)
  rw[if_pos rfl,es1]
  exact U0f (h _ ((eb.push _).push _))
 cases r with
 |text k z1 z2 =>
  show wpAny _ _ (setNext S k.toNat vs.length ep >>= _) _ _ s
  refine U0 (Rf ho hd hf z1 ?_)
  have q:=z2 vs.length
  rw[U4g (U0q _)] at q
  cases hp:(pickOrder (w.params.setOrder S ep) es)[vs.length]? with
  |some e=>rw[hp] at q;cases q
  |none =>
   refine U0 (U3b hi rfl (by simp) ?_)
   exact stop (s1:={ s with heap:=s.heap.update it (U35 (·.setIfInBounds 2 U2w)) }) (U1w ..).extBut rfl
 |plain z1 z2 z3 z4 =>
  generalize hsl:(if vs.length=0 then 0 else t.place.getD (vs.length-1) 0+1:Nat)=sl
  show wpAny _ _ (setNext S (Int.toNat (sl:Int)) vs.length ep >>= _) _ _ s
  rw[U3c]
  refine U0 (Qp ho hd hf z1 z2 z3.2 ?_)
  have psz:t.place.size=es.size:=by
   have q:=hf
   simp only[SetTable.fits,U1e,beq_iff_eq] at q
   exact q.1
  have hb:U1v t.place sl=vs.length:=by
   rw[←hsl]
   generalize vs.length=n at hl
   cases n with
   |zero=>rw[if_pos rfl];exact Vh z3.1
   |succ i=>rw[if_neg (by omega)];exact Vi z3.1 (by omega)
  rw[hb,hl,Array.getElem?_eq_none (U0q _)]
  refine U0 (U3b hi rfl (by simp) ?_)
  exact stop (s1:={ s with heap:=s.heap.update it (U35 (·.setIfInBounds 2 U2w)) }) (U1w ..).extBut rfl
 |drawn ps z1 z2 z3 z4 =>
  show wpAny _ _ (seqItems? (.ref T) >>= _) _ _ s
  refine U0 (U15 z2 rfl ?_)
  have q:=z4 vs.length
  rw[U4g (U0q _)] at q
  have hg:((ps.map fun(p:Nat)=>rawInt p).toArray)[vs.length]?=none:=by
   rw[U4f,U0v]
   cases hp:ps[vs.length]? with
   |none=>rfl
   |some p =>
    rw[hp] at q
    have hlt:p<es.size:=z3 p (U1h hp)
    have q2:none=(es[p]?).map fun(e:Int×Value)=>e.2:=q
    rw[U2d hlt] at q2
    cases q2
  show wpAny _ _ (match ((ps.map fun(p:Nat)=>rawInt p).toArray)[(vs.length:Int).toNat]? with|some (.int place _)=>_|some _=>_|none=>_) _ _ s
  rw[U3c,hg]
  refine U0 (U3b hi rfl (by simp) ?_)
  have e0:(s.heap.update it (U35 (·.setIfInBounds 0 (rawInt 0)))).get? it=some (K6 (rawInt 0) vs.length S es.size ep):=by
   rw[←VB (.ref T) (rawInt 0) vs.length S es.size ep];exact U2a _ hi rfl
  refine U0 (U3b e0 rfl (by simp) ?_)
  exact stop (s1:={ s with heap:=(s.heap.update it (U35 (·.setIfInBounds 0 (rawInt 0)))).update it (U35 (·.setIfInBounds 2 U2w)) }) ((U1w ..).trans (U1w ..)).extBut rfl
end
end SetP
end
section
set_option maxRecDepth 100000
namespace SetP
open PySem PyProof.Rows
theorem PN:Slot "set_iterator" "__iter__" "set_iterator.__iter__" :=
 .of (owner:="set_iterator") (n:="__iter__") (by rw[typeLookup_type,builtinLookup_eq_fast];kernel_rfl) (by decide +kernel) (by decide +kernel) (by decide +kernel)
  (by first|exact .inl (by decide +kernel)|exact .inr (by decide +kernel)) (by rw[isSubtype_type];kernel_rfl)
theorem Ue:entryFor table "set_iterator.__iter__"=some Builtin.«dict_keyiterator.__iter__» :=
 entryFor_alias (id':="dict_keyiterator.__iter__") (by kernel_rfl) rfl (by decide +kernel) (by kernel_rfl)
theorem Vq(a:Value):argsOk "set_iterator.__iter__" ⟨[a],[]⟩:=by unfold argsOk;kernel_rfl
theorem eN:typeLookup (.type "set") "__len__"=pure (some (.builtin "set.__len__")):=F.slot_set_len.lookup
section
variable{prog:Program}{w:World}{A:Around}{E:Value->Shared->Prop}{s:Shared}
theorem pF(hh:A.handled=none)(it S T:Addr)(vs:List Value):Walks prog w A it [it,S,T] [it] vs.length (fun i v=>vs[i]?=some v) (fun i h=>NK w h it S T vs i) where
 sub:=fun b hb=>by simp at hb;subst hb;simp
 frame:=fun i h h' x k=>x.keep fun b hb o e=>k b hb o e
 item:=fun i s Q E hi x hQ=>by
  have hv:vs[i]?=some vs[i]:=U0d hi
  exact eE x hv fun h' sb x'=>hQ _ h' s.toks hv x' fun b o hb e=>(sb.2 b (by simpa using hb)).trans e
 done:=fun s Q E x hQ=>iz hh x fun h' eb=>hQ h' s.toks fun b o hb e=>eb b o (by simpa using hb) e
 self:=fun i s Q E x hQ=>by
  obtain⟨_,o,es,ep,t,first,_,_,_,_,hi,_⟩:=x
  have hT:s.TypeIs (.ref it) "set_iterator":=⟨_,hi,rfl⟩
  refine U7 hT PN (U17 PN hT Ue ?_ (Vq _))
  show wpAny _ _ (ret (.ref it)) _ _ s
  exact U0f ⟨_,rfl,"set_iterator",_,hT,Fg.lookup,hQ⟩
theorem wV{S:Addr}{Q:Bool->Shared->Prop}(hT:s.TypeIs (.ref S) "set")(h:Q false s):wpAny (model prog w) A (U5i (.ref S)) Q E s:=by
 unfold U5i
 refine U0 (U7k hT eN ?_)
 have hs:splitId "set.__len__"=some ("set","__len__"):=by decide +kernel
 dsimp only
 rw[hs]
 dsimp only
 refine U0 (U4y hT sub_set_self ?_)
 simp only[U5k,U2b,if_false]
 refine U0 (U51 hT ?_)
 exact U0f h
theorem jL{S:Addr}{ds:List Int}{Q:List Value->Shared->Prop}(hh:A.handled=none)(hS:SetT prog w s.heap S ds)(h64:ds.length<64)
  (h:∀h' d' tk vs ns,(∀b o,s.heap.get? b=some o->h'.get? b=some o)->IntsAre vs ns->ns.Perm ds->Q vs { s with heap:=h',drawn:=d',toks:=tk }):wpAny (model prog w) A (collect (.ref S)) Q E s:=by
 obtain⟨o,ho,hex⟩:∃o,s.heap.get? S=some o/\o.ExactSet:=by
  obtain⟨_,o,es,ep,t,ho,hex,_⟩:=hS
  exact⟨o,ho,hex⟩
 have hlt:=U0l ho
 unfold collect
 refine U0 (wpAny_runValue (codeAny_builtin F.entry_proto_collect ?_))
 rw[U3k F.plain_proto_collect _]
 show wpAny _ A.in1 (newList [] >>= fun l=>again (.builtin "list.__iadd__" ⟨[l,.ref S],[]⟩)) _ _ s
 refine U0 (U2g (U0f ⟨plainId_quiet F.plain_list_iadd _,codeAny_builtin F.entry_list_iadd ?_⟩))
 rw[U3k F.plain_list_iadd _]
 generalize hL:s.heap.objs.size=L
 generalize hg:s.heap.push { cls:=.type "list",dict:=none,data:=.seq ([]:List Value).toArray }=g
 have k1:∀b o,s.heap.get? b=some o->g.get? b=some o:=fun b o e=>hg ▸ U0a _ e
 have hLg:g.get? L=some { cls:=.type "list",data:=.seq ([]:List Value).toArray }:=hg ▸ hL ▸ U0p _ rfl
 have hsz:g.objs.size=L+1:=by rw[←hg,U1n,hL]
 have hLS:L≠S:=by rw[←hL];exact U1p hlt
 have hT:U6f { s with heap:=g } (.ref S) "set":=⟨o,k1 _ _ ho,hex.1⟩
 show wpAny _ A.in1 (U3o (.ref L) (.ref S) (.ref L)) _ _ _
 unfold U3o
 refine U0 (U51 hT ?_)
 have h1:U40 (.ref L) (.ref S)=false:=by simp[U40,hLS]
 have h2:(U3s "set"==U3s "list")=false:=by decide
 have h3:(U3s "set"==U3s "tuple")=false:=by decide
 simp only[h1,h2,h3,Bool.or_false,U2b,if_false]
 refine U0 (wR (s:={ s with heap:=g }) (hS.sameBut fun o e=>k1 _ _ e) fun g2 d2 it T vs k2 hit hTT x ⟨ns,hi,hp⟩=>?_)
 have hT2:U6f { s with heap:=g2,drawn:=d2 } (.ref S) "set":=⟨o,k2 _ _ (k1 _ _ ho),hex.1⟩
 refine U0 (U2s (wV hT2 ?_))
 have hit':L<it:=by
  have hit2:g.objs.size<=it:=hit
  omega
 show wpAny _ A.in1 (rule "list.extend.makes-room" >>= fun _=>Builtin.List.listTouch (.ref L) >>= fun _=>again (.builtin "list.extend.loop" ⟨[.ref L,.ref it,.ref L],[]⟩)) _ _ _
 refine U0 (U39 (U0 ?_))
 have e1:=k2 _ _ hLg
 show wpAny _ A.in1 (updateSeq L (·.push .none) >>= fun _=>updateSeq L (·.pop)) _ _ _
 refine U0 (U4h e1 rfl ?_)
 have e2:=U2a (U2e (·.push U2w)) e1 rfl
 refine U4h e2 rfl ?_
 have e3:=U2a (U2e (·.pop)) e2 rfl
 have oth:∀b o,b≠L->g2.get? b=some o->((g2.update L (U2e (·.push U2w))).update L (U2e (·.pop))).get? b=some o:=fun b o hb e=>(U1i _ _ (U01 hb)).trans ((U1i _ _ (U01 hb)).trans e)
 have hvn:vs.length=ns.length:=IntsAre.length hi
 have hv64:vs.length<64:=by rw[hvn,hp.length_eq];exact h64
 have hz:vs.length<=sizeLine:=by rw[sizeLine_eq];omega
 have nin:L ∉ [it,S,T]:=fun z=>by
  simp only[U0o,U02,or_false] at z
  rcases z with z|z|z
  .omega
  .exact hLS z
  .rcases hTT with q|q
   .exact hLS (z.trans q)
   .have q':g.objs.size<=T:=q
    omega
 have W:=(pF (prog:=prog) (w:=w) (A:=A.in1) (by simpa using hh) it S T vs).toS
 have x3:NK w ((g2.update L (U2e (·.push U2w))).update L (U2e (·.pop))) it S T vs 0:=x.keep fun b hb o e=>oth b o (fun z=>nin (z ▸ hb)) e
 refine U0f ⟨plainId_quiet F.plain_extend_loop _,codeAny_extend_loopS W hz L nin _ vs.length 0 _ _ _ (by omega) (U3i _) x3 e3 (ItemsOf.nil _) fun s' acc c hm hS' hacc=>?_⟩
 show wpAny _ A (load L >>= _) _ _ s'
 refine U0 (wpAny_load hS' ?_)
 have eacc:acc.toList=vs:=by
  apply List.ext_getElem?
  intro j
  rw[U24]
  cases hj:acc[j]? with
  |some v=>exact(hacc.2 j v hj).symm
  |none =>
   have:acc.size<=j:=by simpa using hj
   rw[hacc.1] at this
   exact(U4g this).symm
 obtain⟨h',g',d',tk,os'⟩:=s'
 have q1:g'=s.gens:=hm.gens
 have q2:os'=s.os:=hm.os
 subst q1 q2
 refine U0f ?_
 show Q acc.toList _
 rw[eacc]
 refine h h' d' tk vs ns (fun b o e=>hm.heap b o ?_ (oth b o ?_ (k2 _ _ (k1 _ _ e)))) hi hp
 .have hb:b<L:=by rw[←hL];exact U0l e
  intro z
  rcases U0o.mp z with z|z
  .exact absurd z (U0x hb)
  .exact absurd (U04.mp z) (U0x (U3 hb hit'))
 .exact U0x (by rw[←hL];exact U0l e)
theorem Vj{h:Heap}{a:Addr}{vs:List Value}{n:Nat}{out:Array Value}(ho:h.get? a=some (seqObj "list" vs.toArray n)):∃n',(sortedHeap h a vs out).get? a=some (seqObj "list" out n'):=by
 unfold sortedHeap
 have q1:=get?_update_seq ho (fun _=>#[])
 exact⟨_,get?_update_seq (U0a _ (U0a _ q1)) (fun _=>out)⟩
theorem Ua{h:Heap}{a b:Addr}{vs:List Value}{out:Array Value}{o:Obj}(hb:b≠a)(ho:h.get? b=some o):(sortedHeap h a vs out).get? b=some o:=by
 unfold sortedHeap
 rw[U1i _ _ (U01 hb)]
 exact U0a _ (U0a _ ((U1i _ _ (U01 hb)).trans ho))
theorem kI{S:Addr}{ds:List Int}{Q:Value->Shared->Prop}(hh:A.handled=none)(hS:SetT prog w s.heap S ds)(h64:ds.length<64)
  (h:∀h' d' tk l vs ns n,(∀b o,s.heap.get? b=some o->h'.get? b=some o)->(∀b o,s.heap.get? b=some o->b<l)->h'.get? l=some { cls:=.type "list",data:=.seq vs n }->IntsAre vs.toList ns->ns.Perm ds->ns.Pairwise (·<=·)->Q (.ref l) { s with heap:=h',drawn:=d',toks:=tk }) :
  wpAny (model prog w) A (call (.builtin "sorted") [.ref S]) Q E s:=by
 refine Calls.call_function_entry kind_sorted plain_sorted entry_sorted (args_sorted1 _) ?_
 unfold Builtin.«sorted»
 refine U0 (m:=checkCount "sorted" 1 1 _) (U0f ?_)
 refine U0 (jL (A:=A.in1) (by simpa using hh) hS h64 fun h1 d1 t1 vs ns k1 hi hp=>?_)
 have hv64:vs.length<64:=by rw[show vs.length=ns.length from IntsAre.length hi,hp.length_eq];exact h64
 refine U0 (wpAny_newList ?_)
 have hoL:(h1.push (seqObj "list" vs.toArray 0)).get? h1.objs.size=some (seqObj "list" vs.toArray 0):=U0p _ rfl
 show wpAny _ _ _ _ _ { s with heap:=h1.push (seqObj "list" vs.toArray 0),drawn:=d1,toks:=t1 }
 refine U0 (U2s (U17 slot_list_sort ⟨_,hoL,rfl⟩ entry_list_sort (list_sort_tree hoL hi hv64 fun out ns' a1 a2 a3=>⟨_,rfl,?_⟩) (args_list_sort _)))
 refine U0f ⟨_,rfl,?_⟩
 have old:∀b o,s.heap.get? b=some o->b≠h1.objs.size:=fun b o e=>U0x (U0l (k1 b o e))
 obtain⟨n',e'⟩:=Vj (out:=out) hoL
 refine h _ d1 t1 h1.objs.size out ns' n' (fun b o e=>Ua (old b o e) (U0a _ (k1 b o e))) (fun b o e=>U0l (k1 b o e)) e' a1 (a2.trans hp) a3
end
end SetP
end
section
namespace L2
open PySem PySem.Spec PyProof.Rows
def PTs(X:Cx)(ifs:List Expr)(t:TT):Prop :=
 ∀(pins:List (Addr×Obj))(s:Shared)(σ:St)(H:Hp)(Q:Bool->Hp->Prop),Inv X pins σ H s->t σ H Q ->
  wpAny (model X.prog X.w) X.A (forIn ifs true fun c r=>if r=true then do let ok ←isTrue c X.env (eval c X.env);pure (U6n ok) else pure (U6n r)) (TP X pins σ Q) X.xe s
def FQ:TT:=fun _ H Q=>Q true H
theorem qK{X:Cx}:PTs X [] FQ:=fun _ _ _ H _ I h=>U0f ⟨H,I,h⟩
theorem qJ{X:Cx}{c:Expr}{t:TT}(h:PT X c t):PTs X [c] t:=by
 intro pins s σ H Q I hw
 rw[U3p]
 simp only[if_true]
 refine U0 (U0 (thn (h pins s σ H Q I hw) fun b s1 hb=>U0f ?_))
 show wpAny _ _ (pure b) _ _ _
 exact U0f hb
def Low(k:Nat)(g:TG):Prop:=∀x σ H Q,g x σ H Q->g x σ H fun σ' H'=>Q σ' H'/\σ'.length=σ.length/\∀j,k<=j->σ'[j]?=σ[j]?
def YC(k:Nat)(g:TGs):Prop:=∀x σ H Q,g x σ H Q->g x σ H fun σ' H'=>Q σ' H'/\σ'.length=σ.length/\∀j,k<=j->σ'[j]?=σ[j]?
theorem mJ{k i:Nat}(h:i<k):Low k (Xx i):=fun x σ H Q q =>
 ⟨q,U31 ..,fun j hj=>U21 (by omega)⟩
theorem qz{k:Nat}:YC k jZ:=fun _ _ _ _ ⟨e,q⟩=>⟨e,q,rfl,fun _ _=>rfl⟩
theorem mL{k:Nat}{t:TG}{u:TGs}(ht:Low k t)(hu:YC k u)(mono:∀x σ H Q Q',(∀σ' H',Q σ' H'->Q' σ' H')->t x σ H Q->t x σ H Q')
  (monoU:∀x σ H Q Q',(∀σ' H',Q σ' H'->Q' σ' H')->u x σ H Q->u x σ H Q'):YC k (dF t u):=fun x σ H Q ⟨v,r,e,q⟩=>by
 refine⟨v,r,e,mono v σ H _ _ (fun σ1 H1 z=>?_) (ht v σ H _ q)⟩
 obtain⟨z1,z2,z3⟩:=z
 exact monoU r σ1 H1 _ _ (fun σ2 H2 y=>⟨y.1,y.2.1.trans z2,fun j hj=>(y.2.2 j hj).trans (z3 j hj)⟩) (hu r σ1 H1 _ z1)
theorem qy{K:U0b}{n k:Nat}{t:TGs}(h:YC k t):Low k (jY K n t):=fun x σ H Q ⟨a,xs,e,hs,hl,q⟩=>⟨a,xs,e,hs,hl,h xs σ H Q q⟩
def compLook(sc:Scope)(N N2:List Str)(k:Nat)(caps:List Nat)(scope:Scope):Bool :=
 decide (scope.kind=.function)&&scope.names.all (fun y=>decide (y.2≠.cell)||decide (scope.names.lookup y.1=some .cell))&&scope.names.all (fun y=>decide (y.2≠.local)||decide (scope.names.lookup y.1=some .local)) &&
 scope.names.all (fun y=>decide (y.2≠.free)||decide (sc.names.lookup y.1=some .cell)||decide (sc.names.lookup y.1=some .free))&&decide N2.Nodup&&decide (N2.length=k+caps.length) &&
 (U0n caps.length).all fun j=>match caps[j]?,N2[k+j]? with
  |some i,some y=>decide (N[i]?=some y)&&decide (scope.names.lookup y=some .free)
  |_,_=>false
structure Di(sc:Scope)(N N2:List Str)(k:Nat)(caps:List Nat)(scope:Scope):Prop where
 kind:scope.kind=.function
 one:∀y∈scope.names,y.2=.cell->scope.names.lookup y.1=some .cell
 loc:∀y∈scope.names,y.2=.local->scope.names.lookup y.1=some .local
 free:∀y∈scope.names,y.2=.free->sc.names.lookup y.1=some .cell∨sc.names.lookup y.1=some .free
 nd:N2.Nodup
 len:N2.length=k+caps.length
 cap:∀j i,caps[j]?=some i->∃y,N2[k+j]?=some y/\N[i]?=some y/\scope.names.lookup y=some .free
theorem Di.of{sc:Scope}{N N2:List Str}{k:Nat}{caps:List Nat}{scope:Scope}(h:compLook sc N N2 k caps scope=true):Di sc N N2 k caps scope:=by
 unfold compLook at h
 simp only[U1e,U3g,U5x,decide_eq_true_eq] at h
 obtain⟨⟨⟨⟨⟨⟨h1,h2⟩,h3⟩,h4⟩,h5⟩,h6⟩,h7⟩:=h
 refine⟨h1,fun y hy e=>?_,fun y hy e=>?_,fun y hy e=>?_,h5,h6,fun j i e=>?_⟩
 .rcases h2 y hy with z|z
  .exact absurd e z
  .exact z
 .rcases h3 y hy with z|z
  .exact absurd e z
  .exact z
 .rcases h4 y hy with (z|z)|z
  .exact absurd e z
  .exact .inl z
  .exact .inr z
 .have hj:j∈U0n caps.length:=U1z.mpr (U0i.mp e).1
  have q:=h7 j hj
  rw[e] at q
  cases hy:N2[k+j]? with
  |none=>rw[hy] at q;exact absurd q (by simp)
  |some y =>
   rw[hy] at q
   simp only[U1e,decide_eq_true_eq] at q
   exact⟨y,rfl,q.1,q.2⟩
theorem Rg{env:Env}:∀{names:List (Str×NameKind)} {x:Str},names.lookup x=some .free ->
  (names.map fun(n,k)=>if (k==U2j&&env.scope.kind==.function&&env.kindOf n==some .cell) then (n,U3t) else (n,k)).lookup x=some .cell ∨
  (names.map fun(n,k)=>if (k==U2j&&env.scope.kind==.function&&env.kindOf n==some .cell) then (n,U3t) else (n,k)).lookup x=some .free
 |[],_,h=>by simp at h
 |(n,k)::r,x,h=>by
  have ih:=@Rg env r x
  show U7q x ((if (k==U2j&&env.scope.kind==.function&&env.kindOf n==some .cell)=true then (n,U3t) else (n,k))::_)=_∨U7q x ((if (k==U2j&&env.scope.kind==.function&&env.kindOf n==some .cell)=true then (n,U3t) else (n,k))::_)=_
  cases hx:x==n with
  |true =>
   simp only[U11,hx] at h
   cases h
   by_cases hc:(U2j==U2j&&env.scope.kind==.function&&env.kindOf n==some .cell)=true
   .rw[if_pos hc];left;simp only[U11,hx]
   .rw[if_neg hc];right;simp only[U11,hx]
  |false =>
   simp only[U11,hx] at h
   by_cases hc:(k==U2j&&env.scope.kind==.function&&env.kindOf n==some .cell)=true
   .rw[if_pos hc];simp only[U11,hx];exact ih h
   .rw[if_neg hc];simp only[U11,hx];exact ih h
theorem Rh{env:Env}:∀{names:List (Str×NameKind)} {x:Str},
  ((names.map fun(n,k)=>if (k==U2j&&env.scope.kind==.function&&env.kindOf n==some .cell) then (n,U3t) else (n,k)).lookup x=some .cell ∨
   (names.map fun(n,k)=>if (k==U2j&&env.scope.kind==.function&&env.kindOf n==some .cell) then (n,U3t) else (n,k)).lookup x=some .free)->names.lookup x=some .free∨names.lookup x=some .cell
 |[],_,h=>by simp at h
 |(n,k)::r,x,h=>by
  have ih:=@Rh env r x
  cases hx:x==n with
  |true =>
   simp only[U11,hx]
   by_cases hf:k=.free
   .rw[hf];exact .inl rfl
   .have hkf:(k==U2j)=false:=by
     cases k<;>first|rfl|exact absurd rfl hf
    simp only[U0s,hkf,Bool.false_and,U2b,if_false,U11,hx] at h
    rcases h with z|z
    .exact .inr z
    .exact absurd (U06 z) hf
  |false =>
   simp only[U11,hx]
   refine ih ?_
   have h':U7q x ((if (k==U2j&&env.scope.kind==.function&&env.kindOf n==some .cell)=true then (n,U3t) else (n,k))::List.map _ r)=some .cell∨U7q x ((if (k==U2j&&env.scope.kind==.function&&env.kindOf n==some .cell)=true then (n,U3t) else (n,k))::List.map _ r)=some .free:=h
   by_cases hcc:(k==U2j&&env.scope.kind==.function&&env.kindOf n==some .cell)=true
   .rw[if_pos hcc] at h';simp only[U11,hx] at h';exact h'
   .rw[if_neg hcc] at h';simp only[U11,hx] at h';exact h'
theorem J4:∀(names:List (Str×NameKind))(n:Nat)(acc:List (Str×Addr)),cellsFrom n names acc=cellsFrom n names []++acc
 |[],_,_=>rfl
 |(x,k)::r,n,acc=>by
  unfold cellsFrom
  split
  .rw[J4 r (n+1) ((x,n)::acc),J4 r (n+1) [(x,n)],U58];rfl
  .exact J4 r n acc
theorem Mz:∀(names:List (Str×NameKind))(n:Nat){x:Str}{c:Addr},(x,c)∈cellsFrom n names []->(x,U3t)∈names
 |[],_,_,_,h=>by simp[cellsFrom] at h
 |(y,k)::r,n,x,c,h=>by
  unfold cellsFrom at h
  split at h
  .rename_i hk
   rw[J4] at h
   rcases U12.mp h with z|z
   .exact U0t _ (Mz r (n+1) z)
   .have z':(x,c)=(y,n):=by simpa using z
    have hk':k=.cell:=by simpa using hk
    cases z'
    rw[hk'];exact U0z
  .exact U0t _ (Mz r n h)
theorem eH{cs ds:List (Str×Addr)}{x:Str}{c:Addr}(h:(cs++ds).lookup x=some c):cs.lookup x=some c∨(cs.lookup x=none/\ds.lookup x=some c):=by
 rw[U49] at h
 cases e:cs.lookup x with
 |none=>rw[e] at h;exact .inr ⟨rfl,h⟩
 |some d=>rw[e] at h;exact .inl h
theorem aH{M:Model}{A:Around}{E:Value->Shared->Prop}{s:Shared}{scope:Scope}{globals:Addr}{cl:List (Str×Addr)}{qual:Str}{env:Env}{Q:Env->Shared->Prop}
  (hQ:∀h':Heap,h'.Ns s.heap.objs.size (fun _=>none)->(∀b o,s.heap.get? b=some o->h'.get? b=some o)->CellsOk h' (s.heap.objs.size+1) (cellsFrom (s.heap.objs.size+1) scope.names []) ->
   Q { scope,locals:=s.heap.objs.size,globals,cells:=cellsFrom (s.heap.objs.size+1) scope.names []++cl,qual,func:=none,code:=env.code,frame:=env.frame,builtins:=env.builtins } { s with heap:=h' }) :
  wpAny M A (newFunctionEnv scope globals cl [] qual none .none (some env)) Q E s:=by
 simp only[newFunctionEnv,Option.isSome_some,if_true]
 refine U0 (wpAny_alloc ?_)
 refine U0 (wpAny_layCells _ (fun name kind cells=>by cases hkc:kind==U3t<;>simp[hkc]) _ _ _ _ ?_)
 rw[show({ s with heap:=s.heap.push { cls:=.type "dict",data:=.dict #[] } }:Shared).heap.objs.size=s.heap.objs.size+1 from U1n ..]
 have ok:=cellsFrom_ok scope.names (s.heap.push { cls:=.type "dict",data:=.dict #[] }) (s.heap.objs.size+1) [] ⟨fun _ _ hm=>(nomatch hm),U68⟩ (by rw[U1n];exact U0q _)
 rw[U1n] at ok
 rw[J4]
 refine U0 ?_
 rw[U4s]
 refine U0f (U0f (hQ _ ?_ ?_ ok))
 .exact(Heap.Ns.new s.heap (.type "dict")).keeps (pushCells_keeps _ _)
 .exact fun b o e=>pushCells_keeps _ _ b o (U0a _ e)
theorem Ve{scope:Scope}{env:Env}(h:∀y∈scope.names,y.2=.free->∃c,env.cells.lookup y.1=some c) :
  ∃cl,closureFor scope env=pure cl/\(∀x c,cl.lookup x=some c->env.cells.lookup x=some c)/\∀x,scope.names.lookup x=some .free->∃c,cl.lookup x=some c:=by
 have all:∀(names:List (Str×NameKind))(cs:List (Str×Addr)),(∀y∈names,y.2=.free->∃c,env.cells.lookup y.1=some c)->(∀x c,cs.lookup x=some c->env.cells.lookup x=some c) ->
   ∃cl,(forIn names cs (fun(x:Str×NameKind) (cs:List (Str×Addr))=>(match x with
     |(name,kind)=>if (kind==U2j)=true then (cellOf env name >>= fun a=>pure (U6n ((name,a)::cs))) else pure (U6n cs):Sem (ForInStep (List (Str×Addr)))) ):Sem (List (Str×Addr)))=pure cl /\
    (∀x c,cl.lookup x=some c->env.cells.lookup x=some c)/\(∀x c,cs.lookup x=some c->∃c',cl.lookup x=some c')/\∀x,names.lookup x=some .free->∃c,cl.lookup x=some c:=by
  intro names
  induction names with
  |nil=>intro cs _ hc;exact⟨cs,rfl,hc,fun x c e=>⟨c,e⟩,fun x e=>by simp at e⟩
  |cons y r ih =>
   intro cs hy hc
   obtain⟨n,kd⟩:=y
   by_cases hk:kd=.free
   .subst hk
    obtain⟨c,hcn⟩:=hy (n,.free) U0z rfl
    have hc':∀x c',((n,c)::cs).lookup x=some c'->env.cells.lookup x=some c':=fun x c' e=>by
     rw[U11] at e
     cases hx:x==n with
     |true =>
      rw[hx] at e
      have hxn:x=n:=by simpa using hx
      rw[hxn,hcn];exact e
     |false=>rw[hx] at e;exact hc x c' e
    obtain⟨cl,e1,e2,e3,e4⟩:=ih ((n,c)::cs) (fun z hz=>hy z (U0t _ hz)) hc'
    refine⟨cl,?_,e2,fun x c' e=>?_,fun x e=>?_⟩
    .rw[U3p]
     have hb:(U2j==U2j)=true:=rfl
     simp only[hb,if_true,cellOf,hcn,pure_bind]
     exact e1
    .by_cases hx:(x==n)=true
     .exact e3 x c (by rw[U11,hx])
     .have hx':(x==n)=false:=by simpa using hx
      exact e3 x c' (by rw[U11,hx'];exact e)
    .rw[U11] at e
     cases hx:x==n with
     |true=>exact e3 x c (by rw[U11,hx])
     |false=>rw[hx] at e;exact e4 x e
   .have hb:(kd==U2j)=false:=by
     cases kd<;>first|rfl|exact absurd rfl hk
    obtain⟨cl,e1,e2,e3,e4⟩:=ih cs (fun z hz=>hy z (U0t _ hz)) hc
    refine⟨cl,?_,e2,e3,fun x e=>?_⟩
    .rw[U3p]
     simp only[hb,U2b,if_false,pure_bind]
     exact e1
    .rw[U11] at e
     cases hx:x==n with
     |true=>rw[hx] at e;exact absurd (U06 e) hk
     |false=>rw[hx] at e;exact e4 x e
 obtain⟨cl,e1,e2,_,e4⟩:=all scope.names [] h (fun x c e=>by simp at e)
 refine⟨cl,?_,e2,e4⟩
 unfold closureFor
 rw[←bind_pure (pure cl:Sem _),←e1]
abbrev Dt(X:Cx)(N2:List Str)(scope:Scope)(cl:List (Str×Addr))(C:Addr)(s:Shared)(H:Hp)(ex:List Addr):Cx :=
 { X with N:=N2,s₀:=s,H₀:=H,env:=compEnvC scope cl C X.env,outer:=X.stack,ex:=ex,fn:=fun x=>decide (scope.names.lookup x=some .cell),pn:=[],xe:=fun _ _=>False }
def Eo(k:Nat)(caps:List Nat)(σ:St):St:=U05 k none++caps.map fun j=>(σ[j]?).join
def zN(J:It)(k:Nat)(caps:List Nat)(σ:St)(g:TG)(tt:TT)(te:TE)(Q:VK)(H1:Hp):Prop:=∃W:Nat->Nat->List V->Hp->Prop,(∃m,W 0 m [] H1)/\∀i m ys H,W i m ys H ->
 (J.stop i H/\∀p,H p=none->Q (.ref p) (upd H p (.lst ys))) ∨
 (J.go i H/\ys.length<sizeLine/\∀x H',J.yld i H x H'->g x (Eo k caps σ) H' fun σ2 H2=>tt σ2 H2 fun b H3 =>
  if b=true then te σ2 H3 fun v H4=>∃m',m'<m/\W (i+1) m' (ys++[v]) H4 else ∃m',m'<m/\W (i+1) m' ys H3)
def d8(k:Nat)(caps:List Nat)(wi:TI)(g:TG)(tt:TT)(te:TE):TE:=fun σ H Q=>wi σ H fun J H1=>zN J k caps σ g tt te Q H1
theorem cI{k:Nat}{caps:List Nat}{σ:St}{i:Nat}{v:V}(h:(Eo k caps σ)[i]?=some (some v)):∃j a,i=k+j/\caps[j]?=some a/\σ[a]?=some (some v):=by
 unfold Eo at h
 by_cases hi:i<k
 .rw[U1d (by simpa using hi),U46,if_pos hi] at h
  cases h
 .rw[U2h (by simpa using hi),U19,U0v] at h
  cases e:caps[i-k]? with
  |none=>rw[e] at h;cases h
  |some a =>
   rw[e] at h
   have h':(σ[a]?).join=some v:=U06 h
   refine⟨i-k,a,by omega,e,?_⟩
   cases e2:σ[a]? with
   |none=>rw[e2] at h';cases h'
   |some o =>
    rw[e2] at h'
    cases o with
    |none=>cases h'
    |some v' =>
     have h'':some v'=some v:=h'
     rw[h'']
theorem Ly{a b n:Nat}(h1:a<n)(h2:n<=b):a≠b:=by omega
section
variable{X:Cx}{pins:List (Addr×Obj)}{σ:St}
theorem Inv.but{H:Hp}{s:Shared}{C:Addr}{h':Heap}(I:Inv X pins σ H s)(hb:U0y C s.heap h')(hn:H C=none)(hL:C≠X.env.locals)(h1:X.s₀.heap.objs.size<=C)(h2:∀x c,X.env.cells.lookup x=some c->c≠C)(h3:∀p∈X.pn++pins,p.1≠C) :
  Inv X pins σ H { s with heap:=h' }:=I.turned (t':=s.toks) (fun b o hne e=>(hb.2 b hne).trans e) hn hL (.inr h1) h2 h3
theorem Vd{s2:Shared}{H2:Hp}{elt tg iter:Expr}{ifs:List Expr}{scope:Scope}{pos:Pos}{N2:List Str}{k:Nat}{caps:List Nat}{cl:List (Str×Addr)}{g:TG}{tt:TT}{te:TE}{E:Value->Shared->Prop}
  {it:Addr} {fp:List Addr} {tn:Nat->Heap->Prop} {J:It} {RR:Value->Addr->Result->Shared->Prop} {Qe:List V->Hp->Prop} {W:Nat->Nat->List V->Hp->Prop} {m0:Nat}
  (hc:X.calm=true) (hS:Di X.env.scope X.N N2 k caps scope) (hlow:Low k g)
  (hcl:∀x c,cl.lookup x=some c->X.env.cells.lookup x=some c) (hcf:∀x,scope.names.lookup x=some .free->∃c,cl.lookup x=some c)
  (hb:∀(cl:List (Str×Addr))(C:Addr)(s:Shared)(H:Hp)(ex:List Addr),PG (Dt X N2 scope cl C s H ex) tg g/\PTs (Dt X N2 scope cl C s H ex) ifs tt/\PE (Dt X N2 scope cl C s H ex) elt te)
  (I2:Inv X pins σ H2 s2) (T:Turn X.prog X.w X.K tg J fp it tn) (st2:tn 0 s2.heap) (f2:∀b∈fp,Ny X pins H2 b) (w0:W 0 m0 [] H2)
  (turn:∀i m ys H,W i m ys H->(J.stop i H/\Qe ys H) ∨
   (J.go i H/\ys.length<sizeLine/\∀x H',J.yld i H x H'->g x (Eo k caps σ) H' fun σ2 H2=>tt σ2 H2 fun b H3 =>
    if b=true then te σ2 H3 fun v H4=>∃m',m'<m/\W (i+1) m' (ys++[v]) H4 else ∃m',m'<m/\W (i+1) m' ys H3))
  (hRR:∀D C s' H' ys,s2.heap.objs.size<=D->s2.heap.objs.size<=C->C≠D->H' D=none->H' C=none->Inv X pins σ (upd H' D (.lst ys)) s'->(∃m,s'.heap.Ns C m)->Qe ys H'->RR (.ref D) C (.ok .next) s') :
  wpAny (model X.prog X.w) X.A (newList []) (fun acc s₃=>wpAny (model X.prog X.w) X.A (newFunctionEnv scope X.env.globals cl [] X.env.qual none .none (some X.env)) (fun cenv s₄ =>
   codeAny (model X.prog X.w) X.A (.compStart (.ListComp elt [⟨tg,iter,ifs,0⟩] scope pos) 0 (.ref it) acc { cenv with scope:=relabel scope X.env }) (RR acc cenv.locals) s₄) E s₃) E s2:=by
 refine U2g (aH fun h₁ hns₁ kp cok=>?_)
 dsimp only at hns₁ kp cok ⊢
 generalize hH3:s2.heap.push { cls:=.type "list",dict:=none,data:=.seq ([]:List Value).toArray }=H3 at hns₁ kp cok ⊢
 have hC:H3.objs.size=s2.heap.objs.size+1:=by rw[←hH3,U1n]
 generalize hDD:s2.heap.objs.size=D at hC
 generalize hCC:H3.objs.size=C at hns₁ cok hC ⊢
 have hDC:D≠C:=by omega
 have szD:s2.heap.objs.size<=D:=U71 hDD
 have szC:s2.heap.objs.size<=C:=by rw[hDD,hC];exact U5a _
 have below:∀b o,s2.heap.get? b=some o->b≠C/\b≠D:=fun b o e=>⟨Ly (U0l e) szC,Ly (U0l e) szD⟩
 have old:∀b o,s2.heap.get? b=some o->h₁.get? b=some o:=fun b o e=>kp b o (hH3 ▸ U0a _ e)
 have hacc:h₁.get? D=some { cls:=.type "list",data:=.seq ([]:List Value).toArray 0 }:=kp _ _ (hH3 ▸ hDD ▸ U0p _ rfl)
 have f2h:∀b∈fp,∃o,s2.heap.get? b=some o:=fun b hbf=>let ⟨o,e,_⟩:=T.obj 0 _ st2 b hbf;⟨o,e⟩
 -- the block's context
 have okc:∀x c,X.env.cells.lookup x=some c->∃o,s2.heap.get? c=some o:=fun x c e=>let ⟨_,o,ho,_⟩:=I2.cell x c e;⟨o,ho⟩
 have oMem:∀x c,(cellsFrom (C+1) scope.names []).lookup x=some c->C+1<=c/\h₁.IsCell c none/\scope.names.lookup x=some .cell:=fun x c e=>by
  have m:=U23 e
  exact⟨(cok.empty x c m).2,(cok.empty x c m).1,hS.one _ (Mz _ _ m) rfl⟩
 have oHas:∀x,scope.names.lookup x=some .cell->∃c,(cellsFrom (C+1) scope.names []).lookup x=some c:=fun x e=>U5z.mp (U6b scope.names (C+1) [] (.inl e))
 have oApart:=cok.apart
 generalize cellsFrom (C+1) scope.names []=own at oMem oHas oApart ⊢
 have hcs:∀x c,(own++cl).lookup x=some c->(C+1<=c/\h₁.IsCell c none/\own.lookup x=some c)∨X.env.cells.lookup x=some c:=fun x c e=>by
  rcases eH e with z|z
  .exact .inl ⟨(oMem x c z).1,(oMem x c z).2.1,z⟩
  .exact .inr (hcl x c z.2)
 have hlt:∀x c,X.env.cells.lookup x=some c->c<s2.heap.objs.size:=fun x c e=>let ⟨o,ho⟩:=okc x c e;U0l ho
 have OK:(Dt X N2 scope (own++cl) C s2 H2 fp).Ok:=by
  refine⟨I2.ok.mod,hS.kind,I2.ok.glob,I2.ok.blt,?_,fun x y c h1 h2=>?_,fun x hx=>?_,fun x c hf h1=>?_,I2.ok.hd,I2.ok.frames,.inl rfl,fun b hbf=>?_,I2.bs,
   U1a I2.ok.bsz I2.sz,fun b o e hbf=>?_,fun b hbf hb'=>?_,I2.stack,I2.bG,I2.Vr⟩
  .exact szC
  .rcases hcs x c h1 with z|z
   .rcases hcs y c h2 with z'|z'
    .exact name_of_addr oApart (U23 z.2.2) (U23 z'.2.2)
    .exact absurd (hlt y c z') (Nat.not_lt.mpr (U1a szC (U1a (U5a _) z.1)))
   .rcases hcs y c h2 with z'|z'
    .exact absurd (hlt x c z) (Nat.not_lt.mpr (U1a szC (U1a (U5a _) z'.1)))
    .exact I2.ok.inj x y c z z'
  .rcases Rh (env:=X.env) hx with z|z
   .obtain⟨c,e⟩:=hcf x z
    show ∃c,(own++cl).lookup x=some c
    rw[U49]
    cases q:own.lookup x with
    |none=>exact⟨c,e⟩
    |some d=>exact⟨d,rfl⟩
   .obtain⟨c,e⟩:=oHas x z
    exact⟨c,by show(own++cl).lookup x=some c;rw[U49,e];rfl⟩
  .obtain⟨d,e⟩:=oHas x (of_decide_eq_true hf)
   have h1':(own++cl).lookup x=some c:=h1
   rw[U49,e] at h1'
   have e2:d=c:=U06 h1'
   rw[←e2]
   exact U1a szC (U1a (U5a _) (oMem x d e).1)
  .obtain⟨o,e⟩:=f2h b hbf
   refine⟨(below b o e).1,fun x c h1=>?_⟩
   rcases hcs x c h1 with z|z
   .exact fun w=>absurd (U0l e) (by rw[←w];exact Nat.not_lt.mpr (U1a szC (U1a (U5a _) z.1)))
   .exact(f2 b hbf).2.2.2.2.1 x c z
  .rcases(f2 b hbf).2.2.2.1 with z|z
   .exact I2.ok.noex b o e z
   .exact absurd (U0w (U0l (I2.ok.bs b o e).1) z) (U34 _)
  .rcases U0o.mp (I2.R7 b hb') with z|z
   .exact(f2 b hbf).2.1 z
   .exact(f2 b hbf).2.2.1 z
 have fresh:∀a,s2.heap.objs.size<=a->H2 a=none:=fun a ha=>I2.hok.fresh ha
 have I4:∀tk,Inv (Dt X N2 scope (own++cl) C s2 H2 fp) [(D,{ cls:=.type "list",data:=.seq ([]:List Value).toArray 0 })] (Eo k caps σ) H2 { s2 with heap:=h₁,toks:=tk }:=fun tk=>by
  refine⟨OK,rfl,I2.bare,Un.kept old,⟨_,hns₁,fun i x v e1 e2 e3=>?_⟩,fun x c e=>?_,fresh C szC,fun x c e=>?_,fun p hp=>?_,I2.hok.kept old,?_⟩
  .obtain⟨j,a,rfl,ha,hv⟩:=cI e2
   obtain⟨y,y1,y2,y3⟩:=hS.cap j a ha
   have e1':N2[k+j]?=some x:=e1
   rw[y1] at e1';cases e1'
   have hk:X.env.scope.names.lookup x=some .cell∨X.env.scope.names.lookup x=some .free:=hS.free (x,.free) (U23 y3) rfl
   obtain⟨m',_,hl⟩:=id I2.loc
   obtain⟨u,ru,lk⟩:=hl a x v y2 hv (hk.elim (fun z=>.inr (.inl z)) fun z=>.inr (.inr z))
   refine⟨u,ru,.inr ⟨Rg y3,?_⟩⟩
   rcases lk with ⟨kk,_⟩|⟨_,c,e,z⟩
   .have kk':X.env.scope.names.lookup x=some .local:=kk
    rw[kk'] at hk
    rcases hk with z|z<;>cases z
   .obtain⟨c',e'⟩:=hcf x y3
    have e'':=hcl x c' e'
    rw[e] at e'';cases e''
    obtain⟨o,ho,hd⟩:=z
    refine⟨c,?_,o,old c o ho,hd⟩
    show(own++cl).lookup x=some c
    rw[U49]
    cases q:own.lookup x with
    |none=>exact e'
    |some d=>have:=(oMem x d q).2.2;rw[y3] at this;cases this
  .rcases hcs x c e with z|z
   .exact⟨none,z.2.1⟩
   .obtain⟨v,o,ho,hd⟩:=I2.cell x c z
    exact⟨v,o,old c o ho,hd⟩
  .rcases hcs x c e with z|z
   .exact fresh c (U1a szC (U1a (U5a _) z.1))
   .exact I2.freeC x c z
  .have hp':p∈[(D,({ cls:=.type "list",data:=.seq ([]:List Value).toArray 0 }:Obj))]:=hp
   have e:p=(D,({ cls:=.type "list",data:=.seq ([]:List Value).toArray 0 }:Obj)):=by simpa using hp'
   subst e
   exact⟨hacc,fresh D szD,hDC,fun z=>by
    rcases U0o.mp (I2.R7 D z) with z|z
    .exact Ly I2.lt szD z.symm
    .exact I2.jW szD z,fun v z=>by cases z⟩
  .show(Eo k caps σ).length=N2.length
   unfold Eo
   rw[U0u,U19,U0k,hS.len]
 -- the loop
 obtain⟨hg,ht,he⟩:=hb (own++cl) C s2 H2 fp
 have loop:∀s₃:Shared,Inv (Dt X N2 scope (own++cl) C s2 H2 fp) [(D,{ cls:=.type "list",data:=.seq ([]:List Value).toArray 0 })] (Eo k caps σ) H2 s₃->tn 0 s₃.heap ->
   codeAny (model X.prog X.w) X.A (.compLoop (.ListComp elt [⟨tg,iter,ifs,0⟩] scope pos) 0 (.ref it) (.ref D) (compEnvC scope (own++cl) C X.env)) (RR (.ref D) C) s₃:=by
  intro s₃ I₃ st₃
  refine codeAny_loop rfl (fun n s'=>∃i ys its nn H',Inv (Dt X N2 scope (own++cl) C s2 H2 fp) [(D,{ cls:=.type "list",data:=.seq (its:List Value).toArray nn })] (Eo k caps σ) H' s'/\Vals ys its/\tn i s'.heap/\(∀b∈fp,H' b=none)/\ys.length<=sizeLine/\W i n ys H') ?_ m0
   ⟨0,[],[],0,H2,I₃,.nil,st₃,fun b hbf=>(f2 b hbf).1,U3i _,w0⟩
  rintro n s5 ⟨i,ys,its,nn,H5,I5,rv,st5,fr5,hz,w5⟩
  show wpAny _ X.A ((compTurn (.ListComp elt [⟨tg,iter,ifs,0⟩] scope pos) 0 (.ref it) (.ref D) (compEnvC scope (own++cl) C X.env)).onRaise (fun x=>do noteFrame x (compEnvC scope (own++cl) C X.env);theTreesLotGoes x)) _ _ s5
  refine wpAny_noted ?_
  rw[compTurn_list]
  refine U0 (U65 (U0 ?_))
  have fpok:∀{H':Hp} {o:Obj},(∀b∈fp,H' b=none)->∀b∈fp,Ny (Dt X N2 scope (own++cl) C s2 H2 fp) [(D,o)] H' b:=fun {H' o} hn b hbf=>by
   obtain⟨ob,e⟩:=f2h b hbf
   refine⟨hn b hbf,(below b ob e).1,OK.exfs b hbf,.inl hbf,(OK.exf b hbf).2,fun p hp z=>?_⟩
   have hp':p∈[(D,o)]:=hp
   have e':p=(D,o):=by simpa using hp'
   subst e'
   exact(below b ob e).2 z.symm
  rcases turn i n ys H5 w5 with ⟨stop,qn⟩|⟨go,hz2,step⟩
  .refine thn (T.done (Dt X N2 scope (own++cl) C s2 H2 fp) rfl rfl rfl hc i _ s5 _ H5 _ I5 (fpok fr5) st5 stop) fun r s6 ⟨hr,I6⟩=>?_
   subst hr
   refine U0f ?_
   obtain⟨pe,pn,pne,pnf,_⟩:=I6.pin (D,{ cls:=.type "list",data:=.seq its.toArray nn }) (U1l _ (U04.mpr rfl))
   have hD:H5 D=none:=pn
   have hCn:H5 C=none:=I6.free
   refine hRR D C s6 H5 ys szD szC (U01 hDC) hD hCn ?_ ?_ qn
   .have un:Un (frs X.stack) fp H2 (upd H5 D (.lst ys)) s2.heap s6.heap:=by
     have u:=I6.base
     refine⟨u.keep,u.slot,fun b o e n1 n2=>?_,u.there,fun b xs e=>?_,fun b o u' e=>?_,fun b ps e=>?_,fun n=>by rw[Bm (U0x (U0w I2.cW szD))];exact u.sy n⟩
     .rw[Bm (below b o e).2];exact u.free b o e n1 n2
     .rw[Bm (Dm (u.tups b xs e) hD)];exact u.tups b xs e
     .rw[Bm (Dm (u.frzs b o u' e) hD)];exact u.frzs b o u' e
     .obtain⟨more,q⟩:=u.tbls b ps e
      exact⟨more,by rw[Bm (Dm q hD)];exact q⟩
    refine I2.call' I6.os un (fun b u e=>?_) I6.bare (fun b hbf=>⟨(f2 b hbf).2.2.2.1,(f2 b hbf).2.1,(f2 b hbf).2.2.2.2.1,(f2 b hbf).2.2.2.2.2⟩)
    by_cases hbd:b=D
    .subst hbd
     rw[CK] at e;cases e
     exact⟨hz,its,nn,rv,pe⟩
    .rw[Bm hbd] at e
     exact(I6.hok b u e).stay (fun _ _ _ q=>q) (fun c q=>by rw[Bm (Dm q hD)];exact q) fun c xs q=>by rw[Bm (Dm q hD)];exact q
   .obtain⟨m,hn,_⟩:=I6.loc
    exact⟨m,hn⟩
  .refine thn (T.item (Dt X N2 scope (own++cl) C s2 H2 fp) rfl rfl rfl hc i _ s5 _ H5 _ I5 (fpok fr5) st5 go) fun r s6 ⟨u,hr,h6⟩=>?_
   subst hr
   refine U0 (thn h6 fun _ s7 ⟨x,H7,I7,r7,y7,st7,fr7⟩=>?_)
   have I7':=I7.pinned (fpok fr7) (T.obj _ _ st7)
   refine U0 (U54 (hg _ s7 _ H7 x u _ I7' r7 (hlow _ _ _ _ (step x H7 y7))) (fun _ s8 ⟨σ8,H8,I8,q8,ql,qk⟩=>?_) fun _ _ z=>z.elim)
   have wk:∀{pl:List (Addr×Obj)} {H9:Hp} {s9:Shared},Inv (Dt X N2 scope (own++cl) C s2 H2 fp) pl σ8 H9 s9->Inv (Dt X N2 scope (own++cl) C s2 H2 fp) pl (Eo k caps σ) H9 s9:=fun {pl H9 s9} I9 =>
    I9.weak ql.symm fun i v e=>by
     obtain⟨j,a,rfl,_,_⟩:=cI e
     rw[qk (k+j) (U1j _ _)];exact e
   have pinD:∀{pl:List (Addr×Obj)} {σ9:St} {H9:Hp} {s9:Shared},Inv (Dt X N2 scope (own++cl) C s2 H2 fp) (((D,({ cls:=.type "list",data:=.seq its.toArray nn }:Obj))::[])++pl) σ9 H9 s9->s9.heap.get? D=some { cls:=.type "list",data:=.seq its.toArray nn }/\H9 D=none:=fun {pl σ9 H9 s9} I9=>by
    obtain⟨e1,e2,_⟩:=I9.pin (D,_) (U1l _ (U3z _ (U04.mpr rfl)))
    exact⟨e1,e2⟩
   have stn:∀{pl:List (Addr×Obj)} {σ9:St} {H9:Hp} {s9:Shared},Inv (Dt X N2 scope (own++cl) C s2 H2 fp) (pl++M9 fp s7.heap) σ9 H9 s9->tn (i+1) s9.heap/\∀b∈fp,H9 b=none:=fun {pl σ9 H9 s9} I9=>by
    refine⟨T.keep _ _ _ st7 fun b hbf o e=>(I9.pin (b,o) (U1l _ (U1l _ (NQ hbf e)))).1,fun b hbf=>?_⟩
    obtain⟨o,e,d⟩:=T.obj _ _ st7 b hbf
    exact(I9.pin (b,o) (U1l _ (U1l _ (NQ hbf e)))).2.1
   refine U0 (U54 (ht _ s8 σ8 H8 _ I8 q8) (fun ok s9 ⟨H9,I9,q9⟩=>?_) fun _ _ z=>z.elim)
   cases ok with
   |false =>
    obtain⟨m',hm,w9⟩:=(by simpa using q9:∃m',m'<n/\W (i+1) m' ys H9)
    refine U0f ⟨rfl,m',hm,i+1,ys,its,nn,H9,wk I9.QL,rv,(stn I9).1,(stn I9).2,hz,w9⟩
   |true =>
    have q9':te σ8 H9 fun v H4=>∃m',m'<n/\W (i+1) m' (ys++[v]) H4:=by simpa using q9
    refine U0 (U0 (U54 (he _ s9 σ8 H9 _ I9 q9') (fun y s10 ⟨v,H10,I10,r10,q10⟩=>U0 ?_) fun _ _ z=>z.elim))
    obtain⟨m',hm,w10⟩:=q10
    obtain⟨eD,nD⟩:=pinD I10
    have hl:=rv.length
    refine call_meets F.slot_list_append ⟨_,eD,rfl⟩ F.entry_list_append (F.args_list_append_2 _ _) (PySem.list_append D its.toArray nn y (by rw[U0m];omega)) ⟨eD,?_⟩
    refine U0f (U0f ⟨rfl,m',hm,?_⟩)
    obtain⟨n2,qD⟩:∃n2,(s10.heap.update D (U2e fun z=>z.push y)).get? D=some { cls:=.type "list",data:=.seq (its++[y]).toArray n2 }:=by
     have q0:=PySem.IsL.update eD (fun z=>z.push y)
     have hf:its.toArray.push y=(its++[y]).toArray:=by simp
     rw[hf] at q0
     exact⟨_,q0⟩
    have J0:Inv (Dt X N2 scope (own++cl) C s2 H2 fp) (M9 fp s7.heap) (Eo k caps σ) H10 s10:=wk (I10.Ry fun p hp=>I10.pin p (U1l _ (U1l _ hp)))
    have J1:Inv (Dt X N2 scope (own++cl) C s2 H2 fp) (M9 fp s7.heap) (Eo k caps σ) H10 { s10 with heap:=s10.heap.update D (U2e fun z=>z.push y),toks:=s10.toks }:=by
     refine J0.turned (fun b o hne e=>(U1i s10.heap _ (U01 hne)).trans e) nD hDC (.inr szD) (fun x c e z=>?_) fun p hp z=>?_
     .rcases hcs x c e with y|y
      .have:=y.1
       rw[z] at this
       omega
      .obtain⟨o,ho⟩:=okc x c y
       exact(below c o ho).2 z
     .have hp':p∈M9 fp s7.heap:=hp
      obtain⟨ob,e⟩:=f2h p.1 (Wm hp').1
      exact(below p.1 ob e).2 z
    have J2:Inv (Dt X N2 scope (own++cl) C s2 H2 fp) [(D,{ cls:=.type "list",data:=.seq (its++[y]).toArray n2 })] (Eo k caps σ) H10 { s10 with heap:=s10.heap.update D (U2e fun z=>z.push y),toks:=s10.toks }:=by
     refine J1.Ry fun p hp=>?_
     have e:p=(D,{ cls:=.type "list",data:=.seq (its++[y]).toArray n2 }):=U04.mp hp
     subst e
     exact⟨qD,nD,hDC,fun z=>by
      rcases U0o.mp (I2.R7 D z) with z|z
      .exact Ly I2.lt szD z.symm
      .exact I2.jW szD z,fun v z=>by cases z⟩
    refine⟨i+1,ys++[v],its++[y],_,H10,J2,rv.append (.cons r10 .nil),?_,(stn I10).2,?_,w10⟩
    .refine T.keep _ _ _ (stn I10).1 fun b hbf o e=>?_
     obtain⟨ob,e'⟩:=f2h b hbf
     exact(U1i s10.heap _ (U01 (below b ob e').2)).trans e
    .rw[U0u,U3v];omega
 have st1:tn 0 h₁:=T.keep _ _ _ st2 fun b hbf o e=>old b o e
 exact codeAny_compStart_list (loop _ (I4 _) st1) (T.self X.A 0 _ _ _ st1 (loop _ (I4 _) st1))
theorem qX{elt tg iter:Expr}{ifs:List Expr}{scope:Scope}{pos:Pos}{N2:List Str}{k:Nat}{caps:List Nat}{wi:TI}{g:TG}{tt:TT}{te:TE}
  (hc:X.calm=true) (hS:Di X.env.scope X.N N2 k caps scope) (hlow:Low k g) (hi:PI X tg iter wi)
  (hb:∀(cl:List (Str×Addr))(C:Addr)(s:Shared)(H:Hp)(ex:List Addr),PG (Dt X N2 scope cl C s H ex) tg g/\PTs (Dt X N2 scope cl C s H ex) ifs tt/\PE (Dt X N2 scope cl C s H ex) elt te)
  (hs:∀x,foldedSetIterable iter X.env x=pure x:=by intro _;rfl):PE X (.ListComp elt [⟨tg,iter,ifs,0⟩] scope pos) (d8 k caps wi g tt te):=by
 intro pins s σ H Q I h
 rw[eval_ListComp]
 obtain⟨cl,hcl0,hcl,hcf⟩:=Ve (scope:=scope) (env:=X.env) fun y hy e=>I.ok.has y.1 (hS.free y hy e)
 refine wpAny_comprehension_free (use:=none) rfl hs hcl0 hS.kind hS.loc ?_
 refine thn (hi pins s σ H _ I h) fun v s1 h1=>thn h1 fun itv s2 h2=>?_
 obtain⟨it,fp,tn,J,H2,e,I2,T,st2,f2,W,⟨m0,w0⟩,turn⟩:=h2
 subst e
 refine Vd (RR:=fun acc C=>compPost (model X.prog X.w) X.A X.xe none (EP X pins σ Q) acc C) (Qe:=fun ys H=>∀p,H p=none->Q (.ref p) (upd H p (.lst ys))) hc hS hlow hcl hcf hb I2 T st2 f2 w0 turn ?_
 intro D C s' H' ys hD hC hDC nD nC I' hn q
 obtain⟨m,hn⟩:=hn
 refine⟨m,hn,fun h' hsb=>⟨.ref D,_,?_,rfl,q D nD⟩⟩
 refine I'.but hsb (by rw[Bm hDC];exact nC) (fun z=>?_) (U1a I2.sz hC) (fun x c e z=>?_) fun p hp z=>?_
 .exact Ly I2.lt hC z.symm
 .obtain⟨v,o,ho,_⟩:=I2.cell x c e
  exact Ly (U0l ho) hC z
 .exact Ly (U0l (I2.pin p hp).1) hC z
def yH(i:Nat)(t:TE):TS:=fun D σ H=>t σ H fun v H1=>D.nx (σ.set i (some v)) H1
theorem bL{elt tg iter:Expr}{ifs:List Expr}{scope:Scope}{pos py spos:Pos}{N2:List Str}{k i:Nat}{y:Str}{caps:List Nat}{wi:TI}{g:TG}{tt:TT}{te:TE}
  (hc:X.calm=true) (hN:X.N.Nodup) (hi':X.N[i]?=some y) (hS:Di X.env.scope X.N N2 k caps scope) (hlow:Low k g) (hi:PI X tg iter wi)
  (hb:∀(cl:List (Str×Addr))(C:Addr)(s:Shared)(H:Hp)(ex:List Addr),PG (Dt X N2 scope cl C s H ex) tg g/\PTs (Dt X N2 scope cl C s H ex) ifs tt/\PE (Dt X N2 scope cl C s H ex) elt te)
  (hx:X.env.scope.names.lookup y=some .local:=by rfl) (hsw:swapsWith (.ListComp elt [⟨tg,iter,ifs,0⟩] scope pos) (some (.Name y py)) spos.line X.env=pure true:=by rfl)
  (hs:∀x,foldedSetIterable iter X.env x=pure x:=by intro _;rfl):PS X (.Assign [.Name y py] (.ListComp elt [⟨tg,iter,ifs,0⟩] scope pos) spos) (yH i (d8 k caps wi g tt te)):=by
 intro pins s σ H D0 I h
 obtain⟨cl,hcl0,hcl,hcf⟩:=Ve (scope:=scope) (env:=X.env) fun y hy e=>I.ok.has y.1 (hS.free y hy e)
 rw[exec_Assign_Name_used _ _ _ _ hsw]
 refine U0 (U65 (U0 ?_))
 show wpAny _ X.A (do let _ ←comprehension (.ListComp elt [⟨tg,iter,ifs,0⟩] scope pos) scope X.env _ (newList []) false (eval iter X.env) (some (assign (.Name y py) X.env))) _ _ s
 refine U0 (U54 (wpAny_comprehension_free (use:=some (assign (.Name y py) X.env)) (Q:=fun _ s'=>SP X pins D0 .next s') rfl hs hcl0 hS.kind hS.loc ?_) (fun _ s' hq=>U0f (U0f hq)) fun _ _ e=>e)
 refine thn (hi pins s σ H _ I h) fun v s1 h1=>thn h1 fun itv s2 h2=>?_
 obtain⟨it,fp,tn,J,H2,e,I2,T,st2,f2,W,⟨m0,w0⟩,turn⟩:=h2
 subst e
 refine Vd (RR:=fun acc C=>compPost (model X.prog X.w) X.A X.xe (some (assign (.Name y py) X.env)) (fun _ s'=>SP X pins D0 .next s') acc C)
  (Qe:=fun ys H=>∀p,H p=none->D0.nx (σ.set i (some (.ref p))) (upd H p (.lst ys))) hc hS hlow hcl hcf hb I2 T st2 f2 w0 turn ?_
 intro D C s' H' ys hD hC hDC nD nC I' hn q
 obtain⟨m,hn⟩:=hn
 show wpAny _ X.A (assign (.Name y py) X.env (.ref D)) _ _ _
 refine wpAny_assign_Name (WY (v:=.ref D) I' hN hi' (.inl hx) rfl (fun s'' I'' ⟨a,hsb,ha⟩=>?_) (.inr hx))
 have hLC:C≠X.env.locals:=fun z=>Ly I2.lt hC z.symm
 have hcC:∀x c,X.env.cells.lookup x=some c->c≠C:=fun x c e z=>by
  obtain⟨v,o,ho,_⟩:=I2.cell x c e
  exact Ly (U0l ho) hC z
 have haC:C≠a:=by
  rcases ha with z|z
  .rw[z];exact hLC
  .exact fun e=>hcC y a z e.symm
 refine⟨m,hn.sameBut hsb haC,fun h' hsb'=>?_⟩
 refine⟨_,_,I''.but hsb' (by rw[Bm hDC];exact nC) hLC (U1a I2.sz hC) hcC fun p hp z=>?_,q D nD⟩
 exact Ly (U0l (I2.pin p hp).1) hC z
end
end L2
end
section
namespace L2
open PySem PySem.Spec PyProof.Rows
theorem Dz.obj{P:Program}{w:World}{H:Hp}{h:Heap}{a:Addr}{o:HO}(x:Dz P w H h a o):∃ob,h.get? a=some ob:=by
 cases o with
 |lst xs=>obtain⟨_,_,_,_,e⟩:=x;exact⟨_,e⟩
 |tup xs=>obtain⟨_,_,_,ob,e,_⟩:=x;exact⟨ob,e⟩
 |dK kvs=>obtain⟨_,_,_,_,o,_,_,e,_⟩:=x;exact⟨o,e⟩
 |dT kvs=>obtain⟨_,_,_,_,o,_,_,e,_⟩:=x;exact⟨o,e⟩
 |set S n=>obtain⟨o,_,_,_,e,_⟩:=x;exact⟨o,e⟩
 |ins C dx fs=>obtain⟨_,_,_,e,_⟩:=x;exact⟨_,e⟩
 |own y=>exact x
 |xd fs=>obtain⟨_,⟨o,_,_,e,_⟩,_⟩:=x;exact⟨o,e⟩
 |rng lo hi=>obtain⟨_,_,_,e⟩:=x;exact⟨_,e⟩
 |frz ob u=>obtain⟨e,_⟩:=x;exact⟨_,e⟩
 |tbl ps=>exact⟨_,x⟩
 |met f y=>exact⟨_,x⟩
 |ext φ=>obtain⟨_,e,_⟩:=x;exact e
section
variable{X:Cx}{pins:List (Addr×Obj)}{σ:St}{H:Hp}{s:Shared}
theorem Inv.bQ(I:Inv X pins σ H s){a:Addr}(h:s.heap.get? a=none):H a=none:=by
 cases q:H a with
 |none=>rfl
 |some o =>
  obtain⟨ob,e⟩:=(I.hok a o q).obj
  rw[h] at e;cases e
theorem Inv.laidN{a:Addr}{o:HO}{h':Heap}{d':Drawn}{t':Nat}(I:Inv X pins σ H s)(k:∀b u,s.heap.get? b=some u->h'.get? b=some u)(hn:s.heap.get? a=none)(hsy:sysModules≠a)(new:Dz X.prog X.w (upd H a o) h' a o) :
  Inv X pins σ (upd H a o) { s with heap:=h',drawn:=d',toks:=t' }:=by
 have hH:=I.bQ hn
 have ne:∀b u,s.heap.get? b=some u->b≠a:=fun b u e z=>by rw[z,hn] at e;cases e
 refine I.step (g':=s.gens) (ch:=[]) (fun _ z=>nomatch z) (fun b u _ _ _ e _=>k b u e) (fun b u _ _ _ e _=>⟨u.slots,k b u e⟩) (fun b u _ e n=>by rw[Bm (ne b u e)];exact n) (fun b u _ e=>⟨u,k b u e⟩)
  (fun b xs e=>by rw[Bm (Dm e hH)];exact e) (fun b u xs e=>by rw[Bm (Dm e hH)];exact e) (fun b ps e=>⟨#[],by rw[Bm (Dm e hH),e];simp⟩) (fun m hm=>?_) (fun b u e=>?_) I.bare (fun n=>by rw[Bm hsy];exact n)
 .obtain⟨ob,es,ep,e,r⟩:=hm
  exact⟨ob,es,ep,k _ _ e,r⟩
 .by_cases hb:b=a
  .subst hb;rw[CK] at e;cases e;exact new
  .rw[Bm hb] at e
   exact(I.hok b u e).stay (fun c v _ q=>k c v q) (fun c q=>by rw[Bm (Dm q hH)];exact q) fun c xs q=>by rw[Bm (Dm q hH)];exact q
end
def Y0(P:Program)(w:World)(a:Addr)(ds:List Int):HO:=.ext fun h=>SetP.SetT P w h a ds
theorem pX{P:Program}{w:World}{H:Hp}{h:Heap}{a:Addr}{ds:List Int}(x:SetP.SetT P w h a ds):Dz P w H h a (Y0 P w a ds) :=
 ⟨x,(by obtain⟨_,o,_,_,_,e,_⟩:=x;exact⟨o,e⟩),fun h1 h2 y k=>y.sameBut k⟩
section
variable{X:Cx}
theorem nT(hc:X.calm=true):Dc X (.type "set") (fun xs H Q=>∃p ns,xs=[.ref p]/\SqL X.K H p (ns.map V.int)/\ns.length<1000/\∀a,H a=none->Q (.ref a) (upd H a (Y0 X.prog X.w a (SetP.once ns)))):=by
 intro pins s σ H xs us Q I r h
 obtain⟨p,ns,rfl,hq,hl,q⟩:=h
 obtain⟨u,rfl,rx⟩:=vals1 r
 cases rx
 obtain⟨its,rv,pl,hz⟩:=I.list hq
 have hlen:=rv.length
 rw[U0k] at hlen
 refine SetP.pW (I.ok.hd hc) pl.isList (by simpa using intsAre_of rv) (by rw[U0m,←hlen];unfold scanBound;omega) fun h' tk k T=>?_
 have hn:s.heap.get? s.heap.objs.size=none:=Heap.get?_none_of_le (U0q _)
 exact⟨.ref s.heap.objs.size,_,I.laidN (d':=s.drawn) (t':=tk) k hn (U0x I.cW) (pX T),rfl,q _ (I.hok.fresh (U0q _))⟩
theorem WM(hc:X.calm=true):Dc X (.builtin "sorted") (fun xs H Q=>∃(a:Addr)(ds:List Int),xs=[.ref a]/\H a=some (Y0 X.prog X.w a ds)/\ds.length<64 /\
  ∀(l:Addr)(ns:List Int),H l=none->ns.Perm ds->ns.Pairwise (·<=·)->Q (.ref l) (upd H l (.lst (ns.map V.int)))):=by
 intro pins s σ H xs us Q I r h
 obtain⟨a,ds,rfl,hH,hl,q⟩:=h
 obtain⟨u,rfl,rx⟩:=vals1 r
 cases rx
 obtain⟨T,_,_⟩:=(show Dz X.prog X.w H s.heap a (Y0 X.prog X.w a ds) from I.hok a _ hH)
 refine SetP.kI (I.ok.hd hc) T hl fun h' d' tk l vs ns n k hb e hi hp hs=>?_
 have hn:s.heap.get? l=none:=by
  cases q:s.heap.get? l with
  |none=>rfl
  |some o=>exact absurd (hb l o q) (U34 _)
 have hsy:sysModules≠l:=by
  obtain⟨o,_,_,e,_⟩:=I.ok.mod.glob
  exact U0x (U3 (by decide:(1:Nat)<3) (hb _ _ (I.bk _ _ e)))
 have hlen:ns.length<64:=by rw[hp.length_eq];exact hl
 refine⟨.ref l,_,I.laidN (d':=d') (t':=tk) (o:=.lst (ns.map V.int)) k hn hsy ⟨?_,vs.toList,n,RN hi,by simpa using e⟩,rfl,q l ns (I.bQ hn) hp hs⟩
 rw[U0k]
 exact U2u (Wc (by omega))
theorem Zi{prog:Program}{w:World}{A:Around}{bs:List Bool}{its:List Value}(r:Vals (bs.map V.bl) its):TruthOf prog w A (fun i v=>its.toArray[i]?=some v) (fun i=>bs.getD i false):=by
 intro i v s Q E hP h
 rw[U4f] at hP
 have hlen:=r.length
 rw[U0k] at hlen
 have hi:i<bs.length:=by rw[hlen];exact(U0i.mp hP).1
 obtain⟨u,e,ru⟩:=r.get (i:=i) (x:=.bl bs[i]) (by rw[U0v,U0d hi];rfl)
 rw[e] at hP;cases hP
 have ru':v=U3y bs[i]:=ru
 subst ru'
 have e2:bs.getD i false=bs[i]:=by rw[U0h,U0d hi];rfl
 have h:Q (bs.getD i false) s:=h
 rw[e2] at h
 exact U3m h
theorem all_range(bs:List Bool):(U0n bs.length).all (fun i=>bs.getD i false)=bs.all id:=by
 rw[U22,U3g,U3g]
 constructor
 .intro h b hb
  obtain⟨i,hi⟩:=U4e.mp hb
  have q:=h i (U1z.mpr (U0i.mp hi).1)
  rw[U0h,hi] at q
  exact q
 .intro h i hi
  have hi':=U1z.mp hi
  rw[U0h,U0d hi']
  exact h _ (U1f hi')
theorem U9(hc:X.calm=true):Dc X (.builtin "all") (fun xs H Q=>∃(p:Addr)(bs:List Bool),xs=[.ref p]/\SqL X.K H p (bs.map V.bl)/\Q (.bl (bs.all id)) H):=by
 intro pins s σ H xs us Q I r h
 obtain⟨p,bs,rfl,hq,q⟩:=h
 obtain⟨u,rfl,rx⟩:=vals1 r
 cases rx
 obtain⟨its,rv,pl,hz⟩:=I.list hq
 have hlen:=rv.length
 rw[U0k] at hlen
 have hl:=pl.isList
 have hlt:p<s.heap.objs.size:=by obtain⟨o,ho,_⟩:=hl;exact U0l ho
 refine call_all_walk (U33 hl ?_)
 refine⟨s.heap.objs.size,[s.heap.objs.size,p],[s.heap.objs.size],its.toArray.size,_,_,fun i=>bs.getD i false,rfl,Walks.list (by simpa using I.ok.hd hc) s.heap.objs.size p (U0x hlt) its.toArray,⟨⟨_,U0p _ rfl,rfl,rfl⟩,hl.push _⟩,Zi rv,fun h' tk k=>?_⟩
 refine⟨.bl (bs.all id),H,I.kept (h':=h') (t':=tk) fun b o e=>k b o (fun z=>?_) (U0a _ e),?_,q⟩
 .exact absurd (U04.mp z) (U0x (U0l e))
 .show U3y _=U3y _
  rw[U0m,←hlen,all_range]
theorem Cj{K:U0b}{a b:String}{r:Bool}(h:(if (U3s a==U3s b)=true then some true else if PySem.W.kitMeta b=true then (PySem.fastBuiltinMro a).map (·.contains (.type b)) else none)=some r):U3j K (.type a) (.type b)=some r:=h
theorem aU:Dc X (.builtin "isinstance") (fun xs H Q=>∃(x:V)(T:String)(t:Value)(b:Bool),xs=[x,.ty T]/\Kc X.K H x t/\U3j X.K t (.type T)=some b/\Q (.bl b) H):=by
 intro pins s σ H xs us Q I r h
 obtain⟨x,T,t,b,rfl,ty,e,q⟩:=h
 obtain⟨u,w',rfl,rx,rt⟩:=vals2 r
 cases (show w'=U3s T from rt)
 exact j9 I rx ty e fun tk=>⟨.bl b,H,I.tok tk,rfl,q⟩
theorem aR:Dc X (.type "range") (fun xs H Q=>∃(n:Int),xs=[.int n]/\∀p,H p=none->Q (.ref p) (upd H p (.rng 0 n))):=by
 intro pins s σ H xs us Q I r h
 obtain⟨n,rfl,q⟩:=h
 obtain⟨u,rfl,rx⟩:=vals1 r
 obtain⟨t,rfl⟩:=(show ∃t,u=U3f n t from rx)
 exact call_range_1 ⟨.ref s.heap.objs.size,_,I.laid (o:=.rng 0 n) (fun _ _ e=>U0a _ e) (U0q _) ⟨_,_,_,U0p _ rfl⟩,rfl,q _ (I.hok.fresh (U0q _))⟩
theorem aQ:Dc X (.type "range") (fun xs H Q=>∃(a b:Int),xs=[.int a,.int b]/\∀p,H p=none->Q (.ref p) (upd H p (.rng a b))):=by
 intro pins s σ H xs us Q I r h
 obtain⟨a,b,rfl,q⟩:=h
 obtain⟨u,w',rfl,rx,ry⟩:=vals2 r
 obtain⟨t,rfl⟩:=(show ∃t,u=U3f a t from rx)
 obtain⟨t',rfl⟩:=(show ∃t,w'=U3f b t from ry)
 exact call_range_2 ⟨.ref s.heap.objs.size,_,I.laid (o:=.rng a b) (fun _ _ e=>U0a _ e) (U0q _) ⟨_,_,_,U0p _ rfl⟩,rfl,q _ (I.hok.fresh (U0q _))⟩
def upTo(lo:Int)(n:Nat):List Int:=(U0n n).map fun(i:Nat)=>lo+i
theorem WQ(hc:X.calm=true):Dc X (.type "list") (fun xs H Q=>∃(r:Addr)(lo hi:Int),xs=[.ref r]/\H r=some (.rng lo hi)/\-(2^62)<=lo/\lo<2^62/\-(2^62)<=hi/\hi<2^62/\(hi-lo).toNat<=1000 /\
  ∀l,H l=none->Q (.ref l) (upd H l (.lst ((upTo lo (hi-lo).toNat).map V.int)))):=by
 intro pins s σ H xs us Q I rr h
 obtain⟨r,lo,hi,rfl,hH,h1,h2,h3,h4,h5,q⟩:=h
 obtain⟨u,rfl,rx⟩:=vals1 rr
 cases rx
 obtain⟨t,u,v,e⟩:=(show Dz X.prog X.w H s.heap r (.rng lo hi) from I.hok r _ hH)
 have hsz:U37 lo hi 1=(((hi-lo).toNat:Nat):Int):=by rw[rangeSize_one];split<;>omega
 refine call_list_range (a:=lo) (b:=hi) (c:=1) (I.ok.hd hc) e (small_one h1 h2 h3 h4) hsz (by omega) fun h' tk acc c k eS hacc=>?_
 refine⟨.ref s.heap.objs.size,_,I.laid (o:=.lst ((upTo lo (hi-lo).toNat).map V.int)) (t':=tk) k (U0q _) ⟨?_,acc.toList,c,?_,by simpa using eS⟩,rfl,q _ (I.hok.fresh (U0q _))⟩
 .unfold upTo
  rw[U0k,U0k,U2z]
  exact U2u (Wc h5)
 .have gen:∀(l:List Value)(j:Nat),(∀(i:Nat)(v:Value),l[i]?=some v->∃t,v=U3f (lo+((i+j:Nat):Int)) t)->Vals (((U77 j l.length).map fun(i:Nat)=>lo+i).map V.int) l:=by
   intro l
   induction l with
   |nil=>intro j _;exact .nil
   |cons x r ih =>
    intro j hx
    obtain⟨t,e⟩:=hx 0 x rfl
    subst e
    rw[U0j,List.range'_succ]
    refine .cons ⟨t,by simp⟩ (ih (j+1) fun i v hv=>?_)
    obtain⟨t',e'⟩:=hx (i+1) v (by simpa using hv)
    exact⟨t',by rw[e',show i+1+j=i+(j+1) by omega]⟩
  have q2:=gen acc.toList 0 fun i v hv=>by
   obtain⟨t',e'⟩:=hacc.2 i v (by simpa using hv)
   exact⟨t',by rw[e'];simp⟩
  have el:acc.toList.length=(hi-lo).toNat:=by simpa using hacc.1
  rw[el,←List.range_eq_range'] at q2
  exact q2
end
end L2
end
section
namespace L2
open PySem PySem.Spec PyProof.Rows
mutual
inductive Tr (N:Addr->Prop) (H:Hp):V->PyData->Prop
 |non:Tr N H .non .none
 |bl (b:Bool):Tr N H (.bl b) (.bool b)
 |int (i:Int):Tr N H (.int i) (.int i)
 |str (x:Str):Tr N H (.str x) (.str x)
 |lst {a:Addr} {xs:List V} {ds:List PyData}:N a->H a=some (.lst xs)->Kz N H xs ds->Tr N H (.ref a) (.list ds)
 |tup {a:Addr} {xs:List V} {ds:List PyData}:N a->H a=some (.tup xs)->Kz N H xs ds->Tr N H (.ref a) (.tuple ds)
 |dct {a:Addr}:N a->H a=some (.dK [])->Tr N H (.ref a) (.dict [])
inductive Kz (N:Addr->Prop) (H:Hp):List V->List PyData->Prop
 |nil:Kz N H [] []
 |cons {x:V} {d:PyData} {xs:List V} {ds:List PyData}:Tr N H x d->Kz N H xs ds->Kz N H (x::xs) (d::ds)
end
section
variable{N N':Addr->Prop}{H H':Hp}
end
section
variable{N:Addr->Prop}{P:Program}{w:World}{H:Hp}{h:Heap}
mutual
theorem Tr.reads(ok:HOk P w H h)(hs:H sysModules=none):∀{v:V} {d:PyData},Tr N H v d->∀u,RelV v u->∃as,Reads h u d as/\sysModules ∉ as
 |_,_,.non,u,r=>⟨[],by cases (show u=U2w from r);exact .none,by simp⟩
 |_,_,.bl b,u,r=>⟨[],by cases (show u=U3y b from r);exact .bool b,by simp⟩
 |_,_,.int i,u,r=>by obtain⟨t,rfl⟩:=(show ∃t,u=U3f i t from r);exact⟨[],.int i t,by simp⟩
 |_,_,.str x,u,r=>by obtain⟨t,rfl⟩:=(show ∃t,u=Value.str x t from r);exact⟨[],.str x t,by simp⟩
 |_,_,.lst (a:=a) (xs:=xs) (ds:=ds) _ hH t,u,r=>by
  cases (show u=U2n a from r)
  obtain⟨_,its,n,rv,e⟩:=(show Dz P w H h a (.lst xs) from ok a _ hH)
  obtain⟨as,ra,na⟩:=Kz.reads ok hs t its rv
  refine⟨a::as,.list e rfl rfl (by simpa using ra),fun z=>?_⟩
  rcases U0o.mp z with z|z
  .rw[z] at hs;rw[hs] at hH;cases hH
  .exact na z
 |_,_,.tup (a:=a) (xs:=xs) (ds:=ds) _ hH t,u,r=>by
  cases (show u=U2n a from r)
  obtain⟨_,its,rv,ob,e,c,n,d⟩:=(show Dz P w H h a (.tup xs) from ok a _ hH)
  obtain⟨as,ra,na⟩:=Kz.reads ok hs t its rv
  exact⟨as,.tuple e c d (by simpa using ra),na⟩
 |_,_,.dct (a:=a) _ hH,u,r=>by
  cases (show u=U2n a from r)
  obtain⟨_,y,vs,kv,o,es,ep,e,ex,d,el⟩:=(show Dz P w H h a (.dK []) from ok a _ hH)
  cases kv
  have e0:es.toList=[]:=by
   have q:Pairs (Vz P w) es.toList []:=el.2.1
   generalize es.toList=l at q
   cases q
   rfl
  refine⟨[a],.dict (as:=[]) (bs:=[]) e ex.1 d (by rw[e0];exact .nil) (by rw[e0];exact .nil),fun z=>?_⟩
  have z':=U04.mp z
  rw[←z'] at y
  simp at y
theorem Kz.reads(ok:HOk P w H h)(hs:H sysModules=none):∀{xs:List V} {ds:List PyData},Kz N H xs ds->∀us,Vals xs us->∃as,ReadsAll h us ds as/\sysModules ∉ as
 |_,_,.nil,us,r=>by cases r;exact⟨[],.nil,by simp⟩
 |_,_,.cons t ts,us,r=>by
  cases r with
  |cons rx rr =>
   obtain⟨as,ra,na⟩:=Tr.reads ok hs t _ rx
   obtain⟨bs,rb,nb⟩:=Kz.reads ok hs ts _ rr
   exact⟨as++bs,.cons ra rb,fun z=>(U12.mp z).elim na nb⟩
end
end
section
variable{X:Cx}
theorem vh{k:Nat}(hr:FW k X.A):OpR X (compareOp .Eq) (fun x y H Q=>∃(N N':Addr->Prop)(d e:PyData),Tr N H x d/\Tr N' H y e/\U2v d=true/\U2v e=true/\Q (.bl (U7x d e)) H):=by
 intro pins s σ H x y v u Q I rx ry h
 obtain⟨N,N',d,e,t1,t2,s1,s2,q⟩:=h
 obtain⟨as,ra,_⟩:=t1.reads I.hok I.Vr v rx
 obtain⟨bs,rb,_⟩:=t2.reads I.hok I.Vr u ry
 exact SeqAt.compareEq_shaped ra rb s1 s2 hr.units ⟨.bl _,H,I,rfl,q⟩
theorem vf{k:Nat}(hr:FW k X.A):OpR X (compareOp .NotEq) (fun x y H Q=>∃(N N':Addr->Prop)(d e:PyData),Tr N H x d/\Tr N' H y e/\U2v d=true/\U2v e=true/\Q (.bl (!PyData.eqv d e)) H):=by
 intro pins s σ H x y v u Q I rx ry h
 obtain⟨N,N',d,e,t1,t2,s1,s2,q⟩:=h
 obtain⟨as,ra,_⟩:=t1.reads I.hok I.Vr v rx
 obtain⟨bs,rb,_⟩:=t2.reads I.hok I.Vr u ry
 exact SeqAt.compareNe_shaped ra rb s1 s2 hr.units ⟨.bl _,H,I,rfl,q⟩
end
end L2
end
section
namespace HT
open PySem PySem.Spec PyProof.Rows
section
variable{prog:Program}{w:World}{A:Around}{E:Value->Shared->Prop}{s:Shared}
theorem nR{t b:Addr}{ws:List Value}{Q:Value->Shared->Prop}(ht:IsTup s.heap t ([]:List Value).toArray)(hb:IsTup s.heap b ws.toArray)(h:Q (.ref b) s):wpAny (model prog w) A (binaryOp .Add (.ref t) (.ref b)) Q E s:=by
 obtain⟨⟨c1,d1,x1,sl1⟩,ho,hc,n,hd⟩:=id ht
 obtain⟨⟨c2,d2,x2,sl2⟩,ho2,hc2,n2,hd2⟩:=id hb
 simp only at hc hd hc2 hd2
 subst hc hd hc2 hd2
 exact concat_meets ⟨_,ho,rfl⟩ ⟨_,ho2,rfl⟩ noFill_tuple_add seq_tuple_add U6c U57 (U50 _ _) (tuple_addW0 t b _ ws.toArray n n2 d1 d2 sl1 sl2 (by simp)) ⟨ho,ho2,h⟩
theorem Zm{t sl:Addr}{items:Array Value}{vl vu:Value}{lo hi:Option Int}{Q:Value->Shared->Prop}(ht:IsTup s.heap t items)(hs:s.heap.IsSliceOf sl vl vu .none)(pl:IsPart vl lo)(pu:IsPart vu hi)
  (hw:sIx items.size 0 lo=0/\sIx items.size items.size hi=items.size) (h:Q (.ref t) s):wpAny (model prog w) A (getItem (.ref t) (.ref sl)) Q E s:=by
 obtain⟨os,hos,hcs,hds⟩:=id hs
 have hTs:s.TypeIs (.ref sl) "slice":=⟨os,hos,hcs⟩
 unfold getItem
 try with_reducible refine U2s ?_
 first|refine U0 (U0f ?_)|skip
 refine U0 (wpAny_sequenceKey ht.typeIs (by decide) ?_)
 refine U0 (wpAny_callSpecial?_slot (name:=U3a "__getitem__") ht.typeIs U20 (U17 U20 ht.typeIs entry_tuple_getitem ?_ (args_tuple_getitem _ _)))
 show wpAny _ _ (Builtin.Tuple.tupleItemsOf (.ref t) >>= _) _ _ s
 refine U0 (tupleItemsOf_ ht (U0 (U51 hTs ?_)))
 rw[if_pos (by decide)]
 refine U0 (Oh hs pl pu ?_)
 have yes:(((sIx items.size 0 lo:Nat):Int)==0&&(1:Int)==1&&(sIx items.size items.size hi-sIx items.size 0 lo)==items.size)=true:=by
  rw[hw.1,hw.2];simp
 show wpAny _ _ (if (((sIx items.size 0 lo:Nat):Int)==0&&(1:Int)==1&&(sIx items.size items.size hi-sIx items.size 0 lo)==items.size)=true then _ else _) _ _ s
 rw[if_pos yes]
 unfold Builtin.Tuple.tupleIsExact
 refine U0 (U0 (U51 ht.typeIs (U0f ?_)))
 rw[if_pos (by decide)]
 exact U0 (U39 (U0f ⟨_,rfl,U0f h⟩))
end
end HT
namespace L2
open PySem PySem.Spec PyProof.Rows
theorem Cp{H:Hp}{p:Addr}(h:H p=none)(o:HO):Same H (upd H p o):=fun b u q=>by rw[Bm (Dm q h)];exact q
theorem fB(xs:List V)(lo hi:Option Int)(h:HT.sIx xs.length 0 lo=0/\HT.sIx xs.length xs.length hi=xs.length):Kv xs lo hi=xs:=by
 unfold Kv
 rw[h.1,h.2,U56,Nat.sub_zero,U29]
section
variable{X:Cx}
theorem qg:OpR X (binaryOp .Add) (fun x y H Q=>∃(a b:Addr)(xs ys:List V),x=.ref a/\y=.ref b/\H a=some (.tup xs)/\H b=some (.tup ys)/\xs.length+ys.length<=sizeLine/\∀p H',Same H H'->H' p=some (.tup (xs++ys))->Q (.ref p) H'):=by
 intro pins s σ H x y v u Q I rx ry h
 obtain⟨a,b,xs,ys,rfl,rfl,ha,hb,hz,q⟩:=h
 by_cases hx:xs=[]
 .subst hx
  cases rx
  cases ry
  obtain⟨its,r1,p1,_⟩:=I.tuple (SqT.of ha)
  obtain⟨its2,r2,p2,_⟩:=I.tuple (SqT.of hb)
  cases r1
  exact HT.nR p1 p2 ⟨.ref b,H,I,rfl,q b H (Same.refl H) hb⟩
 .refine qe pins s σ H _ _ v u Q I rx ry ⟨a,b,xs,ys,rfl,rfl,SqT.of ha,SqT.of hb,hx,hz,fun z=>?_,fun _ p hp=>q p _ (Cp hp _) CK⟩
  subst z
  exact q a H (Same.refl H) (by rw[U27];exact ha)
theorem pP:SlR X (fun x lo hi H Q=>∃(a:Addr)(xs:List V),x=.ref a/\H a=some (.tup xs)/\∀p H',Same H H'->H' p=some (.tup (Kv xs lo hi))->Q (.ref p) H'):=by
 intro pins s σ H x v vl vu lo hi sl Q I rx hs pl pu h
 obtain⟨a,xs,rfl,ha,q⟩:=h
 by_cases hw:HT.sIx xs.length 0 lo=0/\HT.sIx xs.length xs.length hi=xs.length
 .cases rx
  obtain⟨its,r,ht,hz⟩:=I.tuple (SqT.of ha)
  have hlen:its.toArray.size=xs.length:=by rw[U0m];exact r.length.symm
  refine⟨"tuple",_,U20.lookup,ht.typeIs,?_⟩
  exact HT.Zm ht hs pl pu (by rw[hlen];exact hw) ⟨.ref a,H,I,rfl,q a H (Same.refl H) (by rw[fB xs lo hi hw];exact ha)⟩
 .exact uy pins s σ H _ v vl vu lo hi sl Q I rx hs pl pu ⟨a,xs,rfl,SqT.of ha,hw,fun p hp=>q p _ (Cp hp _) CK⟩
theorem lu{d:Addr}{D:List (PyData×PyData)}(hT:∀h,X.K.In h->IntTab X.prog X.w h d D):OpR X (compareOp .In) (fun x y H Q=>∃(i:Int),x=.int i/\y=.ref d/\Q (.bl (lookup (.int i) D).isSome) H):=by
 intro pins s σ H x y v u Q I rx ry h
 obtain⟨i,rfl,rfl,q⟩:=h
 obtain⟨t,rfl⟩:=(show ∃t,v=U3f i t from rx)
 cases ry
 exact in_intTab (hT _ I.kIn) ⟨.bl _,H,I.tok _,rfl,q⟩
theorem uE{P:Program}{w:World}{K:U0b}{d:Addr}{ep:Nat}{h1 h2 h3 k1 k2 k3 v1 v2 v3:Int}{t1 t2 t3 u1 u2 u3:Tok}(hd:(d==sysModules)=false)
  (l:K.lookup d=some { cls:=.type "dict",data:=.dict #[⟨h1,.int k1 t1,.int v1 u1⟩,⟨h2,.int k2 t2,.int v2 u2⟩,⟨h3,.int k3 t3,.int v3 u3⟩] ep })
  (e1:h1=hashInt k1) (e2:h2=hashInt k2) (e3:h3=hashInt k3) (nd:[k1,k2,k3].Nodup):∀h,K.In h->IntTab P w h d [(.int k1,.int v1),(.int k2,.int v2),(.int k3,.int v3)]:=by
 intro h kin
 refine⟨hd,[(k1,.int v1 u1),(k2,.int v2 u2),(k3,.int v3 u3)],⟨_,_,ep,kin _ _ l,⟨rfl,rfl,rfl⟩,rfl,?_,?_,nd⟩,?_⟩
 .intro e he
  simp only[List.mem_toArray,U0o,U02,or_false] at he
  rcases he with z|z|z
  .subst z;exact⟨k1,intKind_is P w k1 t1,e1⟩
  .subst z;exact⟨k2,intKind_is P w k2 t2,e2⟩
  .subst z;exact⟨k3,intKind_is P w k3 t3,e3⟩
 .exact .cons (intKind_is P w k1 t1) rfl (.cons (intKind_is P w k2 t2) rfl (.cons (intKind_is P w k3 t3) rfl .nil))
 .exact .cons (.int v1 u1) (.cons (.int v2 u2) (.cons (.int v3 u3) .nil))
end
end L2
end
section
namespace L2
open PySem PySem.Spec PyProof.Rows
def Cal(P:Program)(w:World)(K:U0b)(mg:Str->Option Value)(base:Heap)(x:Str)(k:Nat)(ps:List Str)(sp:Sp):Prop :=
 ∃f fd,Cv P w K mg base CX0 k f fd ps sp/\Binds K fd ps []/\U03 K (.ref f)=true/\mg x=some (.ref f)
section
variable{X:Cx}
theorem QV{x:Str}{k k':Nat}{ps:List Str}{sp:Sp}{e:Expr}{es:List Expr}{t:TA}{p pos:Pos}(c:Cal X.prog X.w X.K X.mg X.base x k ps sp)(hr:FW k' X.A)(hk:k<=k')(hg:Gl X x)(ha:PA X (e::es) t)
  (hdb:(x==("__debug__":Str))=false:=by decide) (he:starEach (e::es) X.env=(false,eval e X.env)::starEach es X.env:=by rfl) (hpl:(backTo pos (starEach es X.env)).any (·.1)=false:=by rfl) :
  PE X (.Call (.Name x p) (e::es) [] pos) (o9 sp [] E0 t):=by
 obtain⟨f,fd,F,b,kp,m⟩:=c
 exact qY (F.mono hk) hr hg m kp b .nil yg ha hdb he hpl
theorem O7:OpR X (binaryOp .FloorDiv) (rI (fun _ j=>0<j/\j<2^64) fun i j=>.int (i/j)):=opI fun i j _ _ _ _ _ hc q=>by
 rw[←Int.fdiv_eq_ediv_of_nonneg _ (U74 hc.1)] at q
 refine floordiv_int (Int.ne_of_gt hc.1) q (.inl (PyProof.noPylong_of_log2 ?_))
 have h1:j.natAbs<2^64:=by omega
 have h2:j.natAbs≠0:=by omega
 exact U3 ((Nat.log2_lt h2).mpr h1) (by decide)
end
theorem K4:bootBuiltins "len"=some (.builtin "len"):=by decide +kernel
theorem Fp:bootBuiltins "isinstance"=some (.builtin "isinstance"):=by decide +kernel
theorem Yd:bootBuiltins "all"=some (.builtin "all"):=by decide +kernel
theorem jP:bootBuiltins "sorted"=some (.builtin "sorted"):=by decide +kernel
theorem Q7:bootBuiltins "min"=some (.builtin "min"):=by decide +kernel
theorem O2:bootBuiltins "max"=some (.builtin "max"):=by decide +kernel
theorem wg:bootBuiltins "set"=some (.type "set"):=by decide +kernel
theorem SQ:bootBuiltins "list"=some (.type "list"):=by decide +kernel
theorem JZ:bootBuiltins "tuple"=some (.type "tuple"):=by decide +kernel
theorem nY:bootBuiltins "range"=some (.type "range"):=by decide +kernel
theorem V0:bootBuiltins "int"=some (.type "int"):=by decide +kernel
theorem cJ:bootBuiltins "bool"=some (.type "bool"):=by decide +kernel
def UG:List Str:=["len","isinstance","all","sorted","min","max","abs","repr","set","list","tuple","range","int","bool","str"]
def Blt(mg:Str->Option Value):Prop:=∀x∈UG,mg x=none
theorem Blt.is{mg:Str->Option Value}(b:Blt mg)(x:Str)(h:UG.contains x=true:=by decide +kernel):mg x=none:=b x (List.contains_iff_mem.mp h)
def tyName:PyData->String
 |.none=>"NoneType"
 |.bool _=>"bool"
 |.int _=>"int"
 |.str _=>"str"
 |.list _=>"list"
 |.tuple _=>"tuple"
 |.dict _=>"dict"
theorem Tr.ty{N:Addr->Prop}{K:U0b}{H:Hp}{v:V}{d:PyData}(t:Tr N H v d):Kc K H v (.type (tyName d)):=by
 cases t with
 |non=>exact .non
 |bl b=>exact .bl b
 |int i=>exact .int i
 |str x=>exact .str x
 |lst _ h _=>exact .lst h
 |tup _ h _=>exact .tup h
 |dct _ h=>exact .dK h
def Y7(T:String)(d:PyData):Bool:=match T with
 |"int"=>(match d with|.int _=>true|.bool _=>true|_=>false)
 |"bool"=>(match d with|.bool _=>true|_=>false)
 |"tuple"=>(match d with|.tuple _=>true|_=>false)
 |"list"=>(match d with|.list _=>true|_=>false)
 |_=>false
theorem rE{K:U0b}(d:PyData):U3j K (.type (tyName d)) (.type "int")=some (Y7 "int" d):=by
 cases d with
 |none=>exact Cj (a:="NoneType") (r:=false) (by decide +kernel)
 |bool _=>exact Cj (a:="bool") (r:=true) (by decide +kernel)
 |int _=>exact Cj (a:="int") (r:=true) (by decide +kernel)
 |str _=>exact Cj (a:="str") (r:=false) (by decide +kernel)
 |list _=>exact Cj (a:="list") (r:=false) (by decide +kernel)
 |tuple _=>exact Cj (a:="tuple") (r:=false) (by decide +kernel)
 |dict _=>exact Cj (a:="dict") (r:=false) (by decide +kernel)
theorem mV{K:U0b}(d:PyData):U3j K (.type (tyName d)) (.type "bool")=some (Y7 "bool" d):=by
 cases d with
 |none=>exact Cj (a:="NoneType") (r:=false) (by decide +kernel)
 |bool _=>exact Cj (a:="bool") (r:=true) (by decide +kernel)
 |int _=>exact Cj (a:="int") (r:=false) (by decide +kernel)
 |str _=>exact Cj (a:="str") (r:=false) (by decide +kernel)
 |list _=>exact Cj (a:="list") (r:=false) (by decide +kernel)
 |tuple _=>exact Cj (a:="tuple") (r:=false) (by decide +kernel)
 |dict _=>exact Cj (a:="dict") (r:=false) (by decide +kernel)
theorem kit_tuple{K:U0b}(d:PyData):U3j K (.type (tyName d)) (.type "tuple")=some (Y7 "tuple" d):=by
 cases d with
 |none=>exact Cj (a:="NoneType") (r:=false) (by decide +kernel)
 |bool _=>exact Cj (a:="bool") (r:=false) (by decide +kernel)
 |int _=>exact Cj (a:="int") (r:=false) (by decide +kernel)
 |str _=>exact Cj (a:="str") (r:=false) (by decide +kernel)
 |list _=>exact Cj (a:="list") (r:=false) (by decide +kernel)
 |tuple _=>exact Cj (a:="tuple") (r:=true) (by decide +kernel)
 |dict _=>exact Cj (a:="dict") (r:=false) (by decide +kernel)
theorem mU{K:U0b}(d:PyData):U3j K (.type (tyName d)) (.type "list")=some (Y7 "list" d):=by
 cases d with
 |none=>exact Cj (a:="NoneType") (r:=false) (by decide +kernel)
 |bool _=>exact Cj (a:="bool") (r:=false) (by decide +kernel)
 |int _=>exact Cj (a:="int") (r:=false) (by decide +kernel)
 |str _=>exact Cj (a:="str") (r:=false) (by decide +kernel)
 |list _=>exact Cj (a:="list") (r:=true) (by decide +kernel)
 |tuple _=>exact Cj (a:="tuple") (r:=false) (by decide +kernel)
 |dict _=>exact Cj (a:="dict") (r:=false) (by decide +kernel)
end L2
end
section
namespace L2
open PySem PySem.Spec PyProof.Rows
def rC:PyData->Bool
 |.none=>true
 |.bool _=>true
 |.int i=>decide (i.natAbs<10^41)
 |.str x=>decide (x.length<=30)&&x.cps.toList.all fun c=>decide (c<16^8)
 |.dict kvs=>kvs.isEmpty
 |_=>false
def fit:List Nat->PyData->Bool
 |w::ws,.list xs=>decide (xs.length<=w)&&xs.all (fit ws)
 |w::ws,.tuple xs=>decide (xs.length<=w)&&xs.all (fit ws)
 |_,d=>rC d
def Nx(n:Nat)(Pv:Nat->List V->Hp->Prop)(i:Nat)(ys:List V)(H:Hp):Prop:=∃m',m'<n-i/\(m'=n-(i+1)/\i+1<=n/\Pv (i+1) ys H)
theorem nx{n:Nat}{Pv:Nat->List V->Hp->Prop}{i:Nat}{ys:List V}{H:Hp}(hi:i<n)(p:Pv (i+1) ys H):Nx n Pv i ys H:=⟨n-(i+1),by omega,rfl,hi,p⟩
section
variable{k:Nat}{caps:List Nat}{σ:St}{g:TG}{tt:TT}{te:TE}{Q:VK}{H:Hp}
end
def Well(H:Hp)(a:Addr):Prop:=∃x y:Int,H a=some (.lst [.int x,.int y])
end L2
end
section
namespace L2
open PySem PySem.Spec PyProof.Rows
section
variable{a:Addr}{H0:Hp}{σ:St}{te t1 t2:TE}{ta:TA}{d:PyData}{ds d1 d2:List PyData}{i j:Int}
end
end L2
end
section
namespace L2
open PySem PySem.Spec PyProof.Rows
section
variable{X:Cx}{K:U0b}
abbrev zy(K:U0b):List V->Hp->VK->Prop:=fun xs H Q=>∃p ys,xs=[.ref p]/\(SqL K H p ys∨SqT K H p ys)/\Q (.int ys.length) H
abbrev qG(K:U0b):List V->Hp->VK->Prop:=fun xs H Q=>∃p ys,xs=[.ref p]/\(SqL K H p ys∨SqT K H p ys)/\∀l,H l=none->Q (.ref l) (upd H l (.lst ys))
abbrev lN(K:U0b):List V->Hp->VK->Prop:=fun xs H Q=>∃p ys,xs=[.ref p]/\((SqL K H p ys/\∀l,H l=none->Q (.ref l) (upd H l (.tup ys)))∨(SqT K H p ys/\Q (.ref p) H))
theorem Zv:OpR X (compareOp .IsNot) (fun x y H Q=>∃(c d:Bool),x=.bl c/\y=.bl d/\Q (.bl (!decide (c=d))) H):=by
 intro pins s σ H x y v u Q I rx ry h
 obtain⟨c,d,rfl,rfl,q⟩:=h
 cases (show v=U3y c from rx)
 cases (show u=U3y d from ry)
 refine isnot_bool ⟨.bl (!decide (c=d)),H,I,?_,q⟩
 show U3y _=U3y _
 cases c<;>cases d<;>rfl
theorem lY{d:Addr}{D:List (PyData×PyData)}{x:Str}{p pos:Pos}{b:Expr}{ta tb:TE}(hT:∀h,X.K.In h->IntTab X.prog X.w h d D)(ha:PE X (.Name x p) ta)(hb:PE X b tb)(hs:SX b)
  (hg:∀r,letTemporaryGo (.Name x p) (.ref d) r=pure ():=by intro _;with_unfolding_all rfl) :
  PE X (.Subscript (.Name x p) b pos) (tOp (fun x y H Q=>∃(i j:Int),x=.ref d/\y=.int i/\lookup (.int i) D=some (.int j)/\Q (.int j) H) ta tb):=by
 intro pins s σ H Q I h
 refine Subscript_ (cV ha hb I h fun v u s2 x y H2 I2 rx ry q=>?_)
 obtain⟨i,j,rfl,rfl,hl,q⟩:=q
 cases rx
 obtain⟨t,rfl⟩:=ry
 refine item_intTab (hT _ I2.kIn) hl (fun v fl=>?_) (hs _ _) hg
 cases fl s2.heap with
 |int _ t'=>exact⟨.int j,H2,I2.tok _,⟨t',rfl⟩,q⟩
theorem jO(hc:X.calm=true)(hK:X.K=K):Dc X (.builtin "max") (fun xs H Q=>∃(p:Addr)(ns:List Int),xs=[.ref p]/\SqL K H p (ns.map V.int)/\ns≠[]/\∀m,m∈ns->(∀n∈ns,n<=m)->Q (.int m) H):=by
 subst hK
 intro pins s σ H xs us Q I r h
 obtain⟨p,ns,rfl,hq,hne,q⟩:=h
 obtain⟨u,rfl,rx⟩:=vals1 r
 cases rx
 obtain⟨its,rv,pl,hz⟩:=I.list hq
 have hlen:=rv.length
 rw[U0k] at hlen
 have hl:=pl.isList
 have hlt:p<s.heap.objs.size:=by obtain⟨o,ho,_⟩:=hl;exact U0l ho
 have hval:∀i v,its.toArray[i]?=some v->∃t,v=U3f (ns.getD i 0) t:=fun i v e=>by
  rw[U4f] at e
  have hi:i<ns.length:=by rw[hlen];exact(U0i.mp e).1
  obtain⟨u,e1,ru⟩:=rv.get (i:=i) (x:=.int ns[i]) (by rw[U0v,U0d hi];rfl)
  rw[e] at e1;cases e1
  have e2:ns.getD i 0=ns[i]:=by rw[U0h,U0d hi];rfl
  rw[e2]
  exact ru
 have hpos:0<ns.length:=U5o.mpr hne
 refine call_max_walk (U33 hl ?_)
 refine⟨s.heap.objs.size,[s.heap.objs.size,p],[s.heap.objs.size],its.toArray.size,fun i v=>its.toArray[i]?=some v,_,_,rfl,Walks.list (by simpa using I.ok.hd hc) s.heap.objs.size p (U0x hlt) its.toArray,⟨⟨_,U0p _ rfl,rfl,rfl⟩,hl.push _⟩,?_,?_,CmpOf.ints_gt (fun i=>ns.getD i 0) hval,fun v h' tk hP hk=>?_⟩
 .intro b hb
  show b<(s.heap.push _).objs.size
  rw[U1n]
  rcases U0o.mp hb with z|hb
  .rw[z];exact U4w _
  .rw[U04.mp hb];exact U2y hlt
 .rw[U0m,←hlen];exact hpos
 .obtain⟨g1,g2⟩:=argBest_gt (fun i=>ns.getD i 0) (its.toArray.size-1)
  obtain⟨t,rfl⟩:=hval _ _ hP
  rw[U0m,←hlen] at g1 g2
  have hb:argBest (fun i j=>decide (ns.getD i 0>ns.getD j 0)) (ns.length-1)<ns.length:=by omega
  rw[U0m,←hlen]
  refine⟨.int _,H,I.kept (h':=h') (t':=tk) fun b o e=>hk b o (fun z=>?_) (U0a _ e),⟨t,rfl⟩,q _ ?_ fun n hn=>?_⟩
  .exact absurd (U04.mp z) (U0x (U0l e))
  .rw[U0h,U0d hb]
   exact U1f hb
  .obtain⟨j,hj,rfl⟩:=U45 hn
   have:=g2 j (by omega)
   rw[U0h,U0d hj] at this
   exact this
end
end L2
end
section
namespace Bc
open PySem PySem.Spec PyProof.Rows L2
abbrev D3:List (PyData×PyData):=[(.int 1,.int 20),(.int 2,.int 10),(.int 3,.int 6)]
theorem zB(i:Int):(lookup (.int i) D3).isSome=decide (i=1∨i=2∨i=3):=by
 have same_i:∀a b:Int,same (.int a) (.int b)=decide (a=b):=fun a b=>by by_cases h:a=b<;>simp[same,h]
 simp only[lookup,same_i]
 by_cases h1:(1:Int)=i
 .subst h1;rfl
 by_cases h2:(2:Int)=i
 .subst h2;rfl
 by_cases h3:(3:Int)=i
 .subst h3;rfl
 rw[decide_eq_false h1,decide_eq_false h2,decide_eq_false h3]
 have h:¬(i=1∨i=2∨i=3):=by omega
 rw[decide_eq_false h]
 rfl
def ud:PyData->Bool
 |.tuple es=>U6a es&&decide (U6o es<=60)
 |_=>true
def lay:PyData->Bool
 |.tuple ds=>ds.all ud
 |_=>true
abbrev F3:List Nat:=[9,9,9]
def nr(a:Int):Bool:=decide (-(10^9)<=a)&&decide (a<=10^9)
def bx:PyData->Bool
 |.tuple [.int a,.int b]=>nr a&&nr b&&decide (a<b)
 |_=>false
def part(d:PyData):Bool:=fit [9,9] d&&ud d
def good(d:PyData):Bool:=fit F3 d&&lay d
end Bc
end
section
set_option maxRecDepth 100000
namespace HT
open PySem PySem.Spec PyProof.Rows
open AutoSeq1 (wpAny_loadPart')
theorem Ud:fillsNumberSlot (.type "tuple") "mul"=pure false :=
 PySem.fillsNumberSlot_seq (id:="tuple.__mul__") (r:=some (.builtin "tuple.__rmul__")) U5c.lookup (by decide +kernel) PySem.F.slot_tuple_rmul.lookup (by decide +kernel)
theorem iQ:seqRepeat? (.type "tuple")=pure (some (.builtin "tuple.__mul__")):=by
 unfold seqRepeat?
 rw[PySem.seqSlot_of (T:="tuple") (name:="__mul__") (id:="tuple.__mul__") U5c.lookup (by decide +kernel),PySem.seqSlot_of (T:="tuple") (name:="__rmul__") (id:="tuple.__rmul__") PySem.F.slot_tuple_rmul.lookup (by decide +kernel)]
 rfl
theorem Zd(a:Int)(t:Tok)(l:Addr)(items:Array Value)(n:Nat)(dd:Option Addr)(sl:Array (Option Value)) :
  Meets (Builtin.«int.__rmul__» ⟨[.int a t,.ref l],[]⟩) (fun _ R s=>s.heap.get? l=some { cls:=.type "tuple",dict:=dd,data:=.seq items n,slots:=sl }/\R (.ok (.ret Value.notImplemented)) s) :=
 .of_wp fun prog w A R s h=>by obtain⟨hp,g,d,tk,os⟩:=s;obtain⟨hl,h⟩:=h;wp_walk using wpAny_loadPart' hl;exact⟨_,rfl,h⟩
theorem ju(l:Addr)(items:Array Value)(n:Nat)(dd:Option Addr)(sl:Array (Option Value))(x:Int)(u:Tok)(hc0:¬(decide (x < -(2^63))||decide (x≥2^63))=true)(hc1:(items.isEmpty||x==1)=true) :
  Meets (Builtin.«tuple.__mul__» ⟨[.ref l,.int x u],[]⟩) (fun _ R s=>s.heap.get? l=some { cls:=.type "tuple",dict:=dd,data:=.seq items n,slots:=sl }/\R (.ok (.ret (U2n l))) { s with heap:=s.heap,toks:=s.toks }) :=
 .of_wp fun prog w A R s h=>by obtain⟨hp,g,d,tk,os⟩:=s;obtain⟨hl,h⟩:=h;have f1:=AutoSeq1.idx_int;wp_walk;refine U7l (decide_eq_false hc0) ?_;wp_walk using wpAny_loadPart' hl;exact⟨_,rfl,h⟩
theorem jt(l:Addr)(items:Array Value)(n:Nat)(dd:Option Addr)(sl:Array (Option Value))(x:Int)(u:Tok)(hc0:¬(decide (x < -(2^63))||decide (x≥2^63))=true)(hc1:¬(items.isEmpty||x==1)=true)
  (hc2:¬(decide (x<=0)||items.isEmpty)=true) (hc3:¬(items.size:Int)*x>(2^63-1)/8) (hc4:¬Builtin.Tuple.tupleTooMany ((items.size:Int)*x)=true) (hsz:(U6l (fun x1 x2=>x1++x2) #[] (U05 x.toNat items)).size<=sizeLine) :
  Meets (Builtin.«tuple.__mul__» ⟨[.ref l,.int x u],[]⟩) (fun _ R s=>s.heap.get? l=some { cls:=.type "tuple",dict:=dd,data:=.seq items n,slots:=sl }/\R (.ok (.ret (U2n s.heap.objs.size))) { s with heap:=s.heap.push { cls:=U3s "tuple",data:=Data.seq (U6l (fun x1 x2=>x1++x2) #[] (U05 x.toNat items)) },toks:=s.toks }) :=
 .of_wp fun prog w A R s h=>by obtain⟨hp,g,d,tk,os⟩:=s;obtain⟨hl,h⟩:=h;have f1:=AutoSeq1.idx_int;wp_walk;refine U7l (decide_eq_false hc0) ?_;wp_walk using wpAny_loadPart' hl;refine U7l (decide_eq_false hc3) ?_;wp_walk;exact⟨_,rfl,h⟩
section
variable{prog:Program}{w:World}{A:Around}{E:Value->Shared->Prop}{s:Shared}
theorem qp{t:Addr}{its:List Value}{k:Int}{u:Tok}{Q:Value->Shared->Prop}(ht:IsTup s.heap t its.toArray)(hne:its≠[])(h1:1<=k)(h2:k<2^60)(hz:its.length*k.toNat<=sizeLine)
  (q1:k=1->Q (.ref t) s) (q2:k≠1->Q (.ref s.heap.objs.size) { s with heap:=s.heap.push { cls:=.type "tuple",data:=.seq (U05 k.toNat its).flatten.toArray } }) :
  wpAny (model prog w) A (binaryOp .Mult (.ref t) (.int k u)) Q E s:=by
 obtain⟨⟨c1,d1,x1,sl1⟩,ho,hc,n,hd⟩:=id ht
 simp only at hc hd
 subst hc hd
 have c0:¬(decide (k < -(2^63))||decide (k≥2^63))=true:=by
  rw[decide_eq_false (by omega),decide_eq_false (by omega)];exact U1g
 have ne:its.toArray.isEmpty=false:=by cases its with|nil=>exact absurd rfl hne|cons _ _=>rfl
 have hnew:U6l (fun x1 x2=>x1++x2) #[] (U05 k.toNat its.toArray)=(U05 k.toNat its).flatten.toArray:=by
  have:=L2.foldl_rep its k.toNat []
  rw[U1x] at this
  exact this
 refine wpAny_binaryOp_repeat_ref (T:="tuple") (U:="int") (by decide) ⟨_,ho,rfl⟩ (fun s'=>typeIs_int s' k u) Ud PySem.F.fills_int_mul PySem.F.slot_int_rmul iQ PySem.F.slot_int_index.lookup
  (call_meets PySem.F.slot_int_rmul (typeIs_int s k u) PySem.F.entry_int_rmul (PySem.F.args_int_rmul_2 _ _) (Zd k u t its.toArray n d1 sl1) ⟨ho,rfl,⟨_,ho,rfl⟩,?_⟩)
 by_cases k1:k=1
 .exact call_meets U5c ⟨_,ho,rfl⟩ PySem.F.entry_tuple_mul (PySem.F.args_tuple_mul_2 _ _) (ju t its.toArray n d1 sl1 k u c0 (by rw[k1];simp)) ⟨ho,q1 k1⟩
 .have e:((its.toArray.size:Nat):Int)*k=((its.length*k.toNat:Nat):Int):=by
   rw[U0m,Int.natCast_mul,U6v (by omega)]
  have hs:(sizeLine:Nat)=16777216:=by decide
  refine call_meets U5c ⟨_,ho,rfl⟩ PySem.F.entry_tuple_mul (PySem.F.args_tuple_mul_2 _ _) (jt t its.toArray n d1 sl1 k u c0 ?_ ?_ ?_ ?_ ?_) ⟨ho,?_⟩
  .rw[ne];simp[k1]
  .rw[ne,decide_eq_false (by omega)];exact U1g
  .rw[e];omega
  .rw[e]
   unfold Builtin.Tuple.tupleTooMany
   rw[decide_eq_true_eq]
   omega
  .rw[hnew,U0m,L2.len_rep,U7c];exact hz
  .rw[hnew];exact q2 k1
end
end HT
namespace L2
open PySem PySem.Spec PyProof.Rows
abbrev oA:R2:=fun x y H Q=>∃(a:Addr)(k:Int)(xs:List V),x=.ref a/\y=.int k/\H a=some (.tup xs)/\xs≠[]/\1<=k/\k<2^60/\xs.length*k.toNat<=sizeLine/\∀p H',Same H H'->H' p=some (.tup (U05 k.toNat xs).flatten)->Q (.ref p) H'
section
variable{X:Cx}
theorem qb:OpR X (binaryOp .Mult) oA:=by
 intro pins s σ H x y v u Q I rx ry h
 obtain⟨a,k,xs,rfl,rfl,ha,hne,k1,k2,hz,q⟩:=h
 cases rx
 obtain⟨t,rfl⟩:=ry
 obtain⟨its,r1,p1,_⟩:=I.tuple (SqT.of ha)
 refine HT.qp p1 (fun z=>hne (r1.S7.mp z)) k1 k2 (by rw[←r1.length];exact hz) (fun e=>?_) (fun e=>?_)
 .refine⟨.ref a,H,I,rfl,q a H (Same.refl H) ?_⟩
  rw[e]
  simpa using ha
 .refine⟨.ref s.heap.objs.size,_,I.laid (t':=s.toks) (o:=.tup (U05 k.toNat xs).flatten) (fun b ob q=>U0a _ q) (U0q _) ?_,rfl,q _ _ (Cp (I.hok.fresh (U0q _)) _) CK⟩
  exact⟨by rw[len_rep,U7c];exact hz,_,r1.rep k.toNat,U6k _ _⟩
end
section
variable{X:Cx}
end
section
variable{a:Addr}{H0:Hp}{σ:St}{te t1 t2:TE}{ta:TA}{d:PyData}{ds d1 d2:List PyData}{i j:Int}{K:U0b}
end
structure Wq(a q:Addr)(bs:List V)(H:Hp):Prop where
 w:Well H a
 at_:H q=some (.lst bs)
 ne:q≠a
section
variable{a q p:Addr}{bs:List V}{H H':Hp}
abbrev oF:R2:=fun x y H Q=>∃(a b:Addr)(xs ys:List V),x=.ref a/\y=.ref b/\H a=some (.tup xs)/\H b=some (.tup ys)/\xs.length+ys.length<=sizeLine/\∀p H',Same H H'->H' p=some (.tup (xs++ys))->Q (.ref p) H'
abbrev uO:V->Option Int->Option Int->Hp->VK->Prop:=fun x lo hi H Q=>∃(a:Addr)(xs:List V),x=.ref a/\H a=some (.tup xs)/\∀p H',Same H H'->H' p=some (.tup (Kv xs lo hi))->Q (.ref p) H'
end
end L2
end
section
namespace L2
open PySem PySem.Spec PyProof.Rows
end L2
namespace Bc
open PySem PySem.Spec PyProof.Rows L2
def wB:PyData->Nat
 |.int 1=>20
 |.int 2=>10
 |.int 3=>6
 |_=>0
def Jaj(n:Nat):PyData->Bool
 |.tuple es=>decide (es.length=n)&&es.all bx
 |_=>false
end Bc
end
section
namespace L2
open PySem PySem.Spec PyProof.Rows
theorem Inv.Q9{X:Cx}{pins:List (Addr×Obj)}{σ:St}{H:Hp}{s:Shared}{h':Heap}{t':Nat}{fp:List Addr}(I:Inv X pins σ H s)(k:∀b o,b ∉ fp->s.heap.get? b=some o->h'.get? b=some o)(hf:∀b∈fp,Ny X pins H b) :
  Inv X pins σ H { s with heap:=h',toks:=t' }:=by
 have nit:∀b u,H b=some u->b ∉ fp:=fun b u e z=>by
  have:=(hf b z).1
  rw[this] at e
  cases e
 refine I.step (g':=s.gens) (d':=s.drawn) (ch:=fp) (fun b hb=>?_) (fun b o _ _ hc e _=>k b o hc e) (fun b o _ _ hc e _=>⟨o.slots,k b o hc e⟩) (fun _ _ _ _ n=>n) (fun b o hc e=>⟨o,k b o hc e⟩) (fun _ _ e=>e) (fun _ _ _ e=>e)
  (fun b ps e=>⟨#[],by rw[e];simp⟩) (fun m hm=>?_) (fun b u e=>?_) I.bare id
 .obtain⟨_,a2,_,a4,a5,a6⟩:=hf b hb
  exact⟨a4,a2,a5,a6⟩
 .obtain⟨o,es,ep,ho,r⟩:=hm
  exact⟨o,es,ep,k _ o (fun z=>(hf _ z).2.1 rfl) ho,r⟩
 .refine(I.hok b u e).stay (fun c v hc q=>k c v ?_ q) (fun _ q=>q) fun _ _ q=>q
  rcases hc with z|z
  .rw[z];exact nit b u e
  .exact nit c _ z
theorem Inv.oH{X:Cx}{pins:List (Addr×Obj)}{σ:St}{H:Hp}{s:Shared}{h':Heap}{t':Nat}{fp:List Addr}{x y:V}{u v:Value}(I:Inv X pins σ H s)(rx:RelV x u)(ry:RelV y v)
  (ht:h'.get? s.heap.objs.size=some { cls:=.type "tuple",data:=.seq #[u,v] }) (k:∀b o,b ∉ fp->s.heap.get? b=some o->h'.get? b=some o) (hf:∀b∈fp,Ny X pins H b) (hlt:∀b∈fp,b<s.heap.objs.size) :
  Inv X pins σ (upd H s.heap.objs.size (.tup [x,y])) { s with heap:=h',toks:=t' }:=by
 have I1:=I.laid (h':=s.heap.push { cls:=.type "tuple",data:=.seq #[u,v] }) (t':=s.toks) (a:=s.heap.objs.size) (o:=.tup [x,y]) (fun b ob q=>U0a _ q) (U0q _)
  ⟨(by decide:2<=sizeLine),[u,v],.cons rx (.cons ry .nil),U6k _ _⟩
 refine Inv.Q9 (s:={ s with heap:=s.heap.push { cls:=.type "tuple",data:=.seq #[u,v] } }) (h':=h') (t':=t') (fp:=fp) I1 (fun b o hb e=>?_) (fun b hb=>?_)
 .rcases Heap.get?_push_cases e with ⟨z1,z2⟩|z
  .rw[z1,z2]
   exact ht
  .exact k b o hb z
 .obtain⟨a1,a2,a3,a4,a5,a6⟩:=hf b hb
  exact⟨by rw[Bm (U0x (hlt b hb))];exact a1,a2,a3,a4,a5,a6⟩
def Ite(K:U0b)(a:Addr):It :=
 ⟨fun i H=>∃xs x,SqL K H a xs/\xs[i]?=some x,fun i H v H'=>∃p x,H p=none/\v=.ref p/\H'=upd H p (.tup [.int i,x])/\∀xs,SqL K H a xs->xs[i]?=some x,fun i H=>∃xs,SqL K H a xs/\xs.length<=i⟩
theorem gY{P:Program}{w:World}{K:U0b}{elts:List Expr}{x1:Nat}{pos:Pos}(a e it:Addr)(hne:e≠it) :
  Turn P w K (.Tuple elts x1 pos) (Ite K a) [e,it] e (fun i h=>(∃old,IsEnum h e it (i:Nat) old)/\h.IsListIter it a i) where
 mem:=by simp
 obj:=fun i h st b hb=>by
  obtain⟨⟨old,he⟩,o,e1,c,d⟩:=st
  simp only[U0o,U02,or_false] at hb
  rcases hb with rfl|rfl
  .exact⟨_,he,fun v z=>by cases z⟩
  .exact⟨o,e1,fun v z=>by rw[d] at z;cases z⟩
 keep:=fun i h h' st k=>by
  obtain⟨⟨old,he⟩,hit⟩:=st
  exact⟨⟨old,k e (by simp) _ he⟩,hit.at fun o q=>k it (by simp) o q⟩
 item:=by
  intro X hP hw hK hc i pins s σ H E I hf st hg
  subst hP hw hK
  obtain⟨xs,x,hq,hx⟩:=hg
  obtain⟨its,rv,p,hz⟩:=I.list hq
  obtain⟨u,hu,ru⟩:=rv.get hx
  obtain⟨⟨old,he⟩,hit⟩:=st
  have lt1:e<s.heap.objs.size:=U0l he
  have lt2:it<s.heap.objs.size:=by obtain⟨o,q,_⟩:=hit;exact U0l q
  refine wpAny_pyNext_enum_item he hit p.isList (x:=u) (by simpa using hu) hne fun h' eo it' tp sz k=>⟨_,rfl,?_⟩
  refine wpAny_letOwnedTupleGo_enum eo fun h2 e2 sb=>?_
  have ne2:s.heap.objs.size≠e:=U1p lt1
  have J:=I.oH (h':=h2) (t':=s.toks+1) (fp:=[e,it]) (x:=.int i) (y:=x) (u:=.int i s.toks) (v:=u) ⟨_,rfl⟩ ru (sb.extBut _ _ ne2 tp) (fun b o hb q=>by
   simp only[U0o,U02,or_false,not_or] at hb
   exact sb.extBut _ _ hb.1 (k b o hb.1 hb.2 q)) hf (fun b hb=>by
   simp only[U0o,U02,or_false] at hb
   rcases hb with rfl|rfl
   .exact lt1
   .exact lt2)
  refine⟨.ref s.heap.objs.size,_,J,rfl,⟨_,x,I.hok.fresh (U0q _),rfl,rfl,fun ys hy=>by rw[I.Yy hy hq];exact hx⟩,⟨⟨u,e2⟩,it'.at fun o q=>sb.extBut _ _ (U01 hne) q⟩,fun b hb=>?_⟩
  rw[Bm]
  .exact(hf b hb).1
  .simp only[U0o,U02,or_false] at hb
   rcases hb with rfl|rfl
   .exact U0x lt1
   .exact U0x lt2
 done:=by
  intro X hP hw hK hc i pins s σ H E I hf st hg
  subst hP hw hK
  obtain⟨xs,hq,hx⟩:=hg
  obtain⟨its,rv,p,hz⟩:=I.list hq
  obtain⟨⟨old,he⟩,hit⟩:=st
  have hl:=rv.length
  exact wpAny_pyNext_enum_end (I.ok.hd hc) he hit p.isList (by simp;omega) fun h' eb=>⟨rfl,I.Q9 (t':=s.toks) (fp:=[e,it]) (fun b o hb q=>eb b o (fun z=>hb (by simp[z])) q) hf⟩
 self:=fun _ _ _ _ _ st h=>by
  obtain⟨⟨old,he⟩,_⟩:=st
  exact wpAny_pyIter_enum he h
abbrev zH(K:U0b)(ta:TA):TI:=fun σ H R=>ta σ H fun vs H1=>∃a,vs=[.ref a]/\(∃xs,SqL K H1 a xs)/\R (Ite K a) H1
section
variable{X:Cx}
theorem qT{a:Expr}{ta:TA}{p pos:Pos}{elts:List Expr}{x1:Nat}{tpos:Pos}(hg:Gl X "enumerate")(hm:X.mg "enumerate"=none)(ha:PA X [a] ta)(hs:starEach [a] X.env=[(false,eval a X.env)]:=by rfl) :
  PI X (.Tuple elts x1 tpos) (.Call (.Name "enumerate" p) [a] [] pos) (zH X.K ta):=by
 intro pins s σ H R I h
 refine Call_ (K1 I hg hm (by decide +kernel:bootBuiltins "enumerate"=some (.type "enumerate")) (U2o (thn (ha pos pins s σ H _ I h) fun us s1 ⟨vs,H1,I1,r1,q1⟩=>?_) hs rfl))
 obtain⟨l,e,⟨xs,hq⟩,q⟩:=q1
 subst e
 cases r1 with
 |cons r rr =>
  cases rr
  cases r
  obtain⟨its,rv,pl,hz⟩:=I1.list hq
  refine call_enumerate_list pl.isList fun h' e1 i1 sz k=>?_
  refine wpAny_pyIter_enum e1 ?_
  refine⟨s1.heap.objs.size+1,[s1.heap.objs.size+1,s1.heap.objs.size],_,_,H1,rfl,I1.kept (t':=s1.toks) k,gY l _ _ (Nat.succ_ne_self _),⟨⟨_,e1⟩,i1⟩,fun b hb=>?_,q⟩
  have hb':s1.heap.objs.size<=b:=by
   simp only[U0o,U02,or_false] at hb
   rcases hb with rfl|rfl<;>omega
  exact I1.Tc hb' (I1.hok.fresh hb')
end
end L2
end
section
set_option maxRecDepth 100000
namespace HT
open PySem PySem.Spec PyProof.Rows
section
variable{prog:Program}{w:World}{A:Around}{E:Value->Shared->Prop}{s:Shared}
theorem nextT{it t:Addr}{i:Nat}{ws:Array Value}{x:Value}{Q:Value->Shared->Prop}(c:s.heap.IsTupleIter it t i)(ct:s.heap.IsTuple t ws)(ex:ws[i]?=some x)
  (q:∀h',h'.IsTupleIter it t (i+1)->U0y it s.heap h'->Q x { s with heap:=h' }):wpAny (model prog w) A (U09 (.ref it)) Q E s:=by
 obtain⟨o,e0,e1,e2⟩:=id c
 obtain⟨ot,f0,_,nt,f1⟩:=ct
 unfold U09
 refine U0 (wpAny_callSpecial?_slot (name:=U3a "__next__") c.typeIs U3u (U17 U3u c.typeIs PySem.F.entry_tuple_iterator_next ?_ (PySem.F.args_tuple_iterator_next_1 _)))
 refine(show wpAny _ _ (field (.ref it) 0 >>= _) _ _ s from U0 (U1t e0 e2 (x:=.ref t) rfl ?_))
 show wpAny _ _ (ite ((U2n t==U2w)=true) _ _) _ _ s
 rw[if_neg (by exact U1g)]
 refine(show wpAny _ _ (field (.ref it) 1 >>= _) _ _ s from U0 (U1t e0 e2 (x:=.int i 0) rfl ?_))
 refine(show wpAny _ _ (seqItems? (.ref t) >>= _) _ _ s from U0 (U15 f0 f1 ?_))
 simp only[ex,U3c]
 refine U0 (U3b e0 e2 (by simp) (U0f ⟨x,rfl,U0f (q _ ⟨_,U2a _ e0 (Obj.isFreed_of_fields (Obj.data_mapFields e2 _)),(Obj.cls_mapFields ..).trans e1,?_⟩ (U1w ..))⟩))
 rw[Obj.data_mapFields e2]
 simp[rawInt]
theorem vq{it t:Addr}{i:Nat}{ws:Array Value}{Q:Value->Shared->Prop}(ha:A.handled=none)(c:s.heap.IsTupleIter it t i)(ct:s.heap.IsTuple t ws)(ex:ws[i]?=none)
  (q:∀h' e,U5b it s.heap h'->(∃o,h'.get? e=some o/\o.cls=.type "StopIteration")->E (.ref e) { s with heap:=h' }):wpAny (model prog w) A (U09 (.ref it)) Q E s:=by
 obtain⟨o,e0,e1,e2⟩:=id c
 obtain⟨ot,f0,_,nt,f1⟩:=ct
 unfold U09
 refine U0 (wpAny_callSpecial?_slot (name:=U3a "__next__") c.typeIs U3u (U17 U3u c.typeIs PySem.F.entry_tuple_iterator_next ?_ (PySem.F.args_tuple_iterator_next_1 _)))
 refine(show wpAny _ _ (field (.ref it) 0 >>= _) _ _ s from U0 (U1t e0 e2 (x:=.ref t) rfl ?_))
 show wpAny _ _ (ite ((U2n t==U2w)=true) _ _) _ _ s
 rw[if_neg (by exact U1g)]
 refine(show wpAny _ _ (field (.ref it) 1 >>= _) _ _ s from U0 (U1t e0 e2 (x:=.int i 0) rfl ?_))
 refine(show wpAny _ _ (seqItems? (.ref t) >>= _) _ _ s from U0 (U15 f0 f1 ?_))
 simp only[ex,U3c]
 refine U0 (U39 (U0 (U3b e0 e2 (by simp) (show wpAny _ _ (newExc (.type "StopIteration") [] >>= _) _ _ _ from U0 ?_))))
 simp only[newTuple,newExc]
 refine U0 (U2g (U0 (m:=firstArgMember _ _) (wpAny_of_eq (a:=U2w) (by first|rfl|(simp only[firstArgMember];rfl)) (U2g ?_ (by size_fits)))) (by size_fits))
 simp only[raiseNew]
 refine U0 (wpAny_handled ?_)
 rw[show A.in1.handled=none from ha]
 exact U0 (U0f (wpAny_throw (q _ _ (((U1w ..).extBut.push _).push _) ⟨_,U0p _ rfl,rfl⟩)))
theorem Yb(ha:A.handled=none)(it t:Addr)(ne:t≠it)(ws:Array Value):Draws prog w A it [it,t] ws.size (fun i v=>ws[i]?=some v) (fun i h=>h.IsTupleIter it t i/\h.IsTuple t ws) where
 live:=fun _ _ st=>let ⟨o,e,_⟩:=st.1;⟨o,e⟩
 frame:=fun _ _ _ st k=>⟨st.1.at fun o e=>k it (by simp) o e,st.2.at fun o e=>k t (by simp) o e⟩
 item:=fun i s Q E hi st q=>nextT st.1 st.2 (x:=ws[i]) (by simp[hi]) fun h' c' sb=>q _ h' s.toks (by simp[hi]) ⟨c',st.2.extBut sb.extBut ne⟩ sb
 done:=fun s Q E st q=>vq ha st.1 st.2 (by simp) q
structure Apart(z TI TO i1 i2:Addr)(fp1 fp2:List Addr):Prop where
 a1:TI≠z
 a2:TO≠z
 a3:TI≠TO
 b1:∀b∈fp1,b≠z/\b≠TO/\b≠i2
 b2:∀b∈fp2,b≠z/\b≠TO/\b≠i1
 c1:i1≠z/\i1≠TO/\i1≠TI
 c2:i2≠z/\i2≠TO/\i2≠TI
 c3:i1≠i2
section
variable{z TI TO i1 i2:Addr}{fp1 fp2:List Addr}{n1 n2 k:Nat}{P1 P2:Nat->Value->Prop}{S1 S2:Nat->Heap->Prop}{a b:Value}
theorem zZ{Q:Value->Shared->Prop}(D1:Draws prog w A i1 fp1 n1 P1 S1)(D2:Draws prog w A i2 fp2 n2 P2 S2)(D:Apart z TI TO i1 i2 fp1 fp2)(hZ:IsZip s.heap z TI TO .none)(hI:IsPair s.heap TI (.ref i1) (.ref i2))(hO:IsPair s.heap TO a b)
  (s1:S1 k s.heap) (s2:S2 k s.heap) (k1:k<n1) (k2:k<n2)
  (q:∀x y h' tk,P1 k x->P2 k y->IsZip h' z TI TO (rawInt s.heap.objs.size)->IsPair h' TO x y->S1 (k+1) h'->S2 (k+1) h'->IsPair h' s.heap.objs.size x y->h'.objs.size=s.heap.objs.size+1 ->
   (∀c o,c≠z->c≠TO->c≠i1->c≠i2->s.heap.get? c=some o->h'.get? c=some o)->Q (.ref s.heap.objs.size) { s with heap:=h',toks:=tk }) :
  wpAny (model prog w) A (Builtin.«zip.__next__» ⟨[.ref z],[]⟩) (fun fin s'=>∃v,fin=.done (.ret v)/\Q v s') E s:=by
 obtain⟨hp,g,d,tk0,os⟩:=s
 refine(show wpAny _ _ (field (.ref z) 2 >>= _) _ _ _ from U0 (U1t hZ rfl (x:=.bool false) rfl ?_))
 refine(show wpAny _ _ (field (.ref z) 3 >>= _) _ _ _ from U0 (U1t hZ rfl (x:=.ref TI) rfl (U0 (U15 hI rfl ?_))))
 refine(show wpAny _ _ (U1c (.ref z) >>= _) _ _ _ from U0 ?_)
 unfold U1c
 refine U0 (U1t hZ rfl (x:=.none) rfl (U0f ?_))
 simp only[if_true]
 refine U0 (U39 (U0 (U1t hZ rfl (x:=.ref TO) rfl (U0 (U2p hZ (by simp) fun g1 z1 m1=>?_)))))
 replace z1:IsZip g1 z TI TO .ellipsis:=z1
 replace m1:U0y z hp g1:=m1
 refine U0 ?_
 simp only[U41,U6p,U3p,U4s]
 have t1:S1 k g1:=D1.frame _ _ _ s1 fun c hc o e=>m1.extBut _ _ (D.b1 c hc).1 e
 have u1:S2 k g1:=D2.frame _ _ _ s2 fun c hc o e=>m1.extBut _ _ (D.b2 c hc).1 e
 refine U0 (U0 (U36 (show wpAny _ _ (U09 (.ref i1) >>= _) _ _ _ from U0 (D1.item k ⟨g1,g,d,tk0,os⟩ _ _ k1 t1 fun x g2 tk1 px t2 m2=>U0f ?_))))
 replace m2:U0y i1 g1 g2:=m2
 have o2:IsPair g2 TO a b:=m2.extBut _ _ (U01 D.c1.2.1) (m1.extBut _ _ D.a2 hO)
 refine U0 (U15 o2 rfl (U0 (U6q o2 fun g3 o3 m3=>?_)))
 replace o3:IsPair g3 TO x b:=o3
 replace m3:U0y TO g2 g3:=m3
 have u3:S2 k g3:=D2.frame _ _ _ u1 fun c hc o e=>m3.extBut _ _ (D.b2 c hc).2.1 (m2.extBut _ _ (D.b2 c hc).2.2 e)
 refine U0 (U5m (U0f ?_))
 refine U0 (U0 (U36 (show wpAny _ _ (U09 (.ref i2) >>= _) _ _ _ from U0 (D2.item k ⟨g3,g,d,tk1,os⟩ _ _ k2 u3 fun y g4 tk2 py u4 m4=>U0f ?_))))
 replace m4:U0y i2 g3 g4:=m4
 have o4:IsPair g4 TO x b:=m4.extBut _ _ (U01 D.c2.2.1) o3
 refine U0 (U15 o4 rfl (U0 (U6q o4 fun g5 o5 m5=>?_)))
 replace o5:IsPair g5 TO x y:=o5
 replace m5:U0y TO g4 g5:=m5
 refine U0 (U5m (U0f (U0f (U0 (U15 o5 rfl (U0 (U7v ?_)))))))
 have sz:g5.objs.size=hp.objs.size:=by rw[m5.1,m4.1,m3.1,m2.1,m1.1]
 have z5:IsZip g5 z TI TO .ellipsis:=m5.extBut _ _ (U01 D.a2) (m4.extBut _ _ (U01 D.c2.1) (m3.extBut _ _ (U01 D.a2) (m2.extBut _ _ (U01 D.c1.1) z1)))
 have kk:∀c o,c≠z->c≠TO->c≠i1->c≠i2->hp.get? c=some o->g5.get? c=some o:=fun c o n1 n2 n3 n4 e=>m5.extBut _ _ n2 (m4.extBut _ _ n4 (m3.extBut _ _ n2 (m2.extBut _ _ n3 (m1.extBut _ _ n1 e))))
 have lz:z<g5.objs.size:=U0l z5
 refine(show wpAny _ _ (U3h (.ref z) (.ref g5.objs.size) >>= _) _ _ _ from U0 ?_)
 unfold U3h
 have z6:IsZip (g5.push { cls:=.type "tuple",data:=.seq #[x,y] }) z TI TO .ellipsis:=U0a _ z5
 refine U0 (U2p z6 (by simp) fun g7 z7 m7=>?_)
 replace z7:IsZip g7 z TI TO (rawInt g5.objs.size):=z7
 refine U2p z7 (by simp) fun g8 z8 m8=>?_
 replace z8:IsZip g8 z TI TO (rawInt g5.objs.size):=z8
 have up:∀c o,c≠z->g5.get? c=some o->g8.get? c=some o:=fun c o n e=>m8.extBut _ _ n (m7.extBut _ _ n (U0a _ e))
 have p8:IsPair g8 g5.objs.size x y:=m8.extBut _ _ (U1p lz) (m7.extBut _ _ (U1p lz) (U0p _ rfl))
 have w8:g8.objs.size=g5.objs.size+1:=by rw[m8.1,m7.1,U1n]
 rw[sz] at z8 p8 w8
 refine U0f ⟨_,rfl,?_⟩
 show Q (.ref g5.objs.size) _
 rw[sz]
 refine q x y g8 tk2 px py z8 (up _ _ D.a2 o5) ?_ ?_ p8 w8 fun c o n1 n2 n3 n4 e=>up c o n1 (kk c o n1 n2 n3 n4 e)
 .exact D1.frame _ _ _ t2 fun c hc o e=>up _ _ (D.b1 c hc).1 (m5.extBut _ _ (D.b1 c hc).2.1 (m4.extBut _ _ (D.b1 c hc).2.2 (m3.extBut _ _ (D.b1 c hc).2.1 e)))
 .exact D2.frame _ _ _ u4 fun c hc o e=>up _ _ (D.b2 c hc).1 (m5.extBut _ _ (D.b2 c hc).2.1 e)
theorem za{Q:PySem.Fin->Shared->Prop}(D1:Draws prog w A i1 fp1 n1 P1 S1)(D2:Draws prog w A i2 fp2 n2 P2 S2)(D:Apart z TI TO i1 i2 fp1 fp2)(hZ:IsZip s.heap z TI TO .none)(hI:IsPair s.heap TI (.ref i1) (.ref i2))(hO:IsPair s.heap TO a b)
  (s1:S1 k s.heap) (s2:S2 k s.heap) (ke:k=n1∨(k<n1/\k=n2))
  (q:∀h' e tk,(∀c o,c≠z->c≠TO->c≠i1->c≠i2->s.heap.get? c=some o->h'.get? c=some o)->(∃o,h'.get? e=some o/\o.cls=.type "StopIteration")->E (.ref e) { s with heap:=h',toks:=tk }) :
  wpAny (model prog w) A (Builtin.«zip.__next__» ⟨[.ref z],[]⟩) Q E s:=by
 obtain⟨hp,g,d,tk0,os⟩:=s
 refine(show wpAny _ _ (field (.ref z) 2 >>= _) _ _ _ from U0 (U1t hZ rfl (x:=.bool false) rfl ?_))
 refine(show wpAny _ _ (field (.ref z) 3 >>= _) _ _ _ from U0 (U1t hZ rfl (x:=.ref TI) rfl (U0 (U15 hI rfl ?_))))
 refine(show wpAny _ _ (U1c (.ref z) >>= _) _ _ _ from U0 ?_)
 unfold U1c
 refine U0 (U1t hZ rfl (x:=.none) rfl (U0f ?_))
 simp only[if_true]
 refine U0 (U39 (U0 (U1t hZ rfl (x:=.ref TO) rfl (U0 (U2p hZ (by simp) fun g1 z1 m1=>?_)))))
 replace z1:IsZip g1 z TI TO .ellipsis:=z1
 replace m1:U0y z hp g1:=m1
 refine U0 ?_
 simp only[U41,U6p,U3p,U4s]
 have t1:S1 k g1:=D1.frame _ _ _ s1 fun c hc o e=>m1.extBut _ _ (D.b1 c hc).1 e
 have u1:S2 k g1:=D2.frame _ _ _ s2 fun c hc o e=>m1.extBut _ _ (D.b2 c hc).1 e
 rcases ke with ke|⟨k1,ke⟩
 .subst ke
  refine U0 (U0 (U36 (show wpAny _ _ (U09 (.ref i1) >>= _) _ _ _ from U0 (D1.done ⟨g1,g,d,tk0,os⟩ _ _ t1 fun g2 e m2 he=>?_))))
  obtain⟨oe,he1,he2⟩:=he
  replace m2:U5b i1 g1 g2:=m2
  have z2:IsZip g2 z TI TO .ellipsis:=m2 _ _ (U01 D.c1.1) z1
  have ez:e≠z:=fun x=>by subst x;rw[z2] at he1;cases he1;simp at he2
  exact U2p z2 (by simp) fun g3 _ m3=>q g3 e _ (fun c o n1 _ n3 _ x=>m3.extBut _ _ n1 (m2 _ _ n3 (m1.extBut _ _ n1 x))) ⟨oe,m3.extBut _ _ ez he1,he2⟩
 .refine U0 (U0 (U36 (show wpAny _ _ (U09 (.ref i1) >>= _) _ _ _ from U0 (D1.item k ⟨g1,g,d,tk0,os⟩ _ _ k1 t1 fun x g2 tk1 px t2 m2=>U0f ?_))))
  replace m2:U0y i1 g1 g2:=m2
  have o2:IsPair g2 TO a b:=m2.extBut _ _ (U01 D.c1.2.1) (m1.extBut _ _ D.a2 hO)
  refine U0 (U15 o2 rfl (U0 (U6q o2 fun g3 o3 m3=>?_)))
  replace m3:U0y TO g2 g3:=m3
  have u3:S2 k g3:=D2.frame _ _ _ u1 fun c hc o e=>m3.extBut _ _ (D.b2 c hc).2.1 (m2.extBut _ _ (D.b2 c hc).2.2 e)
  rw[ke] at u3
  refine U0 (U5m (U0f ?_))
  refine U0 (U0 (U36 (show wpAny _ _ (U09 (.ref i2) >>= _) _ _ _ from U0 (D2.done ⟨g3,g,d,tk1,os⟩ _ _ u3 fun g4 e m4 he=>?_))))
  obtain⟨oe,he1,he2⟩:=he
  replace m4:U5b i2 g3 g4:=m4
  have z4:IsZip g4 z TI TO .ellipsis:=m4 _ _ (U01 D.c2.1) (m3.extBut _ _ (U01 D.a2) (m2.extBut _ _ (U01 D.c1.1) z1))
  have ez:e≠z:=fun x=>by subst x;rw[z4] at he1;cases he1;simp at he2
  exact U2p z4 (by simp) fun g5 _ m5=>q g5 e _ (fun c o n1 n2 n3 n4 x=>m5.extBut _ _ n1 (m4 _ _ n4 (m3.extBut _ _ n2 (m2.extBut _ _ n3 (m1.extBut _ _ n1 x))))) ⟨oe,m5.extBut _ _ ez he1,he2⟩
theorem aj{Q:Option Value->Shared->Prop}(D1:Draws prog w A.in1 i1 fp1 n1 P1 S1)(D2:Draws prog w A.in1 i2 fp2 n2 P2 S2)(D:Apart z TI TO i1 i2 fp1 fp2)(hZ:IsZip s.heap z TI TO .none)(hI:IsPair s.heap TI (.ref i1) (.ref i2))(hO:IsPair s.heap TO a b)
  (s1:S1 k s.heap) (s2:S2 k s.heap) (k1:k<n1) (k2:k<n2)
  (q:∀x y h' tk,P1 k x->P2 k y->IsZip h' z TI TO (rawInt s.heap.objs.size)->IsPair h' TO x y->S1 (k+1) h'->S2 (k+1) h'->IsPair h' s.heap.objs.size x y->h'.objs.size=s.heap.objs.size+1 ->
   (∀c o,c≠z->c≠TO->c≠i1->c≠i2->s.heap.get? c=some o->h'.get? c=some o)->Q (some (.ref s.heap.objs.size)) { s with heap:=h',toks:=tk }) :
  wpAny (model prog w) A (pyNext (.ref z)) Q E s:=by
 have T:s.TypeIs (.ref z) "zip":=⟨_,hZ,rfl⟩
 unfold pyNext
 exact U0 (U4j (wpAny_callSpecial?_slot (name:=U3a "__next__") T U10 (U17 U10 T U3q (zZ D1 D2 D hZ hI hO s1 s2 k1 k2 fun x y h' tk c1 c2 c3 c4 c5 c6 c7 c8 c9=>U0f (q x y h' tk c1 c2 c3 c4 c5 c6 c7 c8 c9)) (U3l _))))
theorem aZ{Q:Option Value->Shared->Prop}(D1:Draws prog w A.in1 i1 fp1 n1 P1 S1)(D2:Draws prog w A.in1 i2 fp2 n2 P2 S2)(D:Apart z TI TO i1 i2 fp1 fp2)(hZ:IsZip s.heap z TI TO .none)(hI:IsPair s.heap TI (.ref i1) (.ref i2))(hO:IsPair s.heap TO a b)
  (s1:S1 k s.heap) (s2:S2 k s.heap) (ke:k=n1∨(k<n1/\k=n2))
  (q:∀h' tk,(∀c o,c≠z->c≠TO->c≠i1->c≠i2->s.heap.get? c=some o->h'.get? c=some o)->Q none { s with heap:=h',toks:=tk }):wpAny (model prog w) A (pyNext (.ref z)) Q E s:=by
 have T:s.TypeIs (.ref z) "zip":=⟨_,hZ,rfl⟩
 unfold pyNext
 refine U0 (U4j (wpAny_callSpecial?_slot (name:=U3a "__next__") T U10 (U17 U10 T U3q (za D1 D2 D hZ hI hO s1 s2 ke fun h' e tk kk he=>?_) (U3l _))))
 obtain⟨o,e1,e2⟩:=he
 exact U0 (U4y (T:="StopIteration") (b:=true) ⟨o,e1,e2⟩ isSubtype_stop (U0f (q h' tk kk)))
end
abbrev itO(c:String)(l:Addr):Obj:={ cls:=.type c,data:=.fields #[.ref l,.int 0 0] }
abbrev zt1(c1:String)(h:Heap)(l1:Addr):Heap:=h.push (itO c1 l1)
abbrev zt2(c1 c2:String)(h:Heap)(l1 l2:Addr):Heap:=(zt1 c1 h l1).push (itO c2 l2)
abbrev zt3(c1 c2:String)(h:Heap)(l1 l2:Addr):Heap:=(zt2 c1 c2 h l1 l2).push { cls:=.type "tuple",data:=.seq #[.ref h.objs.size,.ref (zt1 c1 h l1).objs.size] }
abbrev zt4(c1 c2:String)(h:Heap)(l1 l2:Addr):Heap:=(zt3 c1 c2 h l1 l2).push { cls:=.type "tuple",data:=.seq #[.none,.none] }
abbrev zt5(c1 c2:String)(h:Heap)(l1 l2:Addr):Heap:=(zt4 c1 c2 h l1 l2).push { cls:=.type "zip",data:=.fields #[.none,.bool false,.bool false,.ref (zt2 c1 c2 h l1 l2).objs.size,.ref (zt3 c1 c2 h l1 l2).objs.size] }
theorem oW(l1 l2:Addr)(xs ys:Array Value):Meets (Builtin.«zip.__new__» ⟨[.type "zip",.ref l1,.ref l2],[]⟩) (fun _ R s=>s.heap.IsTuple l1 xs/\s.heap.IsTuple l2 ys/\R (.ok (.ret (.ref (zt4 "tuple_iterator" "tuple_iterator" s.heap l1 l2).objs.size))) { s with heap:=zt5 "tuple_iterator" "tuple_iterator" s.heap l1 l2 }) :=
 .of_wp fun prog w A R s h=>by
  obtain⟨hp,g,d,tk,os⟩:=s
  obtain⟨e1,e2,h⟩:=h
  have sub:=sub_zip
  have T1:U3r (U5d ⟨hp,g,d,tk,os⟩) l1 xs:=e1
  have T2:U3r (U5d ⟨hp.push { cls:=.type "tuple_iterator",data:=.fields #[.ref l1,.int 0 0] },g,d,tk,os⟩) l2 ys:=U5g e2 _
  wp_walk using U4a T1,U4a T2
  exact⟨_,rfl,h⟩
theorem oX(l1 l2:Addr)(xs ys:Array Value):Meets (Builtin.«zip.__new__» ⟨[.type "zip",.ref l1,.ref l2],[]⟩) (fun _ R s=>s.heap.IsList l1 xs/\s.heap.IsTuple l2 ys/\R (.ok (.ret (.ref (zt4 "list_iterator" "tuple_iterator" s.heap l1 l2).objs.size))) { s with heap:=zt5 "list_iterator" "tuple_iterator" s.heap l1 l2 }) :=
 .of_wp fun prog w A R s h=>by
  obtain⟨hp,g,d,tk,os⟩:=s
  obtain⟨e1,e2,h⟩:=h
  have sub:=sub_zip
  have T1:Heap.IsList (U5d ⟨hp,g,d,tk,os⟩) l1 xs:=e1
  have T2:U3r (U5d ⟨hp.push { cls:=.type "list_iterator",data:=.fields #[.ref l1,.int 0 0] },g,d,tk,os⟩) l2 ys:=U5g e2 _
  wp_walk using U33 T1,U4a T2
  exact⟨_,rfl,h⟩
theorem ZL{c1 c2:String}{l1 l2:Addr}{P1 P2:Heap->Prop}{Q:Value->Shared->Prop}(m:Meets (Builtin.«zip.__new__» ⟨[.type "zip",.ref l1,.ref l2],[]⟩) (fun _ R s=>P1 s.heap/\P2 s.heap/\R (.ok (.ret (.ref (zt4 c1 c2 s.heap l1 l2).objs.size))) { s with heap:=zt5 c1 c2 s.heap l1 l2 }))(e1:P1 s.heap)(e2:P2 s.heap)
  (q:∀h',IsZip h' (s.heap.objs.size+4) (s.heap.objs.size+2) (s.heap.objs.size+3) .none->IsPair h' (s.heap.objs.size+2) (.ref s.heap.objs.size) (.ref (s.heap.objs.size+1))->IsPair h' (s.heap.objs.size+3) .none .none ->
   h'.get? s.heap.objs.size=some (itO c1 l1)->h'.get? (s.heap.objs.size+1)=some (itO c2 l2)->(∀c o,s.heap.get? c=some o->h'.get? c=some o)->Q (.ref (s.heap.objs.size+4)) { s with heap:=h' }) :
  wpAny (model prog w) A (call (.type "zip") [.ref l1,.ref l2]) Q E s:=by
 refine callType_new PySem.F.called_zip (by decide) (PySem.F.typeCall_zip_2 _ _) (PySem.F.newCall_zip_2 _ _) (fun obj=>PySem.F.args_object_init_3 obj _ _) PySem.F.entry_zip_new m ⟨e1,e2,?_⟩
 have z1:(zt1 c1 s.heap l1).objs.size=s.heap.objs.size+1:=U1n ..
 have z2:(zt2 c1 c2 s.heap l1 l2).objs.size=s.heap.objs.size+2:=by rw[U1n,z1]
 have z3:(zt3 c1 c2 s.heap l1 l2).objs.size=s.heap.objs.size+3:=by rw[U1n,z2]
 have z4:(zt4 c1 c2 s.heap l1 l2).objs.size=s.heap.objs.size+4:=by rw[U1n,z3]
 have g5:(zt5 c1 c2 s.heap l1 l2).get? (zt4 c1 c2 s.heap l1 l2).objs.size=some _:=U0p _ rfl
 have g4:(zt5 c1 c2 s.heap l1 l2).get? (zt3 c1 c2 s.heap l1 l2).objs.size=some _:=U0a _ (U0p _ rfl)
 have g3:(zt5 c1 c2 s.heap l1 l2).get? (zt2 c1 c2 s.heap l1 l2).objs.size=some _:=U0a _ (U0a _ (U0p _ rfl))
 have g2:(zt5 c1 c2 s.heap l1 l2).get? (zt1 c1 s.heap l1).objs.size=some _:=U0a _ (U0a _ (U0a _ (U0p _ rfl)))
 have g1:(zt5 c1 c2 s.heap l1 l2).get? s.heap.objs.size=some _:=U0a _ (U0a _ (U0a _ (U0a _ (U0p _ rfl))))
 have kk:∀c o,s.heap.get? c=some o->(zt5 c1 c2 s.heap l1 l2).get? c=some o:=fun c o e=>U0a _ (U0a _ (U0a _ (U0a _ (U0a _ e))))
 show _/\_
 rw[z2,z3,z4] at g5
 rw[z1,z2] at g3
 rw[z3] at g4
 rw[z1] at g2
 have Z:IsZip (zt5 c1 c2 s.heap l1 l2) (s.heap.objs.size+4) (s.heap.objs.size+2) (s.heap.objs.size+3) .none:=g5
 rw[z4]
 exact⟨⟨_,Z,rfl⟩,q _ Z g3 g4 g1 g2 kk⟩
theorem ZK{l1 l2:Addr}{xs ys:Array Value}{Q:Value->Shared->Prop}(e1:s.heap.IsTuple l1 xs)(e2:s.heap.IsTuple l2 ys)
  (q:∀h',IsZip h' (s.heap.objs.size+4) (s.heap.objs.size+2) (s.heap.objs.size+3) .none->IsPair h' (s.heap.objs.size+2) (.ref s.heap.objs.size) (.ref (s.heap.objs.size+1))->IsPair h' (s.heap.objs.size+3) .none .none ->
   h'.IsTupleIter s.heap.objs.size l1 0->h'.IsTupleIter (s.heap.objs.size+1) l2 0->(∀c o,s.heap.get? c=some o->h'.get? c=some o)->Q (.ref (s.heap.objs.size+4)) { s with heap:=h' }) :
  wpAny (model prog w) A (call (.type "zip") [.ref l1,.ref l2]) Q E s :=
 ZL (P1:=fun h=>h.IsTuple l1 xs) (P2:=fun h=>h.IsTuple l2 ys) (oW l1 l2 xs ys) e1 e2 fun h' c1 c2 c3 c4 c5 k=>q h' c1 c2 c3 ⟨_,c4,rfl,rfl⟩ ⟨_,c5,rfl,rfl⟩ k
theorem nU{l1 l2:Addr}{xs ys:Array Value}{Q:Value->Shared->Prop}(e1:s.heap.IsList l1 xs)(e2:s.heap.IsTuple l2 ys)
  (q:∀h',IsZip h' (s.heap.objs.size+4) (s.heap.objs.size+2) (s.heap.objs.size+3) .none->IsPair h' (s.heap.objs.size+2) (.ref s.heap.objs.size) (.ref (s.heap.objs.size+1))->IsPair h' (s.heap.objs.size+3) .none .none ->
   h'.IsListIter s.heap.objs.size l1 0->h'.IsTupleIter (s.heap.objs.size+1) l2 0->(∀c o,s.heap.get? c=some o->h'.get? c=some o)->Q (.ref (s.heap.objs.size+4)) { s with heap:=h' }) :
  wpAny (model prog w) A (call (.type "zip") [.ref l1,.ref l2]) Q E s :=
 ZL (P1:=fun h=>h.IsList l1 xs) (P2:=fun h=>h.IsTuple l2 ys) (oX l1 l2 xs ys) e1 e2 fun h' c1 c2 c3 c4 c5 k=>q h' c1 c2 c3 ⟨_,c4,rfl,rfl⟩ ⟨_,c5,rfl,rfl⟩ k
end
end HT
end
section
namespace L2
open PySem PySem.Spec PyProof.Rows
def HB(L:Bool)(xs:List V):HO:=if L=true then .lst xs else .tup xs
theorem HB.inj{L:Bool}{xs ys:List V}(h:HB L xs=HB L ys):xs=ys:=by cases L<;>cases h<;>rfl
def Itz(L M:Bool)(a b:Addr):It :=
 ⟨fun i H=>∃xs ys x y,H a=some (HB L xs)/\H b=some (HB M ys)/\xs[i]?=some x/\ys[i]?=some y,
  fun i H v H'=>∃p x y,H p=none/\v=.ref p/\H'=upd H p (.tup [x,y])/\(∀xs,H a=some (HB L xs)->xs[i]?=some x)/\∀ys,H b=some (HB M ys)->ys[i]?=some y,
  fun i H=>∃xs ys,H a=some (HB L xs)/\H b=some (HB M ys)/\(i=xs.length∨(i<xs.length/\i=ys.length))⟩
def K8(L:Bool)(h:Heap)(it a:Addr)(i:Nat):Prop:=if L=true then h.IsListIter it a i else h.IsTupleIter it a i
def cY(L:Bool)(h:Heap)(a:Addr)(ws:Array Value):Prop:=if L=true then h.IsList a ws else h.IsTuple a ws
theorem Q5{prog:Program}{w:World}{A:Around}(L:Bool)(ha:A.handled=none)(it t:Addr)(ne:t≠it)(ws:Array Value):Draws prog w A it [it,t] ws.size (fun i v=>ws[i]?=some v) (fun i h=>K8 L h it t i/\cY L h t ws):=by
 cases L with
 |true=>exact Draws.list ha it t ne ws
 |false=>exact HT.Yb ha it t ne ws
theorem K8.at{L:Bool}{h h':Heap}{it a:Addr}{i:Nat}(x:K8 L h it a i)(k:∀o,h.get? it=some o->h'.get? it=some o):K8 L h' it a i:=by
 cases L with
 |true=>exact Heap.IsListIter.at x k
 |false=>exact Heap.IsTupleIter.at x k
theorem K8.obj{L:Bool}{h:Heap}{it a:Addr}{i:Nat}(x:K8 L h it a i):∃o vs,h.get? it=some o/\o.data=.fields vs:=by
 cases L with
 |true=>obtain⟨o,e,_,d⟩:=(show h.IsListIter it a i from x);exact⟨o,_,e,d⟩
 |false=>obtain⟨o,e,_,d⟩:=(show h.IsTupleIter it a i from x);exact⟨o,_,e,d⟩
theorem Inv.Qx{X:Cx}{pins:List (Addr×Obj)}{σ:St}{H:Hp}{s:Shared}{L:Bool}{a:Addr}{xs:List V}(I:Inv X pins σ H s)(h:H a=some (HB L xs)):∃its:List Value,Vals xs its/\cY L s.heap a its.toArray:=by
 cases L with
 |true=>obtain⟨its,rv,p,_⟩:=I.list (SqL.of h);exact⟨its,rv,p.isList⟩
 |false=>obtain⟨its,rv,p,_⟩:=I.tuple (SqT.of h);exact⟨its,rv,p⟩
def zM(L M:Bool)(a b z TI TO i1 i2:Addr)(i:Nat)(h:Heap):Prop:=IsZip h z TI TO .none/\IsPair h TI (.ref i1) (.ref i2)/\(∃c d,IsPair h TO c d)/\K8 L h i1 a i/\K8 M h i2 b i
theorem UJ{z TI TO i1 i2 a b:Addr}(d1:TI≠z)(d2:TO≠z)(d3:TI≠TO)(d4:i1≠z/\i1≠TO/\i1≠TI)(d5:i2≠z/\i2≠TO/\i2≠TI)(d6:i1≠i2)(na:a ∉ [z,TI,TO,i1,i2])(nb:b ∉ [z,TI,TO,i1,i2]):HT.Apart z TI TO i1 i2 [i1,a] [i2,b] where
 a1:=d1
 a2:=d2
 a3:=d3
 b1:=fun c hc=>by
  simp only[U0o,U02,or_false,not_or] at hc na
  rcases hc with rfl|rfl
  .exact⟨d4.1,d4.2.1,d6⟩
  .exact⟨na.1,na.2.2.1,na.2.2.2.2⟩
 b2:=fun c hc=>by
  simp only[U0o,U02,or_false,not_or] at hc nb
  rcases hc with rfl|rfl
  .exact⟨d5.1,d5.2.1,U01 d6⟩
  .exact⟨nb.1,nb.2.2.1,nb.2.2.2.1⟩
 c1:=d4
 c2:=d5
 c3:=d6
theorem jq{P:Program}{w:World}{K:U0b}{elts:List Expr}{x1:Nat}{pos:Pos}(L M:Bool)(a b z TI TO i1 i2:Addr)(d1:TI≠z)(d2:TO≠z)(d3:TI≠TO)(d4:i1≠z/\i1≠TO/\i1≠TI)(d5:i2≠z/\i2≠TO/\i2≠TI)(d6:i1≠i2) :
  Turn P w K (.Tuple elts x1 pos) (Itz L M a b) [z,TI,TO,i1,i2] z (zM L M a b z TI TO i1 i2) where
 mem:=by simp
 obj:=fun i h st c hc=>by
  obtain⟨h1,h2,⟨c',d',h3⟩,h4,h5⟩:=st
  simp only[U0o,U02,or_false] at hc
  rcases hc with rfl|rfl|rfl|rfl|rfl
  .exact⟨_,h1,fun v q=>by cases q⟩
  .exact⟨_,h2,fun v q=>by cases q⟩
  .exact⟨_,h3,fun v q=>by cases q⟩
  .obtain⟨o,vs,e,d⟩:=h4.obj
   exact⟨o,e,fun v q=>by rw[d] at q;cases q⟩
  .obtain⟨o,vs,e,d⟩:=h5.obj
   exact⟨o,e,fun v q=>by rw[d] at q;cases q⟩
 keep:=fun i h h' st k=>by
  obtain⟨h1,h2,⟨c',d',h3⟩,h4,h5⟩:=st
  exact⟨k z (by simp) _ h1,k TI (by simp) _ h2,⟨c',d',k TO (by simp) _ h3⟩,h4.at fun o q=>k i1 (by simp) o q,h5.at fun o q=>k i2 (by simp) o q⟩
 item:=by
  intro X hP hw hK hc i pins s σ H E I hf st hg
  subst hP hw hK
  obtain⟨xs,ys,x,y,hq1,hq2,hx,hy⟩:=hg
  obtain⟨its1,rv1,p1⟩:=I.Qx hq1
  obtain⟨its2,rv2,p2⟩:=I.Qx hq2
  obtain⟨u,hu,ru⟩:=rv1.get hx
  obtain⟨v,hv,rv⟩:=rv2.get hy
  obtain⟨h1,h2,⟨c',d',h3⟩,h4,h5⟩:=st
  have lt:∀c∈[z,TI,TO,i1,i2],c<s.heap.objs.size:=fun c hc=>by
   simp only[U0o,U02,or_false] at hc
   rcases hc with rfl|rfl|rfl|rfl|rfl
   .exact U0l h1
   .exact U0l h2
   .exact U0l h3
   .obtain⟨o,vs,e,_⟩:=h4.obj;exact U0l e
   .obtain⟨o,vs,e,_⟩:=h5.obj;exact U0l e
  have na:a ∉ [z,TI,TO,i1,i2]:=fun q=>by rw[(hf a q).1] at hq1;cases hq1
  have nb:b ∉ [z,TI,TO,i1,i2]:=fun q=>by rw[(hf b q).1] at hq2;cases hq2
  have ap:=UJ d1 d2 d3 d4 d5 d6 na nb
  have hh:X.A.in1.handled=none:=I.ok.hd hc
  refine HT.aj (Q5 L hh i1 a (fun q=>na (by simp[q])) its1.toArray) (Q5 M hh i2 b (fun q=>nb (by simp[q])) its2.toArray) ap h1 h2 h3 ⟨h4,p1⟩ ⟨h5,p2⟩ (by rw[U0m];exact(U0i.mp hu).1) (by rw[U0m];exact(U0i.mp hv).1)
   fun x' y' h' tk q1 q2 z' o' s1' s2' tp sz k=>⟨_,rfl,?_⟩
  have q1':its1[i]?=some x':=by simpa using q1
  have q2':its2[i]?=some y':=by simpa using q2
  rw[hu] at q1'
  rw[hv] at q2'
  cases q1'
  cases q2'
  refine wpAny_letOwnedTupleGo_zip z' fun h3' z2 sb=>?_
  have sb':U0y z h' h3':=sb
  have nz:s.heap.objs.size≠z:=U1p (lt z (by simp))
  have J:=I.oH (h':=h3') (t':=tk) (fp:=[z,TI,TO,i1,i2]) (x:=x) (y:=y) ru rv (sb'.extBut _ _ nz tp) (fun c o hc q=>by
   simp only[U0o,U02,or_false,not_or] at hc
   exact sb'.extBut _ _ hc.1 (k c o hc.1 hc.2.2.1 hc.2.2.2.1 hc.2.2.2.2 q)) hf lt
  refine⟨.ref s.heap.objs.size,_,J,rfl,⟨_,x,y,I.hok.fresh (U0q _),rfl,rfl,fun zs hz=>?_,fun zs hz=>?_⟩,⟨z2,?_,⟨_,_,sb'.extBut _ _ d2 o'⟩,s1'.1.at fun o q=>sb'.extBut _ _ d4.1 q,s2'.1.at fun o q=>sb'.extBut _ _ d5.1 q⟩,fun c hc=>?_⟩
  .rw[hq1] at hz
   rw[←HB.inj (U06 hz)]
   exact hx
  .rw[hq2] at hz
   rw[←HB.inj (U06 hz)]
   exact hy
  .exact sb'.extBut _ _ d1 (k TI _ d1 d3 (U01 d4.2.2) (U01 d5.2.2) h2)
  .rw[Bm (U0x (lt c hc))]
   exact(hf c hc).1
 done:=by
  intro X hP hw hK hc i pins s σ H E I hf st hg
  subst hP hw hK
  obtain⟨xs,ys,hq1,hq2,ke⟩:=hg
  obtain⟨its1,rv1,p1⟩:=I.Qx hq1
  obtain⟨its2,rv2,p2⟩:=I.Qx hq2
  obtain⟨h1,h2,⟨c',d',h3⟩,h4,h5⟩:=st
  have na:a ∉ [z,TI,TO,i1,i2]:=fun q=>by rw[(hf a q).1] at hq1;cases hq1
  have nb:b ∉ [z,TI,TO,i1,i2]:=fun q=>by rw[(hf b q).1] at hq2;cases hq2
  have hh:X.A.in1.handled=none:=I.ok.hd hc
  refine HT.aZ (Q5 L hh i1 a (fun q=>na (by simp[q])) its1.toArray) (Q5 M hh i2 b (fun q=>nb (by simp[q])) its2.toArray) (UJ d1 d2 d3 d4 d5 d6 na nb) h1 h2 h3 ⟨h4,p1⟩ ⟨h5,p2⟩ (by rw[U0m,U0m,←rv1.length,←rv2.length];exact ke)
   fun h' tk k=>⟨rfl,I.Q9 (t':=tk) (fp:=[z,TI,TO,i1,i2]) (fun c o hc q=>?_) hf⟩
  simp only[U0o,U02,or_false,not_or] at hc
  exact k c o hc.1 hc.2.2.1 hc.2.2.2.1 hc.2.2.2.2 q
 self:=fun _ _ _ _ _ st h=>U6h st.1 h
abbrev Jag(L M:Bool)(ta:TA):TI:=fun σ H R=>ta σ H fun vs H1=>∃a b xs ys,vs=[.ref a,.ref b]/\H1 a=some (HB L xs)/\H1 b=some (HB M ys)/\R (Itz L M a b) H1
section
variable{X:Cx}
theorem YK(L M:Bool)(hLM:L=M∨(L=true/\M=false)){a b:Expr}{ta:TA}{p pos:Pos}{elts:List Expr}{x1:Nat}{tpos:Pos}(hg:Gl X "zip")(hm:X.mg "zip"=none)(ha:PA X [a,b] ta)(hs:starEach [a,b] X.env=[(false,eval a X.env),(false,eval b X.env)]:=by rfl)(hs2:starEach [b] X.env=[(false,eval b X.env)]:=by rfl) :
  PI X (.Tuple elts x1 tpos) (.Call (.Name "zip" p) [a,b] [] pos) (Jag L M ta):=by
 intro pins s σ H R I h
 refine Call_ (K1 I hg hm (by decide +kernel:bootBuiltins "zip"=some (.type "zip")) (U2o (thn (ha pos pins s σ H _ I h) fun us s1 ⟨vs,H1,I1,r1,q1⟩=>?_) (by rw[hs,hs2]) (by rw[hs2];rfl)))
 obtain⟨l,m,xs,ys,e,e1,e2,q⟩:=q1
 subst e
 obtain⟨us1,us2⟩:us=[.ref l,.ref m]/\True:=by
  cases r1 with
  |cons r rr =>
   cases rr with
   |cons r' rr =>
    cases rr
    cases r
    cases r'
    exact⟨rfl,trivial⟩
 subst us1
 obtain⟨its1,rv1,p1⟩:=I1.Qx e1
 obtain⟨its2,rv2,p2⟩:=I1.Qx e2
 have fin:∀h',IsZip h' (s1.heap.objs.size+4) (s1.heap.objs.size+2) (s1.heap.objs.size+3) .none->IsPair h' (s1.heap.objs.size+2) (.ref s1.heap.objs.size) (.ref (s1.heap.objs.size+1))->IsPair h' (s1.heap.objs.size+3) .none .none ->
   K8 L h' s1.heap.objs.size l 0->K8 M h' (s1.heap.objs.size+1) m 0->(∀c o,s1.heap.get? c=some o->h'.get? c=some o)->wpAny (model X.prog X.w) X.A (pyIter (.ref (s1.heap.objs.size+4))) (PIE X pins σ (.Tuple elts x1 tpos) R) X.xe { s1 with heap:=h' }:=fun h' c1 c2 c3 c4 c5 k=>by
  refine U6h c1 ?_
  refine⟨s1.heap.objs.size+4,[s1.heap.objs.size+4,s1.heap.objs.size+2,s1.heap.objs.size+3,s1.heap.objs.size,s1.heap.objs.size+1],_,_,H1,rfl,I1.kept (t':=s1.toks) k,
   jq L M l m _ _ _ _ _ (by simp) (by simp) (by simp) ⟨by simp,by simp,by simp⟩ ⟨by simp,by simp,by simp⟩ (by simp),⟨c1,c2,⟨_,_,c3⟩,c4,c5⟩,fun c hc=>?_,q⟩
  have hc':s1.heap.objs.size<=c:=by
   simp only[U0o,U02,or_false] at hc
   rcases hc with rfl|rfl|rfl|rfl|rfl<;>first|exact U1j _ _|exact U0q _
  exact I1.Tc hc' (I1.hok.fresh hc')
 cases L with
 |true =>
  cases M with
  |true=>exact call_zip_2 p1 p2 fun h' c1 c2 c3 c4 c5 _ k=>fin h' c1 c2 c3 c4 c5 k
  |false=>exact HT.nU p1 p2 fun h' c1 c2 c3 c4 c5 k=>fin h' c1 c2 c3 c4 c5 k
 |false =>
  cases M with
  |true=>rcases hLM with z|⟨z,_⟩<;>cases z
  |false=>exact HT.ZK p1 p2 fun h' c1 c2 c3 c4 c5 k=>fin h' c1 c2 c3 c4 c5 k
end
end L2
end
section
namespace L2
open PySem PySem.Spec PyProof.Rows
section
variable{k:Nat}{caps:List Nat}{σ:St}{g:TG}{tt:TT}{te:TE}{Q:VK}{H:Hp}
end
end L2
end
section
set_option maxRecDepth 100000
namespace HT
open PySem PySem.Spec PyProof.Rows
section
variable{prog:Program}{w:World}{A:Around}{E:Value->Shared->Prop}{s:Shared}
theorem rP{x:Value}{Tx:String}{tp:Addr}{cs:List Value}{vs:List Bool}{dd:Option Addr}{n:Nat}{sl:Array (Option Value)}(ha:AnswersAll (fun s=>s.TypeIs x Tx) x cs vs) :
  Meets (Builtin.«isinstance» ⟨[x,.ref tp],[]⟩) (fun _ R s=>s.TypeIs x Tx/\s.heap.get? tp=some { cls:=.type "tuple",dict:=dd,data:=.seq cs.toArray n,slots:=sl }/\∀tk,R (.ok (.ret (.bool (vs.any id)))) { s with toks:=tk }) :=
 fun prog w A R s hs=>isinstance_outer (by
  obtain⟨h,g,d,t,os⟩:=s
  obtain⟨hx,htp,hq⟩:=hs
  have T2:(⟨h,g,d,t,os⟩:Shared).TypeIs (.ref tp) "tuple":=⟨_,htp,rfl⟩
  have f1:=PySem.F.isi_sub_tuple
  repeat (any_goals first|assumption|wp_step)
  refine wpAny_arrayLoop ?_
  simp only[List.toList_toArray,U42]
  refine isinstance_items (dep:=0) (fun _ tk q=>q.toks tk) cs vs _ _ ha hx fun tk'=>?_
  cases hv:vs.any id with
  |true =>
   simp only[if_true]
   repeat (any_goals first|assumption|wp_step)
   exact hv ▸ hq tk'
  |false =>
   simp only[if_false,U2b]
   repeat (any_goals first|assumption|wp_step)
   exact hv ▸ hq tk') (U6f.not_mainsLoader hs.1)
end
end HT
namespace L2
open PySem PySem.Spec PyProof.Rows
def isSeq:PyData->Bool
 |.list _=>true
 |.tuple _=>true
 |_=>false
def noDict:PyData->Bool
 |.dict _=>false
 |_=>true
theorem nu(T:String)(h:T="tuple"∨T="list"):typeOf (.type T)=pure (.type "type"):=by rcases h with rfl|rfl<;>first|rfl|kernel_rfl
theorem Jx{a b:String}(h:(a,b)∈[("int","tuple"),("int","list"),("bool","tuple"),("bool","list"),("str","tuple"),("str","list"),("NoneType","tuple"),("NoneType","list"),("list","tuple"),("tuple","list")]):isSubtype (.type a) (.type b)=pure false:=by
 simp only[U0o,U02,or_false,Prod.mk.injEq] at h
 rcases h with ⟨rfl,rfl⟩|⟨rfl,rfl⟩|⟨rfl,rfl⟩|⟨rfl,rfl⟩|⟨rfl,rfl⟩|⟨rfl,rfl⟩|⟨rfl,rfl⟩|⟨rfl,rfl⟩|⟨rfl,rfl⟩|⟨rfl,rfl⟩<;>(rw[isSubtype_type];kernel_rfl)
theorem bF{a:String}(h:a="tuple"∨a="list"):isSubtype (.type a) (.type a)=pure true:=by rcases h with rfl|rfl<;>(rw[isSubtype_type];kernel_rfl)
section
variable{X:Cx}
theorem Xn:Dc X (.builtin "isinstance") (fun xs H Q=>∃(N:Addr->Prop)(x:V)(d:PyData)(p:Addr),xs=[x,.ref p]/\H p=some (.tup [.ty "tuple",.ty "list"])/\Tr N H x d/\noDict d=true/\Q (.bl (isSeq d)) H):=by
 intro pins s σ H xs us Q I r h
 obtain⟨N,x,d,p,rfl,hp,t,nd,q⟩:=h
 obtain⟨u,v,rfl,rx,rv⟩:=vals2 r
 cases (show v=U2n p from rv)
 obtain⟨its,rt,pt,_⟩:=I.tuple (SqT.of hp)
 have ei:its=[.type "tuple",.type "list"]:=by
  cases rt with
  |cons r1 rr =>
   cases rr with
   |cons r2 rn =>
    cases rn
    cases (show _=U3s "tuple" from r1)
    cases (show _=U3s "list" from r2)
    rfl
 subst ei
 obtain⟨⟨c1,d1,x1,sl1⟩,ho,hc,n,hd⟩:=id pt
 simp only at hc hd
 subst hc hd
 have fin:∀(Tx:String)(vs:List Bool),AnswersAll (fun s=>s.TypeIs u Tx) u [.type "tuple",.type "list"] vs->s.TypeIs u Tx->vs.any id=isSeq d->wpAny (model X.prog X.w) X.A (call (.builtin "isinstance") [u,.ref p]) (EP X pins σ Q) X.xe s:=fun Tx vs ha hx e =>
  call_isinstance (HT.rP (cs:=[.type "tuple",.type "list"]) (dd:=d1) (n:=n) (sl:=sl1) ha) ⟨hx,ho,fun tk=>⟨.bl (isSeq d),H,I.tok tk,(by rw[e];rfl),q⟩⟩
 have y1:=nu "tuple" (.inl rfl)
 have y2:=nu "list" (.inr rfl)
 cases t with
 |non =>
  cases (show u=U2w from rx)
  exact fin "NoneType" [false,false] (.cons (Answers.of_false_none (by decide) y1 (Jx (by decide))) (.cons (Answers.of_false_none (by decide) y2 (Jx (by decide))) .nil)) rfl rfl
 |bl b =>
  cases (show u=U3y b from rx)
  exact fin "bool" [false,false] (.cons (Answers.of_false_bool (by decide) y1 (Jx (by decide))) (.cons (Answers.of_false_bool (by decide) y2 (Jx (by decide))) .nil)) rfl rfl
 |int i =>
  obtain⟨t,rfl⟩:=rx
  exact fin "int" [false,false] (.cons (Answers.of_false_int (by decide) y1 (Jx (by decide))) (.cons (Answers.of_false_int (by decide) y2 (Jx (by decide))) .nil)) rfl rfl
 |str z =>
  obtain⟨t,rfl⟩:=rx
  exact fin "str" [false,false] (.cons (Answers.of_false_str (by decide) y1 (Jx (by decide))) (.cons (Answers.of_false_str (by decide) y2 (Jx (by decide))) .nil)) rfl rfl
 |lst n1 h1 t1 =>
  cases rx
  obtain⟨its,_,pl,_⟩:=I.list (SqL.of h1)
  exact fin "list" [false,true] (.cons (Answers.of_false_list (by decide) y1 (Jx (by decide))) (.cons (Answers.of_true y2 (bF (.inr rfl))) .nil)) pl.isList.typeIs rfl
 |tup n1 h1 t1 =>
  cases rx
  obtain⟨its,_,pl,_⟩:=I.tuple (SqT.of h1)
  exact fin "tuple" [true,false] (.cons (Answers.of_true y1 (bF (.inl rfl))) (.cons (Answers.of_false_tuple (by decide) y2 (Jx (by decide))) .nil)) pl.typeIs rfl
 |dct _ _=>cases nd
end
end L2
end
section
namespace L2
open PySem PySem.Spec PyProof.Rows
end L2
namespace Bc
open PySem PySem.Spec PyProof.Rows L2
def Jae:PyData->Int
 |.tuple [.int a,.int b]=>b-a
 |_=>0
def yO(es:List PyData):Int:=es.foldl (fun acc d=>acc*Jae d) 1
def Lr:PyData->Int
 |.tuple es=>yO es
 |_=>0
structure Good(n:Nat)(ds:List PyData):Prop where
 n1:1<=n
 n3:n<=3
 le:ds.length<=wB (.int n)
 all:ds.all (Jaj n)=true
end Bc
end
section
namespace L2
open PySem PySem.Spec PyProof.Rows
section
variable{X:Cx}{K:U0b}
theorem jN(hc:X.calm=true)(hK:X.K=K):Dc X (.builtin "min") (fun xs H Q=>∃(p:Addr)(ns:List Int),xs=[.ref p]/\SqL K H p (ns.map V.int)/\ns≠[]/\∀m,m∈ns->(∀n∈ns,m<=n)->Q (.int m) H):=by
 subst hK
 intro pins s σ H xs us Q I r h
 obtain⟨p,ns,rfl,hq,hne,q⟩:=h
 obtain⟨u,rfl,rx⟩:=vals1 r
 cases rx
 obtain⟨its,rv,pl,hz⟩:=I.list hq
 have hlen:=rv.length
 rw[U0k] at hlen
 have hl:=pl.isList
 have hlt:p<s.heap.objs.size:=by obtain⟨o,ho,_⟩:=hl;exact U0l ho
 have hval:∀i v,its.toArray[i]?=some v->∃t,v=U3f (ns.getD i 0) t:=fun i v e=>by
  rw[U4f] at e
  have hi:i<ns.length:=by rw[hlen];exact(U0i.mp e).1
  obtain⟨u,e1,ru⟩:=rv.get (i:=i) (x:=.int ns[i]) (by rw[U0v,U0d hi];rfl)
  rw[e] at e1;cases e1
  have e2:ns.getD i 0=ns[i]:=by rw[U0h,U0d hi];rfl
  rw[e2]
  exact ru
 have hpos:0<ns.length:=U5o.mpr hne
 refine call_min_walk (U33 hl ?_)
 refine⟨s.heap.objs.size,[s.heap.objs.size,p],[s.heap.objs.size],its.toArray.size,fun i v=>its.toArray[i]?=some v,_,_,rfl,Walks.list (by simpa using I.ok.hd hc) s.heap.objs.size p (U0x hlt) its.toArray,⟨⟨_,U0p _ rfl,rfl,rfl⟩,hl.push _⟩,?_,?_,CmpOf.ints_lt (fun i=>ns.getD i 0) hval,fun v h' tk hP hk=>?_⟩
 .intro b hb
  show b<(s.heap.push _).objs.size
  rw[U1n]
  rcases U0o.mp hb with z|hb
  .rw[z];exact U4w _
  .rw[U04.mp hb];exact U2y hlt
 .rw[U0m,←hlen];exact hpos
 .obtain⟨g1,g2⟩:=argBest_lt (fun i=>ns.getD i 0) (its.toArray.size-1)
  obtain⟨t,rfl⟩:=hval _ _ hP
  rw[U0m,←hlen] at g1 g2
  have hb:argBest (fun i j=>decide (ns.getD i 0<ns.getD j 0)) (ns.length-1)<ns.length:=by omega
  rw[U0m,←hlen]
  refine⟨.int _,H,I.kept (h':=h') (t':=tk) fun b o e=>hk b o (fun z=>?_) (U0a _ e),⟨t,rfl⟩,q _ ?_ fun n hn=>?_⟩
  .exact absurd (U04.mp z) (U0x (U0l e))
  .rw[U0h,U0d hb]
   exact U1f hb
  .obtain⟨j,hj,rfl⟩:=U45 hn
   have:=g2 j (by omega)
   have e:ns.getD j 0=ns[j]:=by rw[U0h,U0d hj];rfl
   rw[e] at this
   exact this
end
end L2
namespace Bc
open PySem PySem.Spec PyProof.Rows L2
def mx(i j:Int):Int:=if j>i then j else i
def mn(i j:Int):Int:=if j<i then j else i
def Jai:PyData->PyData->PyData
 |.tuple [.int a,.int b],.tuple [.int c,.int d]=>.tuple [.int (mx a c),.int (mn b d)]
 |_,_=>.none
def HS(es fs:List PyData):List PyData:=(es.zip fs).map fun p=>Jai p.1 p.2
def GR(w:Nat):PyData->Int
 |.tuple es=>(match es[w]? with|some (.tuple [.int a,.int _])=>a|_=>0)
 |_=>0
def Fb(w:Nat):PyData->Int
 |.tuple es=>(match es[w]? with|some (.tuple [.int _,.int b])=>b|_=>0)
 |_=>0
end Bc
end
section
namespace VS
open PySem PySem.Spec L2
inductive D where
 |non|bl (b:Bool)|int (i:Int)|str (x:Str)|ty (n:String)
 |tup (ds:List D)|lst (m:Bool) (ds:List D)|ref (i:Nat)|scr (ns:List Int)|emp
abbrev Mu:=List (Option Addr)
def Cz(μ:Mu)(a:Addr):Prop:=some a∈μ
structure Fr where
 K:U0b
 H0:Hp
 N:Addr->Prop
 m0:List Addr
def Fr.Ok(Γ:Fr)(m:Bool)(a:Addr):Prop:=(m=true->Γ.H0 a=none)/\(Γ.N a∨Γ.H0 a=none)
mutual
inductive VR (Γ:Fr) (μ:Mu) (H:Hp):V->D->Prop
 |non:VR Γ μ H .non .non
 |bl (b:Bool):VR Γ μ H (.bl b) (.bl b)
 |int (i:Int):VR Γ μ H (.int i) (.int i)
 |str (x:Str):VR Γ μ H (.str x) (.str x)
 |ty (n:String):VR Γ μ H (.ty n) (.ty n)
 |tup {a:Addr} {xs:List V} {ds:List D}:H a=some (.tup xs)->VRs Γ μ H xs ds->VR Γ μ H (.ref a) (.tup ds)
 |lst {m:Bool} {a:Addr} {xs:List V} {ds:List D}:Γ.Ok m a->¬Cz μ a->H a=some (.lst xs)->VRs Γ μ H xs ds->VR Γ μ H (.ref a) (.lst m ds)
 |ref {i:Nat} {v:V}:i<μ.length->(∀a,μ[i]?=some (some a)->v=.ref a)->VR Γ μ H v (.ref i)
 |scrK {a:Addr} {ns:List Int}:(∀H',SqL Γ.K H' a (ns.map V.int))->VR Γ μ H (.ref a) (.scr ns)
 |scrR {a:Addr} {ns:List Int} {o:Obj}:¬Cz μ a->H a=some (.frz o (.lst (ns.map V.int)))->VR Γ μ H (.ref a) (.scr ns)
 |emp {a:Addr}:¬Cz μ a->H a=some (.dK [])->VR Γ μ H (.ref a) .emp
inductive VRs (Γ:Fr) (μ:Mu) (H:Hp):List V->List D->Prop
 |nil:VRs Γ μ H [] []
 |cons {x:V} {d:D} {xs:List V} {ds:List D}:VR Γ μ H x d->VRs Γ μ H xs ds->VRs Γ μ H (x::xs) (d::ds)
end
structure Ext(μ:Mu)(H:Hp)(μ':Mu)(H':Hp):Prop where
 keep:∀a o,H a=some o->¬Cz μ a->H' a=some o/\¬Cz μ' a
 tups:∀a xs,H a=some (.tup xs)->H' a=some (.tup xs)
 none:∀a,H' a=none->H a=none
 ids:∀(i:Nat)(a:Addr),i<μ.length->μ'[i]?=some (some a)->μ[i]?=some (some a)
 len:μ.length<=μ'.length
theorem Ext.refl(μ:Mu)(H:Hp):Ext μ H μ H:=⟨fun _ _ h n=>⟨h,n⟩,fun _ _ h=>h,fun _ h=>h,fun _ _ _ h=>h,U0q _⟩
theorem Ext.trans{μ μ1 μ2:Mu}{H H1 H2:Hp}(a:Ext μ H μ1 H1)(b:Ext μ1 H1 μ2 H2):Ext μ H μ2 H2 :=
 ⟨fun c o h n=>let ⟨x,y⟩:=a.keep c o h n;b.keep c o x y,fun c xs h=>b.tups c xs (a.tups c xs h),fun c h=>a.none c (b.none c h),fun i c hi h=>a.ids i c hi (b.ids i c (U0w hi a.len) h),U1a a.len b.len⟩
section
variable{Γ:Fr}{μ μ':Mu}{H H':Hp}
mutual
theorem VR.ext(e:Ext μ H μ' H'):∀{v:V} {d:D},VR Γ μ H v d->VR Γ μ' H' v d
 |_,_,.non=>.non
 |_,_,.bl b=>.bl b
 |_,_,.int i=>.int i
 |_,_,.str x=>.str x
 |_,_,.ty n=>.ty n
 |_,_,.tup h t=>.tup (e.tups _ _ h) (VRs.ext e t)
 |_,_,.lst o n h t=>.lst o (e.keep _ _ h n).2 (e.keep _ _ h n).1 (VRs.ext e t)
 |_,_,.ref hi f=>.ref (U0w hi e.len) fun a q=>f a (e.ids _ _ hi q)
 |_,_,.scrK h=>.scrK h
 |_,_,.scrR n h=>.scrR (e.keep _ _ h n).2 (e.keep _ _ h n).1
 |_,_,.emp n h=>.emp (e.keep _ _ h n).2 (e.keep _ _ h n).1
theorem VRs.ext(e:Ext μ H μ' H'):∀{vs:List V} {ds:List D},VRs Γ μ H vs ds->VRs Γ μ' H' vs ds
 |_,_,.nil=>.nil
 |_,_,.cons r t=>.cons (VR.ext e r) (VRs.ext e t)
end
theorem VRs.length:∀{xs:List V} {ds:List D},VRs Γ μ H xs ds->xs.length=ds.length
 |_,_,.nil=>rfl
 |_,_,.cons _ t=>by rw[U0j,U0j,VRs.length t]
theorem VRs.append:∀{xs ys:List V} {ds es:List D},VRs Γ μ H xs ds->VRs Γ μ H ys es->VRs Γ μ H (xs++ys) (ds++es)
 |_,_,_,_,.nil,t=>t
 |_,_,_,_,.cons r s,t=>.cons r (VRs.append s t)
theorem VRs.take:∀{xs:List V} {ds:List D} (n:Nat),VRs Γ μ H xs ds->VRs Γ μ H (xs.take n) (ds.take n)
 |_,_,0,_=>.nil
 |_,_,_+1,.nil=>.nil
 |_,_,n+1,.cons r t=>.cons r (VRs.take n t)
theorem VRs.drop:∀{xs:List V} {ds:List D} (n:Nat),VRs Γ μ H xs ds->VRs Γ μ H (xs.drop n) (ds.drop n)
 |_,_,0,r=>r
 |_,_,_+1,.nil=>.nil
 |_,_,n+1,.cons _ t=>VRs.drop n t
theorem VRs.get:∀{xs:List V} {ds:List D} {i:Nat} {d:D},VRs Γ μ H xs ds->ds[i]?=some d->∃x,xs[i]?=some x/\VR Γ μ H x d
 |_,_,_,_,.nil,h=>by simp at h
 |_,_,0,_,.cons r _,h=>by simp at h;subst h;exact⟨_,rfl,r⟩
 |_,_,i+1,d,.cons _ t,h=>by
  obtain⟨x,h1,h2⟩:=VRs.get (i:=i) (d:=d) t (by simpa using h)
  exact⟨x,by simpa using h1,h2⟩
theorem VRs.set{x:V}{d:D}(r:VR Γ μ H x d):∀{xs:List V} {ds:List D} (i:Nat),VRs Γ μ H xs ds->VRs Γ μ H (xs.set i x) (ds.set i d)
 |_,_,_,.nil=>.nil
 |_,_,0,.cons _ t=>.cons r t
 |_,_,i+1,.cons q t=>.cons q (VRs.set r i t)
theorem VRs.eraseIdx:∀{xs:List V} {ds:List D} (i:Nat),VRs Γ μ H xs ds->VRs Γ μ H (xs.eraseIdx i) (ds.eraseIdx i)
 |_,_,_,.nil=>.nil
 |_,_,0,.cons _ t=>t
 |_,_,i+1,.cons q t=>.cons q (VRs.eraseIdx i t)
theorem VRs.rep{xs:List V}{ds:List D}(h:VRs Γ μ H xs ds):∀n:Nat,VRs Γ μ H (U05 n xs).flatten (U05 n ds).flatten
 |0=>.nil
 |n+1=>by rw[U0r,U0r,U4k,U4k];exact h.append (VRs.rep h n)
theorem VRs.ints:∀(ns:List Int),VRs Γ μ H (ns.map V.int) (ns.map D.int)
 |[]=>.nil
 |n::r=>.cons (.int n) (VRs.ints r)
theorem VRs.Oq:∀{xs:List V} {ns:List Int},VRs Γ μ H xs (ns.map D.int)->xs=ns.map V.int
 |_,[],.nil=>rfl
 |_,n::r,.cons q t=>by cases q;rw[U0s,VRs.Oq t]
end
abbrev Env:=List (Option D)
abbrev Store:=List (Option (List D))
structure Rep(Γ:Fr)(μ:Mu)(σ:St)(H:Hp)(env:Env)(S:Store):Prop where
 vals:∀(i:Nat)(d:D),env[i]?=some (some d)->∃v,σ[i]?=some (some v)/\VR Γ μ H v d
 len:σ.length=env.length
 sto:∀(i:Nat)(ds:List D),S[i]?=some (some ds)->∃a xs,μ[i]?=some (some a)/\H a=some (.lst xs)/\VRs Γ μ H xs ds
 liv:∀(i:Nat)(a:Addr),μ[i]?=some (some a)->∃ds,S[i]?=some (some ds)
 inj:∀(i j:Nat)(a:Addr),μ[i]?=some (some a)->μ[j]?=some (some a)->i=j
 slen:S.length=μ.length
 ent:Ext (Γ.m0.map some) Γ.H0 μ H
 new:∀(i:Nat)(a:Addr),Γ.m0.length<=i->μ[i]?=some (some a)->Γ.H0 a=none
section
variable{Γ:Fr}{μ μ':Mu}{σ σ2:St}{H H':Hp}{env env2:Env}{S S':Store}
theorem Rep.live(R:Rep Γ μ σ H env S){a:Addr}(h:Cz μ a):∃xs,H a=some (.lst xs):=by
 obtain⟨i,hi⟩:=U4e.mp h
 obtain⟨ds,hs⟩:=R.liv i a hi
 obtain⟨b,xs,h1,h2,_⟩:=R.sto i ds hs
 rw[hi] at h1;cases h1
 exact⟨xs,h2⟩
theorem Rep.dead(R:Rep Γ μ σ H env S){p:Addr}(h:H p=none):¬Cz μ p:=fun z=>by
 obtain⟨xs,e⟩:=R.live z
 rw[h] at e;cases e
theorem Rep.fresh(R:Rep Γ μ σ H env S){p:Addr}(h:H p=none):Γ.H0 p=none:=R.ent.none p h
theorem Rep.ok(R:Rep Γ μ σ H env S){p:Addr}(h:H p=none)(m:Bool):Γ.Ok m p:=⟨fun _=>R.fresh h,.inr (R.fresh h)⟩
theorem Rep.grow(R:Rep Γ μ σ H env S)(e:Same H H'):Rep Γ μ σ H' env S/\Ext μ H μ H':=by
 have x:Ext μ H μ H':=⟨fun a o h n=>⟨e a o h,n⟩,fun a xs h=>e a _ h,fun a h=>e.free h,fun _ _ _ h=>h,U0q _⟩
 refine⟨⟨fun i d h=>?_,R.len,fun i ds h=>?_,R.liv,R.inj,R.slen,R.ent.trans x,R.new⟩,x⟩
 .obtain⟨v,h1,h2⟩:=R.vals i d h
  exact⟨v,h1,h2.ext x⟩
 .obtain⟨a,xs,h1,h2,h3⟩:=R.sto i ds h
  exact⟨a,xs,h1,e _ _ h2,h3.ext x⟩
theorem Rep.back(R:Rep Γ μ σ H env S)(x:Ext μ H μ' H')(R2:Rep Γ μ' σ2 H' env2 S'):Rep Γ μ' σ H' env S' :=
 ⟨fun i d h=>let ⟨v,h1,h2⟩:=R.vals i d h;⟨v,h1,h2.ext x⟩,R.len,R2.sto,R2.liv,R2.inj,R2.slen,R2.ent,R2.new⟩
theorem Rep.Vs(R:Rep Γ μ σ H env S)(i:Nat){v:V}{d:D}(r:VR Γ μ H v d):Rep Γ μ (σ.set i (some v)) H (env.set i (some d)) S:=by
 refine⟨fun j e h=>?_,by rw[U31,U31];exact R.len,R.sto,R.liv,R.inj,R.slen,R.ent,R.new⟩
 by_cases hj:i=j
 .subst hj
  have hl:i<env.length:=by
   have:=(U0i.mp h).1
   rw[U31] at this;exact this
  rw[U2m hl] at h
  cases h
  exact⟨v,U2m (by rw[R.len];exact hl),r⟩
 .rw[U21 hj] at h ⊢
  exact R.vals j e h
theorem Rep.laid(R:Rep Γ μ σ H env S){p:Addr}{xs:List V}{ds:List D}(hp:H p=none)(r:VRs Γ μ H xs ds) :
  Rep Γ (μ++[some p]) σ (upd H p (.lst xs)) env (S++[some ds])/\Ext μ H (μ++[some p]) (upd H p (.lst xs)):=by
 have ne:∀a o,H a=some o->a≠p:=fun a o h z=>by rw[z,hp] at h;cases h
 have x:Ext μ H (μ++[some p]) (upd H p (.lst xs)):=by
  refine⟨fun a o h n=>⟨by rw[Bm (ne a o h)];exact h,fun z=>?_⟩,fun a ys h=>by rw[Bm (ne a _ h)];exact h,fun a h=>?_,fun i a hi h=>?_,by rw[U0u];omega⟩
  .rcases U12.mp z with z|z
   .exact n z
   .have z':a=p:=by simpa using z
    exact ne a o h z'
  .by_cases ha:a=p
   .rw[ha,CK] at h;cases h
   .rw[Bm ha] at h;exact h
  .rw[U1d hi] at h;exact h
 have idx:∀i a,(μ++[some p])[i]?=some (some a)->(i<μ.length/\μ[i]?=some (some a))∨(i=μ.length/\a=p):=fun i a h=>by
  by_cases hi:i<μ.length
  .rw[U1d hi] at h;exact .inl ⟨hi,h⟩
  .rw[U2h (by omega)] at h
   have hl:=(U0i.mp h).1
   have hi':i=μ.length:=by simp at hl;omega
   subst hi'
   simp at h
   exact .inr ⟨rfl,h.symm⟩
 have no:∀a,μ[a]?=some (some p)->False:=fun i h=>R.dead hp (U1h h)
 refine⟨⟨fun i d h=>?_,R.len,fun i es h=>?_,fun i a h=>?_,fun i j a h1 h2=>?_,by rw[U0u,U0u,R.slen];rfl,R.ent.trans x,fun i a hi h=>?_⟩,x⟩
 .obtain⟨v,h1,h2⟩:=R.vals i d h
  exact⟨v,h1,h2.ext x⟩
 .by_cases hi:i<S.length
  .rw[U1d hi] at h
   obtain⟨a,ys,h1,h2,h3⟩:=R.sto i es h
   exact⟨a,ys,by rw[U1d (by rw[←R.slen];exact hi)];exact h1,by rw[Bm (ne a _ h2)];exact h2,h3.ext x⟩
  .rw[U2h (by omega)] at h
   have hl:=(U0i.mp h).1
   have hi':i=S.length:=by simp at hl;omega
   subst hi'
   simp at h
   subst h
   exact⟨p,xs,by rw[R.slen];simp,CK,r.ext x⟩
 .rcases idx i a h with ⟨hi,h⟩|⟨rfl,rfl⟩
  .obtain⟨ds',q⟩:=R.liv i a h
   exact⟨ds',by rw[U1d (by rw[R.slen];exact hi)];exact q⟩
  .exact⟨ds,by rw[←R.slen];simp⟩
 .rcases idx i a h1 with ⟨_,g1⟩|⟨e1,e2⟩
  .rcases idx j a h2 with ⟨_,g2⟩|⟨e3,e4⟩
   .exact R.inj i j a g1 g2
   .exact(no i (e4 ▸ g1)).elim
  .rcases idx j a h2 with ⟨_,g2⟩|⟨e3,_⟩
   .exact(no j (e2 ▸ g2)).elim
   .rw[e1,e3]
 .rcases idx i a h with ⟨_,h⟩|⟨rfl,rfl⟩
  .exact R.new i a hi h
  .exact R.fresh hp
theorem Rep.put(R:Rep Γ μ σ H env S){i:Nat}{a:Addr}{xs:List V}{ds:List D}(hi:μ[i]?=some (some a))(r:VRs Γ μ H xs ds) :
  Rep Γ μ σ (upd H a (.lst xs)) env (S.set i (some ds))/\Ext μ H μ (upd H a (.lst xs)):=by
 have hl:Cz μ a:=U1h hi
 obtain⟨ys,hy⟩:=R.live hl
 have x:Ext μ H μ (upd H a (.lst xs)):=by
  refine⟨fun b o h n=>⟨?_,n⟩,fun b zs h=>?_,fun b h=>?_,fun _ _ _ h=>h,U0q _⟩
  .rw[Bm (fun z=>n (by rw[z];exact hl))];exact h
  .rw[Bm (fun z=>by rw[z,hy] at h;cases h)];exact h
  .by_cases hb:b=a
   .rw[hb,CK] at h;cases h
   .rw[Bm hb] at h;exact h
 have hiS:i<S.length:=by rw[R.slen];exact(U0i.mp hi).1
 refine⟨⟨fun j d h=>?_,R.len,fun j es h=>?_,fun j b h=>?_,R.inj,by rw[U31];exact R.slen,R.ent.trans x,R.new⟩,x⟩
 .obtain⟨v,h1,h2⟩:=R.vals j d h
  exact⟨v,h1,h2.ext x⟩
 .by_cases hj:i=j
  .subst hj
   rw[U2m hiS] at h
   cases h
   exact⟨a,xs,hi,CK,r.ext x⟩
  .rw[U21 hj] at h
   obtain⟨b,zs,h1,h2,h3⟩:=R.sto j es h
   refine⟨b,zs,h1,?_,h3.ext x⟩
   rw[Bm (fun z=>hj (R.inj i j a hi (by rw[←z];exact h1)))]
   exact h2
 .by_cases hj:i=j
  .subst hj;exact⟨ds,U2m hiS⟩
  .rw[U21 hj];exact R.liv j b h
end
end VS
end
section
namespace VS
open PySem PySem.Spec L2
abbrev Ba:=Env->Store->Option (D×Store)
abbrev BX:=Env->Store->Option (List D×Store)
abbrev Ew:=Env->Store->Option (Bool×Store)
abbrev Tf:=Env->Store->Option (Option Int×Store)
inductive Fl where|nx|brk|cnt|ret (d:D)
abbrev BL:=Env->Store->Option (Fl×Env×Store)
abbrev Jw:=Env->Store->Option ((List D×List (Nat×List D))×Store)
abbrev Ke:=D->Env->Option Env
def Ac(i:Nat):Ba:=fun env S=>(env[i]?.join).map fun d=>(d,S)
def eC(d:D):Ba:=fun _ S=>some (d,S)
def eOp(g:Store->D->D->Option D)(a b:Ba):Ba:=fun env S=>(a env S).bind fun p=>(b env p.2).bind fun q=>(g q.2 p.1 q.1).map fun d=>(d,q.2)
def eUn(g:Store->D->Option D)(a:Ba):Ba:=fun env S=>(a env S).bind fun p=>(g p.2 p.1).map fun d=>(d,p.2)
def Ae:BX:=fun _ S=>some ([],S)
def Aa(a:Ba)(r:BX):BX:=fun env S=>(a env S).bind fun p=>(r env p.2).bind fun q=>some (p.1::q.1,q.2)
def eCB(g:Store->List D->Option D)(a:BX):Ba:=fun env S=>(a env S).bind fun p=>(g p.2 p.1).map fun d=>(d,p.2)
def QK(a b:Ba):Ba:=fun env S=>(a env S).bind fun p=>match p.1 with|.bl true=>b env p.2|.bl false=>some (.bl false,p.2)|_=>none
def cU(a:Ba):Ba:=fun env S=>(a env S).bind fun p=>match p.1 with|.bl c=>some (.bl (!c),p.2)|_=>none
def Uz(g g':Store->D->D->Option D)(a b c:Ba):Ba:=fun env S=>(a env S).bind fun p=>(b env p.2).bind fun q=>(g q.2 p.1 q.1).bind fun z=>match z with
 |.bl true=>(c env q.2).bind fun r=>(g' r.2 q.1 r.1).map fun d=>(d,r.2)
 |.bl false=>some (.bl false,q.2)
 |_=>none
def Br(a:Ba):Ew:=fun env S=>(a env S).bind fun p=>match p.1 with|.bl c=>some (c,p.2)|_=>none
def Ku(a b:Ew):Ew:=fun env S=>(a env S).bind fun p=>if p.1=true then b env p.2 else some (false,p.2)
def tOr(a b:Ew):Ew:=fun env S=>(a env S).bind fun p=>if p.1=true then some (true,p.2) else b env p.2
def KY(a:Ew):Ew:=fun env S=>(a env S).bind fun p=>some (!p.1,p.2)
def N7:Tf:=fun _ S=>some (none,S)
def N6(a:Ba):Tf:=fun env S=>(a env S).bind fun p=>match p.1 with|.int i=>some (some i,p.2)|_=>none
def eSl(g:Store->D->Option Int->Option Int->Option D)(a:Ba)(l h:Tf):Ba:=fun env S=>(a env S).bind fun p=>(l env p.2).bind fun q=>(h env q.2).bind fun r=>(g r.2 p.1 q.1 r.1).map fun d=>(d,r.2)
def Bh(a b:BL):BL:=fun env S=>(a env S).bind fun p=>match p.1 with|.nx=>b p.2.1 p.2.2|f=>some (f,p.2.1,p.2.2)
def Eu:BL:=fun env S=>some (.nx,env,S)
def Uo:BL:=fun _ _=>none
def Bb(i:Nat)(a:Ba):BL:=fun env S=>(a env S).bind fun p=>some (.nx,env.set i (some p.1),p.2)
def cQ(a:Ba)(g:Ke):BL:=fun env S=>(a env S).bind fun p=>(g p.1 env).bind fun e=>some (.nx,e,p.2)
def Jt(a:Ba):BL:=fun env S=>(a env S).bind fun p=>some (.nx,env,p.2)
def Dg(a:Ba):BL:=fun env S=>(a env S).bind fun p=>some (.ret p.1,env,p.2)
def sIf(c:Ew)(a b:BL):BL:=fun env S=>(c env S).bind fun p=>if p.1=true then a env p.2 else b env p.2
inductive Pat where
 |nm (i:Nat)|tp (ps:List Pat)
mutual
def Pat.sem:Pat->D->Env->Option Env
 |.nm i,d,env=>some (env.set i (some d))
 |.tp ps,.tup ds,env=>Ip ps ds env
 |.tp _,_,_=>none
def Ip:List Pat->List D->Env->Option Env
 |[],[],env=>some env
 |p::ps,d::ds,env=>(Pat.sem p d env).bind fun e=>Ip ps ds e
 |_,_,_=>none
end
mutual
def Pat.raw(K:U0b):Pat->TG
 |.nm i=>Xx i
 |.tp ps=>jY K ps.length (KZ K ps)
def KZ(K:U0b):List Pat->TGs
 |[]=>jZ
 |p::ps=>dF (Pat.raw K p) (KZ K ps)
end
mutual
def Pat.low(k:Nat):Pat->Bool
 |.nm i=>decide (i<k)
 |.tp ps=>cT k ps
def cT(k:Nat):List Pat->Bool
 |[]=>true
 |p::ps=>Pat.low k p&&cT k ps
end
mutual
theorem Pat.mono(K:U0b):∀(p:Pat)(x:V)(σ:St)(H:Hp)(Q Q':St->Hp->Prop),(∀σ' H',Q σ' H'->Q' σ' H')->p.raw K x σ H Q->p.raw K x σ H Q'
 |.nm i,x,σ,H,Q,Q',f,h=>by rw[Pat.raw] at h ⊢;exact f _ _ h
 |.tp ps,x,σ,H,Q,Q',f,h=>by rw[Pat.raw] at h ⊢;obtain⟨a,xs,e,hs,hl,q⟩:=h;exact⟨a,xs,e,hs,hl,dD K ps xs σ H Q Q' f q⟩
theorem dD(K:U0b):∀(ps:List Pat)(x:List V)(σ:St)(H:Hp)(Q Q':St->Hp->Prop),(∀σ' H',Q σ' H'->Q' σ' H')->KZ K ps x σ H Q->KZ K ps x σ H Q'
 |[],x,σ,H,Q,Q',f,h=>by rw[KZ] at h ⊢;exact⟨h.1,f _ _ h.2⟩
 |p::ps,x,σ,H,Q,Q',f,h=>by rw[KZ] at h ⊢;obtain⟨v,r,e,q⟩:=h;exact⟨v,r,e,Pat.mono K p v σ H _ _ (fun σ1 H1 z=>dD K ps r σ1 H1 Q Q' f z) q⟩
end
mutual
theorem Pat.Xu(K:U0b){k:Nat}:∀(p:Pat),p.low k=true->Low k (p.raw K)
 |.nm i,h=>by rw[Pat.raw];rw[Pat.low] at h;exact mJ (of_decide_eq_true h)
 |.tp ps,h=>by rw[Pat.raw];rw[Pat.low] at h;exact qy (fY K ps h)
theorem fY(K:U0b){k:Nat}:∀(ps:List Pat),cT k ps=true->YC k (KZ K ps)
 |[],_=>by rw[KZ];exact qz
 |p::ps,h=>by
  rw[KZ]
  rw[cT,U1e] at h
  exact mL (Pat.Xu K p h.1) (fY K ps h.2) (Pat.mono K p) (dD K ps)
end
theorem Yr:∀{ps:List Pat} {ds:List D} {env env':Env},Ip ps ds env=some env'->ds.length=ps.length
 |[],[],_,_,_=>rfl
 |[],_::_,_,_,h=>by simp[Ip] at h
 |_::_,[],_,_,h=>by simp[Ip] at h
 |p::ps,d::ds,env,env',h=>by
  rw[Ip] at h
  cases e1:p.sem d env with
  |none=>rw[e1] at h;cases h
  |some env1 =>
   rw[e1] at h
   rw[U0j,U0j,Yr (show Ip ps ds env1=some env' from h)]
mutual
theorem Pat.run{Γ:Fr}{μ:Mu}{H:Hp}{S:Store}(K:U0b):∀(p:Pat){v:V}{d:D}{σ:St}{env env':Env}{Q:St->Hp->Prop},Rep Γ μ σ H env S->VR Γ μ H v d->p.sem d env=some env'->(∀σ',Rep Γ μ σ' H env' S->Q σ' H)->p.raw K v σ H Q
 |.nm i,v,d,σ,env,env',Q,R,r,e,q=>by
  rw[Pat.raw]
  rw[Pat.sem] at e
  cases e
  exact q _ (R.Vs i r)
 |.tp ps,v,d,σ,env,env',Q,R,r,e,q=>by
  rw[Pat.raw]
  cases r with
  |@tup b xs ds hb rs =>
   rw[Pat.sem] at e
   obtain⟨hl,w⟩:=uL K ps R rs e q
   exact⟨b,xs,rfl,SqT.of hb,hl,w⟩
  |_=>simp[Pat.sem] at e
theorem uL{Γ:Fr}{μ:Mu}{H:Hp}{S:Store}(K:U0b):∀(ps:List Pat){vs:List V}{ds:List D}{σ:St}{env env':Env}{Q:St->Hp->Prop},Rep Γ μ σ H env S->VRs Γ μ H vs ds->Ip ps ds env=some env'->(∀σ',Rep Γ μ σ' H env' S->Q σ' H)->vs.length=ps.length/\KZ K ps vs σ H Q
 |[],vs,ds,σ,env,env',Q,R,r,e,q=>by
  rw[KZ]
  cases r with
  |nil=>rw[Ip] at e;cases e;exact⟨rfl,rfl,q σ R⟩
  |cons _ _=>simp[Ip] at e
 |p::ps,vs,ds,σ,env,env',Q,R,r,e,q=>by
  rw[KZ]
  cases r with
  |nil=>simp[Ip] at e
  |@cons y d ys ds' r1 r2 =>
   rw[Ip] at e
   cases e1:p.sem d env with
   |none=>rw[e1] at e;cases e
   |some env1 =>
    rw[e1] at e
    have e':Ip ps ds' env1=some env':=e
    have hl:ys.length=ps.length:=by rw[r2.length];exact Yr e'
    exact⟨by rw[U0j,U0j,hl],y,ys,rfl,Pat.run K p R r1 e1 fun σ1 R1=>(uL K ps R1 r2 e' q).2⟩
end
def calm(w:List (Nat×List D))(S:Store):Prop:=∀p∈w,S[p.1]?=some (some p.2)
open Classical in
def loop(w:List (Nat×List D))(g:Ke)(b:BL):List D->BL
 |[],env,S=>if calm w S then some (.nx,env,S) else none
 |d::r,env,S=>if calm w S then (g d env).bind fun e=>(b e S).bind fun p=>match p.1 with
   |.nx=>loop w g b r p.2.1 p.2.2
   |.cnt=>loop w g b r p.2.1 p.2.2
   |.brk=>some (.nx,p.2.1,p.2.2)
   |.ret d=>some (.ret d,p.2.1,p.2.2)
  else none
def Hv(it:Jw)(g:Ke)(b:BL):BL:=fun env S=>(it env S).bind fun p=>loop p.1.2 g b p.1.1 env p.2
def G7(k:Nat)(caps:List Nat)(env:Env):Env:=U05 k none++caps.map fun j=>(env[j]?).join
open Classical in
def Fq(w:List (Nat×List D))(e0:Env)(g:Ke)(t:Ew)(e:Ba):List D->List D->Store->Option (List D×Store)
 |[],ys,S=>if calm w S/\ys.length<=1000000 then some (ys,S) else none
 |d::r,ys,S=>if calm w S/\ys.length<=1000000 then (g d e0).bind fun e1=>(t e1 S).bind fun p =>
   if p.1=true then (e e1 p.2).bind fun q=>Fq w e0 g t e r (ys++[q.1]) q.2 else Fq w e0 g t e r ys p.2
  else none
def CZ(k:Nat)(caps:List Nat)(it:Jw)(g:Ke)(t:Ew)(e:Ba):BX:=fun env S=>(it env S).bind fun p=>Fq p.1.2 (G7 k caps env) g t e p.1.1 [] p.2
def FQ:Ew:=fun _ S=>some (true,S)
def Bl(a:BX):Ba:=fun env S=>(a env S).bind fun p=>some (.lst true p.1,p.2)
def Gd(a:BX):Ba:=fun env S=>(a env S).bind fun p=>some (.ref p.2.length,p.2++[some p.1])
def BW(a:BX):Ba:=fun env S=>(a env S).bind fun p=>some (.tup p.1,p.2)
def wpE(K:U0b)(f:Ba):TE:=fun σ H Q=>∃Γ μ env S d S',Γ.K=K/\Rep Γ μ σ H env S/\f env S=some (d,S')/\∀v μ' H',Ext μ H μ' H'->Rep Γ μ' σ H' env S'->VR Γ μ' H' v d->Q v H'
def wpA(K:U0b)(f:BX):TA:=fun σ H Q=>∃Γ μ env S d S',Γ.K=K/\Rep Γ μ σ H env S/\f env S=some (d,S')/\∀v μ' H',Ext μ H μ' H'->Rep Γ μ' σ H' env S'->VRs Γ μ' H' v d->Q v H'
def wpT(K:U0b)(f:Ew):TT:=fun σ H Q=>∃Γ μ env S b S',Γ.K=K/\Rep Γ μ σ H env S/\f env S=some (b,S')/\∀μ' H',Ext μ H μ' H'->Rep Γ μ' σ H' env S'->Q b H'
def wpO(K:U0b)(f:Tf):TO:=fun σ H Q=>∃Γ μ env S b S',Γ.K=K/\Rep Γ μ σ H env S/\f env S=some (b,S')/\∀μ' H',Ext μ H μ' H'->Rep Γ μ' σ H' env S'->Q b H'
def FlQ(Γ:Fr)(μ:Mu)(E:Ends)(σ:St)(H:Hp):Fl->Prop
 |.nx=>E.nx σ H
 |.brk=>E.bk σ H
 |.cnt=>E.ct σ H
 |.ret d=>∀v,VR Γ μ H v d->E.rt v H
def wpS(K:U0b)(f:BL):TS:=fun E σ H=>∃Γ μ env S fl env' S',Γ.K=K/\Rep Γ μ σ H env S/\f env S=some (fl,env',S')/\∀μ' σ' H',Ext μ H μ' H'->Rep Γ μ' σ' H' env' S'->FlQ Γ μ' E σ' H' fl
structure Tg(Γ:Fr)(μ:Mu)(H:Hp)(J:It)(ds:List D)(w:List (Nat×List D)):Prop where
 step:∀(i:Nat)(d:D)(μ':Mu)(H':Hp)(σ':St)(env':Env)(S':Store),ds[i]?=some d->Ext μ H μ' H'->Rep Γ μ' σ' H' env' S'->calm w S'->J.go i H'/\∀x H'',J.yld i H' x H''->Same H' H''/\VR Γ μ' H'' x d
 stop:∀(μ':Mu)(H':Hp)(σ':St)(env':Env)(S':Store),Ext μ H μ' H'->Rep Γ μ' σ' H' env' S'->calm w S'->J.stop ds.length H'
def wpI(K:U0b)(f:Jw):TI:=fun σ H R=>∃Γ μ env S ds w S',Γ.K=K/\Rep Γ μ σ H env S/\f env S=some ((ds,w),S')/\∀J μ' H',Ext μ H μ' H'->Rep Γ μ' σ H' env S'->Tg Γ μ' H' J ds w->R J H'
structure JE(X:Cx)(e:Expr)(f:Ba):Prop where
 pe:PE X e (wpE X.K f)
structure JA(X:Cx)(es:List Expr)(f:BX):Prop where
 pa:PA X es (wpA X.K f)
structure JT(X:Cx)(e:Expr)(f:Ew):Prop where
 pt:PT X e (wpT X.K f)
structure JW(X:Cx)(e:Expr)(f:Ew):Prop where
 pw:PW X e (wpT X.K f)
structure JO(X:Cx)(e:Option Expr)(f:Tf):Prop where
 po:PO X e (wpO X.K f)
structure JS(X:Cx)(st:Stmt)(f:BL):Prop where
 ps:PS X st (wpS X.K f)
structure JSs(X:Cx)(sts:List Stmt)(f:BL):Prop where
 ps:PSs X sts (wpS X.K f)
structure JI(X:Cx)(tg e:Expr)(f:Jw):Prop where
 pi:PI X tg e (wpI X.K f)
structure JG(X:Cx)(tg:Expr)(p:Pat):Prop where
 pg:PG X tg (p.raw X.K)
structure JGs(X:Cx)(tgs:List Expr)(ps:List Pat):Prop where
 pg:PGs X tgs (KZ X.K ps)
structure JTs(X:Cx)(es:List Expr)(f:Ew):Prop where
 pt:PTs X es (wpT X.K f)
section
variable{X:Cx}
theorem PE.imp{e:Expr}{t t':TE}(h:PE X e t)(k:∀σ H Q,t' σ H Q->t σ H Q):PE X e t':=fun pins s σ H Q I q=>h pins s σ H Q I (k σ H Q q)
theorem PT.imp{e:Expr}{t t':TT}(h:PT X e t)(k:∀σ H Q,t' σ H Q->t σ H Q):PT X e t':=fun pins s σ H Q I q=>h pins s σ H Q I (k σ H Q q)
theorem PW.imp{e:Expr}{t t':TT}(h:PW X e t)(k:∀σ H Q,t' σ H Q->t σ H Q):PW X e t':=fun w pins s σ H Q I q=>h w pins s σ H Q I (k σ H Q q)
theorem PTs.imp{e:List Expr}{t t':TT}(h:PTs X e t)(k:∀σ H Q,t' σ H Q->t σ H Q):PTs X e t':=fun pins s σ H Q I q=>h pins s σ H Q I (k σ H Q q)
theorem PA.imp{e:List Expr}{t t':TA}(h:PA X e t)(k:∀σ H Q,t' σ H Q->t σ H Q):PA X e t':=fun p pins s σ H Q I q=>h p pins s σ H Q I (k σ H Q q)
theorem PO.imp{e:Option Expr}{t t':TO}(h:PO X e t)(k:∀σ H Q,t' σ H Q->t σ H Q):PO X e t':=fun pins s σ H Q I q=>h pins s σ H Q I (k σ H Q q)
theorem PS.imp{e:Stmt}{t t':TS}(h:PS X e t)(k:∀E σ H,t' E σ H->t E σ H):PS X e t':=fun pins s σ H E I q=>h pins s σ H E I (k E σ H q)
theorem PSs.imp{e:List Stmt}{t t':TS}(h:PSs X e t)(k:∀E σ H,t' E σ H->t E σ H):PSs X e t':=fun pins s σ H E I q=>h pins s σ H E I (k E σ H q)
theorem PI.imp{tg e:Expr}{t t':TI}(h:PI X tg e t)(k:∀σ H R,t' σ H R->t σ H R):PI X tg e t':=fun pins s σ H R I q=>h pins s σ H R I (k σ H R q)
theorem bind_some{α β:Type}{a:Option α}{f:α->Option β}{b:β}(h:a.bind f=some b):∃x,a=some x/\f x=some b:=by
 cases a with
 |none=>cases h
 |some x=>exact⟨x,rfl,h⟩
theorem map_some{α β:Type}{a:Option α}{f:α->β}{b:β}(h:a.map f=some b):∃x,a=some x/\f x=b:=by
 cases a with
 |none=>cases h
 |some x=>exact⟨x,rfl,U06 h⟩
def Fv(K:U0b)(r:R2)(g:Store->D->D->Option D):Prop:=∀(Γ:Fr)(μ:Mu)(σ:St)(H:Hp)(env:Env)(S:Store)(x y:V)(dx dy d:D),Γ.K=K->Rep Γ μ σ H env S->VR Γ μ H x dx->VR Γ μ H y dy->g S dx dy=some d ->
 ∀Q:VK,(∀v H',Same H H'->VR Γ μ H' v d->Q v H')->r x y H Q
def ug(K:U0b)(r:V->Hp->VK->Prop)(g:Store->D->Option D):Prop:=∀(Γ:Fr)(μ:Mu)(σ:St)(H:Hp)(env:Env)(S:Store)(x:V)(dx d:D),Γ.K=K->Rep Γ μ σ H env S->VR Γ μ H x dx->g S dx=some d ->
 ∀Q:VK,(∀v H',Same H H'->VR Γ μ H' v d->Q v H')->r x H Q
def Lj(K:U0b)(r:List V->Hp->VK->Prop)(g:Store->List D->Option D):Prop:=∀(Γ:Fr)(μ:Mu)(σ:St)(H:Hp)(env:Env)(S:Store)(xs:List V)(ds:List D)(d:D),Γ.K=K->Rep Γ μ σ H env S->VRs Γ μ H xs ds->g S ds=some d ->
 ∀Q:VK,(∀v H',Same H H'->VR Γ μ H' v d->Q v H')->r xs H Q
def oO(K:U0b)(r:V->Option Int->Option Int->Hp->VK->Prop)(g:Store->D->Option Int->Option Int->Option D):Prop:=∀(Γ:Fr)(μ:Mu)(σ:St)(H:Hp)(env:Env)(S:Store)(x:V)(dx d:D)(l h:Option Int),Γ.K=K->Rep Γ μ σ H env S->VR Γ μ H x dx->g S dx l h=some d ->
 ∀Q:VK,(∀v H',Same H H'->VR Γ μ H' v d->Q v H')->r x l h H Q
theorem Xo{K:U0b}{r:R2}{g:Store->D->D->Option D}{fa fb:Ba}(hs:Fv K r g){σ:St}{H:Hp}{Q:VK}(h:wpE K (eOp g fa fb) σ H Q):tOp r (wpE K fa) (wpE K fb) σ H Q:=by
 obtain⟨Γ,μ,env,S,d,S',hK,R,e,q⟩:=h
 obtain⟨⟨x,S1⟩,e1,e⟩:=bind_some e
 obtain⟨⟨y,S2⟩,e2,e⟩:=bind_some e
 obtain⟨z,e3,e⟩:=map_some e
 cases e
 refine⟨Γ,μ,env,S,x,S1,hK,R,e1,fun v1 μ1 H1 x1 R1 r1=>?_⟩
 refine⟨Γ,μ1,env,S1,y,S2,hK,R1,e2,fun v2 μ2 H2 x2 R2 r2=>?_⟩
 refine hs Γ μ2 σ H2 env S2 v1 v2 x y _ hK R2 (r1.ext x2) r2 e3 Q fun v H' sm rv=>?_
 obtain⟨R3,x3⟩:=R2.grow sm
 exact q v μ2 H' (x1.trans (x2.trans x3)) R3 rv
theorem BP{op:Operator}{r:R2}{g:Store->D->D->Option D}{a b:Expr}{fa fb:Ba}{pos:Pos}(ho:OpR X (binaryOp op) r)(hs:Fv X.K r g)(ha:JE X a fa)(hb:JE X b fb):JE X (.BinOp a op b pos) (eOp g fa fb) :=
 ⟨PE.imp (yX ho ha.pe hb.pe) fun _ _ _ h=>Xo hs h⟩
theorem Pz{op:CmpOp}{r:R2}{g:Store->D->D->Option D}{a b:Expr}{fa fb:Ba}{pos:Pos}(ho:OpR X (compareOp op) r)(hs:Fv X.K r g)(ha:JE X a fa)(hb:JE X b fb)(hm:behindInMarks op b=false):JE X (.Compare a [op] [b] pos) (eOp g fa fb) :=
 ⟨PE.imp (bO ho ha.pe hb.pe hm) fun _ _ _ h=>Xo hs h⟩
theorem Bu{r:R2}{g:Store->D->D->Option D}{a b:Expr}{fa fb:Ba}{pos:Pos}(ho:IxR X r)(hs:Fv X.K r g)(ha:JE X a fa)(hb:JE X b fb)(hp:SX b):JE X (.Subscript a b pos) (eOp g fa fb) :=
 ⟨PE.imp (yZ ho ha.pe hb.pe hp) fun _ _ _ h=>Xo hs h⟩
theorem Xr{op:UnaryOp}{r:V->Hp->VK->Prop}{g:Store->D->Option D}{a:Expr}{fa:Ba}{pos:Pos}(ho:UnR X (unaryOp op) r)(hs:ug X.K r g)(ha:JE X a fa):JE X (.UnaryOp op a pos) (eUn g fa) :=
 ⟨PE.imp (yW ho ha.pe) fun σ H Q h=>by
  obtain⟨Γ,μ,env,S,d,S',hK,R,e,q⟩:=h
  obtain⟨⟨x,S1⟩,e1,e⟩:=bind_some e
  obtain⟨z,e3,e⟩:=map_some e
  cases e
  refine⟨Γ,μ,env,S,x,S1,hK,R,e1,fun v1 μ1 H1 x1 R1 r1=>?_⟩
  refine hs Γ μ1 σ H1 env S1 v1 x _ hK R1 r1 e3 Q fun v H' sm rv=>?_
  obtain⟨R3,x3⟩:=R1.grow sm
  exact q v μ1 H' (x1.trans x3) R3 rv⟩
theorem Ad(i:Nat){x:Str}{pos:Pos}(hN:X.N[i]?=some x:=by rfl)(hv:Vis X.env.scope x:=by first|exact U72 rfl|exact U7d (U72 rfl)|exact U7d (U7d rfl))(hd:(x==("__debug__":Str))=false:=by decide)
  (hcd:(x==("__classdict__":Str))=false:=by decide):JE X (.Name x pos) (Ac i) :=
 ⟨PE.imp (fP hN hv hd hcd) fun σ H Q h=>by
  obtain⟨Γ,μ,env,S,d,S',hK,R,e,q⟩:=h
  obtain⟨d',e1,e⟩:=map_some e
  cases e
  have e1':env[i]?=some (some d):=by
   cases h:env[i]? with
   |none=>rw[h] at e1;cases e1
   |some o=>rw[h] at e1;exact congrArg some e1
  obtain⟨v,h1,h2⟩:=R.vals i d e1'
  exact⟨v,h1,q v μ H (Ext.refl _ _) R h2⟩⟩
theorem cM{K:U0b}{v:V}{d:D}(h:∀Γ μ H,VR Γ μ H v d){σ:St}{H:Hp}{Q:VK}(w:wpE K (eC d) σ H Q):tC v σ H Q:=by
 obtain⟨Γ,μ,env,S,d',S',hK,R,e,q⟩:=w
 cases e
 exact q v μ H (Ext.refl _ _) R (h Γ μ H)
theorem Ah{i j pos}:JE X (.Constant (.int i) j pos) (eC (.int i)):=⟨PE.imp Uq fun _ _ _=>cM fun _ _ _=>.int i⟩
theorem Uh{b j pos}:JE X (.Constant (.bool b) j pos) (eC (.bl b)):=⟨PE.imp yd fun _ _ _=>cM fun _ _ _=>.bl b⟩
theorem fW{j pos}:JE X (.Constant .none j pos) (eC .non):=⟨PE.imp vY fun _ _ _=>cM fun _ _ _=>.non⟩
theorem Oo{n:String}{x:Str}{pos:Pos}(hg:Gl X x)(hm:X.mg x=none)(hv:bootBuiltins x=some (.type n))(hn:x≠"__name__":=by decide)(hd:(x==("__debug__":Str))=false:=by decide):JE X (.Name x pos) (eC (.ty n)) :=
 ⟨PE.imp (qZ (v:=.ty n) hg hm hv rfl hn hd) fun _ _ _=>cM fun _ _ _=>.ty n⟩
theorem Ag:JA X [] Ae:=⟨PA.imp Ur fun σ H Q h=>by
 obtain⟨Γ,μ,env,S,d,S',hK,R,e,q⟩:=h
 cases e
 exact q [] μ H (Ext.refl _ _) R .nil⟩
theorem Ab{e:Expr}{es:List Expr}{f:Ba}{r:BX}(ha:JE X e f)(hr:JA X es r)(hs:starEach (e::es) X.env=(false,eval e X.env)::starEach es X.env:=by rfl):JA X (e::es) (Aa f r) :=
 ⟨PA.imp (Rz ha.pe hr.pa hs) fun σ H Q h=>by
  obtain⟨Γ,μ,env,S,d,S',hK,R,e,q⟩:=h
  obtain⟨⟨x,S1⟩,e1,e⟩:=bind_some e
  obtain⟨⟨y,S2⟩,e2,e⟩:=bind_some e
  cases e
  refine⟨Γ,μ,env,S,x,S1,hK,R,e1,fun v1 μ1 H1 x1 R1 r1=>?_⟩
  refine⟨Γ,μ1,env,S1,y,S2,hK,R1,e2,fun v2 μ2 H2 x2 R2 r2=>?_⟩
  exact q _ μ2 H2 (x1.trans x2) R2 (.cons (r1.ext x2) r2)⟩
theorem big{n:Nat}(h:n<=1000000):n<sizeLine:=U53 h (by decide)
theorem uq{K:U0b}{f:BX}{σ:St}{H:Hp}{Q:VK}(hl:∀env S p,f env S=some p->p.1.length<=1000000)(h:wpE K (BW f) σ H Q):uG (wpA K f) σ H Q:=by
 obtain⟨Γ,μ,env,S,d,S',hK,R,e,q⟩:=h
 obtain⟨⟨x,S1⟩,e1,e⟩:=bind_some e
 cases e
 refine⟨Γ,μ,env,S,x,S1,hK,R,e1,fun vs μ1 H1 x1 R1 r1=>⟨by rw[r1.length];exact U2u (big (hl _ _ _ e1)),fun p hp=>?_⟩⟩
 have sm:=Cp hp (.tup vs)
 obtain⟨R2,x2⟩:=R1.grow sm
 exact q _ μ1 _ (x1.trans x2) R2 (.tup CK (r1.ext x2))
def Few(n:Nat)(f:BX):Prop:=∀env S p,f env S=some p->p.1.length<=n
theorem Av:Few 0 Ae:=fun env S p h=>by cases h;exact U0q _
theorem Ai{n:Nat}{f:Ba}{r:BX}(h:Few n r):Few (n+1) (Aa f r):=fun env S p e=>by
 obtain⟨⟨x,S1⟩,e1,e⟩:=bind_some e
 obtain⟨⟨y,S2⟩,e2,e⟩:=bind_some e
 cases e
 have:=h _ _ _ e2
 show(x::y).length<=n+1
 rw[U0j]
 exact Nat.succ_le_succ this
theorem Bp{es:List Expr}{f:BX}{x1:Nat}{pos:Pos}{n:Nat}(h:JA X es f)(hf:Few n f)(hn:n<=1000000:=by decide):JE X (.Tuple es x1 pos) (BW f):=⟨PE.imp (vV h.pa) fun _ _ _ w=>uq (fun env S p e=>U1a (hf env S p e) hn) w⟩
theorem Ec{es:List Expr}{f:BX}{pos:Pos}{n:Nat}(h:JA X es f)(hf:Few n f)(hn:n<=1000000:=by decide):JE X (.List es pos) (Bl f):=⟨PE.imp (fQ h.pa) fun σ H Q w=>by
 obtain⟨Γ,μ,env,S,d,S',hK,R,e,q⟩:=w
 obtain⟨⟨x,S1⟩,e1,e⟩:=bind_some e
 cases e
 refine⟨Γ,μ,env,S,x,S1,hK,R,e1,fun vs μ1 H1 x1 R1 r1=>⟨by rw[r1.length];exact U2u (big (U1a (hf _ _ _ e1) hn)),fun p hp=>?_⟩⟩
 obtain⟨R2,x2⟩:=R1.grow (Cp hp (.lst vs))
 exact q _ μ1 _ (x1.trans x2) R2 (.lst (R1.ok hp true) (R1.dead hp) CK (r1.ext x2))⟩
theorem J9{es:List Expr}{f:BX}{pos:Pos}{n:Nat}(h:JA X es f)(hf:Few n f)(hn:n<=1000000:=by decide):JE X (.List es pos) (Gd f):=⟨PE.imp (fQ h.pa) fun σ H Q w=>by
 obtain⟨Γ,μ,env,S,d,S',hK,R,e,q⟩:=w
 obtain⟨⟨x,S1⟩,e1,e⟩:=bind_some e
 cases e
 refine⟨Γ,μ,env,S,x,S1,hK,R,e1,fun vs μ1 H1 x1 R1 r1=>⟨by rw[r1.length];exact U2u (big (U1a (hf _ _ _ e1) hn)),fun p hp=>?_⟩⟩
 obtain⟨R2,x2⟩:=R1.laid hp r1
 exact q _ _ _ (x1.trans x2) R2 (.ref (by rw[U0u,R1.slen];simp) fun a h=>by
  rw[R1.slen] at h
  simp at h
  rw[h])⟩
end
end VS
end
section
namespace VS
open PySem PySem.Spec L2
section
variable{X:Cx}{a b c:Expr}{fa fb fc:Ba}{pos:Pos}{rest:List Expr}
theorem RG{op}(h:JE X a fa):JE X (.BoolOp op [a] pos) fa:=⟨vW h.pe⟩
theorem O1(ha:JE X a fa)(hb:JE X (.BoolOp .And (b::rest) pos) fb):JE X (.BoolOp .And (a::b::rest) pos) (QK fa fb):=⟨PE.imp (vZ ha.pe hb.pe) fun σ H Q h=>by
 obtain⟨Γ,μ,env,S,d,S',hK,R,e,q⟩:=h
 obtain⟨⟨x,S1⟩,e1,e⟩:=bind_some e
 refine⟨Γ,μ,env,S,x,S1,hK,R,e1,fun v1 μ1 H1 x1 R1 r1=>?_⟩
 dsimp only at e
 split at e
 .cases r1
  exact⟨true,rfl,by rw[if_pos rfl];exact⟨Γ,μ1,env,S1,d,S',hK,R1,e,fun v μ' H' x' R' r'=>q v μ' H' (x1.trans x') R' r'⟩⟩
 .cases r1
  cases e
  exact⟨false,rfl,by rw[if_neg U1g];exact q _ μ1 H1 x1 R1 (.bl false)⟩
 .cases e⟩
theorem fV(ha:JE X a fa):JE X (.UnaryOp .Not a pos) (cU fa):=⟨PE.imp (vX ha.pe) fun σ H Q h=>by
 obtain⟨Γ,μ,env,S,d,S',hK,R,e,q⟩:=h
 obtain⟨⟨x,S1⟩,e1,e⟩:=bind_some e
 refine⟨Γ,μ,env,S,x,S1,hK,R,e1,fun v1 μ1 H1 x1 R1 r1=>?_⟩
 dsimp only at e
 split at e
 .rename_i c
  cases r1
  cases e
  exact⟨c,rfl,q _ μ1 H1 x1 R1 (.bl _)⟩
 .cases e⟩
theorem K3{e:Expr}(h:JE X e fa)(he:∀whole,isTrue e X.env whole=(do let v ←whole;standAt e.pos;holding [v] (truthy v)):=by intro _;rfl):JT X e (Br fa):=⟨PT.imp (vJ h.pe he) fun σ H Q h=>by
 obtain⟨Γ,μ,env,S,d,S',hK,R,e,q⟩:=h
 obtain⟨⟨x,S1⟩,e1,e⟩:=bind_some e
 refine⟨Γ,μ,env,S,x,S1,hK,R,e1,fun v1 μ1 H1 x1 R1 r1=>?_⟩
 dsimp only at e
 split at e
 .rename_i c
  cases r1
  cases e
  exact⟨_,rfl,q μ1 H1 x1 R1⟩
 .cases e⟩
theorem ao{K:U0b}{f:Ba}{t:TE}(ht:∀σ H Q,wpE K f σ H Q->t σ H Q){σ:St}{H:Hp}{Q:Bool->Hp->Prop}(h:wpT K (Br f) σ H Q):cu t σ H Q:=by
 obtain⟨Γ,μ,env,S,d,S',hK,R,e,q⟩:=h
 obtain⟨⟨x,S1⟩,e1,e⟩:=bind_some e
 refine ht σ H _ ⟨Γ,μ,env,S,x,S1,hK,R,e1,fun v1 μ1 H1 x1 R1 r1=>?_⟩
 dsimp only at e
 split at e
 .cases r1
  cases e
  exact⟨_,rfl,q μ1 H1 x1 R1⟩
 .cases e
theorem Ed{op:CmpOp}{r:R2}{g:Store->D->D->Option D}(ho:OpR X (compareOp op) r)(hs:Fv X.K r g)(ha:JE X a fa)(hb:JE X b fb)(hm:behindInMarks op b=false):JT X (.Compare a [op] [b] pos) (Br (eOp g fa fb)) :=
 ⟨PT.imp (qL ho ha.pe hb.pe hm) fun σ H Q h=>ao (fun _ _ _=>Xo hs) h⟩
theorem jl{K:U0b}{r r':R2}{g g':Store->D->D->Option D}(hs:Fv K r g)(hs':Fv K r' g'){σ:St}{H:Hp}{Q:VK}(h:wpE K (Uz g g' fa fb fc) σ H Q):fJ r r' (wpE K fa) (wpE K fb) (wpE K fc) σ H Q:=by
 obtain⟨Γ,μ,env,S,d,S',hK,R,e,q⟩:=h
 obtain⟨⟨x,S1⟩,e1,e⟩:=bind_some e
 obtain⟨⟨y,S2⟩,e2,e⟩:=bind_some e
 obtain⟨z,e3,e⟩:=bind_some e
 refine⟨Γ,μ,env,S,x,S1,hK,R,e1,fun v1 μ1 H1 x1 R1 r1=>?_⟩
 refine⟨Γ,μ1,env,S1,y,S2,hK,R1,e2,fun v2 μ2 H2 x2 R2 r2=>?_⟩
 refine hs Γ μ2 σ H2 env S2 v1 v2 x y _ hK R2 (r1.ext x2) r2 e3 _ fun v H3 sm rv=>?_
 obtain⟨R3,x3⟩:=R2.grow sm
 dsimp only at e
 split at e
 .cases rv
  refine⟨true,rfl,?_⟩
  rw[if_pos rfl]
  obtain⟨⟨u,S3⟩,e4,e⟩:=bind_some e
  obtain⟨w,e5,e⟩:=map_some e
  cases e
  refine⟨Γ,μ2,env,S2,u,S3,hK,R3,e4,fun v4 μ4 H4 x4 R4 r4=>?_⟩
  refine hs' Γ μ4 σ H4 env S3 v2 v4 y u _ hK R4 (r2.ext (x3.trans x4)) r4 e5 _ fun v5 H5 sm5 rv5=>?_
  obtain⟨R5,x5⟩:=R4.grow sm5
  exact q v5 μ4 H5 (x1.trans (x2.trans (x3.trans (x4.trans x5)))) R5 rv5
 .cases rv
  cases e
  refine⟨false,rfl,?_⟩
  rw[if_neg U1g]
  exact q _ μ2 H3 (x1.trans (x2.trans x3)) R3 (.bl false)
 .cases e
theorem mW{op op':CmpOp}{r r':R2}{g g':Store->D->D->Option D}(ho:OpR X (compareOp op) r)(hs:Fv X.K r g)(ho':OpR X (compareOp op') r')(hs':Fv X.K r' g')(ha:JE X a fa)(hb:JE X b fb)(hc:JE X c fc)
  (hm:lastMarks [op,op'] [b,c]=false:=by with_unfolding_all rfl):JT X (.Compare a [op,op'] [b,c] pos) (Br (Uz g g' fa fb fc)):=⟨PT.imp (lO ho ho' ha.pe hb.pe hc.pe hm) fun _ _ _ h=>ao (fun _ _ _=>jl hs hs') h⟩
variable{ta tb:Ew}
theorem Lw(h:JW X a ta):JT X a ta:=⟨h.pw.pt⟩
theorem SJ(ha:JT X a ta):JW X (.BoolOp .And [a] pos) ta:=⟨qH ha.pt⟩
theorem Py(ha:JT X a ta):JW X (.BoolOp .Or [a] pos) ta:=⟨vH ha.pt⟩
theorem Uy(ha:JT X a ta)(hb:JW X (.BoolOp .And (b::rest) pos) tb):JW X (.BoolOp .And (a::b::rest) pos) (Ku ta tb):=⟨PW.imp (vI ha.pt hb.pw) fun σ H Q h=>by
 obtain⟨Γ,μ,env,S,d,S',hK,R,e,q⟩:=h
 obtain⟨⟨x,S1⟩,e1,e⟩:=bind_some e
 refine⟨Γ,μ,env,S,x,S1,hK,R,e1,fun μ1 H1 x1 R1=>?_⟩
 dsimp only at e
 by_cases hx:x=true
 .rw[if_pos hx] at e ⊢
  exact⟨Γ,μ1,env,S1,d,S',hK,R1,e,fun μ' H' x' R'=>q μ' H' (x1.trans x') R'⟩
 .rw[if_neg hx] at e ⊢
  cases e
  exact q μ1 H1 x1 R1⟩
theorem Om(ha:JT X a ta)(hb:JW X (.BoolOp .Or (b::rest) pos) tb):JW X (.BoolOp .Or (a::b::rest) pos) (tOr ta tb):=⟨PW.imp (yU ha.pt hb.pw) fun σ H Q h=>by
 obtain⟨Γ,μ,env,S,d,S',hK,R,e,q⟩:=h
 obtain⟨⟨x,S1⟩,e1,e⟩:=bind_some e
 refine⟨Γ,μ,env,S,x,S1,hK,R,e1,fun μ1 H1 x1 R1=>?_⟩
 dsimp only at e
 by_cases hx:x=true
 .rw[if_pos hx] at e ⊢
  cases e
  exact q μ1 H1 x1 R1
 .rw[if_neg hx] at e ⊢
  exact⟨Γ,μ1,env,S1,d,S',hK,R1,e,fun μ' H' x' R'=>q μ' H' (x1.trans x') R'⟩⟩
theorem LQ(ha:JT X a ta):JT X (.UnaryOp .Not a pos) (KY ta):=⟨PT.imp (vK ha.pt) fun σ H Q h=>by
 obtain⟨Γ,μ,env,S,d,S',hK,R,e,q⟩:=h
 obtain⟨⟨x,S1⟩,e1,e⟩:=bind_some e
 cases e
 exact⟨Γ,μ,env,S,x,S1,hK,R,e1,fun μ1 H1 x1 R1=>q μ1 H1 x1 R1⟩⟩
theorem FN:JTs X [] FQ:=⟨PTs.imp qK fun σ H Q h=>by
 obtain⟨Γ,μ,env,S,d,S',hK,R,e,q⟩:=h
 cases e
 exact q μ H (Ext.refl _ _) R⟩
theorem W2(h:JT X c ta):JTs X [c] ta:=⟨qJ h.pt⟩
variable{lo hi:Option Expr}{ol oh:Tf}{p2:Pos}
theorem W4:JO X none N7:=⟨PO.imp qQ fun σ H Q h=>by
 obtain⟨Γ,μ,env,S,d,S',hK,R,e,q⟩:=h
 cases e
 exact q μ H (Ext.refl _ _) R⟩
theorem W3(h:JE X a fa):JO X (some a) (N6 fa):=⟨PO.imp (qP h.pe) fun σ H Q h=>by
 obtain⟨Γ,μ,env,S,d,S',hK,R,e,q⟩:=h
 obtain⟨⟨x,S1⟩,e1,e⟩:=bind_some e
 refine⟨Γ,μ,env,S,x,S1,hK,R,e1,fun v1 μ1 H1 x1 R1 r1=>?_⟩
 dsimp only at e
 split at e
 .cases r1
  cases e
  exact⟨_,rfl,q μ1 H1 x1 R1⟩
 .cases e⟩
theorem Tj{r:V->Option Int->Option Int->Hp->VK->Prop}{g:Store->D->Option Int->Option Int->Option D}(hr:SlR X r)(hs:oO X.K r g)(ha:JE X a fa)(hl:JO X lo ol)(hh:JO X hi oh) :
  JE X (.Subscript a (.Slice lo hi none p2) pos) (eSl g fa ol oh):=⟨PE.imp (lX hr ha.pe hl.po hh.po) fun σ H Q h=>by
 obtain⟨Γ,μ,env,S,d,S',hK,R,e,q⟩:=h
 obtain⟨⟨x,S1⟩,e1,e⟩:=bind_some e
 obtain⟨⟨l,S2⟩,e2,e⟩:=bind_some e
 obtain⟨⟨u,S3⟩,e3,e⟩:=bind_some e
 obtain⟨z,e4,e⟩:=map_some e
 cases e
 refine⟨Γ,μ,env,S,x,S1,hK,R,e1,fun v1 μ1 H1 x1 R1 r1=>?_⟩
 refine⟨Γ,μ1,env,S1,l,S2,hK,R1,e2,fun μ2 H2 x2 R2=>?_⟩
 refine⟨Γ,μ2,env,S2,u,S3,hK,R2,e3,fun μ3 H3 x3 R3=>?_⟩
 refine hs Γ μ3 σ H3 env S3 v1 x _ l u hK R3 (r1.ext (x2.trans x3)) e4 Q fun v H' sm rv=>?_
 obtain⟨R4,x4⟩:=R3.grow sm
 exact q v μ3 H' (x1.trans (x2.trans (x3.trans x4))) R4 rv⟩
theorem nq{K:U0b}{r:List V->Hp->VK->Prop}{g:Store->List D->Option D}{f:BX}(hs:Lj K r g){σ:St}{H:Hp}{Q:VK}(h:wpE K (eCB g f) σ H Q):tCB r (wpA K f) σ H Q:=by
 obtain⟨Γ,μ,env,S,d,S',hK,R,e,q⟩:=h
 obtain⟨⟨x,S1⟩,e1,e⟩:=bind_some e
 obtain⟨z,e4,e⟩:=map_some e
 cases e
 refine⟨Γ,μ,env,S,x,S1,hK,R,e1,fun v1 μ1 H1 x1 R1 r1=>?_⟩
 refine hs Γ μ1 σ H1 env S1 v1 x _ hK R1 r1 e4 Q fun v H' sm rv=>?_
 obtain⟨R4,x4⟩:=R1.grow sm
 exact q v μ1 H' (x1.trans x4) R4 rv
variable{x:Str}{p:Pos}{e:Expr}{es:List Expr}{id T:String}{f:BX}
theorem Bq{r:List V->Hp->VK->Prop}{g:Store->List D->Option D}(hc:Dc X (.builtin id) r)(hsm:Lj X.K r g)(hg:Gl X x)(hm:X.mg x=none)(hv:bootBuiltins x=some (.builtin id))(ha:JA X (e::es) f)(hn:x≠"__name__":=by decide)(hdb:(x==("__debug__":Str))=false:=by decide)
  (he:starEach (e::es) X.env=(false,eval e X.env)::starEach es X.env:=by rfl) (hpl:(backTo pos (starEach es X.env)).any (·.1)=false:=by rfl):JE X (.Call (.Name x p) (e::es) [] pos) (eCB g f) :=
 ⟨PE.imp (Yt hc hg hm hv ha.pa hn hdb he hpl) fun _ _ _ h=>nq hsm h⟩
theorem Jc{r:List V->Hp->VK->Prop}{g:Store->List D->Option D}(hc:Dc X (.type T) r)(hsm:Lj X.K r g)(hg:Gl X x)(hm:X.mg x=none)(hv:bootBuiltins x=some (.type T))(ha:JA X (e::es) f)(hn:x≠"__name__":=by decide)(hdb:(x==("__debug__":Str))=false:=by decide)
  (he:starEach (e::es) X.env=(false,eval e X.env)::starEach es X.env:=by rfl) (hpl:(backTo pos (starEach es X.env)).any (·.1)=false:=by rfl):JE X (.Call (.Name x p) (e::es) [] pos) (eCB g f) :=
 ⟨PE.imp (Kr hc hg hm hv ha.pa hn hdb he hpl) fun _ _ _ h=>nq hsm h⟩
end
section
variable{X:Cx}{st:Stmt}{sts:List Stmt}{f g:BL}{fa:Ba}{a:Expr}{pos:Pos}{K:U0b}
theorem yF{E:Ends}{σ:St}{H:Hp}{fl:Fl}(h:wpS K (fun env S=>some (fl,env,S)) E σ H):∃Γ μ,FlQ Γ μ E σ H fl:=by
 obtain⟨Γ,μ,env,S,fl',env',S',hK,R,e,q⟩:=h
 cases e
 exact⟨Γ,μ,q μ σ H (Ext.refl _ _) R⟩
theorem Ek:JSs X [] Eu:=⟨PSs.imp qN fun E σ H h=>let ⟨_,_,q⟩:=yF (fl:=.nx) h;q⟩
theorem Z0:JS X st Uo:=⟨PS.imp lR fun E σ H h=>by obtain⟨_,_,_,_,_,_,_,_,_,e,_⟩:=h;cases e⟩
theorem Ao(h1:JS X st f)(h2:JSs X sts g):JSs X (st::sts) (Bh f g):=⟨PSs.imp (lQ h1.ps h2.ps) fun E σ H h=>by
 obtain⟨Γ,μ,env,S,fl,env',S',hK,R,e,q⟩:=h
 obtain⟨⟨fl1,env1,S1⟩,e1,e⟩:=bind_some e
 refine⟨Γ,μ,env,S,fl1,env1,S1,hK,R,e1,fun μ1 σ1 H1 x1 R1=>?_⟩
 dsimp only at e
 cases fl1 with
 |nx=>exact⟨Γ,μ1,env1,S1,fl,env',S',hK,R1,e,fun μ' σ' H' x' R'=>q μ' σ' H' (x1.trans x') R'⟩
 |brk=>cases e;exact q μ1 σ1 H1 x1 R1
 |cnt=>cases e;exact q μ1 σ1 H1 x1 R1
 |ret d=>cases e;exact q μ1 σ1 H1 x1 R1⟩
theorem Ay(h1:JS X st f):JSs X [st] f:=⟨qM h1.ps⟩
theorem Iz(he:JE X a fa)(hs:swapsWith a none pos.line X.env=pure false:=by rfl):JS X (.Expr a pos) (Jt fa):=⟨PS.imp (qO he.pe hs) fun E σ H h=>by
 obtain⟨Γ,μ,env,S,fl,env',S',hK,R,e,q⟩:=h
 obtain⟨⟨x,S1⟩,e1,e⟩:=bind_some e
 cases e
 exact⟨Γ,μ,env,S,x,S1,hK,R,e1,fun v1 μ1 H1 x1 R1 r1=>q μ1 σ H1 x1 R1⟩⟩
theorem CW(he:JE X a fa):JS X (.Return (some a) pos) (Dg fa):=⟨PS.imp (vM he.pe) fun E σ H h=>by
 obtain⟨Γ,μ,env,S,fl,env',S',hK,R,e,q⟩:=h
 obtain⟨⟨x,S1⟩,e1,e⟩:=bind_some e
 cases e
 exact⟨Γ,μ,env,S,x,S1,hK,R,e1,fun v1 μ1 H1 x1 R1 r1=>q μ1 σ H1 x1 R1 v1 r1⟩⟩
theorem Gj{c:Expr}{A B:List Stmt}{tc:Ew}(hc:JT X c tc)(ha:JSs X A f)(hb:JSs X B g):JS X (.If c A B pos) (sIf tc f g):=⟨PS.imp (yV hc.pt ha.ps hb.ps) fun E σ H h=>by
 obtain⟨Γ,μ,env,S,fl,env',S',hK,R,e,q⟩:=h
 obtain⟨⟨x,S1⟩,e1,e⟩:=bind_some e
 refine⟨Γ,μ,env,S,x,S1,hK,R,e1,fun μ1 H1 x1 R1=>?_⟩
 dsimp only at e
 by_cases hx:x=true
 .rw[if_pos hx] at e ⊢
  exact⟨Γ,μ1,env,S1,fl,env',S',hK,R1,e,fun μ' σ' H' x' R'=>q μ' σ' H' (x1.trans x') R'⟩
 .rw[if_neg hx] at e ⊢
  exact⟨Γ,μ1,env,S1,fl,env',S',hK,R1,e,fun μ' σ' H' x' R'=>q μ' σ' H' (x1.trans x') R'⟩⟩
theorem Bv{i:Nat}{x:Str}{pos':Pos}(hN:X.N.Nodup)(he:JE X a fa)(hi:X.N[i]?=some x:=by rfl)(hx:Loc X.env.scope x:=by first|exact U72 rfl|exact U7d rfl)(hs:swapsWith a (some (.Name x pos')) pos.line X.env=pure false:=by rfl)
  (hf:X.fn x=true∨X.env.scope.names.lookup x=some .local:=by first|exact .inl rfl|exact .inr rfl|assumption):JS X (.Assign [.Name x pos'] a pos) (Bb i fa):=⟨PS.imp (vL hN hi hx he.pe hs hf) fun E σ H h=>by
 obtain⟨Γ,μ,env,S,fl,env',S',hK,R,e,q⟩:=h
 obtain⟨⟨y,S1⟩,e1,e⟩:=bind_some e
 cases e
 exact⟨Γ,μ,env,S,y,S1,hK,R,e1,fun v1 μ1 H1 x1 R1 r1=>q μ1 _ H1 x1 (R1.Vs i r1)⟩⟩
theorem BR{i:Nat}{x:Str}(hN:X.N.Nodup)(hi:X.N[i]?=some x:=by rfl)(hx:Loc X.env.scope x:=by first|exact U72 rfl|exact U7d rfl)
  (hf:X.fn x=true∨X.env.scope.names.lookup x=some .local:=by first|exact .inl rfl|exact .inr rfl|assumption):JG X (.Name x pos) (.nm i):=⟨by rw[Pat.raw];exact qW hN hi hx hf⟩
theorem Fx:JGs X [] []:=⟨by rw[KZ];exact qU⟩
theorem CG{e:Expr}{es:List Expr}{t:Pat}{u:List Pat}(h1:JG X e t)(h2:JGs X es u)
  (hs:(assignEach (e::es) X.env).map (·.2)=assign e X.env::(assignEach es X.env).map (·.2):=by rfl):JGs X (e::es) (t::u):=⟨by rw[KZ];exact lW h1.pg h2.pg hs⟩
theorem Gy{es:List Expr}{k:Nat}{gs:List Pat}(hc:X.calm=true)(h:JGs X es gs)(hn:(assignEach es X.env).length=gs.length:=by rfl)(hst:(assignEach es X.env).findIdx? (·.1)=none:=by rfl):JG X (.Tuple es k pos) (.tp gs) :=
 ⟨by rw[Pat.raw];exact vR hc h.pg hn hst⟩
theorem wN{tg:Expr}{gg:Pat}(he:JE X a fa)(hg:JG X tg gg)(hs:swapsWithSole [tg] a pos.line X.env=pure false:=by rfl)(hw:swappedStores [tg] a X.env=pure none:=by rfl)
  (h1:(assignEach [tg] X.env).map (·.2)=[assign tg X.env]:=by rfl):JS X (.Assign [tg] a pos) (cQ fa gg.sem):=⟨PS.imp (fO he.pe hg.pg hs hw h1) fun E σ H h=>by
 obtain⟨Γ,μ,env,S,fl,env',S',hK,R,e,q⟩:=h
 obtain⟨⟨y,S1⟩,e1,e⟩:=bind_some e
 obtain⟨env1,e2,e⟩:=bind_some e
 cases e
 exact⟨Γ,μ,env,S,y,S1,hK,R,e1,fun v1 μ1 H1 x1 R1 r1=>gg.run X.K R1 r1 e2 fun σ' R'=>q μ1 σ' H1 x1 R'⟩⟩
theorem FZ{tg iter:Expr}{body:List Stmt}{it:Jw}{gg:Pat}(hc:X.calm=true)(hi:JI X tg iter it)(hg:JG X tg gg)(hb:JSs X body f)(hp:PassesOwn (model X.prog X.w) X.A X.env X.xe)
  (hs:∀x,foldedSetIterable iter X.env x=pure x:=by intro _;rfl):JS X (.For tg iter body [] pos) (Hv it gg.sem f):=⟨PS.imp (vO hp hc hi.pi hg.pg hb.ps hs) fun E σ H h=>by
 obtain⟨Γ,μ,env,S,fl,env',S',hK,R,e,q⟩:=h
 obtain⟨⟨⟨ds,w⟩,S1⟩,e1,e⟩:=bind_some e
 refine⟨Γ,μ,env,S,ds,w,S1,hK,R,e1,fun J μ1 H1 x1 R1 ok=>?_⟩
 refine⟨fun i m σ2 H2=>∃μ2 env2 S2,m=ds.length-i/\i<=ds.length/\Ext μ1 H1 μ2 H2/\Rep Γ μ2 σ2 H2 env2 S2/\loop w gg.sem f (ds.drop i) env2 S2=some (fl,env',S'),⟨ds.length,μ1,env,S1,rfl,U3i _,Ext.refl _ _,R1,by rw[U56];exact e⟩,?_⟩
 rintro i m σ2 H2 ⟨μ2,env2,S2,rfl,hi,x2,R2,el⟩
 by_cases hlt:i<ds.length
 .rw[U2i hlt] at el
  unfold loop at el
  by_cases hcm:calm w S2
  .rw[if_pos hcm] at el
   obtain⟨env3,e3,el⟩:=bind_some el
   obtain⟨⟨fl4,env4,S4⟩,e4,el⟩:=bind_some el
   obtain⟨go,yl⟩:=ok.step i ds[i] μ2 H2 σ2 env2 S2 (U0d hlt) x2 R2 hcm
   refine .inr ⟨go,fun σ5 H5=>∃μ5 env5 S5,Ext μ1 H1 μ5 H5/\Rep Γ μ5 σ5 H5 env5 S5/\loop w gg.sem f (ds.drop (i+1)) env5 S5=some (fl,env',S'),fun σ5 H5 ⟨μ5,env5,S5,x5,R5,e5⟩=>⟨ds.length-(i+1),by omega,μ5,env5,S5,rfl,hlt,x5,R5,e5⟩,fun x H3 y=>?_⟩
   obtain⟨sm,rx⟩:=yl x H3 y
   obtain⟨R3,x3⟩:=R2.grow sm
   refine gg.run X.K R3 rx e3 fun σ3 R3'=>?_
   refine⟨Γ,μ2,env3,S2,fl4,env4,S4,hK,R3',e4,fun μ4 σ4 H4 x4 R4=>?_⟩
   have x14:=x2.trans (x3.trans x4)
   dsimp only at el
   cases fl4 with
   |nx=>exact⟨μ4,env4,S4,x14,R4,el⟩
   |cnt=>exact⟨μ4,env4,S4,x14,R4,el⟩
   |brk=>cases el;exact q μ4 σ4 H4 (x1.trans x14) R4
   |ret d=>cases el;exact q μ4 σ4 H4 (x1.trans x14) R4
  .rw[if_neg hcm] at el;cases el
 .have hi':i=ds.length:=by omega
  subst hi'
  rw[List.drop_length] at el
  unfold loop at el
  by_cases hcm:calm w S2
  .rw[if_pos hcm] at el
   cases el
   exact .inl ⟨ok.stop μ2 H2 σ2 _ _ x2 R2 hcm,q μ2 σ2 H2 (x1.trans x2) R2⟩
  .rw[if_neg hcm] at el;cases el⟩
end
end VS
end
section
namespace VS
open PySem PySem.Spec L2
theorem Rep.cap{Γ:Fr}{μ:Mu}{σ:St}{H:Hp}{env:Env}{S:Store}(R:Rep Γ μ σ H env S)(k:Nat)(caps:List Nat):Rep Γ μ (Eo k caps σ) H (G7 k caps env) S:=by
 refine⟨fun i d h=>?_,?_,R.sto,R.liv,R.inj,R.slen,R.ent,R.new⟩
 .unfold G7 at h
  by_cases hi:i<k
  .rw[U1d (by simpa using hi),U46,if_pos hi] at h
   cases h
  .rw[U2h (by simpa using hi),U19,U0v] at h
   cases e:caps[i-k]? with
   |none=>rw[e] at h;cases h
   |some a =>
    rw[e] at h
    have h':(env[a]?).join=some d:=U06 h
    have h2:env[a]?=some (some d):=by
     cases q:env[a]? with
     |none=>rw[q] at h';cases h'
     |some o=>rw[q] at h';exact congrArg some h'
    obtain⟨v,h3,h4⟩:=R.vals a d h2
    refine⟨v,?_,h4⟩
    unfold Eo
    rw[U2h (by simpa using hi),U19,U0v,e]
    show some (σ[a]?).join=some (some v)
    rw[h3];rfl
 .unfold Eo G7
  rw[U0u,U0u,U0k,U0k,U19,U19]
section
variable{X:Cx}
theorem Vw{K:U0b}{k:Nat}{caps:List Nat}{it:Jw}{p:Pat}{t:Ew}{f:Ba}{σ:St}{H:Hp}{Q:VK} (h:∃Γ μ env S ys S',Γ.K=K/\Rep Γ μ σ H env S/\CZ k caps it p.sem t f env S=some (ys,S') /\
  ∀xs μ' H',Ext μ H μ' H'->Rep Γ μ' σ H' env S'->VRs Γ μ' H' xs ys->∀q,H' q=none->Q (.ref q) (upd H' q (.lst xs))):d8 k caps (wpI K it) (p.raw K) (wpT K t) (wpE K f) σ H Q:=by
 obtain⟨Γ,μ,env,S,ys,S',hK,R,e,q⟩:=h
 obtain⟨⟨⟨ds,w⟩,S1⟩,e1,e⟩:=bind_some e
 refine⟨Γ,μ,env,S,ds,w,S1,hK,R,e1,fun J μ1 H1 x1 R1 ok=>?_⟩
 refine⟨fun i m zs H2=>∃μ2 S2 dzs,m=ds.length-i/\i<=ds.length/\Ext μ1 H1 μ2 H2/\Rep Γ μ2 σ H2 env S2/\VRs Γ μ2 H2 zs dzs/\Fq w (G7 k caps env) p.sem t f (ds.drop i) dzs S2=some (ys,S'),
  ⟨ds.length,μ1,S1,[],rfl,U3i _,Ext.refl _ _,R1,.nil,by rw[U56];exact e⟩,?_⟩
 rintro i m zs H2 ⟨μ2,S2,dzs,rfl,hi,x2,R2,rz,el⟩
 by_cases hlt:i<ds.length
 .rw[U2i hlt] at el
  unfold Fq at el
  by_cases hcm:calm w S2/\dzs.length<=1000000
  .rw[if_pos hcm] at el
   obtain⟨env3,e3,el⟩:=bind_some el
   obtain⟨⟨b,S4⟩,e4,el⟩:=bind_some el
   have R2c:=R2.cap k caps
   obtain⟨go,yl⟩:=ok.step i ds[i] μ2 H2 _ _ S2 (U0d hlt) x2 R2c hcm.1
   refine .inr ⟨go,by rw[rz.length];exact big hcm.2,fun x H3 y=>?_⟩
   obtain⟨sm,rx⟩:=yl x H3 y
   obtain⟨R3,x3⟩:=R2c.grow sm
   obtain⟨R3o,_⟩:=R2.grow sm
   refine p.run K R3 rx e3 fun σ3 R3'=>?_
   refine⟨Γ,μ2,env3,S2,b,S4,hK,R3',e4,fun μ4 H4 x4 R4=>?_⟩
   dsimp only at el
   by_cases hb:b=true
   .rw[if_pos hb] at el ⊢
    obtain⟨⟨d5,S5⟩,e5,el⟩:=bind_some el
    refine⟨Γ,μ4,env3,S4,d5,S5,hK,R4,e5,fun v μ5 H5 x5 R5 r5=>?_⟩
    exact⟨ds.length-(i+1),by omega,μ5,S5,dzs++[d5],rfl,hlt,x2.trans (x3.trans (x4.trans x5)),R3o.back (x4.trans x5) R5,((rz.ext (x3.trans (x4.trans x5)))).append (.cons r5 .nil),el⟩
   .rw[if_neg hb] at el ⊢
    exact⟨ds.length-(i+1),by omega,μ4,S4,dzs,rfl,hlt,x2.trans (x3.trans x4),R3o.back x4 R4,rz.ext (x3.trans x4),el⟩
  .rw[if_neg hcm] at el;cases el
 .have hi':i=ds.length:=by omega
  subst hi'
  rw[List.drop_length] at el
  unfold Fq at el
  by_cases hcm:calm w S2/\dzs.length<=1000000
  .rw[if_pos hcm] at el
   cases el
   exact .inl ⟨ok.stop μ2 H2 σ env _ x2 R2 hcm.1,fun p hp=>q zs μ2 H2 (x1.trans x2) R2 rz p hp⟩
  .rw[if_neg hcm] at el;cases el
structure JC(X:Cx)(N2:List Str)(scope:Scope)(tg:Expr)(ifs:List Expr)(elt:Expr)(p:Pat)(t:Ew)(f:Ba):Prop where
 all:∀(cl:List (Str×Addr))(C:Addr)(s:Shared)(H:Hp)(ex:List Addr),JG (Dt X N2 scope cl C s H ex) tg p/\JTs (Dt X N2 scope cl C s H ex) ifs t/\JE (Dt X N2 scope cl C s H ex) elt f
theorem Ey{elt tg iter:Expr}{ifs:List Expr}{scope:Scope}{pos:Pos}{N2:List Str}{k:Nat}{caps:List Nat}{it:Jw}{p:Pat}{t:Ew}{f:Ba}
  (hc:X.calm=true) (hS:Di X.env.scope X.N N2 k caps scope) (hlow:p.low k=true) (hi:JI X tg iter it) (hb:JC X N2 scope tg ifs elt p t f)
  (hs:∀x,foldedSetIterable iter X.env x=pure x:=by intro _;rfl):JE X (.ListComp elt [⟨tg,iter,ifs,0⟩] scope pos) (Bl (CZ k caps it p.sem t f)) :=
 ⟨PE.imp (qX hc hS (p.Xu X.K hlow) hi.pi (fun cl C s H ex=>let ⟨a,b,c⟩:=hb.all cl C s H ex;⟨a.pg,b.pt,c.pe⟩) hs) fun σ H Q h=>by
  obtain⟨Γ,μ,env,S,d,S',hK,R,e,q⟩:=h
  obtain⟨⟨ys,S1⟩,e1,e⟩:=bind_some e
  cases e
  refine Vw ⟨Γ,μ,env,S,ys,S1,hK,R,e1,fun xs μ1 H1 x1 R1 r1 z hz=>?_⟩
  obtain⟨R2,x2⟩:=R1.grow (Cp hz (.lst xs))
  exact q _ μ1 _ (x1.trans x2) R2 (.lst (R1.ok hz true) (R1.dead hz) CK (r1.ext x2))⟩
theorem bI{Γ:Fr}{μ:Mu}{H:Hp}{p:Addr}{n:Nat}(h:n=μ.length):VR Γ (μ++[some p]) H (.ref p) (.ref n):=by
 subst h
 refine .ref (by rw[U0u];simp) fun a h=>?_
 simp at h
 rw[h]
theorem M6{elt tg iter:Expr}{ifs:List Expr}{scope:Scope}{pos py spos:Pos}{N2:List Str}{k i:Nat}{y:Str}{caps:List Nat}{it:Jw}{p:Pat}{t:Ew}{f:Ba}
  (hc:X.calm=true) (hN:X.N.Nodup) (hS:Di X.env.scope X.N N2 k caps scope) (hlow:p.low k=true) (hi:JI X tg iter it) (hb:JC X N2 scope tg ifs elt p t f) (hi':X.N[i]?=some y:=by rfl)
  (hx:X.env.scope.names.lookup y=some .local:=by rfl) (hsw:swapsWith (.ListComp elt [⟨tg,iter,ifs,0⟩] scope pos) (some (.Name y py)) spos.line X.env=pure true:=by rfl)
  (hs:∀x,foldedSetIterable iter X.env x=pure x:=by intro _;rfl):JS X (.Assign [.Name y py] (.ListComp elt [⟨tg,iter,ifs,0⟩] scope pos) spos) (Bb i (Bl (CZ k caps it p.sem t f))) :=
 ⟨PS.imp (bL hc hN hi' hS (p.Xu X.K hlow) hi.pi (fun cl C s H ex=>let ⟨a,b,c⟩:=hb.all cl C s H ex;⟨a.pg,b.pt,c.pe⟩) hx hsw hs) fun E σ H h=>by
  obtain⟨Γ,μ,env,S,fl,env',S',hK,R,e,q⟩:=h
  obtain⟨⟨d,S1⟩,e1,e⟩:=bind_some e
  cases e
  obtain⟨⟨ys,S2⟩,e2,e1⟩:=bind_some e1
  cases e1
  refine Vw ⟨Γ,μ,env,S,ys,_,hK,R,e2,fun xs μ1 H1 x1 R1 r1 z hz=>?_⟩
  obtain⟨R2,x2⟩:=R1.grow (Cp hz (.lst xs))
  exact q μ1 _ _ (x1.trans x2) (R2.Vs i (.lst (R1.ok hz true) (R1.dead hz) CK (r1.ext x2)))⟩
theorem aL{elt tg iter:Expr}{ifs:List Expr}{scope:Scope}{pos py spos:Pos}{N2:List Str}{k i:Nat}{y:Str}{caps:List Nat}{it:Jw}{p:Pat}{t:Ew}{f:Ba}
  (hc:X.calm=true) (hN:X.N.Nodup) (hS:Di X.env.scope X.N N2 k caps scope) (hlow:p.low k=true) (hi:JI X tg iter it) (hb:JC X N2 scope tg ifs elt p t f) (hi':X.N[i]?=some y:=by rfl)
  (hx:X.env.scope.names.lookup y=some .local:=by rfl) (hsw:swapsWith (.ListComp elt [⟨tg,iter,ifs,0⟩] scope pos) (some (.Name y py)) spos.line X.env=pure true:=by rfl)
  (hs:∀x,foldedSetIterable iter X.env x=pure x:=by intro _;rfl):JS X (.Assign [.Name y py] (.ListComp elt [⟨tg,iter,ifs,0⟩] scope pos) spos) (Bb i (Gd (CZ k caps it p.sem t f))) :=
 ⟨PS.imp (bL hc hN hi' hS (p.Xu X.K hlow) hi.pi (fun cl C s H ex=>let ⟨a,b,c⟩:=hb.all cl C s H ex;⟨a.pg,b.pt,c.pe⟩) hx hsw hs) fun E σ H h=>by
  obtain⟨Γ,μ,env,S,fl,env',S',hK,R,e,q⟩:=h
  obtain⟨⟨d,S1⟩,e1,e⟩:=bind_some e
  cases e
  obtain⟨⟨ys,S2⟩,e2,e1⟩:=bind_some e1
  cases e1
  refine Vw ⟨Γ,μ,env,S,ys,_,hK,R,e2,fun xs μ1 H1 x1 R1 r1 z hz=>?_⟩
  obtain⟨R2,x2⟩:=R1.laid hz r1
  exact q _ _ _ (x1.trans x2) (R2.Vs i (bI R1.slen))⟩
end
def listOf(S:Store):D->Option (List D)
 |.lst _ ds=>some ds
 |.ref i=>(S[i]?).join
 |_=>none
def Bx(S:Store):D->Option (List D)
 |.tup ds=>some ds
 |.scr ns=>some (ns.map .int)
 |d=>listOf S d
def idOf(ds:List D):D->List (Nat×List D)
 |.ref i=>[(i,ds)]
 |_=>[]
section
variable{Γ:Fr}{μ:Mu}{σ:St}{H:Hp}{env:Env}{S:Store}{v:V}{d:D}{ds:List D}
theorem join_some{α:Type}{a:Option (Option α)}{b:α}(h:a.join=some b):a=some (some b):=by
 cases a with
 |none=>cases h
 |some o=>exact congrArg some h
theorem VR.list(R:Rep Γ μ σ H env S)(r:VR Γ μ H v d)(h:listOf S d=some ds):∃a xs,v=.ref a/\H a=some (.lst xs)/\VRs Γ μ H xs ds:=by
 cases r with
 |lst o n hb rs=>cases h;exact⟨_,_,rfl,hb,rs⟩
 |@ref i v hi f =>
  obtain⟨a,xs,h1,h2,h3⟩:=R.sto i ds (join_some h)
  exact⟨a,xs,f a h1,h2,h3⟩
 |_=>cases h
theorem VR.seq(hK:Γ.K=K)(R:Rep Γ μ σ H env S)(r:VR Γ μ H v d)(h:Bx S d=some ds):∃a xs,v=.ref a/\(SqL K H a xs∨SqT K H a xs)/\VRs Γ μ H xs ds:=by
 subst hK
 cases d with
 |tup es=>cases r with|tup hb rs=>cases h;exact⟨_,_,rfl,.inr (SqT.of hb),rs⟩
 |scr ns =>
  cases h
  cases r with
  |scrK hk=>exact⟨_,_,rfl,.inl (hk H),VRs.ints ns⟩
  |scrR n hb=>exact⟨_,_,rfl,.inl (.inl (.inr ⟨_,hb⟩)),VRs.ints ns⟩
 |lst m es=>obtain⟨a,xs,e1,e2,e3⟩:=VR.list R r h;exact⟨a,xs,e1,.inl (SqL.of e2),e3⟩
 |ref i=>obtain⟨a,xs,e1,e2,e3⟩:=VR.list R r h;exact⟨a,xs,e1,.inl (SqL.of e2),e3⟩
 |_=>cases h
end
def DK(a:Ba):Jw:=fun env S=>(a env S).bind fun p=>(Bx p.2 p.1).map fun ds=>((ds,idOf ds p.1),p.2)
section
variable{X:Cx}{tg:Expr}
def yI(K:U0b)(tl:TE):TI:=fun σ H R=>tl σ H fun x H1=>∃a,x=.ref a/\(((∃xs,SqL K H1 a xs)/\R (Itl K a) H1)∨((∃xs,SqT K H1 a xs)/\R (Itt K a) H1))
theorem vQ{l:Expr}{tl:TE}(hl:PE X l tl):PI X tg l (yI X.K tl):=by
 intro pins s σ H R I h
 refine thn (hl pins s σ H _ I h) fun v s1 ⟨x,H1,I1,r1,q1⟩=>?_
 obtain⟨a,e,⟨⟨xs,hq⟩,q⟩|⟨⟨xs,hq⟩,q⟩⟩:=q1
 .subst e
  cases r1
  obtain⟨its,rv,p,hz⟩:=I1.list hq
  refine U33 p.isList ?_
  refine⟨s1.heap.objs.size,[s1.heap.objs.size],_,_,H1,rfl,I1.kept (t':=s1.toks) fun b o e=>U0a _ e,gW a _,⟨_,U0p _ rfl,rfl,rfl⟩,fun b hb=>?_,q⟩
  have e:b=s1.heap.objs.size:=by simpa using hb
  subst e
  exact I1.Tc (U0q _) (I1.hok.fresh (U0q _))
 .subst e
  cases r1
  obtain⟨its,rv,p,hz⟩:=I1.tuple hq
  refine U4a (show s1.heap.IsTuple a its.toArray from p) ?_
  refine⟨s1.heap.objs.size,[s1.heap.objs.size],_,_,H1,rfl,I1.kept (t':=s1.toks) fun b o e=>U0a _ e,dG a _,⟨_,U0p _ rfl,rfl,rfl⟩,fun b hb=>?_,q⟩
  have e:b=s1.heap.objs.size:=by simpa using hb
  subst e
  exact I1.Tc (U0q _) (I1.hok.fresh (U0q _))
theorem iG{d:D}{ds:List D}{S S':Store}(h:Bx S d=some ds)(c:calm (idOf ds d) S'):Bx S' d=some ds:=by
 cases d with
 |ref i =>
  have c':S'[i]?=some (some ds):=c (i,ds) (U04.mpr rfl)
  show(S'[i]?).join=some ds
  rw[c'];rfl
 |_=>exact h
theorem VR.cO{K:U0b}{Γ:Fr}{μ:Mu}{σ:St}{H:Hp}{env:Env}{S:Store}{v:V}{d:D}{ds:List D}(hK:Γ.K=K)(R:Rep Γ μ σ H env S)(r:VR Γ μ H v d)(h:Bx S d=some ds):(∃es,d=.tup es)∨∃a xs,v=.ref a/\SqL K H a xs/\VRs Γ μ H xs ds:=by
 subst hK
 cases d with
 |tup es=>exact .inl ⟨es,rfl⟩
 |scr ns =>
  cases h
  cases r with
  |scrK hk=>exact .inr ⟨_,_,rfl,hk H,VRs.ints ns⟩
  |scrR n hb=>exact .inr ⟨_,_,rfl,.inl (.inr ⟨_,hb⟩),VRs.ints ns⟩
 |lst m es=>obtain⟨a,xs,e1,e2,e3⟩:=VR.list R r h;exact .inr ⟨a,xs,e1,SqL.of e2,e3⟩
 |ref i=>obtain⟨a,xs,e1,e2,e3⟩:=VR.list R r h;exact .inr ⟨a,xs,e1,SqL.of e2,e3⟩
 |_=>cases h
theorem rO{Γ:Fr}{μ:Mu}{H:Hp}{a:Addr}{ds:List D}{K:U0b}{w:List (Nat×List D)}(hr:∀μ' H' σ' env' S',Ext μ H μ' H'->Rep Γ μ' σ' H' env' S'->calm w S'->∃xs,SqL K H' a xs/\VRs Γ μ' H' xs ds):Tg Γ μ H (Itl K a) ds w:=by
 refine⟨fun i d μ' H' σ' env' S' hi x R c=>?_,fun μ' H' σ' env' S' x R c=>?_⟩
 .obtain⟨xs,h1,h2⟩:=hr μ' H' σ' env' S' x R c
  obtain⟨y,e1,e2⟩:=h2.get hi
  refine⟨⟨xs,y,h1,e1⟩,fun z H'' yl=>?_⟩
  obtain⟨e,f⟩:=yl
  subst e
  have:=f xs h1
  rw[e1] at this;cases this
  exact⟨Same.refl _,e2⟩
 .obtain⟨xs,h1,h2⟩:=hr μ' H' σ' env' S' x R c
  exact⟨xs,h1,by rw[h2.length];exact U0q _⟩
theorem fX{Γ:Fr}{μ:Mu}{H:Hp}{a:Addr}{ds:List D}{K:U0b}{w:List (Nat×List D)}(hr:∀μ' H' σ' env' S',Ext μ H μ' H'->Rep Γ μ' σ' H' env' S'->calm w S'->∃xs,SqT K H' a xs/\VRs Γ μ' H' xs ds):Tg Γ μ H (Itt K a) ds w:=by
 refine⟨fun i d μ' H' σ' env' S' hi x R c=>?_,fun μ' H' σ' env' S' x R c=>?_⟩
 .obtain⟨xs,h1,h2⟩:=hr μ' H' σ' env' S' x R c
  obtain⟨y,e1,e2⟩:=h2.get hi
  refine⟨⟨xs,y,h1,e1⟩,fun z H'' yl=>?_⟩
  obtain⟨e,f⟩:=yl
  subst e
  have:=f xs h1
  rw[e1] at this;cases this
  exact⟨Same.refl _,e2⟩
 .obtain⟨xs,h1,h2⟩:=hr μ' H' σ' env' S' x R c
  exact⟨xs,h1,by rw[h2.length];exact U0q _⟩
theorem Ef{l:Expr}{f:Ba}(hl:JE X l f):JI X tg l (DK f):=⟨PI.imp (vQ hl.pe) fun σ H Q h=>by
 obtain⟨Γ,μ,env,S,ds,w,S',hK,R,e,q⟩:=h
 obtain⟨⟨d,S1⟩,e1,e⟩:=bind_some e
 obtain⟨ds',e2,e⟩:=map_some e
 cases e
 refine⟨Γ,μ,env,S,d,S1,hK,R,e1,fun v μ1 H1 x1 R1 r1=>?_⟩
 rcases VR.cO hK R1 r1 e2 with ⟨es,rfl⟩|⟨a,xs,rfl,hq,rs⟩
 .cases r1 with
  |@tup a xs _ hb rs =>
   refine⟨a,rfl,.inr ⟨⟨xs,SqT.of hb⟩,q _ μ1 H1 x1 R1 (fX fun μ' H' σ' env' S' x' R' c=>?_)⟩⟩
   have e2':es=ds:=U06 e2
   subst e2'
   exact⟨xs,SqT.of (x'.tups _ _ hb),rs.ext x'⟩
 .by_cases ht:∃es,d=.tup es
  .obtain⟨es,rfl⟩:=ht
   cases r1 with
   |@tup b ys _ hb rs' =>
    refine⟨a,rfl,.inr ⟨⟨ys,SqT.of hb⟩,q _ μ1 H1 x1 R1 (fX fun μ' H' σ' env' S' x' R' c=>?_)⟩⟩
    have e2':es=ds:=U06 e2
    subst e2'
    exact⟨ys,SqT.of (x'.tups _ _ hb),rs'.ext x'⟩
  .refine⟨a,rfl,.inl ⟨⟨xs,hq⟩,q _ μ1 H1 x1 R1 (rO fun μ' H' σ' env' S' x' R' c=>?_)⟩⟩
   rcases VR.cO hK R' (r1.ext x') (iG e2 c) with z|⟨b,ys,e,h1,h2⟩
   .exact absurd z ht
   .cases e
    exact⟨ys,h1,h2⟩⟩
def upD(lo:Int)(n:Nat):List D:=(U0n n).map fun(i:Nat)=>.int (lo+i)
theorem n6{Γ:Fr}{μ:Mu}{H:Hp}(lo:Int)(n:Nat):Tg Γ μ H (Itr lo n) (upD lo n) []:=by
 have len:(upD lo n).length=n:=by unfold upD;rw[U0k,U2z]
 refine⟨fun i d μ' H' σ' env' S' hi x R c=>?_,fun μ' H' σ' env' S' x R c=>?_⟩
 .have hi':i<n:=by rw[←len];exact(U0i.mp hi).1
  refine⟨hi',fun y H'' yl=>?_⟩
  obtain⟨e1,e2⟩:=yl
  subst e1 e2
  unfold upD at hi
  rw[U0v,U5p hi'] at hi
  cases hi
  exact⟨Same.refl _,.int _⟩
 .show n<=(upD lo n).length
  rw[len];exact U0q _
def r62(j:Int):Prop:=-(2^62)<=j/\j<2^62
instance(j:Int):Decidable (r62 j):=by unfold r62;infer_instance
def Dn(a:BX):Jw:=fun env S=>(a env S).bind fun p=>match p.1 with|[.int j]=>if r62 j then some ((upD 0 j.toNat,[]),p.2) else none|_=>none
theorem VRs.one{Γ:Fr}{μ:Mu}{H:Hp}{vs:List V}{d:D}(h:VRs Γ μ H vs [d]):∃v,vs=[v]/\VR Γ μ H v d:=by
 cases h with|cons r t=>cases t;exact⟨_,rfl,r⟩
theorem VRs.two{Γ:Fr}{μ:Mu}{H:Hp}{vs:List V}{d e:D}(h:VRs Γ μ H vs [d,e]):∃v u,vs=[v,u]/\VR Γ μ H v d/\VR Γ μ H u e:=by
 cases h with|cons r t=>cases t with|cons r' t=>cases t;exact⟨_,_,rfl,r,r'⟩
theorem Gm{a:Expr}{f:BX}{p pos:Pos}(hg:Gl X "range")(hm:X.mg "range"=none)(ha:JA X [a] f)(hs:starEach [a] X.env=[(false,eval a X.env)]:=by rfl):JI X tg (.Call (.Name "range" p) [a] [] pos) (Dn f) :=
 ⟨PI.imp (ig hg hm ha.pa hs) fun σ H Q h=>by
  obtain⟨Γ,μ,env,S,ds,w,S',hK,R,e,q⟩:=h
  obtain⟨⟨d,S1⟩,e1,e⟩:=bind_some e
  refine⟨Γ,μ,env,S,d,S1,hK,R,e1,fun v μ1 H1 x1 R1 r1=>?_⟩
  dsimp only at e
  split at e
  .rename_i j
   by_cases hj:r62 j
   .rw[if_pos hj] at e
    cases e
    obtain⟨v,rfl,r⟩:=r1.one
    cases r
    exact⟨j,rfl,hj.1,hj.2,q _ μ1 H1 x1 R1 (n6 0 _)⟩
   .rw[if_neg hj] at e;cases e
  .cases e⟩
end
end VS
end
section
namespace VS
open PySem PySem.Spec L2
section
variable{X:Cx}{tg:Expr}
def Cu:List D->List D->List D
 |x::xs,y::ys=>.tup [x,y]::Cu xs ys
 |_,_=>[]
theorem Yi:∀{xs ys:List D} {i:Nat} {d:D},(Cu xs ys)[i]?=some d->∃x y,xs[i]?=some x/\ys[i]?=some y/\d=.tup [x,y]
 |[],_,_,_,h=>by simp[Cu] at h
 |_::_,[],_,_,h=>by simp[Cu] at h
 |x::xs,y::ys,0,d,h=>by simp[Cu] at h;exact⟨x,y,rfl,rfl,h.symm⟩
 |x::xs,y::ys,i+1,d,h=>by
  simp[Cu] at h
  obtain⟨a,b,h1,h2,h3⟩:=Yi h
  exact⟨a,b,by simpa using h1,by simpa using h2,h3⟩
theorem Yh:∀(xs ys:List D),((Cu xs ys).length=xs.length/\xs.length<=ys.length)∨((Cu xs ys).length<xs.length/\(Cu xs ys).length=ys.length)
 |[],_=>.inl ⟨rfl,U3i _⟩
 |_::_,[]=>.inr ⟨by simp[Cu],rfl⟩
 |x::xs,y::ys=>by
  rcases Yh xs ys with ⟨h1,h2⟩|⟨h1,h2⟩
  .left;simp[Cu];omega
  .right;simp[Cu];omega
def Ot(a:BX):Jw:=fun env S=>(a env S).bind fun p=>match p.1 with
 |[.tup xs,.tup ys]=>some ((Cu xs ys,[]),p.2)
 |[x,.tup ys]=>(listOf p.2 x).bind fun xs=>some ((Cu xs ys,idOf xs x),p.2)
 |[x,y]=>(listOf p.2 x).bind fun xs=>(listOf p.2 y).bind fun ys=>some ((Cu xs ys,idOf xs x++idOf ys y),p.2)
 |_=>none
theorem Jq{d:D}{ds:List D}{S S':Store}(h:listOf S d=some ds)(c:calm (idOf ds d) S'):listOf S' d=some ds:=by
 cases d with
 |ref i =>
  have c':S'[i]?=some (some ds):=c (i,ds) (U04.mpr rfl)
  show(S'[i]?).join=some ds
  rw[c'];rfl
 |_=>exact h
theorem YW{Γ:Fr}{μ:Mu}{H:Hp}{L M:Bool}{a b:Addr}{xs ys:List D}{w:List (Nat×List D)}(hr:∀μ' H' σ' env' S',Ext μ H μ' H'->Rep Γ μ' σ' H' env' S'->calm w S'->∃us vs,H' a=some (HB L us)/\VRs Γ μ' H' us xs/\H' b=some (HB M vs)/\VRs Γ μ' H' vs ys) :
  Tg Γ μ H (Itz L M a b) (Cu xs ys) w:=by
 refine⟨fun i d μ' H' σ' env' S' hi x R c=>?_,fun μ' H' σ' env' S' x R c=>?_⟩
 .obtain⟨us,vs,h1,h2,h3,h4⟩:=hr μ' H' σ' env' S' x R c
  obtain⟨p,q,e1,e2,e3⟩:=Yi hi
  obtain⟨u,f1,f2⟩:=h2.get e1
  obtain⟨v,g1,g2⟩:=h4.get e2
  refine⟨⟨us,vs,u,v,h1,h3,f1,g1⟩,fun z H'' yl=>?_⟩
  obtain⟨t,u',v',ht,rfl,rfl,k1,k2⟩:=yl
  have k1':=k1 us h1
  have k2':=k2 vs h3
  rw[f1] at k1';cases k1'
  rw[g1] at k2';cases k2'
  subst e3
  have sm:=Cp ht (.tup [u,v])
  obtain⟨_,x2⟩:=R.grow sm
  exact⟨sm,.tup CK (.cons (f2.ext x2) (.cons (g2.ext x2) .nil))⟩
 .obtain⟨us,vs,h1,h2,h3,h4⟩:=hr μ' H' σ' env' S' x R c
  refine⟨us,vs,h1,h3,?_⟩
  rw[h2.length,h4.length]
  rcases Yh xs ys with z|z
  .exact .inl z.1
  .exact .inr z
theorem PI.or{e:Expr}{t u:TI}(h:PI X tg e t)(k:PI X tg e u):PI X tg e (fun σ H R=>t σ H R∨u σ H R):=fun pins s σ H R I q=>q.elim (fun z=>h pins s σ H R I z) fun z=>k pins s σ H R I z
theorem YT{a b:Expr}{f:BX}{p pos:Pos}{elts:List Expr}{x1:Nat}{tpos:Pos}(hg:Gl X "zip")(hm:X.mg "zip"=none)(ha:JA X [a,b] f)(hs:starEach [a,b] X.env=[(false,eval a X.env),(false,eval b X.env)]:=by rfl)(hs2:starEach [b] X.env=[(false,eval b X.env)]:=by rfl) :
  JI X (.Tuple elts x1 tpos) (.Call (.Name "zip" p) [a,b] [] pos) (Ot f) :=
 ⟨PI.imp (PI.or (YK true true (.inl rfl) hg hm ha.pa hs hs2) (PI.or (YK false false (.inl rfl) hg hm ha.pa hs hs2) (YK true false (.inr ⟨rfl,rfl⟩) hg hm ha.pa hs hs2))) fun σ H Q h=>by
  obtain⟨Γ,μ,env,S,ds,w,S',hK,R,e,q⟩:=h
  obtain⟨⟨d,S1⟩,e1,e⟩:=bind_some e
  dsimp only at e
  split at e
  .rename_i xs ys
   cases e
   refine .inr (.inl ⟨Γ,μ,env,S,_,_,hK,R,e1,fun v μ1 H1 x1 R1 r1=>?_⟩)
   obtain⟨u,v,rfl,r,r'⟩:=r1.two
   cases r with
   |@tup a us _ ha ra =>
    cases r' with
    |@tup b vs _ hb rb =>
     exact⟨a,b,us,vs,rfl,ha,hb,q _ μ1 H1 x1 R1 (YW fun μ' H' σ' env' S' x' R' c=>⟨us,vs,x'.tups _ _ ha,ra.ext x',x'.tups _ _ hb,rb.ext x'⟩)⟩
  .rename_i x ys _
   obtain⟨xs,e2,e⟩:=bind_some e
   cases e
   refine .inr (.inr ⟨Γ,μ,env,S,_,_,hK,R,e1,fun v μ1 H1 x1 R1 r1=>?_⟩)
   obtain⟨u,v,rfl,r,r'⟩:=r1.two
   obtain⟨a,us,rfl,ha,ra⟩:=VR.list R1 r e2
   cases r' with
   |@tup b vs _ hb rb =>
    refine⟨a,b,us,vs,rfl,ha,hb,q _ μ1 H1 x1 R1 (YW fun μ' H' σ' env' S' x' R' c=>?_)⟩
    obtain⟨a',us',e4,ha',ra'⟩:=VR.list R' (r.ext x') (Jq e2 c)
    cases e4
    exact⟨us',vs,ha',ra',x'.tups _ _ hb,rb.ext x'⟩
  .rename_i x y _ _
   obtain⟨xs,e2,e⟩:=bind_some e
   obtain⟨ys,e3,e⟩:=bind_some e
   cases e
   refine .inl ⟨Γ,μ,env,S,_,_,hK,R,e1,fun v μ1 H1 x1 R1 r1=>?_⟩
   obtain⟨u,v,rfl,r,r'⟩:=r1.two
   obtain⟨a,us,rfl,ha,ra⟩:=VR.list R1 r e2
   obtain⟨b,vs,rfl,hb,rb⟩:=VR.list R1 r' e3
   refine⟨a,b,us,vs,rfl,ha,hb,q _ μ1 H1 x1 R1 (YW fun μ' H' σ' env' S' x' R' c=>?_)⟩
   obtain⟨a',us',e4,ha',ra'⟩:=VR.list R' (r.ext x') (Jq e2 fun p hp=>c p (U3z _ hp))
   obtain⟨b',vs',e5,hb',rb'⟩:=VR.list R' (r'.ext x') (Jq e3 fun p hp=>c p (U1l _ hp))
   cases e4
   cases e5
   exact⟨us',vs',ha',ra',hb',rb'⟩
  .cases e⟩
def Ky(n:Nat):List D->List D
 |[]=>[]
 |x::xs=>.tup [.int n,x]::Ky (n+1) xs
theorem X4:∀{xs:List D} {n i:Nat} {d:D},(Ky n xs)[i]?=some d->∃x,xs[i]?=some x/\d=.tup [.int ((n+i:Nat):Int),x]
 |[],_,_,_,h=>by simp[Ky] at h
 |x::xs,n,0,d,h=>by simp[Ky] at h;exact⟨x,rfl,h.symm⟩
 |x::xs,n,i+1,d,h=>by
  simp[Ky] at h
  obtain⟨y,h1,h2⟩:=X4 h
  exact⟨y,by simpa using h1,by rw[h2,show n+1+i=n+(i+1) by omega]⟩
theorem X3:∀(xs:List D)(n:Nat),(Ky n xs).length=xs.length
 |[],_=>rfl
 |_::xs,n=>by rw[Ky,U0j,U0j,X3 xs]
def YZ(a:BX):Jw:=fun env S=>(a env S).bind fun p=>match p.1 with
 |[x]=>(listOf p.2 x).bind fun xs=>some ((Ky 0 xs,idOf xs x),p.2)
 |_=>none
theorem rG{a:Expr}{f:BX}{p pos:Pos}{elts:List Expr}{x1:Nat}{tpos:Pos}(hg:Gl X "enumerate")(hm:X.mg "enumerate"=none)(ha:JA X [a] f)(hs:starEach [a] X.env=[(false,eval a X.env)]:=by rfl) :
  JI X (.Tuple elts x1 tpos) (.Call (.Name "enumerate" p) [a] [] pos) (YZ f) :=
 ⟨PI.imp (qT hg hm ha.pa hs) fun σ H Q h=>by
  obtain⟨Γ,μ,env,S,ds,w,S',hK,R,e,q⟩:=h
  obtain⟨⟨d,S1⟩,e1,e⟩:=bind_some e
  dsimp only at e
  split at e
  .rename_i x
   obtain⟨xs,e2,e⟩:=bind_some e
   cases e
   refine⟨Γ,μ,env,S,_,_,hK,R,e1,fun v μ1 H1 x1 R1 r1=>?_⟩
   obtain⟨u,rfl,r⟩:=r1.one
   obtain⟨a,us,rfl,ha,ra⟩:=VR.list R1 r e2
   refine⟨a,rfl,⟨us,SqL.of ha⟩,q _ μ1 H1 x1 R1 ⟨fun i d μ' H' σ' env' S' hi x' R' c=>?_,fun μ' H' σ' env' S' x' R' c=>?_⟩⟩
   .obtain⟨a',us',e4,ha',ra'⟩:=VR.list R' (r.ext x') (Jq e2 c)
    cases e4
    obtain⟨y,f1,rfl⟩:=X4 hi
    obtain⟨z,g1,g2⟩:=ra'.get f1
    refine⟨⟨us',z,SqL.of ha',g1⟩,fun y' H'' yl=>?_⟩
    obtain⟨t,z',ht,rfl,rfl,k⟩:=yl
    have k':=k us' (SqL.of ha')
    rw[g1] at k';cases k'
    have sm:=Cp ht (.tup [.int i,z])
    obtain⟨_,x2⟩:=R'.grow sm
    refine⟨sm,.tup CK (.cons ?_ (.cons (g2.ext x2) .nil))⟩
    rw[U7e]
    exact .int _
   .obtain⟨a',us',e4,ha',ra'⟩:=VR.list R' (r.ext x') (Jq e2 c)
    cases e4
    exact⟨us',SqL.of ha',by rw[ra'.length,X3];exact U0q _⟩
  .cases e⟩
def YB(K:U0b)(r:V->List V->Hp->VK->Prop)(g:Store->D->List D->Option (D×Store)):Prop:=∀(Γ:Fr)(μ:Mu)(σ:St)(H:Hp)(env:Env)(S:Store)(x:V)(xs:List V)(dx:D)(ds:List D)(d:D)(S':Store),Γ.K=K->Rep Γ μ σ H env S->VR Γ μ H x dx->VRs Γ μ H xs ds->g S dx ds=some (d,S') ->
 ∀Q:VK,(∀v μ' H',Ext μ H μ' H'->Rep Γ μ' σ H' env S'->VR Γ μ' H' v d->Q v H')->r x xs H Q
def Hg(g:Store->D->List D->Option (D×Store))(o:Ba)(a:BX):Ba:=fun env S=>(o env S).bind fun p=>if (listOf p.2 p.1).isSome then (a env p.2).bind fun q=>g q.2 p.1 q.1 else none
theorem pD{K:U0b}{r:V->List V->Hp->VK->Prop}{g:Store->D->List D->Option (D×Store)}{o:Ba}{a:BX}(hs:YB K r g){σ:St}{H:Hp}{Q:VK}(h:wpE K (Hg g o a) σ H Q):tBM K "list" r (wpE K o) (wpA K a) σ H Q:=by
 obtain⟨Γ,μ,env,S,d,S',hK,R,e,q⟩:=h
 obtain⟨⟨x,S1⟩,e1,e⟩:=bind_some e
 refine⟨Γ,μ,env,S,x,S1,hK,R,e1,fun v1 μ1 H1 x1 R1 r1=>?_⟩
 dsimp only at e
 by_cases hl:(listOf S1 x).isSome=true
 .rw[if_pos hl] at e
  obtain⟨⟨ds,S2⟩,e2,e⟩:=bind_some e
  obtain⟨xs,hx⟩:=U5z.mp hl
  obtain⟨b,us,rfl,hb,rb⟩:=VR.list R1 r1 hx
  refine⟨.inl ⟨rfl,us,SqL.of hb⟩,Γ,μ1,env,S1,ds,S2,hK,R1,e2,fun vs μ2 H2 x2 R2 r2=>?_⟩
  exact hs Γ μ2 σ H2 env S2 _ vs x ds d S' hK R2 (r1.ext x2) r2 e Q fun v μ' H' x' R' rv=>q v μ' H' (x1.trans (x2.trans x')) R' rv
 .rw[if_neg hl] at e;cases e
variable{o e:Expr}{es:List Expr}{fo:Ba}{fa:BX}{name:Str}{apos cpos:Pos}{id:String}{r:V->List V->Hp->VK->Prop}{g:Store->D->List D->Option (D×Store)}
theorem Ij(pa:PlainAttrs "list")(slot:Slot "list" name id)(hty:typeOf (.builtin id)=pure (.type "method_descriptor"))(hm:MtR X id r)(hsm:YB X.K r g)(ho:JE X o fo)(ha:JA X (e::es) fa)
  (hbase:attributeBase o name X.env (eval o X.env)=eval o X.env:=by rfl)
  (hfew:((backTo cpos (starEach (e::es) X.env)).all (fun x=>!x.1)&&(backToKw cpos (keywordEach [] X.env)).all (fun x=>x.1.isSome)
   && decide ((e::es).length+([]:List Keyword).length+(if ([]:List Keyword).isEmpty then 0 else 1)<30))=true:=by rfl)
  (hline:(apos.endLine==cpos.line)=true:=by rfl) (hs:starEach (e::es) X.env=(false,eval e X.env)::starEach es X.env:=by rfl) (hplain:(backTo cpos (starEach es X.env)).any (·.1)=false:=by rfl) :
  JE X (.Call (.Attribute o name apos) (e::es) [] cpos) (Hg g fo fa) :=
 ⟨PE.imp (yc pa slot hty hm ho.pe ha.pa hbase hfew hline hs hplain) fun _ _ _ h=>pD hsm h⟩
theorem VR.TX{Γ:Fr}{μ:Mu}{σ:St}{H:Hp}{env:Env}{S:Store}{v:V}{i:Nat}{ds:List D}(R:Rep Γ μ σ H env S)(r:VR Γ μ H v (.ref i))(h:S[i]?=some (some ds)):∃a xs,v=.ref a/\μ[i]?=some (some a)/\H a=some (.lst xs)/\VRs Γ μ H xs ds:=by
 cases r with
 |ref hi f =>
  obtain⟨a,xs,h1,h2,h3⟩:=R.sto i ds h
  exact⟨a,xs,f a h1,h1,h2,h3⟩
def Gb(S:Store):D->List D->Option (D×Store)
 |.ref i,[d]=>match S[i]? with
  |some (some ds)=>if ds.length<1000000 then some (.non,S.set i (some (ds++[d]))) else none
  |_=>none
 |_,_=>none
theorem Hl{K:U0b}:YB K bK Gb:=by
 intro Γ μ σ H env S x xs dx ds d S' hK R rx rs e Q q
 unfold Gb at e
 split at e
 .rename_i i d1
  split at e
  .rename_i es he
   by_cases hl:es.length<1000000
   .rw[if_pos hl] at e
    cases e
    obtain⟨a,us,rfl,h1,h2,h3⟩:=VR.TX R rx he
    obtain⟨y,rfl,ry⟩:=rs.one
    obtain⟨R2,x2⟩:=R.put h1 (h3.append (.cons ry .nil))
    exact⟨a,us,y,rfl,rfl,h2,by rw[h3.length];exact big (U2u hl),q _ μ _ x2 R2 .non⟩
   .rw[if_neg hl] at e;cases e
  .cases e
 .cases e
def S9(S:Store):D->List D->Option (D×Store)
 |.ref i,[y]=>match S[i]?,listOf S y with
  |some (some ds),some es=>if ds.length+es.length<=1000000 then some (.non,S.set i (some (ds++es))) else none
  |_,_=>none
 |_,_=>none
theorem gq{K:U0b}:YB K bJ S9:=by
 intro Γ μ σ H env S x xs dx ds d S' hK R rx rs e Q q
 unfold S9 at e
 split at e
 .rename_i i y
  split at e
  .rename_i es gs he hg
   by_cases hl:es.length+gs.length<=1000000
   .rw[if_pos hl] at e
    cases e
    obtain⟨a,us,rfl,h1,h2,h3⟩:=VR.TX R rx he
    obtain⟨y,rfl,ry⟩:=rs.one
    obtain⟨b,vs,rfl,hb,rb⟩:=VR.list R ry hg
    obtain⟨R2,x2⟩:=R.put h1 (h3.append rb)
    exact⟨a,b,us,vs,rfl,rfl,h2,hb,by rw[h3.length,rb.length];exact U2u (big hl),q _ μ _ x2 R2 .non⟩
   .rw[if_neg hl] at e;cases e
  .cases e
 .cases e
def Nz(S:Store):D->List D->Option (D×Store)
 |.ref i,[.int k]=>match S[i]? with
  |some (some ds)=>if -(2^63)<=k/\k<2^63 then (PySem.seqIndex? k ds.length).bind fun j=>(ds[j]?).bind fun d=>some (d,S.set i (some (ds.eraseIdx j))) else none
  |_=>none
 |_,_=>none
theorem lD{K:U0b}:YB K fL Nz:=by
 intro Γ μ σ H env S x xs dx ds d S' hK R rx rs e Q q
 unfold Nz at e
 split at e
 .rename_i i k
  split at e
  .rename_i es he
   by_cases hl:-(2^63)<=k/\k<2^63
   .rw[if_pos hl] at e
    obtain⟨j,e2,e⟩:=bind_some e
    obtain⟨d',e3,e⟩:=bind_some e
    cases e
    obtain⟨a,us,rfl,h1,h2,h3⟩:=VR.TX R rx he
    obtain⟨y,rfl,ry⟩:=rs.one
    cases ry
    obtain⟨u,f1,f2⟩:=h3.get e3
    obtain⟨R2,x2⟩:=R.put h1 (h3.eraseIdx j)
    exact⟨a,us,k,j,u,rfl,rfl,h2,hl.1,hl.2,by rw[h3.length];exact e2,f1,q _ μ _ x2 R2 (f2.ext x2)⟩
   .rw[if_neg hl] at e;cases e
  .cases e
 .cases e
def Jy(v o i:Ba):BL:=fun env S=>(v env S).bind fun p=>(o env p.2).bind fun q=>(i env q.2).bind fun r=>match q.1,r.1 with
 |.ref j,.int k=>(match r.2[j]? with
  |some (some ds)=>(ixN ds.length k).bind fun n=>some (.nx,env,r.2.set j (some (ds.set n p.1)))
  |_=>none)
 |_,_=>none
theorem OD{a i:Expr}{fv fi:Ba}{pos tpos:Pos}(he:JE X a fv)(ho:JE X o fo)(hi:JE X i fi)
  (ha:∀v,assign (.Subscript o i tpos) X.env v=(do
   let ov ←holding [v] (eval o X.env)
   let iv ←holding [v,ov] (eval i X.env)
   standAt tpos
   holding [v,ov,iv] (setItem ov iv v)
   release [v,ov,iv] []):=by intro _;rfl)
  (hs:swapsWithSole [.Subscript o i tpos] a pos.line X.env=pure false:=by rfl) (hw:swappedStores [.Subscript o i tpos] a X.env=pure none:=by rfl)
  (h1:(assignEach [.Subscript o i tpos] X.env).map (·.2)=[assign (.Subscript o i tpos) X.env]:=by rfl):JS X (.Assign [.Subscript o i tpos] a pos) (Jy fv fo fi) :=
 ⟨PS.imp (fO he.pe (vU ho.pe hi.pe set_list ha) hs hw h1) fun E σ H h=>by
  obtain⟨Γ,μ,env,S,fl,env',S',hK,R,e,q⟩:=h
  obtain⟨⟨x,S1⟩,e1,e⟩:=bind_some e
  obtain⟨⟨y,S2⟩,e2,e⟩:=bind_some e
  obtain⟨⟨z,S3⟩,e3,e⟩:=bind_some e
  refine⟨Γ,μ,env,S,x,S1,hK,R,e1,fun v1 μ1 H1 x1 R1 r1=>?_⟩
  refine⟨Γ,μ1,env,S1,y,S2,hK,R1,e2,fun v2 μ2 H2 x2 R2 r2=>?_⟩
  refine⟨Γ,μ2,env,S2,z,S3,hK,R2,e3,fun v3 μ3 H3 x3 R3 r3=>?_⟩
  dsimp only at e
  split at e
  .rename_i j k
   split at e
   .rename_i ds hd
    obtain⟨n,e4,e⟩:=bind_some e
    cases e
    obtain⟨b,us,rfl,g1,g2,g3⟩:=VR.TX R3 (r2.ext x3) hd
    cases r3
    have r1':=r1.ext (x2.trans x3)
    obtain⟨R4,x4⟩:=R3.put g1 (g3.set r1' n)
    exact⟨b,us,_,n,rfl,rfl,g2,by rw[g3.length];exact e4,q μ3 σ _ (x1.trans (x2.trans (x3.trans x4))) R4⟩
   .cases e
  .cases e⟩
end
end VS
end
section
namespace VS
open PySem PySem.Spec L2
mutual
def Bd:D->Bool
 |.ref _=>false
 |.tup ds=>Aw ds
 |.lst _ ds=>Aw ds
 |_=>true
def Aw:List D->Bool
 |[]=>true
 |d::r=>Bd d&&Aw r
end
mutual
def Dl:D->Bool
 |.ref _=>false
 |.lst _ _=>false
 |.scr _=>false
 |.emp=>false
 |.tup ds=>Ei ds
 |_=>true
def Ei:List D->Bool
 |[]=>true
 |d::r=>Dl d&&Ei r
end
mutual
def newD:D->Bool
 |.ref _=>false
 |.lst m ds=>m&&newL ds
 |.scr _=>false
 |.emp=>false
 |.tup ds=>newL ds
 |_=>true
def newL:List D->Bool
 |[]=>true
 |d::r=>newD d&&newL r
end
mutual
def den(k:Nat)(S:Store):D->Option D
 |.tup ds=>(Cy k S ds).map .tup
 |.lst m ds=>(Cy k S ds).map (.lst m)
 |.ref i=>if i<k then none else match S[i]? with|some (some ds)=>if Aw ds=true then some (.lst true ds) else none|_=>none
 |.non=>some .non
 |.bl b=>some (.bl b)
 |.int i=>some (.int i)
 |.str x=>some (.str x)
 |.ty n=>some (.ty n)
 |.scr ns=>some (.scr ns)
 |.emp=>some .emp
def Cy(k:Nat)(S:Store):List D->Option (List D)
 |[]=>some []
 |d::r=>(den k S d).bind fun x=>(Cy k S r).bind fun xs=>some (x::xs)
end
mutual
def age:D->D
 |.tup ds=>.tup (Bf ds)
 |.lst _ ds=>.lst false (Bf ds)
 |.ref i=>.ref i
 |.non=>.non
 |.bl b=>.bl b
 |.int i=>.int i
 |.str x=>.str x
 |.ty n=>.ty n
 |.scr ns=>.scr ns
 |.emp=>.emp
def Bf:List D->List D
 |[]=>[]
 |d::r=>age d::Bf r
end
mutual
theorem Jd:∀{d:D},Dl d=true->Bd d=true
 |.ref _,h=>by simp[Dl] at h
 |.lst _ _,h=>by simp[Dl] at h
 |.scr _,h=>by simp[Dl] at h
 |.emp,h=>by simp[Dl] at h
 |.tup ds,h=>by rw[Dl] at h;rw[Bd];exact Cg h
 |.non,_=>rfl
 |.bl _,_=>rfl
 |.int _,_=>rfl
 |.str _,_=>rfl
 |.ty _,_=>rfl
theorem Cg:∀{ds:List D},Ei ds=true->Aw ds=true
 |[],_=>rfl
 |d::r,h=>by
  rw[Ei,U1e] at h
  rw[Aw,Jd h.1,Cg h.2];rfl
end
mutual
theorem Tt:∀{d:D},Dl d=true->newD d=true
 |.ref _,h=>by simp[Dl] at h
 |.lst _ _,h=>by simp[Dl] at h
 |.scr _,h=>by simp[Dl] at h
 |.emp,h=>by simp[Dl] at h
 |.tup ds,h=>by rw[Dl] at h;rw[newD];exact PJ h
 |.non,_=>rfl
 |.bl _,_=>rfl
 |.int _,_=>rfl
 |.str _,_=>rfl
 |.ty _,_=>rfl
theorem PJ:∀{ds:List D},Ei ds=true->newL ds=true
 |[],_=>rfl
 |d::r,h=>by
  rw[Ei,U1e] at h
  rw[newL,Tt h.1,PJ h.2];rfl
end
mutual
theorem Lq(k:Nat)(S:Store):∀{d:D},Bd d=true->den k S d=some d
 |.ref _,h=>by simp[Bd] at h
 |.lst m ds,h=>by rw[Bd] at h;rw[den,Cw k S h];rfl
 |.tup ds,h=>by rw[Bd] at h;rw[den,Cw k S h];rfl
 |.non,_=>by rw[den]
 |.bl _,_=>by rw[den]
 |.int _,_=>by rw[den]
 |.str _,_=>by rw[den]
 |.ty _,_=>by rw[den]
 |.scr _,_=>by rw[den]
 |.emp,_=>by rw[den]
theorem Cw(k:Nat)(S:Store):∀{ds:List D},Aw ds=true->Cy k S ds=some ds
 |[],_=>by rw[Cy]
 |d::r,h=>by
  rw[Aw,U1e] at h
  rw[Cy,Lq k S h.1,Cw k S h.2];rfl
end
mutual
theorem QW:∀{d:D},Dl d=true->age d=d
 |.ref _,h=>by simp[Dl] at h
 |.lst _ _,h=>by simp[Dl] at h
 |.scr _,h=>by simp[Dl] at h
 |.emp,h=>by simp[Dl] at h
 |.tup ds,h=>by rw[Dl] at h;rw[age,Io h]
 |.non,_=>by rw[age]
 |.bl _,_=>by rw[age]
 |.int _,_=>by rw[age]
 |.str _,_=>by rw[age]
 |.ty _,_=>by rw[age]
theorem Io:∀{ds:List D},Ei ds=true->Bf ds=ds
 |[],_=>by rw[Bf]
 |d::r,h=>by
  rw[Ei,U1e] at h
  rw[Bf,QW h.1,Io h.2]
end
section
variable{Γ Γ':Fr}{μ μ':Mu}{H:Hp}
mutual
theorem VR.age(hK:Γ'.K=Γ.K)(hN:∀a,¬Cz μ a->Γ.N a∨Γ.H0 a=none->Γ'.N a)(hl:∀a o,H a=some o->¬Cz μ a->¬Cz μ' a):∀{v:V} {d:D},Bd d=true->VR Γ μ H v d->VR Γ' μ' H v (VS.age d)
 |_,_,_,.non=>by rw[VS.age];exact .non
 |_,_,_,.bl b=>by rw[VS.age];exact .bl b
 |_,_,_,.int i=>by rw[VS.age];exact .int i
 |_,_,_,.str x=>by rw[VS.age];exact .str x
 |_,_,_,.ty n=>by rw[VS.age];exact .ty n
 |_,_,h,.tup hb t=>by rw[Bd] at h;rw[VS.age];exact .tup hb (VRs.age hK hN hl h t)
 |_,_,h,.lst o n hb t=>by rw[Bd] at h;rw[VS.age];exact .lst ⟨fun z=>(by cases z),.inl (hN _ n o.2)⟩ (hl _ _ hb n) hb (VRs.age hK hN hl h t)
 |_,_,h,.ref _ _=>by simp[Bd] at h
 |_,_,_,.scrK k=>by rw[VS.age];exact .scrK (by rw[hK];exact k)
 |_,_,_,.scrR n hb=>by rw[VS.age];exact .scrR (hl _ _ hb n) hb
 |_,_,_,.emp n hb=>by rw[VS.age];exact .emp (hl _ _ hb n) hb
theorem VRs.age(hK:Γ'.K=Γ.K)(hN:∀a,¬Cz μ a->Γ.N a∨Γ.H0 a=none->Γ'.N a)(hl:∀a o,H a=some o->¬Cz μ a->¬Cz μ' a):∀{v:List V} {d:List D},Aw d=true->VRs Γ μ H v d->VRs Γ' μ' H v (Bf d)
 |_,_,_,.nil=>by rw[Bf];exact .nil
 |_,_,h,.cons r t=>by
  rw[Aw,U1e] at h
  rw[Bf];exact .cons (VR.age hK hN hl h.1 r) (VRs.age hK hN hl h.2 t)
end
mutual
theorem VR.pure(hK:Γ'.K=Γ.K)(hN:∀m a xs,¬Cz μ a->Γ.Ok m a->H a=some (.lst xs)->Γ'.Ok m a/\¬Cz μ' a)(ho:∀a o,H a=some o->¬Cz μ a->(∀xs,o≠.lst xs)->¬Cz μ' a):∀{v:V} {d:D},Bd d=true->VR Γ μ H v d->VR Γ' μ' H v d
 |_,_,_,.non=>.non
 |_,_,_,.bl b=>.bl b
 |_,_,_,.int i=>.int i
 |_,_,_,.str x=>.str x
 |_,_,_,.ty n=>.ty n
 |_,_,h,.tup hb t=>by rw[Bd] at h;exact .tup hb (VRs.pure hK hN ho h t)
 |_,_,h,.lst o n hb t=>by rw[Bd] at h;exact .lst (hN _ _ _ n o hb).1 (hN _ _ _ n o hb).2 hb (VRs.pure hK hN ho h t)
 |_,_,h,.ref _ _=>by simp[Bd] at h
 |_,_,_,.scrK k=>.scrK (by rw[hK];exact k)
 |_,_,_,.scrR n hb=>.scrR (ho _ _ hb n fun _ z=>by cases z) hb
 |_,_,_,.emp n hb=>.emp (ho _ _ hb n fun _ z=>by cases z) hb
theorem VRs.pure(hK:Γ'.K=Γ.K)(hN:∀m a xs,¬Cz μ a->Γ.Ok m a->H a=some (.lst xs)->Γ'.Ok m a/\¬Cz μ' a)(ho:∀a o,H a=some o->¬Cz μ a->(∀xs,o≠.lst xs)->¬Cz μ' a):∀{v:List V} {d:List D},Aw d=true->VRs Γ μ H v d->VRs Γ' μ' H v d
 |_,_,_,.nil=>.nil
 |_,_,h,.cons r t=>by
  rw[Aw,U1e] at h
  exact .cons (VR.pure hK hN ho h.1 r) (VRs.pure hK hN ho h.2 t)
end
mutual
theorem VR.den{σ:St}{env:Env}{S S0:Store}{k:Nat}(R:Rep Γ μ σ H env S)(hK:Γ'.K=Γ.K)(h0:∀(i:Nat)(ds:List D)(a:Addr),k<=i->S0[i]?=some (some ds)->S[i]?=some (some ds)/\(μ[i]?=some (some a)->¬Cz μ' a/\Γ'.Ok true a))
  (hN:∀m a,¬Cz μ a->Γ.Ok m a->Γ'.Ok m a) (hl:∀a o,H a=some o->¬Cz μ a->¬Cz μ' a):∀{v:V} {d e:D},VR Γ μ H v d->VS.den k S0 d=some e->VR Γ' μ' H v e
 |_,_,_,.non,h=>by rw[VS.den] at h;cases h;exact .non
 |_,_,_,.bl b,h=>by rw[VS.den] at h;cases h;exact .bl b
 |_,_,_,.int i,h=>by rw[VS.den] at h;cases h;exact .int i
 |_,_,_,.str x,h=>by rw[VS.den] at h;cases h;exact .str x
 |_,_,_,.ty n,h=>by rw[VS.den] at h;cases h;exact .ty n
 |_,_,_,.tup hb t,h=>by
  rw[VS.den] at h
  obtain⟨es,e1,e2⟩:=map_some h
  subst e2
  exact .tup hb (VRs.den R hK h0 hN hl t e1)
 |_,_,_,.lst o n hb t,h=>by
  rw[VS.den] at h
  obtain⟨es,e1,e2⟩:=map_some h
  subst e2
  exact .lst (hN _ _ n o) (hl _ _ hb n) hb (VRs.den R hK h0 hN hl t e1)
 |_,.ref i,_,.ref hi f,h=>by
  rw[VS.den] at h
  by_cases hk:i<k
  .rw[if_pos hk] at h;cases h
  .rw[if_neg hk] at h
   split at h
   .rename_i ds hd
    by_cases hp:Aw ds=true
    .rw[if_pos hp] at h
     cases h
     have hS:=(h0 i ds 0 (by omega) hd).1
     obtain⟨a,xs,h1,h2,h3⟩:=R.sto i ds hS
     have hv:=f a h1
     subst hv
     obtain⟨z1,z2⟩:=(h0 i ds a (by omega) hd).2 h1
     exact .lst z2 z1 h2 (VRs.pure hK (fun m b ys n o hb=>⟨hN m b n o,hl b _ hb n⟩) (fun b o hb n _=>hl b o hb n) hp h3)
    .rw[if_neg hp] at h;cases h
   .cases h
 |_,_,_,.scrK k,h=>by rw[VS.den] at h;cases h;exact .scrK (by rw[hK];exact k)
 |_,_,_,.scrR n hb,h=>by rw[VS.den] at h;cases h;exact .scrR (hl _ _ hb n) hb
 |_,_,_,.emp n hb,h=>by rw[VS.den] at h;cases h;exact .emp (hl _ _ hb n) hb
theorem VRs.den{σ:St}{env:Env}{S S0:Store}{k:Nat}(R:Rep Γ μ σ H env S)(hK:Γ'.K=Γ.K)(h0:∀(i:Nat)(ds:List D)(a:Addr),k<=i->S0[i]?=some (some ds)->S[i]?=some (some ds)/\(μ[i]?=some (some a)->¬Cz μ' a/\Γ'.Ok true a))
  (hN:∀m a,¬Cz μ a->Γ.Ok m a->Γ'.Ok m a) (hl:∀a o,H a=some o->¬Cz μ a->¬Cz μ' a):∀{v:List V} {d e:List D},VRs Γ μ H v d->VS.Cy k S0 d=some e->VRs Γ' μ' H v e
 |_,_,_,.nil,h=>by rw[Cy] at h;cases h;exact .nil
 |_,_,_,.cons r t,h=>by
  rw[Cy] at h
  obtain⟨x,e1,h⟩:=bind_some h
  obtain⟨xs,e2,h⟩:=bind_some h
  cases h
  exact .cons (VR.den R hK h0 hN hl r e1) (VRs.den R hK h0 hN hl t e2)
end
mutual
theorem VR.new(hN:∀a xs,¬Cz μ a->Γ.Ok true a->H a=some (.lst xs)->Γ'.Ok true a/\¬Cz μ' a):∀{v:V} {d:D},newD d=true->VR Γ μ H v d->VR Γ' μ' H v d
 |_,_,_,.non=>.non
 |_,_,_,.bl b=>.bl b
 |_,_,_,.int i=>.int i
 |_,_,_,.str x=>.str x
 |_,_,_,.ty n=>.ty n
 |_,_,h,.tup hb t=>by rw[newD] at h;exact .tup hb (VRs.new hN h t)
 |_,.lst m ds,h,.lst o n hb t=>by
  rw[newD,U1e] at h
  obtain⟨rfl,h⟩:=h
  exact .lst (hN _ _ n o hb).1 (hN _ _ n o hb).2 hb (VRs.new hN h t)
 |_,_,h,.ref _ _=>by simp[newD] at h
 |_,_,h,.scrK _=>by simp[newD] at h
 |_,_,h,.scrR _ _=>by simp[newD] at h
 |_,_,h,.emp _ _=>by simp[newD] at h
theorem VRs.new(hN:∀a xs,¬Cz μ a->Γ.Ok true a->H a=some (.lst xs)->Γ'.Ok true a/\¬Cz μ' a):∀{v:List V} {d:List D},newL d=true->VRs Γ μ H v d->VRs Γ' μ' H v d
 |_,_,_,.nil=>.nil
 |_,_,h,.cons r t=>by
  rw[newL,U1e] at h
  exact .cons (VR.new hN h.1 r) (VRs.new hN h.2 t)
end
mutual
theorem VR.flat:∀{v:V} {d:D},Dl d=true->VR Γ μ H v d->VR Γ' μ' H v d
 |_,_,_,.non=>.non
 |_,_,_,.bl b=>.bl b
 |_,_,_,.int i=>.int i
 |_,_,_,.str x=>.str x
 |_,_,_,.ty n=>.ty n
 |_,_,h,.tup hb t=>by rw[Dl] at h;exact .tup hb (VRs.flat h t)
 |_,_,h,.lst _ _ _ _=>by simp[Dl] at h
 |_,_,h,.ref _ _=>by simp[Dl] at h
 |_,_,h,.scrK _=>by simp[Dl] at h
 |_,_,h,.scrR _ _=>by simp[Dl] at h
 |_,_,h,.emp _ _=>by simp[Dl] at h
theorem VRs.flat:∀{v:List V} {d:List D},Ei d=true->VRs Γ μ H v d->VRs Γ' μ' H v d
 |_,_,_,.nil=>.nil
 |_,_,h,.cons r t=>by
  rw[Ei,U1e] at h
  exact .cons (VR.flat h.1 r) (VRs.flat h.2 t)
end
mutual
theorem Tw{k:Nat}{S:Store}:∀{d e:D},den k S d=some e->Bd e=true
 |.tup ds,e,h=>by
  rw[den] at h
  obtain⟨es,e1,e2⟩:=map_some h
  subst e2
  rw[Bd];exact PK e1
 |.lst m ds,e,h=>by
  rw[den] at h
  obtain⟨es,e1,e2⟩:=map_some h
  subst e2
  rw[Bd];exact PK e1
 |.ref i,e,h=>by
  rw[den] at h
  by_cases hk:i<k
  .rw[if_pos hk] at h;cases h
  .rw[if_neg hk] at h
   split at h
   .rename_i ds hd
    by_cases hp:Aw ds=true
    .rw[if_pos hp] at h;cases h;rw[Bd];exact hp
    .rw[if_neg hp] at h;cases h
   .cases h
 |.non,e,h=>by rw[den] at h;cases h;rfl
 |.bl _,e,h=>by rw[den] at h;cases h;rfl
 |.int _,e,h=>by rw[den] at h;cases h;rfl
 |.str _,e,h=>by rw[den] at h;cases h;rfl
 |.ty _,e,h=>by rw[den] at h;cases h;rfl
 |.scr _,e,h=>by rw[den] at h;cases h;rfl
 |.emp,e,h=>by rw[den] at h;cases h;rfl
theorem PK{k:Nat}{S:Store}:∀{d e:List D},Cy k S d=some e->Aw e=true
 |[],e,h=>by rw[Cy] at h;cases h;rfl
 |d::r,e,h=>by
  rw[Cy] at h
  obtain⟨x,e1,h⟩:=bind_some h
  obtain⟨xs,e2,h⟩:=bind_some h
  cases h
  rw[Aw,Tw e1,PK e2];rfl
end
end
end VS
end
section
namespace VS
open PySem PySem.Spec L2
abbrev DP:=List D->Option D
abbrev JM:=List Int->List D->Option (D×List Int)
def intsOf:List D->Option (List Int)
 |[]=>some []
 |.int i::r=>(intsOf r).map (i::·)
 |_=>none
theorem Gp:∀{ds:List D} {ns:List Int},intsOf ds=some ns->ds=ns.map D.int
 |[],_,h=>by cases h;rfl
 |.int i::r,ns,h=>by
  obtain⟨ms,e1,e2⟩:=map_some h
  subst e2
  rw[U0s,Gp e1]
 |.non::_,_,h=>by cases h
 |.bl _::_,_,h=>by cases h
 |.str _::_,_,h=>by cases h
 |.ty _::_,_,h=>by cases h
 |.tup _::_,_,h=>by cases h
 |.lst _ _::_,_,h=>by cases h
 |.ref _::_,_,h=>by cases h
 |.scr _::_,_,h=>by cases h
 |.emp::_,_,h=>by cases h
@[simp] theorem Iv(ns:List Int):intsOf (ns.map D.int)=some ns:=by
 induction ns with
 |nil=>rfl
 |cons n r ih=>rw[U0s,intsOf,ih];rfl
def FT(np n:Nat)(f:BL):DP:=fun ds=>if ds.length=np then (f (ds.map some++U05 (n-ds.length) none) []).bind fun p=>match p.1 with|.ret d=>den 0 p.2.2 d|.nx=>some .non|_=>none else none
def runM(np n:Nat)(f:BL):JM:=fun ns ds=>if ds.length+1=np then (f (some (.ref 0)::(ds.map some++U05 (n-1-ds.length) none)) [some (ns.map D.int)]).bind fun p=>match p.2.2[0]? with
 |some (some cs)=>(intsOf cs).bind fun ms=>(match p.1 with|.ret d=>(den 1 p.2.2 d).map fun r=>(r,ms)|.nx=>some (.non,ms)|_=>none)
 |_=>none
 else none
def spP(K:U0b)(sem:DP)(n:Nat):Sp:=fun vs H Q _=>∃(N:Addr->Prop)(ds:List D)(r:D),vs.length=n/\VRs ⟨K,H,N,[]⟩ [] H vs ds/\sem ds=some r/\∀v H',Same H H'->VR ⟨K,H,N,[]⟩ [] H' v r->Q v H'
def spM(K:U0b)(sem:JM)(n:Nat):Sp:=fun vs H Q _=>∃(N:Addr->Prop)(a:Addr)(us:List V)(ns:List Int)(ds:List D)(r:D)(ms:List Int),vs=.ref a::us/\vs.length=n/\H a=some (.lst (ns.map V.int))/\VRs ⟨K,H,N,[a]⟩ [some a] H us ds/\sem ns ds=some (r,ms) /\
 ∀v H',(∀b o,b≠a->H b=some o->H' b=some o)->H' a=some (.lst (ms.map V.int))->VR ⟨K,H,N,[a]⟩ [some a] H' v r->Q v H'
section
variable{P:Program}{w:World}{K:U0b}{mg:Str->Option Value}{base:Heap}
theorem Wa{N:List Str}{vs:List V}{ds:List D}{Γ:Fr}{μ:Mu}{H:Hp}(r:VRs Γ μ H vs ds){i:Nat}{d:D}{n:Nat}(h:(ds.map some++U05 n none:Env)[i]?=some (some d)):∃v,(vs.map some++U05 (N.length-vs.length) none:St)[i]?=some (some v)/\VR Γ μ H v d:=by
 have hi:i<ds.length:=by
  by_cases hi:i<ds.length
  .exact hi
  .rw[U2h (by simpa using hi),U46] at h
   split at h<;>cases h
 rw[U1d (by simpa using hi),U0v] at h
 have h2:ds[i]?=some d:=by
  cases q:ds[i]? with
  |none=>rw[q] at h;cases h
  |some e=>rw[q] at h;cases h;rfl
 obtain⟨v,e1,e2⟩:=r.get h2
 refine⟨v,?_,e2⟩
 rw[U1d (by rw[U0k,r.length];exact hi),U0v,e1]
 rfl
theorem JV{a:Addr}:¬Cz [] a:=fun z=>by simp[Cz] at z
theorem O9{a b:Addr}:Cz [some b] a↔a=b:=by simp[Cz]
theorem fnP{x qual:Str}{st:Stmt}{f:Addr}{fd:FuncData}{N ps:List Str}{k:Nat}{fs:BL}(F:Fun K x qual st f fd)(Sc:CP N ps (Al st))
  (hb:∀(cdv:Value)(A:Around)(outer:List PySem.Env)(s:Shared)(H:Hp)(E:XK),FW k (A.deeper (PyProof.Rows.envOfC qual (Al st) s.heap.objs.size f cdv))->JSs (Qz CX0 P w K mg base N qual (Al st) f cdv A outer s H E).nox (Bt st) fs) :
  Cv P w K mg base CX0 (k+1) f fd ps (spP K (FT ps.length N.length fs) ps.length):=by
 refine F.ok Sc (fun vs H Q E h=>?_) (fun cdv A outer s H vs Q E hr h=>?_)
 .obtain⟨_,_,_,hl,_⟩:=h;exact hl
 obtain⟨Nn,ds,r,hl,rs,e,q⟩:=h
 refine⟨_,(hb cdv A outer s H E hr).ps,?_⟩
 have hdl:=rs.length
 unfold FT at e
 rw[if_pos (by omega)] at e
 obtain⟨⟨fl,env',S'⟩,e1,e⟩:=bind_some e
 have hpl:ps.length<=N.length:=by have:=congrArg U5 Sc.pre;rw[U2t] at this;omega
 refine⟨⟨K,H,Nn,[]⟩,[],_,[],fl,env',S',rfl,⟨fun i d h=>Wa rs h,?_,fun i ds h=>by simp at h,fun i a h=>by simp at h,fun i j a h=>by simp at h,rfl,Ext.refl _ _,fun i a _ h=>by simp at h⟩,e1,fun μ' σ' H' x' R'=>?_⟩
 .unfold L2.start
  rw[U0u,U0k,U19,U0u,U0k,U19,hdl]
 have sm:Same H H':=fun b o hb=>(x'.keep b o hb JV).1
 dsimp only at e
 cases fl with
 |nx=>cases e;exact q _ H' sm .non
 |brk=>cases e
 |cnt=>cases e
 |ret d =>
  intro v rv
  refine q v H' sm (VR.den R' rfl (fun i ds a _ hs=>⟨hs,fun hm=>⟨JV,?_⟩⟩) (fun m a _ o=>o) (fun a o _ _=>JV) rv e)
  have hn:=R'.new i a (U3i _) hm
  exact⟨fun _=>hn,.inr hn⟩
theorem fnM{x qual:Str}{st:Stmt}{f:Addr}{fd:FuncData}{N ps:List Str}{k:Nat}{fs:BL}(F:Fun K x qual st f fd)(Sc:CP N ps (Al st))
  (hb:∀(cdv:Value)(A:Around)(outer:List PySem.Env)(s:Shared)(H:Hp)(E:XK),FW k (A.deeper (PyProof.Rows.envOfC qual (Al st) s.heap.objs.size f cdv))->JSs (Qz CX0 P w K mg base N qual (Al st) f cdv A outer s H E).nox (Bt st) fs) :
  Cv P w K mg base CX0 (k+1) f fd ps (spM K (runM ps.length N.length fs) ps.length):=by
 refine F.ok Sc (fun vs H Q E h=>?_) (fun cdv A outer s H vs Q E hr h=>?_)
 .obtain⟨_,_,_,_,_,_,_,_,hl,_⟩:=h;exact hl
 obtain⟨Nn,a,us,ns,ds,r,ms,rfl,hl,ha,rs,e,q⟩:=h
 refine⟨_,(hb cdv A outer s H E hr).ps,?_⟩
 have hdl:=rs.length
 rw[U0j] at hl
 unfold runM at e
 rw[if_pos (by omega)] at e
 obtain⟨⟨fl,env',S'⟩,e1,e⟩:=bind_some e
 have hpl:ps.length<=N.length:=by have:=congrArg U5 Sc.pre;rw[U2t] at this;omega
 refine⟨⟨K,H,Nn,[a]⟩,[some a],_,[some (ns.map D.int)],fl,env',S',rfl,⟨fun i d h=>?_,?_,fun i es h=>?_,fun i b h=>?_,fun i j b h1 h2=>?_,rfl,Ext.refl _ _,fun i b hi h=>?_⟩,e1,fun μ' σ' H' x' R'=>?_⟩
 .cases i with
  |zero =>
   simp at h
   subst h
   refine⟨.ref a,by simp[L2.start],.ref (by simp) fun b hb=>?_⟩
   simp at hb;rw[hb]
  |succ i =>
   rw[List.getElem?_cons_succ] at h
   obtain⟨v,e1,e2⟩:=Wa (N:=U05 (N.length-1) "") rs h
   refine⟨v,?_,e2⟩
   unfold L2.start
   rw[U0s,U2f,List.getElem?_cons_succ,U0j]
   rw[U19] at e1
   rw[show N.length-(us.length+1)=N.length-1-us.length by omega]
   exact e1
 .unfold L2.start
  rw[U0u,U0k,U19,U0j,U0j,U0u,U0k,U19,hdl]
  omega
 .cases i with
  |zero=>simp at h;subst h;exact⟨a,_,by simp,ha,VRs.ints ns⟩
  |succ i=>simp at h
 .cases i with
  |zero=>exact⟨_,rfl⟩
  |succ i=>simp at h
 .cases i with
  |zero=>cases j with
   |zero=>rfl
   |succ j=>simp at h2
  |succ i=>simp at h1
 .cases i with
  |zero=>simp at hi
  |succ i=>simp at h
 have sm:∀b o,b≠a->H b=some o->H' b=some o:=fun b o hb h=>(x'.keep b o h fun z=>hb (O9.mp z)).1
 dsimp only at e
 split at e
 .rename_i cs hc
  obtain⟨ms',e3,e5⟩:=bind_some e
  clear e
  obtain⟨a',xs',g1,g2,g3⟩:=R'.sto 0 cs hc
  have ea:a'=a:=by
   have:=x'.ids 0 a' (by simp) g1
   simp at this;exact this.symm
  subst ea
  have ec:=Gp e3
  subst ec
  have ex:=g3.Oq
  subst ex
  cases fl with
  |nx=>cases e5;exact q _ H' sm g2 .non
  |brk=>cases e5
  |cnt=>cases e5
  |ret d =>
   intro v rv
   dsimp only at e5
   obtain⟨r',e4,e6⟩:=map_some e5
   cases e6
   refine q v H' sm g2 (VR.den R' rfl (fun i es b hi hs=>⟨hs,fun hm=>⟨fun z=>?_,?_⟩⟩) (fun m b _ o=>o) (fun b o _ n z=>n ?_) rv e4)
   .have:b=a':=O9.mp z
    subst this
    have:=R'.inj 0 i b g1 hm
    omega
   .have hn:=R'.new i b hi hm
    exact⟨fun _=>hn,.inr hn⟩
   .have:b=a':=O9.mp z
    subst this
    exact U1h g1
 .cases e
end
theorem DX{np n:Nat}{f:BL}{ds:List D}{r:D}(h:FT np n f ds=some r):ds.length=np/\Bd r=true:=by
 unfold FT at h
 by_cases hl:ds.length=np
 .rw[if_pos hl] at h
  obtain⟨⟨fl,env',S'⟩,e1,e⟩:=bind_some h
  refine⟨hl,?_⟩
  dsimp only at e
  cases fl with
  |nx=>cases e;rfl
  |brk=>cases e
  |cnt=>cases e
  |ret d=>exact Tw e
 .rw[if_neg hl] at h;cases h
theorem Ln{np n:Nat}{f:BL}{ns:List Int}{ds:List D}{r:D×List Int}(h:runM np n f ns ds=some r):ds.length+1=np/\Bd r.1=true:=by
 unfold runM at h
 by_cases hl:ds.length+1=np
 .rw[if_pos hl] at h
  obtain⟨⟨fl,env',S'⟩,e1,e⟩:=bind_some h
  refine⟨hl,?_⟩
  dsimp only at e
  split at e
  .rename_i cs hc
   obtain⟨ms',e3,e⟩:=bind_some e
   cases fl with
   |nx=>cases e;rfl
   |brk=>cases e
   |cnt=>cases e
   |ret d =>
    dsimp only at e
    obtain⟨r',e4,e⟩:=map_some e
    cases e
    exact Tw e4
  .cases e
 .rw[if_neg hl] at h;cases h
end VS
end
section
namespace VS
open PySem PySem.Spec L2
structure Ca(P:Program)(w:World)(K:U0b)(mg:Str->Option Value)(base:Heap)(x:Str)(k:Nat)(sem:DP):Prop where
 cal:∃ps,Cal P w K mg base x k ps (spP K sem ps.length)/\∀ds r,sem ds=some r->ds.length=ps.length/\Bd r=true
structure Ie(P:Program)(w:World)(K:U0b)(mg:Str->Option Value)(base:Heap)(x:Str)(k:Nat)(sem:JM):Prop where
 cal:∃ps,Cal P w K mg base x k ps (spM K sem ps.length)/\∀ns ds r,sem ns ds=some r->ds.length+1=ps.length/\Bd r.1=true
def Bg(sem:DP)(a:BX):Ba:=fun env S=>(a env S).bind fun p=>(Cy 0 p.2 p.1).bind fun ds=>(sem (Bf ds)).bind fun r=>if (Aw p.1||newD r)=true then some (r,p.2) else none
def Az(sem:JM)(a:BX):Ba:=fun env S=>(a env S).bind fun p=>match p.1 with
 |.ref i::rest=>(match p.2[i]? with
  |some (some cs)=>(intsOf cs).bind fun ns=>(Cy 0 (p.2.set i none) rest).bind fun ds=>(sem ns (Bf ds)).bind fun r=>if (Aw rest||newD r.1)=true then some (r.1,p.2.set i (some (r.2.map D.int))) else none
  |_=>none)
 |_=>none
def Xp(n:Nat):List D->Option (List D×List D)
 |[]=>none
 |d::r=>if Dl d=true then (Xp n r).map fun p=>(d::p.1,p.2) else match d with
  |.lst true ds=>if (Ei ds&&Ei r)=true then some (.ref n::r,ds) else none
  |_=>none
def Nq(n:Nat):D->Option (D×List D)
 |.lst true ds=>if Ei ds=true then some (.ref n,ds) else none
 |.tup es=>(Xp n es).map fun p=>(.tup p.1,p.2)
 |_=>none
def RJ(sem:DP)(a:BX):Ba:=fun env S=>(Bg sem a env S).bind fun p=>(Nq p.2.length p.1).bind fun q=>some (q.1,p.2++[some q.2])
def RK(sem:JM)(a:BX):Ba:=fun env S=>(Az sem a env S).bind fun p=>(Nq p.2.length p.1).bind fun q=>some (q.1,p.2++[some q.2])
section
variable{Γ:Fr}{μ:Mu}{σ:St}{H H':Hp}{env:Env}{S:Store}
theorem lend{K:U0b}(hK:Γ.K=K)(R:Rep Γ μ σ H env S){S0:Store}{m0:List Addr}{vs:List V}{ds es:List D}(r:VRs Γ μ H vs ds)(e:Cy 0 S0 ds=some es)(h0:∀(i:Nat)(ds:List D)(a:Addr),S0[i]?=some (some ds)->S[i]?=some (some ds)/\(μ[i]?=some (some a)->¬Cz (m0.map some) a))(hm:∀a∈m0,Cz μ a)
  (c:Bool) (hc:(Aw ds||c)=true):∃N:Addr->Prop,VRs ⟨K,H,N,m0⟩ (m0.map some) H vs (Bf es)/\(c=true∨∀a,N a->¬Cz μ a/\(Γ.N a∨Γ.H0 a=none)):=by
 subst hK
 have hl:∀a o,H a=some o->¬Cz μ a->¬Cz (m0.map some) a:=fun a o _ n z=>n (hm a (by simpa [Cz] using z))
 by_cases hp:Aw ds=true
 .rw[Cw 0 S0 hp] at e
  cases e
  exact⟨fun a=>¬Cz μ a/\(Γ.N a∨Γ.H0 a=none),VRs.age (Γ:=Γ) (Γ':=⟨Γ.K,H,fun a=>¬Cz μ a/\(Γ.N a∨Γ.H0 a=none),m0⟩) rfl (fun a n o=>⟨n,o⟩) hl hp r,.inr fun a z=>z⟩
 .have hc':c=true:=by simpa [hp] using hc
  refine⟨fun _=>True,?_,.inl hc'⟩
  have r1:VRs ⟨Γ.K,fun _=>none,fun _=>True,m0⟩ (m0.map some) H vs es:=VRs.den (Γ':=⟨Γ.K,fun _=>none,fun _=>True,m0⟩) R rfl (fun i ds a _ hs=>⟨(h0 i ds a hs).1,fun z=>⟨(h0 i ds a hs).2 z,⟨fun _=>rfl,.inl trivial⟩⟩⟩) (fun m a _ _=>⟨fun _=>rfl,.inl trivial⟩) hl r e
  exact VRs.age (Γ:=⟨Γ.K,fun _=>none,fun _=>True,m0⟩) (Γ':=⟨Γ.K,H,fun _=>True,m0⟩) (μ:=m0.map some) rfl (fun a _ _=>trivial) (fun a o _ n=>n) (PK e) r1
theorem home{K:U0b}(hK:Γ.K=K)(R:Rep Γ μ σ H env S){N:Addr->Prop}{m0:List Addr}{v:V}{r:D}(lv:∀a,Cz μ a->∃xs,H' a=some (.lst xs))(hp:Bd r=true)(c:newD r=true∨∀a,N a->¬Cz μ a/\(Γ.N a∨Γ.H0 a=none))
  (rv:VR ⟨K,H,N,m0⟩ (m0.map some) H' v r):VR Γ μ H' v r:=by
 subst hK
 rcases c with c|c
 .exact VR.new (fun a xs n o hb=>⟨R.ok (o.1 rfl) true,R.dead (o.1 rfl)⟩) c rv
 .refine VR.pure (Γ:=⟨Γ.K,H,N,m0⟩) (Γ':=Γ) rfl (fun m a xs n o hb=>?_) (fun a o hb n hx z=>?_) hp rv
  .rcases o.2 with z|z
   .refine⟨⟨fun hm=>R.fresh (o.1 hm),(c a z).2⟩,(c a z).1⟩
   .exact⟨R.ok z m,R.dead z⟩
  .obtain⟨xs,q⟩:=lv a z
   rw[q] at hb
   exact hx xs (U06 hb).symm
theorem Rep.adopt(R:Rep Γ μ σ H env S)(sm:Same H H'){a:Addr}{xs:List V}{ds:List D}(hn:H a=none)(ha:H' a=some (.lst xs))(hf:Ei ds=true){Γ':Fr}{μ':Mu}(rs:VRs Γ' μ' H' xs ds) :
  Rep Γ (μ++[some a]) σ H' env (S++[some ds])/\Ext μ H (μ++[some a]) H':=by
 have ne:∀b o,H b=some o->b≠a:=fun b o h z=>by rw[z,hn] at h;cases h
 have x:Ext μ H (μ++[some a]) H':=by
  refine⟨fun b o h n=>⟨sm b o h,fun z=>?_⟩,fun b ys h=>sm b _ h,fun b h=>sm.free h,fun i b hi h=>?_,by rw[U0u];omega⟩
  .rcases U12.mp z with z|z
   .exact n z
   .have z':b=a:=by simpa using z
    exact ne b o h z'
  .rw[U1d hi] at h;exact h
 have idx:∀i b,(μ++[some a])[i]?=some (some b)->(i<μ.length/\μ[i]?=some (some b))∨(i=μ.length/\b=a):=fun i b h=>by
  by_cases hi:i<μ.length
  .rw[U1d hi] at h;exact .inl ⟨hi,h⟩
  .rw[U2h (by omega)] at h
   have hl:=(U0i.mp h).1
   have hi':i=μ.length:=by simp at hl;omega
   subst hi'
   simp at h
   exact .inr ⟨rfl,h.symm⟩
 have no:∀i,μ[i]?=some (some a)->False:=fun i h=>R.dead hn (U1h h)
 refine⟨⟨fun i d h=>?_,R.len,fun i es h=>?_,fun i b h=>?_,fun i j b h1 h2=>?_,by rw[U0u,U0u,R.slen];rfl,R.ent.trans x,fun i b hi h=>?_⟩,x⟩
 .obtain⟨v,h1,h2⟩:=R.vals i d h
  exact⟨v,h1,h2.ext x⟩
 .by_cases hi:i<S.length
  .rw[U1d hi] at h
   obtain⟨b,ys,h1,h2,h3⟩:=R.sto i es h
   exact⟨b,ys,by rw[U1d (by rw[←R.slen];exact hi)];exact h1,sm _ _ h2,h3.ext x⟩
  .rw[U2h (by omega)] at h
   have hl:=(U0i.mp h).1
   have hi':i=S.length:=by simp at hl;omega
   subst hi'
   simp at h
   subst h
   exact⟨a,xs,by rw[R.slen];simp,ha,VRs.flat hf rs⟩
 .rcases idx i b h with ⟨hi,h⟩|⟨rfl,rfl⟩
  .obtain⟨ds',q⟩:=R.liv i b h
   exact⟨ds',by rw[U1d (by rw[R.slen];exact hi)];exact q⟩
  .exact⟨ds,by rw[←R.slen];simp⟩
 .rcases idx i b h1 with ⟨_,g1⟩|⟨e1,e2⟩
  .rcases idx j b h2 with ⟨_,g2⟩|⟨e3,e4⟩
   .exact R.inj i j b g1 g2
   .exact(no i (e4 ▸ g1)).elim
  .rcases idx j b h2 with ⟨_,g2⟩|⟨e3,_⟩
   .exact(no j (e2 ▸ g2)).elim
   .rw[e1,e3]
 .rcases idx i b h with ⟨_,h⟩|⟨rfl,rfl⟩
  .exact R.new i b hi h
  .exact R.fresh hn
end
theorem Yo{Γ:Fr}{μ:Mu}{H:Hp}{n:Nat}:∀{vs:List V} {ds:List D} {p:List D×List D},Xp n ds=some p->VRs Γ μ H vs ds ->
  ∃a xs,Γ.Ok true a/\H a=some (.lst xs)/\VRs Γ μ H xs p.2/\Ei p.2=true/\∀(Γ':Fr)(μ':Mu),μ'[n]?=some (some a)->VRs Γ' μ' H vs p.1
 |_,[],_,h,_=>by cases h
 |_,d::r,p,h,.cons (xs:=vr) rd rr=>by
  unfold Xp at h
  by_cases hf:Dl d=true
  .rw[if_pos hf] at h
   obtain⟨q,e1,e2⟩:=map_some h
   subst e2
   obtain⟨a,xs,h1,h2,h3,h4,h5⟩:=Yo e1 rr
   exact⟨a,xs,h1,h2,h3,h4,fun Γ' μ' z=>.cons (VR.flat hf rd) (h5 Γ' μ' z)⟩
  .rw[if_neg hf] at h
   split at h
   .rename_i ds
    by_cases hg:(Ei ds&&Ei r)=true
    .rw[if_pos hg] at h
     cases h
     rw[U1e] at hg
     cases rd with
     |@lst _ a xs _ o nl hb t =>
      refine⟨a,xs,o,hb,t,hg.1,fun Γ' μ' z=>.cons (.ref (U0i.mp z).1 fun b hb'=>?_) (VRs.flat hg.2 rr)⟩
      rw[z] at hb';cases hb';rfl
    .rw[if_neg hg] at h;cases h
   .cases h
theorem bD{Γ:Fr}{μ:Mu}{H:Hp}{n:Nat}{v:V}{d:D}{p:D×List D}(h:Nq n d=some p)(r:VR Γ μ H v d) :
  ∃a xs,Γ.Ok true a/\H a=some (.lst xs)/\VRs Γ μ H xs p.2/\Ei p.2=true/\∀(Γ':Fr)(μ':Mu),μ'[n]?=some (some a)->VR Γ' μ' H v p.1:=by
 unfold Nq at h
 split at h
 .rename_i ds
  by_cases hg:Ei ds=true
  .rw[if_pos hg] at h
   cases h
   cases r with
   |@lst _ a xs _ o nl hb t =>
    refine⟨a,xs,o,hb,t,hg,fun Γ' μ' z=>.ref (U0i.mp z).1 fun b hb'=>?_⟩
    rw[z] at hb';cases hb';rfl
  .rw[if_neg hg] at h;cases h
 .rename_i es
  obtain⟨q,e1,e2⟩:=map_some h
  subst e2
  cases r with
  |@tup b xs _ hb t =>
   obtain⟨a,ys,h1,h2,h3,h4,h5⟩:=Yo e1 t
   exact⟨a,ys,h1,h2,h3,h4,fun Γ' μ' z=>.tup hb (h5 Γ' μ' z)⟩
 .cases h
section
variable{X:Cx}{x:Str}{k k':Nat}{e:Expr}{es:List Expr}{f:BX}{p pos:Pos}
theorem CT{sem:DP}(c:Ca X.prog X.w X.K X.mg X.base x k sem)(hr:FW k' X.A)(hk:k<=k')(hg:Gl X x)(ha:JA X (e::es) f)
  (hdb:(x==("__debug__":Str))=false:=by decide) (he:starEach (e::es) X.env=(false,eval e X.env)::starEach es X.env:=by rfl) (hpl:(backTo pos (starEach es X.env)).any (·.1)=false:=by rfl) :
  JE X (.Call (.Name x p) (e::es) [] pos) (Bg sem f):=by
 obtain⟨ps,c,hok⟩:=c.cal
 refine⟨PE.imp (QV c hr hk hg ha.pa hdb he hpl) fun σ H Q h=>?_⟩
 obtain⟨Γ,μ,env,S,d,S',hK,R,e,q⟩:=h
 obtain⟨⟨as,S1⟩,e1,e⟩:=bind_some e
 obtain⟨ds,e2,e⟩:=bind_some e
 obtain⟨r,e3,e⟩:=bind_some e
 refine⟨Γ,μ,env,S,as,S1,hK,R,e1,fun vs μ1 H1 x1 R1 r1=>?_⟩
 show spP X.K sem ps.length (vs++[]) H1 Q E0
 rw[U27]
 dsimp only at e e2
 by_cases hc:(Aw as||newD r)=true
 .rw[if_pos hc] at e
  cases e
  obtain⟨hl,hp⟩:=hok _ _ e3
  obtain⟨N,rs,cN⟩:=lend hK R1 (m0:=[]) r1 e2 (fun i ds a hs=>⟨hs,fun _=>JV⟩) (fun a z=>by simp at z) (newD d) hc
  refine⟨N,_,d,?_,rs,e3,fun v H' sm rv=>?_⟩
  .rw[rs.length,hl]
  obtain⟨R2,x2⟩:=R1.grow sm
  exact q v μ1 H' (x1.trans x2) R2 (home hK R1 (fun a z=>R2.live z) hp cN rv)
 .rw[if_neg hc] at e;cases e
theorem mX{sem:DP}(c:Ca X.prog X.w X.K X.mg X.base x k sem)(hr:FW k' X.A)(hk:k<=k')(hg:Gl X x)(ha:JA X (e::es) f)
  (hdb:(x==("__debug__":Str))=false:=by decide) (he:starEach (e::es) X.env=(false,eval e X.env)::starEach es X.env:=by rfl) (hpl:(backTo pos (starEach es X.env)).any (·.1)=false:=by rfl) :
  JE X (.Call (.Name x p) (e::es) [] pos) (RJ sem f):=by
 obtain⟨ps,c,hok⟩:=c.cal
 refine⟨PE.imp (QV c hr hk hg ha.pa hdb he hpl) fun σ H Q h=>?_⟩
 obtain⟨Γ,μ,env,S,d,S',hK,R,e,q⟩:=h
 obtain⟨⟨d0,S0⟩,e0,e⟩:=bind_some e
 obtain⟨t,et,e⟩:=bind_some e
 cases e
 obtain⟨⟨as,S1⟩,e1,e⟩:=bind_some e0
 obtain⟨ds,e2,e⟩:=bind_some e
 obtain⟨r,e3,e⟩:=bind_some e
 refine⟨Γ,μ,env,S,as,S1,hK,R,e1,fun vs μ1 H1 x1 R1 r1=>?_⟩
 show spP X.K sem ps.length (vs++[]) H1 Q E0
 rw[U27]
 dsimp only at e e2
 by_cases hc:(Aw as||newD r)=true
 .rw[if_pos hc] at e
  cases e
  obtain⟨hl,hp⟩:=hok _ _ e3
  obtain⟨N,rs,cN⟩:=lend hK R1 (m0:=[]) r1 e2 (fun i ds a hs=>⟨hs,fun _=>JV⟩) (fun a z=>by simp at z) (newD d0) hc
  refine⟨N,_,d0,?_,rs,e3,fun v H' sm rv=>?_⟩
  .rw[rs.length,hl]
  obtain⟨a,xs,h1,h2,h3,h4,h5⟩:=bD et rv
  obtain⟨R2,x2⟩:=R1.adopt sm (h1.1 rfl) h2 h4 h3
  exact q v _ H' (x1.trans x2) R2 (h5 _ _ (by rw[R1.slen];simp))
 .rw[if_neg hc] at e;cases e
theorem Cd{sem:JM}(c:Ie X.prog X.w X.K X.mg X.base x k sem)(hr:FW k' X.A)(hk:k<=k')(hg:Gl X x)(ha:JA X (e::es) f)
  (hdb:(x==("__debug__":Str))=false:=by decide) (he:starEach (e::es) X.env=(false,eval e X.env)::starEach es X.env:=by rfl) (hpl:(backTo pos (starEach es X.env)).any (·.1)=false:=by rfl) :
  JE X (.Call (.Name x p) (e::es) [] pos) (Az sem f):=by
 obtain⟨ps,c,hok⟩:=c.cal
 refine⟨PE.imp (QV c hr hk hg ha.pa hdb he hpl) fun σ H Q h=>?_⟩
 obtain⟨Γ,μ,env,S,d,S',hK,R,e,q⟩:=h
 obtain⟨⟨as,S1⟩,e1,e⟩:=bind_some e
 refine⟨Γ,μ,env,S,as,S1,hK,R,e1,fun vs μ1 H1 x1 R1 r1=>?_⟩
 show spM X.K sem ps.length (vs++[]) H1 Q E0
 rw[U27]
 dsimp only at e
 split at e
 .rename_i i rest
  split at e
  .rename_i cs hcs
   obtain⟨ns,e4,e⟩:=bind_some e
   obtain⟨ds,e2,e⟩:=bind_some e
   obtain⟨⟨r,ms⟩,e3,e⟩:=bind_some e
   dsimp only at e
   by_cases hc:(Aw rest||newD r)=true
   .rw[if_pos hc] at e
    cases e
    obtain⟨hl,hp⟩:=hok _ _ _ e3
    have ecs:=Gp e4
    subst ecs
    cases r1 with
    |@cons v0 _ us _ r0 rr =>
     obtain⟨a,xs,rfl,h1,h2,h3⟩:=VR.TX R1 r0 hcs
     have ex:=h3.Oq
     subst ex
     have hi:i<S1.length:=(U0i.mp hcs).1
     obtain⟨N,rs,cN⟩:=lend hK R1 (S0:=S1.set i none) (m0:=[a]) rr e2 (fun j es b hs=>by
      have hj:i≠j:=fun z=>by
       subst z
       rw[U2m hi] at hs;cases hs
      rw[U21 hj] at hs
      exact⟨hs,fun hm z=>hj (R1.inj i j a h1 (by rw[show a=b from (O9.mp z).symm];exact hm))⟩) (fun b z=>by
       have:b=a:=by simpa using z
       rw[this];exact U1h h1) (newD d) hc
     refine⟨N,a,us,ns,_,d,ms,rfl,?_,h2,rs,e3,fun v H' sm ha' rv=>?_⟩
     .rw[U0j,rs.length,hl]
     obtain⟨R2,x2⟩:=R1.put h1 (VRs.ints ms)
     have sm2:Same (upd H1 a (.lst (ms.map V.int))) H':=fun b o hb=>by
      by_cases z:b=a
      .rw[z,CK] at hb;cases hb;rw[z];exact ha'
      .rw[Bm z] at hb;exact sm b o z hb
     obtain⟨R3,x3⟩:=R2.grow sm2
     exact q v μ1 H' (x1.trans (x2.trans x3)) R3 (home hK R1 (fun a z=>R3.live z) hp cN rv)
   .rw[if_neg hc] at e;cases e
  .cases e
 .cases e
theorem mY{sem:JM}(c:Ie X.prog X.w X.K X.mg X.base x k sem)(hr:FW k' X.A)(hk:k<=k')(hg:Gl X x)(ha:JA X (e::es) f)
  (hdb:(x==("__debug__":Str))=false:=by decide) (he:starEach (e::es) X.env=(false,eval e X.env)::starEach es X.env:=by rfl) (hpl:(backTo pos (starEach es X.env)).any (·.1)=false:=by rfl) :
  JE X (.Call (.Name x p) (e::es) [] pos) (RK sem f):=by
 obtain⟨ps,c,hok⟩:=c.cal
 refine⟨PE.imp (QV c hr hk hg ha.pa hdb he hpl) fun σ H Q h=>?_⟩
 obtain⟨Γ,μ,env,S,d,S',hK,R,e,q⟩:=h
 obtain⟨⟨d0,S0⟩,e0,e⟩:=bind_some e
 obtain⟨t,et,e⟩:=bind_some e
 cases e
 obtain⟨⟨as,S1⟩,e1,e⟩:=bind_some e0
 refine⟨Γ,μ,env,S,as,S1,hK,R,e1,fun vs μ1 H1 x1 R1 r1=>?_⟩
 show spM X.K sem ps.length (vs++[]) H1 Q E0
 rw[U27]
 dsimp only at e
 split at e
 .rename_i i rest
  split at e
  .rename_i cs hcs
   obtain⟨ns,e4,e⟩:=bind_some e
   obtain⟨ds,e2,e⟩:=bind_some e
   obtain⟨⟨r,ms⟩,e3,e⟩:=bind_some e
   dsimp only at e
   by_cases hc:(Aw rest||newD r)=true
   .rw[if_pos hc] at e
    cases e
    obtain⟨hl,hp⟩:=hok _ _ _ e3
    have ecs:=Gp e4
    subst ecs
    cases r1 with
    |@cons v0 _ us _ r0 rr =>
     obtain⟨a,xs,rfl,h1,h2,h3⟩:=VR.TX R1 r0 hcs
     have ex:=h3.Oq
     subst ex
     have hi:i<S1.length:=(U0i.mp hcs).1
     obtain⟨N,rs,cN⟩:=lend hK R1 (S0:=S1.set i none) (m0:=[a]) rr e2 (fun j es b hs=>by
      have hj:i≠j:=fun z=>by
       subst z
       rw[U2m hi] at hs;cases hs
      rw[U21 hj] at hs
      exact⟨hs,fun hm z=>hj (R1.inj i j a h1 (by rw[show a=b from (O9.mp z).symm];exact hm))⟩) (fun b z=>by
       have:b=a:=by simpa using z
       rw[this];exact U1h h1) (newD d0) hc
     refine⟨N,a,us,ns,_,d0,ms,rfl,?_,h2,rs,e3,fun v H' sm ha' rv=>?_⟩
     .rw[U0j,rs.length,hl]
     obtain⟨R2,x2⟩:=R1.put h1 (VRs.ints ms)
     have sm2:Same (upd H1 a (.lst (ms.map V.int))) H':=fun b o hb=>by
      by_cases z:b=a
      .rw[z,CK] at hb;cases hb;rw[z];exact ha'
      .rw[Bm z] at hb;exact sm b o z hb
     obtain⟨b,ys,g1,g2,g3,g4,g5⟩:=bD et rv
     have hb:upd H1 a (.lst (ms.map V.int)) b=none:=by
      have hn:H1 b=none:=g1.1 rfl
      rw[Bm (fun z=>by rw[z,h2] at hn;cases hn)];exact hn
     obtain⟨R3,x3⟩:=R2.adopt sm2 hb g2 g4 g3
     exact q v _ H' (x1.trans (x2.trans x3)) R3 (g5 _ _ (by rw[U31,R1.slen];simp))
   .rw[if_neg hc] at e;cases e
  .cases e
 .cases e
end
end VS
end
section
namespace VS
open PySem PySem.Spec L2
theorem OpR.or{X:Cx}{f:Value->Value->Sem Value}{r r':R2}(h:OpR X f r)(h':OpR X f r'):OpR X f (fun x y H Q=>r x y H Q∨r' x y H Q):=fun pins s σ H x y v u Q I rx ry q=>q.elim (fun z=>h pins s σ H x y v u Q I rx ry z) fun z=>h' pins s σ H x y v u Q I rx ry z
theorem Dc.or{X:Cx}{f:Value}{r r':List V->Hp->VK->Prop}(h:Dc X f r)(h':Dc X f r'):Dc X f (fun xs H Q=>r xs H Q∨r' xs H Q):=fun pins s σ H xs us Q I rs q=>q.elim (fun z=>h pins s σ H xs us Q I rs z) fun z=>h' pins s σ H xs us Q I rs z
def oI(c:Int->Int->Bool)(g:Int->Int->D)(_:Store):D->D->Option D
 |.int i,.int j=>if c i j=true then some (g i j) else none
 |_,_=>none
def HN(_ _:Int):Bool:=true
theorem Xq{K:U0b}{C:Int->Int->Prop}{c:Int->Int->Bool}(g:Int->Int->Int)(hc:∀i j,c i j=true->C i j):Fv K (rI C fun i j=>.int (g i j)) (oI c fun i j=>.int (g i j)):=by
 intro Γ μ σ H env S x y dx dy d hK R rx ry e Q q
 unfold oI at e
 split at e
 .rename_i i j
  by_cases h:c i j=true
  .rw[if_pos h] at e;cases e;cases rx;cases ry
   exact⟨i,j,rfl,rfl,hc i j h,q _ H (Same.refl H) (.int _)⟩
  .rw[if_neg h] at e;cases e
 .cases e
theorem vC{K:U0b}(g:Int->Int->Int):Fv K (rI0 fun i j=>.int (g i j)) (oI HN fun i j=>.int (g i j)):=by
 intro Γ μ σ H env S x y dx dy d hK R rx ry e Q q
 unfold oI at e
 split at e
 .rename_i i j
  rw[if_pos (show HN i j=true from rfl)] at e;cases e;cases rx;cases ry
  exact⟨i,j,rfl,rfl,q _ H (Same.refl H) (.int _)⟩
 .cases e
theorem Um{K:U0b}(g:Int->Int->Bool):Fv K (rI0 fun i j=>.bl (g i j)) (oI HN fun i j=>.bl (g i j)):=by
 intro Γ μ σ H env S x y dx dy d hK R rx ry e Q q
 unfold oI at e
 split at e
 .rename_i i j
  rw[if_pos (show HN i j=true from rfl)] at e;cases e;cases rx;cases ry
  exact⟨i,j,rfl,rfl,q _ H (Same.refl H) (.bl _)⟩
 .cases e
def Dk:=oI HN fun i j=>.int (i-j)
def R0(i j:Int):Bool:=(decide (-(2^64)<i)&&decide (i<2^64))||(decide (-(2^64)<j)&&decide (j<2^64))
def Te(_ j:Int):Bool:=decide (0<j)&&decide (j<2^64)
def R6(_ j:Int):Bool:=decide (0<j)
def Li(i j:Int):Bool:=decide (0<=j)&&decide (j<=1000000)&&decide (i.natAbs<2^64)
def oDiv:=oI Te fun i j=>.int (i/j)
def oMod:=oI R6 fun i j=>.int (i%j)
def Ea:=oI Li fun i j=>.int (i^j.toNat)
def oLt:=oI HN fun i j=>.bl (decide (i<j))
def oLe:=oI HN fun i j=>.bl (decide (i<=j))
def oGt:=oI HN fun i j=>.bl (decide (j<i))
def oGe:=oI HN fun i j=>.bl (decide (j<=i))
theorem Fw{K:U0b}:Fv K (rI0 fun i j=>.int (i-j)) Dk:=vC _
theorem QB{K:U0b}:Fv K (rI (fun _ j=>0<j/\j<2^64) fun i j=>.int (i/j)) oDiv:=Xq _ fun i j h=>by simpa [Te] using h
theorem Jh{K:U0b}:Fv K (rI (fun _ j=>0<j) fun i j=>.int (i%j)) oMod:=Xq _ fun i j h=>by simpa [R6] using h
theorem Ga{K:U0b}:Fv K (rI jh fun i j=>.int (i^j.toNat)) Ea:=Xq _ fun i j h=>by simpa [Li,jh,and_assoc] using h
theorem YJ{K:U0b}:Fv K (rI0 fun i j=>.bl (decide (i<j))) oLt:=Um _
theorem uz{K:U0b}:Fv K (rI0 fun i j=>.bl (decide (i<=j))) oLe:=Um _
theorem R9{K:U0b}:Fv K (rI0 fun i j=>.bl (decide (j<i))) oGt:=Um _
theorem fK{K:U0b}:Fv K (rI0 fun i j=>.bl (decide (j<=i))) oGe:=Um _
def Nr(_:Store):D->Option D
 |.int i=>some (.int (-i))
 |_=>none
theorem Rx{K:U0b}:ug K (rU fun i=>.int (-i)) Nr:=by
 intro Γ μ σ H env S x dx d hK R rx e Q q
 unfold Nr at e
 split at e
 .cases e;cases rx;exact⟨_,rfl,q _ H (Same.refl H) (.int _)⟩
 .cases e
def Cm(S:Store):D->D->Option D
 |.int i,.int j=>some (.int (i+j))
 |.tup a,.tup b=>if a.length+b.length<=1000000 then some (.tup (a++b)) else none
 |.str x,.str y=>if x.length+y.length<=1000000 then some (.str (x++y)) else none
 |x,y=>(listOf S x).bind fun a=>(listOf S y).bind fun b=>if a.length+b.length<=1000000 then some (.lst true (a++b)) else none
def oF:R2:=fun x y H Q=>∃(a b:Addr)(xs ys:List V),x=.ref a/\y=.ref b/\H a=some (.tup xs)/\H b=some (.tup ys)/\xs.length+ys.length<=sizeLine/\∀p H',Same H H'->H' p=some (.tup (xs++ys))->Q (.ref p) H'
def yS:R2:=fun x y H Q=>∃i j,x=.str i/\y=.str j/\i.length+j.length<=sizeLine/\Q (.str (i++j)) H
def oG:R2:=fun x y H Q=>(rI0 fun i j=>.int (i+j)) x y H Q∨oF x y H Q∨yS x y H Q∨uX x y H Q
theorem DY{X:Cx}:OpR X (binaryOp .Add) oG:=OpR.or vo (OpR.or qg (OpR.or dZ vm))
theorem DW{K:U0b}:Fv K oG Cm:=by
 intro Γ μ σ H env S x y dx dy d hK R rx ry e Q q
 unfold Cm at e
 split at e
 .cases e;cases rx;cases ry;exact .inl ⟨_,_,rfl,rfl,q _ H (Same.refl H) (.int _)⟩
 .rename_i a b
  by_cases h:a.length+b.length<=1000000
  .rw[if_pos h] at e;cases e
   cases rx with
   |@tup p xs _ hp rp =>
    cases ry with
    |@tup p2 ys _ hp2 rp2 =>
     refine .inr (.inl ⟨p,p2,xs,ys,rfl,rfl,hp,hp2,by rw[rp.length,rp2.length];exact U2u (big h),fun t H' sm ht=>?_⟩)
     obtain⟨R2,x2⟩:=R.grow sm
     exact q _ H' sm (.tup ht ((rp.append rp2).ext x2))
  .rw[if_neg h] at e;cases e
 .rename_i a b
  by_cases h:a.length+b.length<=1000000
  .rw[if_pos h] at e;cases e;cases rx;cases ry
   exact .inr (.inr (.inl ⟨_,_,rfl,rfl,U2u (big h),q _ H (Same.refl H) (.str _)⟩))
  .rw[if_neg h] at e;cases e
 .obtain⟨a,e1,e⟩:=bind_some e
  obtain⟨b,e2,e⟩:=bind_some e
  by_cases h:a.length+b.length<=1000000
  .rw[if_pos h] at e;cases e
   obtain⟨p,xs,rfl,hp,rp⟩:=VR.list R rx e1
   obtain⟨p2,ys,rfl,hp2,rp2⟩:=VR.list R ry e2
   refine .inr (.inr (.inr ⟨p,p2,xs,ys,rfl,rfl,hp,hp2,by rw[rp.length,rp2.length];exact U2u (big h),fun t ht=>?_⟩))
   obtain⟨R2,x2⟩:=R.grow (Cp ht (.lst (xs++ys)))
   exact q _ _ (Cp ht _) (.lst (R.ok ht true) (R.dead ht) CK ((rp.append rp2).ext x2))
  .rw[if_neg h] at e;cases e
def Hw(S:Store):D->D->Option D
 |.int i,.int j=>if R0 i j=true then some (.int (i*j)) else none
 |.tup a,.int k=>if a≠[]/\1<=k/\k<2^60/\a.length*k.toNat<=1000000 then some (.tup (U05 k.toNat a).flatten) else none
 |x,.int k=>(listOf S x).bind fun a=>if -(2^63)<=k/\k<2^63/\a.length*k.toNat<=1000000 then some (.lst true (U05 k.toNat a).flatten) else none
 |_,_=>none
def oE:R2:=fun x y H Q=>(rI YD fun i j=>.int (i*j)) x y H Q∨oA x y H Q∨uQ x y H Q
theorem Ji{X:Cx}:OpR X (binaryOp .Mult) oE:=OpR.or vg (OpR.or qb vd)
theorem Jg{K:U0b}:Fv K oE Hw:=by
 intro Γ μ σ H env S x y dx dy d hK R rx ry e Q q
 unfold Hw at e
 split at e
 .rename_i i j
  by_cases h:R0 i j=true
  .rw[if_pos h] at e;cases e;cases rx;cases ry
   exact .inl ⟨_,_,rfl,rfl,by simpa [R0,YD] using h,q _ H (Same.refl H) (.int _)⟩
  .rw[if_neg h] at e;cases e
 .rename_i a k
  by_cases h:a≠[]/\1<=k/\k<2^60/\a.length*k.toNat<=1000000
  .rw[if_pos h] at e;cases e
   cases ry
   cases rx with
   |@tup p xs _ hp rp =>
    have hl:=rp.length
    refine .inr (.inl ⟨p,k,xs,rfl,rfl,hp,fun z=>h.1 (U38.mp (by rw[←hl,z];rfl)),h.2.1,h.2.2.1,by rw[hl];exact U2u (big h.2.2.2),fun t H' sm ht=>?_⟩)
    obtain⟨R2,x2⟩:=R.grow sm
    exact q _ H' sm (.tup ht ((rp.rep _).ext x2))
  .rw[if_neg h] at e;cases e
 .rename_i k _ _
  obtain⟨a,e1,e⟩:=bind_some e
  by_cases h:-(2^63)<=k/\k<2^63/\a.length*k.toNat<=1000000
  .rw[if_pos h] at e;cases e
   cases ry
   obtain⟨p,xs,rfl,hp,rp⟩:=VR.list R rx e1
   refine .inr (.inr ⟨p,k,xs,rfl,rfl,hp,h.1,h.2.1,by rw[rp.length];exact U2u (big h.2.2),fun t ht=>?_⟩)
   obtain⟨R2,x2⟩:=R.grow (Cp ht (.lst (U05 k.toNat xs).flatten))
   exact q _ _ (Cp ht _) (.lst (R.ok ht true) (R.dead ht) CK ((rp.rep _).ext x2))
  .rw[if_neg h] at e;cases e
 .cases e
def oIx(S:Store):D->D->Option D
 |x,.int i=>(Bx S x).bind fun ds=>atI ds i
 |_,_=>none
theorem tD{Γ:Fr}{μ:Mu}{H:Hp}{xs:List V}{ds:List D}{i:Int}{d:D}(r:VRs Γ μ H xs ds)(h:atI ds i=some d):∃x,atI xs i=some x/\VR Γ μ H x d:=by
 unfold atI at h ⊢
 obtain⟨j,e1,e2⟩:=bind_some h
 obtain⟨x,f1,f2⟩:=r.get e2
 exact⟨x,by rw[r.length,e1];exact f1,f2⟩
theorem Bj{K:U0b}:Fv K (rIx K) oIx:=by
 intro Γ μ σ H env S x y dx dy d hK R rx ry e Q q
 unfold oIx at e
 split at e
 .rename_i i
  obtain⟨ds,e1,e⟩:=bind_some e
  cases ry
  obtain⟨a,xs,rfl,hq,rs⟩:=VR.seq hK R rx e1
  obtain⟨v,f1,f2⟩:=tD rs e
  rcases hq with hq|hq
  .exact .inl ⟨a,xs,i,v,rfl,rfl,hq,f1,q _ H (Same.refl H) f2⟩
  .exact .inr (.inl ⟨a,xs,i,v,rfl,rfl,hq,f1,q _ H (Same.refl H) f2⟩)
 .cases e
def cut(xs:List D)(lo hi:Option Int):List D:=(xs.drop (HT.sIx xs.length 0 lo)).take (HT.sIx xs.length xs.length hi-HT.sIx xs.length 0 lo)
def oSl(S:Store)(x:D)(lo hi:Option Int):Option D:=match x with
 |.tup ds=>some (.tup (cut ds lo hi))
 |x=>(Bx S x).map fun ds=>.lst true (cut ds lo hi)
def uO:V->Option Int->Option Int->Hp->VK->Prop:=fun x lo hi H Q=>∃(a:Addr)(xs:List V),x=.ref a/\H a=some (.tup xs)/\∀p H',Same H H'->H' p=some (.tup (Kv xs lo hi))->Q (.ref p) H'
def uP(K:U0b):V->Option Int->Option Int->Hp->VK->Prop:=fun x lo hi H Q=>uO x lo hi H Q∨uN K x lo hi H Q
theorem YG{X:Cx}:SlR X (uP X.K):=SlR.or pP pQ
theorem YH{K:U0b}:oO K (uP K) oSl:=by
 intro Γ μ σ H env S x dx d l h hK R rx e Q q
 have key:∀{xs:List V} {ds:List D} {H':Hp},VRs Γ μ H' xs ds->VRs Γ μ H' (Kv xs l h) (cut ds l h):=fun r=>by
  unfold Kv cut
  rw[r.length]
  exact(r.drop _).take _
 unfold oSl at e
 split at e
 .cases e
  cases rx with
  |@tup p xs _ hp rp =>
   refine .inl ⟨p,xs,rfl,hp,fun t H' sm ht=>?_⟩
   obtain⟨R2,x2⟩:=R.grow sm
   exact q _ H' sm (.tup ht (key (rp.ext x2)))
 .rename_i ht
  obtain⟨ds,e1,e2⟩:=map_some e
  subst e2
  rcases VR.cO hK R rx e1 with ⟨es,z⟩|⟨a,xs,rfl,hq,rs⟩
  .exact absurd z (ht es)
  .refine .inr ⟨a,xs,rfl,hq,fun t htt=>?_⟩
   obtain⟨R2,x2⟩:=R.grow (Cp htt (.lst (Kv xs l h)))
   exact q _ _ (Cp htt _) (.lst (R.ok htt true) (R.dead htt) CK (key (rs.ext x2)))
def Eh(S:Store):List D->Option D
 |[x]=>(Bx S x).map fun ds=>.int ds.length
 |_=>none
theorem J6{K:U0b}:Lj K (zy K) Eh:=by
 intro Γ μ σ H env S xs ds d hK R rs e Q q
 unfold Eh at e
 split at e
 .obtain⟨es,e1,e2⟩:=map_some e
  subst e2
  obtain⟨v,rfl,r⟩:=rs.one
  obtain⟨a,xs,rfl,hq,rx⟩:=VR.seq hK R r e1
  refine⟨a,xs,rfl,hq,?_⟩
  rw[rx.length]
  exact q _ H (Same.refl H) (.int _)
 .cases e
def Nv(S:Store):List D->Option D
 |[x]=>(Bx S x).map fun ds=>.tup ds
 |_=>none
theorem MJ{K:U0b}:Lj K (lN K) Nv:=by
 intro Γ μ σ H env S xs ds d hK R rs e Q q
 unfold Nv at e
 split at e
 .rename_i x
  obtain⟨es,e1,e2⟩:=map_some e
  subst e2
  obtain⟨v,rfl,r⟩:=rs.one
  rcases VR.cO hK R r e1 with ⟨fs,rfl⟩|⟨a,xs,rfl,hq,rx⟩
  .cases r with
   |@tup p xs _ hp rp=>cases e1;exact⟨p,xs,rfl,.inr ⟨SqT.of hp,q _ H (Same.refl H) (.tup hp rp)⟩⟩
  .refine⟨a,xs,rfl,.inl ⟨hq,fun l hl=>?_⟩⟩
   obtain⟨R2,x2⟩:=R.grow (Cp hl (.tup xs))
   exact q _ _ (Cp hl _) (.tup CK (rx.ext x2))
 .cases e
def Ka(S:Store):List D->Option D
 |[x]=>(listOf S x).bind fun ds=>(boolsOf ds).map fun bs=>.bl (bs.all id)
 |_=>none
where boolsOf:List D->Option (List Bool)
 |[]=>some []
 |.bl b::r=>(boolsOf r).map (b::·)
 |_=>none
@[simp] theorem TJ(bs:List Bool):Ka.boolsOf (bs.map D.bl)=some bs:=by
 induction bs with
 |nil=>rfl
 |cons b r ih=>rw[U0s,Ka.boolsOf,ih];rfl
theorem TF{Γ:Fr}{μ:Mu}{H:Hp}:∀{xs:List V} {ds:List D} {bs:List Bool},VRs Γ μ H xs ds->Ka.boolsOf ds=some bs->xs=bs.map V.bl
 |_,[],_,.nil,h=>by cases h;rfl
 |_,.bl b::r,bs,.cons q t,h=>by
  rw[Ka.boolsOf] at h
  obtain⟨cs,e1,e2⟩:=map_some h
  subst e2
  cases q
  rw[U0s,TF t e1]
 |_,.non::_,_,_,h=>by cases h
 |_,.int _::_,_,_,h=>by cases h
 |_,.str _::_,_,_,h=>by cases h
 |_,.ty _::_,_,_,h=>by cases h
 |_,.tup _::_,_,_,h=>by cases h
 |_,.lst _ _::_,_,_,h=>by cases h
 |_,.ref _::_,_,_,h=>by cases h
 |_,.scr _::_,_,_,h=>by cases h
 |_,.emp::_,_,_,h=>by cases h
def Jac(K:U0b):List V->Hp->VK->Prop:=fun xs H Q=>∃(p:Addr)(bs:List Bool),xs=[.ref p]/\SqL K H p (bs.map V.bl)/\Q (.bl (bs.all id)) H
theorem Vy{K:U0b}:Lj K (Jac K) Ka:=by
 intro Γ μ σ H env S xs ds d hK R rs e Q q
 unfold Ka at e
 split at e
 .obtain⟨es,e1,e⟩:=bind_some e
  obtain⟨bs,e2,e3⟩:=map_some e
  subst e3
  obtain⟨v,rfl,r⟩:=rs.one
  obtain⟨a,xs,rfl,ha,rx⟩:=VR.list R r e1
  have:=TF rx e2
  subst this
  exact⟨a,bs,rfl,SqL.of ha,q _ H (Same.refl H) (.bl _)⟩
 .cases e
def Ft(_:Store):List D->Option D
 |[.int i,.int j]=>some (.int (if j>i then j else i))
 |_=>none
def Ib(_:Store):List D->Option D
 |[.int i,.int j]=>some (.int (if j<i then j else i))
 |_=>none
def Pg(_:Store):List D->Option D
 |[.int i]=>some (.int i)
 |[.bl k]=>some (.int (if k then 1 else 0))
 |_=>none
theorem Lp{K:U0b}:Lj K (fun xs H Q=>∃i j,xs=[.int i,.int j]/\Q (.int (if j>i then j else i)) H) Ft:=by
 intro Γ μ σ H env S xs ds d hK R rs e Q q
 unfold Ft at e
 split at e
 .cases e
  obtain⟨v,u,rfl,r1,r2⟩:=rs.two
  cases r1;cases r2
  exact⟨_,_,rfl,q _ H (Same.refl H) (.int _)⟩
 .cases e
theorem O6{K:U0b}:Lj K (fun xs H Q=>∃i j,xs=[.int i,.int j]/\Q (.int (if j<i then j else i)) H) Ib:=by
 intro Γ μ σ H env S xs ds d hK R rs e Q q
 unfold Ib at e
 split at e
 .cases e
  obtain⟨v,u,rfl,r1,r2⟩:=rs.two
  cases r1;cases r2
  exact⟨_,_,rfl,q _ H (Same.refl H) (.int _)⟩
 .cases e
theorem bH{K:U0b}:Lj K (fun xs H Q=>(∃i,xs=[.int i]/\Q (.int i) H)∨∃k,xs=[.bl k]/\Q (.int (if k then 1 else 0)) H) Pg:=by
 intro Γ μ σ H env S xs ds d hK R rs e Q q
 unfold Pg at e
 split at e
 .cases e
  obtain⟨v,rfl,r1⟩:=rs.one
  cases r1
  exact .inl ⟨_,rfl,q _ H (Same.refl H) (.int _)⟩
 .cases e
  obtain⟨v,rfl,r1⟩:=rs.one
  cases r1
  exact .inr ⟨_,rfl,q _ H (Same.refl H) (.int _)⟩
 .cases e
def Y6:List Int->Option Int
 |[]=>none
 |n::r=>some (r.foldl (fun a b=>if a<b then b else a) n)
def Y5:List Int->Option Int
 |[]=>none
 |n::r=>some (r.foldl (fun a b=>if b<a then b else a) n)
theorem sW(r:List Int):∀n:Int,(r.foldl (fun a b=>if a<b then b else a) n=n∨r.foldl (fun a b=>if a<b then b else a) n∈r)/\n<=r.foldl (fun a b=>if a<b then b else a) n/\∀m∈r,m<=r.foldl (fun a b=>if a<b then b else a) n:=by
 induction r with
 |nil=>intro n;exact⟨.inl rfl,Int.le_refl _,fun m h=>by simp at h⟩
 |cons x r ih =>
  intro n
  rw[U3d]
  by_cases h:n<x
  .rw[if_pos h]
   obtain⟨h1,h2,h3⟩:=ih x
   refine⟨.inr (by rcases h1 with z|z;(rw[z];exact U0z);exact U0t _ z),by omega,fun m hm=>?_⟩
   rcases U0o.mp hm with z|z
   .rw[z];exact h2
   .exact h3 m z
  .rw[if_neg h]
   obtain⟨h1,h2,h3⟩:=ih n
   refine⟨by rcases h1 with z|z;exact .inl z;exact .inr (U0t _ z),h2,fun m hm=>?_⟩
   rcases U0o.mp hm with z|z
   .rw[z];omega
   .exact h3 m z
theorem sV(r:List Int):∀n:Int,(r.foldl (fun a b=>if b<a then b else a) n=n∨r.foldl (fun a b=>if b<a then b else a) n∈r)/\r.foldl (fun a b=>if b<a then b else a) n<=n/\∀m∈r,r.foldl (fun a b=>if b<a then b else a) n<=m:=by
 induction r with
 |nil=>intro n;exact⟨.inl rfl,Int.le_refl _,fun m h=>by simp at h⟩
 |cons x r ih =>
  intro n
  rw[U3d]
  by_cases h:x<n
  .rw[if_pos h]
   obtain⟨h1,h2,h3⟩:=ih x
   refine⟨.inr (by rcases h1 with z|z;(rw[z];exact U0z);exact U0t _ z),by omega,fun m hm=>?_⟩
   rcases U0o.mp hm with z|z
   .rw[z];exact h2
   .exact h3 m z
  .rw[if_neg h]
   obtain⟨h1,h2,h3⟩:=ih n
   refine⟨by rcases h1 with z|z;exact .inl z;exact .inr (U0t _ z),h2,fun m hm=>?_⟩
   rcases U0o.mp hm with z|z
   .rw[z];omega
   .exact h3 m z
theorem qw{ns:List Int}{m:Int}(h:Y6 ns=some m):m∈ns/\∀n∈ns,n<=m:=by
 cases ns with
 |nil=>cases h
 |cons x r =>
  cases h
  obtain⟨h1,h2,h3⟩:=sW r x
  refine⟨by rcases h1 with z|z;(rw[z];exact U0z);exact U0t _ z,fun n hn=>?_⟩
  rcases U0o.mp hn with z|z
  .rw[z];exact h2
  .exact h3 n z
theorem qu{ns:List Int}{m:Int}(h:Y5 ns=some m):m∈ns/\∀n∈ns,m<=n:=by
 cases ns with
 |nil=>cases h
 |cons x r =>
  cases h
  obtain⟨h1,h2,h3⟩:=sV r x
  refine⟨by rcases h1 with z|z;(rw[z];exact U0z);exact U0t _ z,fun n hn=>?_⟩
  rcases U0o.mp hn with z|z
  .rw[z];exact h2
  .exact h3 n z
def Rv(S:Store):List D->Option D
 |[x]=>(listOf S x).bind fun ds=>(intsOf ds).bind fun ns=>(Y6 ns).map .int
 |_=>none
def Ru(S:Store):List D->Option D
 |[x]=>(listOf S x).bind fun ds=>(intsOf ds).bind fun ns=>(Y5 ns).map .int
 |_=>none
theorem lF{K:U0b}:Lj K (fun xs H Q=>∃(p:Addr)(ns:List Int),xs=[.ref p]/\SqL K H p (ns.map V.int)/\ns≠[]/\∀m,m∈ns->(∀n∈ns,n<=m)->Q (.int m) H) Rv:=by
 intro Γ μ σ H env S xs ds d hK R rs e Q q
 unfold Rv at e
 split at e
 .obtain⟨es,e1,e⟩:=bind_some e
  obtain⟨ns,e2,e⟩:=bind_some e
  obtain⟨m,e3,e4⟩:=map_some e
  subst e4
  obtain⟨v,rfl,r⟩:=rs.one
  obtain⟨a,xs,rfl,ha,rx⟩:=VR.list R r e1
  have:=Gp e2
  subst this
  have:=rx.Oq
  subst this
  refine⟨a,ns,rfl,SqL.of ha,(fun z=>by rw[z] at e3;cases e3),fun m' h1 h2=>?_⟩
  obtain⟨g1,g2⟩:=qw e3
  have:m'=m:=U7m (g2 _ h1) (h2 _ g1)
  rw[this]
  exact q _ H (Same.refl H) (.int _)
 .cases e
theorem lE{K:U0b}:Lj K (fun xs H Q=>∃(p:Addr)(ns:List Int),xs=[.ref p]/\SqL K H p (ns.map V.int)/\ns≠[]/\∀m,m∈ns->(∀n∈ns,m<=n)->Q (.int m) H) Ru:=by
 intro Γ μ σ H env S xs ds d hK R rs e Q q
 unfold Ru at e
 split at e
 .obtain⟨es,e1,e⟩:=bind_some e
  obtain⟨ns,e2,e⟩:=bind_some e
  obtain⟨m,e3,e4⟩:=map_some e
  subst e4
  obtain⟨v,rfl,r⟩:=rs.one
  obtain⟨a,xs,rfl,ha,rx⟩:=VR.list R r e1
  have:=Gp e2
  subst this
  have:=rx.Oq
  subst this
  refine⟨a,ns,rfl,SqL.of ha,(fun z=>by rw[z] at e3;cases e3),fun m' h1 h2=>?_⟩
  obtain⟨g1,g2⟩:=qu e3
  have:m'=m:=U7m (h2 _ g1) (g2 _ h1)
  rw[this]
  exact q _ H (Same.refl H) (.int _)
 .cases e
def Y9(K:U0b)(r:List V->Hp->VK->Prop)(g:Store->List D->Option (List D)):Prop:=∀(Γ:Fr)(μ:Mu)(σ:St)(H:Hp)(env:Env)(S:Store)(xs:List V)(ds es:List D),Γ.K=K->Rep Γ μ σ H env S->VRs Γ μ H xs ds->g S ds=some es ->
 ∀Q:VK,(∀l ys,H l=none->VRs Γ μ H ys es->Q (.ref l) (upd H l (.lst ys)))->r xs H Q
def Xz(g:Store->List D->Option (List D))(a:BX):Ba:=fun env S=>(a env S).bind fun p=>(g p.2 p.1).map fun es=>(.lst true es,p.2)
def Xy(g:Store->List D->Option (List D))(a:BX):Ba:=fun env S=>(a env S).bind fun p=>(g p.2 p.1).map fun es=>(.ref p.2.length,p.2++[some es])
theorem pC{K:U0b}{r:List V->Hp->VK->Prop}{g:Store->List D->Option (List D)}{f:BX}(hs:Y9 K r g){σ:St}{H:Hp}{Q:VK}(h:wpE K (Xz g f) σ H Q):tCB r (wpA K f) σ H Q:=by
 obtain⟨Γ,μ,env,S,d,S',hK,R,e,q⟩:=h
 obtain⟨⟨x,S1⟩,e1,e⟩:=bind_some e
 obtain⟨z,e4,e⟩:=map_some e
 cases e
 refine⟨Γ,μ,env,S,x,S1,hK,R,e1,fun v1 μ1 H1 x1 R1 r1=>?_⟩
 refine hs Γ μ1 σ H1 env S1 v1 x _ hK R1 r1 e4 Q fun l ys hl ry=>?_
 obtain⟨R4,x4⟩:=R1.grow (Cp hl (.lst ys))
 exact q _ μ1 _ (x1.trans x4) R4 (.lst (R1.ok hl true) (R1.dead hl) CK (ry.ext x4))
theorem ou{K:U0b}{r:List V->Hp->VK->Prop}{g:Store->List D->Option (List D)}{f:BX}(hs:Y9 K r g){σ:St}{H:Hp}{Q:VK}(h:wpE K (Xy g f) σ H Q):tCB r (wpA K f) σ H Q:=by
 obtain⟨Γ,μ,env,S,d,S',hK,R,e,q⟩:=h
 obtain⟨⟨x,S1⟩,e1,e⟩:=bind_some e
 obtain⟨z,e4,e⟩:=map_some e
 cases e
 refine⟨Γ,μ,env,S,x,S1,hK,R,e1,fun v1 μ1 H1 x1 R1 r1=>?_⟩
 refine hs Γ μ1 σ H1 env S1 v1 x _ hK R1 r1 e4 Q fun l ys hl ry=>?_
 obtain⟨R4,x4⟩:=R1.laid hl ry
 exact q _ _ _ (x1.trans x4) R4 (bI R1.slen)
section
variable{X:Cx}{x:Str}{p pos:Pos}{e:Expr}{es:List Expr}{T:String}{f:BX}{r:List V->Hp->VK->Prop}{g:Store->List D->Option (List D)}
theorem rJ(hc:Dc X (.type T) r)(hsm:Y9 X.K r g)(hg:Gl X x)(hm:X.mg x=none)(hv:bootBuiltins x=some (.type T))(ha:JA X (e::es) f)(hn:x≠"__name__":=by decide)(hdb:(x==("__debug__":Str))=false:=by decide)
  (he:starEach (e::es) X.env=(false,eval e X.env)::starEach es X.env:=by rfl) (hpl:(backTo pos (starEach es X.env)).any (·.1)=false:=by rfl):JE X (.Call (.Name x p) (e::es) [] pos) (Xz g f) :=
 ⟨PE.imp (Kr hc hg hm hv ha.pa hn hdb he hpl) fun _ _ _ h=>pC hsm h⟩
theorem rH(hc:Dc X (.type T) r)(hsm:Y9 X.K r g)(hg:Gl X x)(hm:X.mg x=none)(hv:bootBuiltins x=some (.type T))(ha:JA X (e::es) f)(hn:x≠"__name__":=by decide)(hdb:(x==("__debug__":Str))=false:=by decide)
  (he:starEach (e::es) X.env=(false,eval e X.env)::starEach es X.env:=by rfl) (hpl:(backTo pos (starEach es X.env)).any (·.1)=false:=by rfl):JE X (.Call (.Name x p) (e::es) [] pos) (Xy g f) :=
 ⟨PE.imp (Kr hc hg hm hv ha.pa hn hdb he hpl) fun _ _ _ h=>ou hsm h⟩
end
def nList(S:Store):List D->Option (List D)
 |[x]=>Bx S x
 |_=>none
theorem Yq{K:U0b}:Y9 K (qG K) nList:=by
 intro Γ μ σ H env S xs ds es hK R rs e Q q
 unfold nList at e
 split at e
 .obtain⟨v,rfl,r⟩:=rs.one
  obtain⟨a,ys,rfl,hq,ry⟩:=VR.seq hK R r e
  exact⟨a,ys,rfl,hq,fun l hl=>q l ys hl ry⟩
 .cases e
end VS
end
section
namespace VS
open PySem PySem.Spec L2
mutual
def toP:D->Option PyData
 |.non=>some .none
 |.bl b=>some (.bool b)
 |.int i=>some (.int i)
 |.str x=>some (.str x)
 |.tup ds=>(Js ds).map .tuple
 |.lst _ ds=>(Js ds).map .list
 |.emp=>some (.dict [])
 |.ref _=>none
 |.scr _=>none
 |.ty _=>none
def Js:List D->Option (List PyData)
 |[]=>some []
 |d::r=>(toP d).bind fun x=>(Js r).bind fun xs=>some (x::xs)
end
mutual
theorem VR.tr{Γ:Fr}{μ:Mu}{H:Hp}:∀{v:V} {d:D} {p:PyData},VR Γ μ H v d->toP d=some p->Tr (fun _=>True) H v p
 |_,_,_,.non,h=>by rw[toP] at h;cases h;exact .non
 |_,_,_,.bl b,h=>by rw[toP] at h;cases h;exact .bl b
 |_,_,_,.int i,h=>by rw[toP] at h;cases h;exact .int i
 |_,_,_,.str x,h=>by rw[toP] at h;cases h;exact .str x
 |_,_,_,.ty _,h=>by rw[toP] at h;cases h
 |_,_,_,.tup hb t,h=>by
  rw[toP] at h
  obtain⟨ps,e1,e2⟩:=map_some h
  subst e2
  exact .tup trivial hb (VRs.tr t e1)
 |_,_,_,.lst _ _ hb t,h=>by
  rw[toP] at h
  obtain⟨ps,e1,e2⟩:=map_some h
  subst e2
  exact .lst trivial hb (VRs.tr t e1)
 |_,_,_,.ref _ _,h=>by rw[toP] at h;cases h
 |_,_,_,.scrK _,h=>by rw[toP] at h;cases h
 |_,_,_,.scrR _ _,h=>by rw[toP] at h;cases h
 |_,_,_,.emp _ hb,h=>by rw[toP] at h;cases h;exact .dct trivial hb
theorem VRs.tr{Γ:Fr}{μ:Mu}{H:Hp}:∀{v:List V} {d:List D} {p:List PyData},VRs Γ μ H v d->Js d=some p->Kz (fun _=>True) H v p
 |_,_,_,.nil,h=>by rw[Js] at h;cases h;exact .nil
 |_,_,_,.cons r t,h=>by
  rw[Js] at h
  obtain⟨x,e1,h⟩:=bind_some h
  obtain⟨xs,e2,h⟩:=bind_some h
  cases h
  exact .cons (VR.tr r e1) (VRs.tr t e2)
end
def Dj(S:Store)(d:D):Option PyData:=(den 0 S d).bind toP
theorem VR.see{Γ:Fr}{μ:Mu}{σ:St}{H:Hp}{env:Env}{S:Store}{v:V}{d:D}{p:PyData}(R:Rep Γ μ σ H env S)(r:VR Γ μ H v d)(h:Dj S d=some p):Tr (fun _=>True) H v p:=by
 obtain⟨e,e1,e2⟩:=bind_some h
 have r1:VR ⟨Γ.K,fun _=>none,fun _=>True,[]⟩ [] H v e:=VR.den (Γ':=⟨Γ.K,fun _=>none,fun _=>True,[]⟩) R rfl (fun i ds a _ hs=>⟨hs,fun z=>⟨JV,⟨fun _=>rfl,.inl trivial⟩⟩⟩) (fun m a _ _=>⟨fun _=>rfl,.inl trivial⟩) (fun a o _ _=>JV) r e1
 exact r1.tr e2
def eqP(neg:Bool)(S:Store)(x y:D):Option D:=(Dj S x).bind fun p=>(Dj S y).bind fun q=>if (U2v p&&U2v q)=true then some (.bl (neg ^^ U7x p q)) else none
def oEq(neg:Bool)(S:Store):D->D->Option D
 |.int i,.int j=>some (.bl (neg ^^ decide (i=j)))
 |x,y=>eqP neg S x y
def Jab:R2:=fun x y H Q=>∃(N N':Addr->Prop)(d e:PyData),Tr N H x d/\Tr N' H y e/\U2v d=true/\U2v e=true/\Q (.bl (U7x d e)) H
def zx:R2:=fun x y H Q=>∃(N N':Addr->Prop)(d e:PyData),Tr N H x d/\Tr N' H y e/\U2v d=true/\U2v e=true/\Q (.bl (!PyData.eqv d e)) H
def uW:R2:=fun x y H Q=>rEq x y H Q∨Jab x y H Q
def uR:R2:=fun x y H Q=>rNe x y H Q∨zx x y H Q
theorem Hj{X:Cx}{k:Nat}(hr:FW k X.A):OpR X (compareOp .Eq) uW:=OpR.or yp (vh hr)
theorem RB{X:Cx}{k:Nat}(hr:FW k X.A):OpR X (compareOp .NotEq) uR:=OpR.or yh (vf hr)
theorem Hh{K:U0b}:Fv K uW (oEq false):=by
 intro Γ μ σ H env S x y dx dy d hK R rx ry e Q q
 unfold oEq at e
 split at e
 .rename_i i j
  cases e;cases rx;cases ry
  refine .inl ⟨rfl,?_⟩
  have:decide (V.int i=V.int j)=decide (i=j):=by simp
  rw[this]
  exact q _ H (Same.refl H) (by simpa using VR.bl (decide (i=j)))
 .unfold eqP at e
  obtain⟨p,e1,e⟩:=bind_some e
  obtain⟨p2,e2,e⟩:=bind_some e
  by_cases h:(U2v p&&U2v p2)=true
  .rw[if_pos h] at e
   cases e
   rw[U1e] at h
   exact .inr ⟨_,_,p,p2,rx.see R e1,ry.see R e2,h.1,h.2,q _ H (Same.refl H) (by simpa using VR.bl (U7x p p2))⟩
  .rw[if_neg h] at e;cases e
theorem R8{K:U0b}:Fv K uR (oEq true):=by
 intro Γ μ σ H env S x y dx dy d hK R rx ry e Q q
 unfold oEq at e
 split at e
 .rename_i i j
  cases e;cases rx;cases ry
  refine .inl ⟨rfl,?_⟩
  have:decide (V.int i=V.int j)=decide (i=j):=by simp
  rw[this]
  exact q _ H (Same.refl H) (by simpa using VR.bl (!decide (i=j)))
 .unfold eqP at e
  obtain⟨p,e1,e⟩:=bind_some e
  obtain⟨p2,e2,e⟩:=bind_some e
  by_cases h:(U2v p&&U2v p2)=true
  .rw[if_pos h] at e
   cases e
   rw[U1e] at h
   exact .inr ⟨_,_,p,p2,rx.see R e1,ry.see R e2,h.1,h.2,q _ H (Same.refl H) (by simpa using VR.bl (!PyData.eqv p p2))⟩
  .rw[if_neg h] at e;cases e
def jV(neg:Bool)(S:Store):D->D->Option D
 |.non,.non=>some (.bl (!neg))
 |.ref i,.non=>((S[i]?).join).map fun _=>.bl neg
 |.bl a,.bl b=>some (.bl (neg ^^ decide (a=b)))
 |.int _,.non=>some (.bl neg)
 |.bl _,.non=>some (.bl neg)
 |.str _,.non=>some (.bl neg)
 |.tup _,.non=>some (.bl neg)
 |.lst _ _,.non=>some (.bl neg)
 |_,_=>none
def fM:R2:=fun x y H Q=>(y=.non/\Q (.bl (!decide (x=.non))) H)∨∃(c d:Bool),x=.bl c/\y=.bl d/\Q (.bl (!decide (c=d))) H
theorem lq{X:Cx}:OpR X (compareOp .IsNot) fM:=OpR.or qd Zv
theorem lG{K:U0b}:Fv K fM (jV true):=by
 intro Γ μ σ H env S x y dx dy d hK R rx ry e Q q
 unfold jV at e
 split at e
 .cases e;cases rx;cases ry;exact .inl ⟨rfl,by simpa using q _ H (Same.refl H) (.bl false)⟩
 .obtain⟨ds,e1,e2⟩:=map_some e
  subst e2
  obtain⟨a,xs,rfl,_⟩:=VR.TX R rx (join_some e1)
  cases ry;exact .inl ⟨rfl,by simpa using q _ H (Same.refl H) (.bl true)⟩
 .rename_i a b
  cases e;cases rx;cases ry;exact .inr ⟨a,b,rfl,rfl,by simpa using q _ H (Same.refl H) (by simpa using VR.bl (!decide (a=b)))⟩
 .cases e;cases rx;cases ry;exact .inl ⟨rfl,by simpa using q _ H (Same.refl H) (.bl true)⟩
 .cases e;cases rx;cases ry;exact .inl ⟨rfl,by simpa using q _ H (Same.refl H) (.bl true)⟩
 .cases e;cases rx;cases ry;exact .inl ⟨rfl,by simpa using q _ H (Same.refl H) (.bl true)⟩
 .cases e;cases rx;cases ry;exact .inl ⟨rfl,by simpa using q _ H (Same.refl H) (.bl true)⟩
 .cases e;cases rx;cases ry;exact .inl ⟨rfl,by simpa using q _ H (Same.refl H) (.bl true)⟩
 .cases e
def Y4(D:List (PyData×PyData))(_:Store):VS.D->Option VS.D
 |.int i=>some (.bl (lookup (.int i) D).isSome)
 |_=>none
def Us(D:List (PyData×PyData))(_:Store):VS.D->Option VS.D
 |.int i=>match lookup (.int i) D with|some (.int j)=>some (.int j)|_=>none
 |_=>none
section
variable{X:Cx}{a:Expr}{fa:Ba}{x:Str}{p pos:Pos}{dM:Addr}{D:List (PyData×PyData)}
theorem ur{K:U0b}{σ:St}{H:Hp}{Q:VK}(h:wpE K (eUn (Y4 D) fa) σ H Q):tOp (fun x y H Q=>∃(i:Int),x=.int i/\y=.ref dM/\Q (.bl (lookup (.int i) D).isSome) H) (wpE K fa) (tC (.ref dM)) σ H Q:=by
 obtain⟨Γ,μ,env,S,d,S',hK,R,e,q⟩:=h
 obtain⟨⟨y,S1⟩,e1,e⟩:=bind_some e
 obtain⟨z,e3,e⟩:=map_some e
 cases e
 refine⟨Γ,μ,env,S,y,S1,hK,R,e1,fun v1 μ1 H1 x1 R1 r1=>?_⟩
 dsimp only at e3
 unfold Y4 at e3
 split at e3
 .cases e3;cases r1;exact⟨_,rfl,rfl,q _ μ1 H1 x1 R1 (.bl _)⟩
 .cases e3
theorem mj(hT:∀h,X.K.In h->U5q X.prog X.w h dM D)(ha:JE X a fa)(hg:Gl X x)(hm:X.mg x=some (.ref dM))(hk:behindInMarks .In (.Name x p)=false:=by with_unfolding_all rfl)(hd:(x==("__debug__":Str))=false:=by decide):JE X (.Compare a [.In] [.Name x p] pos) (eUn (Y4 D) fa) :=
 ⟨PE.imp (bO (lu hT) ha.pe (bN (v:=.ref dM) hg hm rfl hd) hk) fun _ _ _ h=>ur h⟩
theorem mZ(hT:∀h,X.K.In h->U5q X.prog X.w h dM D)(hb:JE X a fa)(hg:Gl X x)(hm:X.mg x=some (.ref dM))(hs:SX a)(hd:(x==("__debug__":Str))=false:=by decide)
  (hgo:∀r,letTemporaryGo (.Name x p) (.ref dM) r=pure ():=by intro _;with_unfolding_all rfl):JE X (.Subscript (.Name x p) a pos) (eUn (Us D) fa) :=
 ⟨PE.imp (lY hT (bN (v:=.ref dM) hg hm rfl hd) hb.pe hs hgo) fun σ H Q h=>by
  obtain⟨Γ,μ,env,S,d,S',hK,R,e,q⟩:=h
  obtain⟨⟨y,S1⟩,e1,e⟩:=bind_some e
  obtain⟨z,e3,e⟩:=map_some e
  cases e
  refine⟨Γ,μ,env,S,y,S1,hK,R,e1,fun v1 μ1 H1 x1 R1 r1=>?_⟩
  dsimp only at e3
  unfold Us at e3
  split at e3
  .split at e3
   .rename_i hl
    cases e3;cases r1;exact⟨_,_,rfl,rfl,hl,q _ μ1 H1 x1 R1 (.int _)⟩
   .cases e3
  .cases e3⟩
end
def isT(T:String)(d:PyData):Bool:=match T with
 |"str"=>(match d with|.str _=>true|_=>false)
 |T=>Y7 T d
theorem rD{K:U0b}(d:PyData):U3j K (.type (tyName d)) (.type "str")=some (isT "str" d):=by
 cases d with
 |none=>exact Cj (a:="NoneType") (r:=false) (by decide +kernel)
 |bool _=>exact Cj (a:="bool") (r:=false) (by decide +kernel)
 |int _=>exact Cj (a:="int") (r:=false) (by decide +kernel)
 |str _=>exact Cj (a:="str") (r:=true) (by decide +kernel)
 |list _=>exact Cj (a:="list") (r:=false) (by decide +kernel)
 |tuple _=>exact Cj (a:="tuple") (r:=false) (by decide +kernel)
 |dict _=>exact Cj (a:="dict") (r:=false) (by decide +kernel)
def Jv(S:Store):List D->Option D
 |[x,.ty "int"]=>(Dj S x).map fun p=>.bl (isT "int" p)
 |[x,.ty "bool"]=>(Dj S x).map fun p=>.bl (isT "bool" p)
 |[x,.ty "tuple"]=>(Dj S x).map fun p=>.bl (isT "tuple" p)
 |[x,.ty "list"]=>(Dj S x).map fun p=>.bl (isT "list" p)
 |[x,.ty "str"]=>(Dj S x).map fun p=>.bl (isT "str" p)
 |[x,.tup [.ty "tuple",.ty "list"]]=>(Dj S x).bind fun p=>if noDict p=true then some (.bl (isSeq p)) else none
 |_=>none
def Jaa(K:U0b):List V->Hp->VK->Prop:=fun xs H Q=>∃(x:V)(T:String)(t:Value)(b:Bool),xs=[x,.ty T]/\Kc K H x t/\U3j K t (.type T)=some b/\Q (.bl b) H
def yQ:List V->Hp->VK->Prop:=fun xs H Q=>∃(N:Addr->Prop)(x:V)(d:PyData)(p:Addr),xs=[x,.ref p]/\H p=some (.tup [.ty "tuple",.ty "list"])/\Tr N H x d/\noDict d=true/\Q (.bl (isSeq d)) H
def d9(K:U0b):List V->Hp->VK->Prop:=fun xs H Q=>Jaa K xs H Q∨yQ xs H Q
theorem JX{X:Cx}:Dc X (.builtin "isinstance") (d9 X.K):=Dc.or aU Xn
theorem Kh{K:U0b}:Lj K (d9 K) Jv:=by
 intro Γ μ σ H env S xs ds d hK R rs e Q q
 have go:∀(T:String)(x:D),(∀p:PyData,U3j K (.type (tyName p)) (.type T)=some (isT T p))->ds=[x,.ty T]->((Dj S x).map fun p=>D.bl (isT T p))=some d->d9 K xs H Q:=fun T x hk hd e'=>by
  subst hd
  obtain⟨p,e1,e2⟩:=map_some e'
  subst e2
  obtain⟨v,u,rfl,r1,r2⟩:=rs.two
  cases r2
  exact .inl ⟨v,T,_,_,rfl,(r1.see R e1).ty,hk p,q _ H (Same.refl H) (.bl _)⟩
 unfold Jv at e
 split at e
 .exact go "int" _ rE rfl e
 .exact go "bool" _ mV rfl e
 .exact go "tuple" _ kit_tuple rfl e
 .exact go "list" _ mU rfl e
 .exact go "str" _ rD rfl e
 .obtain⟨p,e1,e⟩:=bind_some e
  by_cases h:noDict p=true
  .rw[if_pos h] at e
   cases e
   obtain⟨v,u,rfl,r1,r2⟩:=rs.two
   cases r2 with
   |@tup a ys _ ha ry =>
    cases ry with
    |cons q1 t1 =>
     cases t1 with
     |cons q2 t2 =>
      cases t2;cases q1;cases q2
      exact .inr ⟨_,v,p,a,rfl,ha,r1.see R e1,h,q _ H (Same.refl H) (.bl _)⟩
  .rw[if_neg h] at e;cases e
 .cases e
def GQ(ns:List Int):List Int:=(SetP.once ns).mergeSort fun a b=>decide (a<=b)
theorem V2{ns ms:List Int}(h:ms.Perm (SetP.once ns))(s:ms.Pairwise (·<=·)):ms=GQ ns:=by
 have h2:(GQ ns).Perm (SetP.once ns):=U5r _ _
 have s2:(GQ ns).Pairwise (·<=·):=by
  have:=List.pairwise_mergeSort (le:=fun a b:Int=>decide (a<=b)) (by intro a b c h1 h2;simp at *;omega) (by intro a b;simp;omega) (SetP.once ns)
  exact this.imp fun h=>by simpa using h
 exact U4q.eq_of_pairwise (fun a b _ _ h1 h2=>U7m h1 h2) s s2 (h.trans h2.symm)
def Tv(a:Ba):Ba:=fun env S=>(a env S).bind fun p=>(listOf p.2 p.1).bind fun ds=>(intsOf ds).bind fun ns=>if ns.length<1000/\(SetP.once ns).length<64 then some (.lst true ((GQ ns).map .int),p.2) else none
theorem eU{X:Cx}{a:Expr}{f:Ba}{p p2 pos pos2:Pos}(hc:X.calm=true)(ha:JE X a f)(hg:Gl X "sorted")(hm:X.mg "sorted"=none)(hg2:Gl X "set")(hm2:X.mg "set"=none) 
  (he:starEach [a] X.env=[(false,eval a X.env)]:=by rfl) (he2:starEach [.Call (.Name "set" p2) [a] [] pos2] X.env=[(false,eval (.Call (.Name "set" p2) [a] [] pos2) X.env)]:=by rfl):JE X (.Call (.Name "sorted" p) [.Call (.Name "set" p2) [a] [] pos2] [] pos) (Tv f) :=
 ⟨PE.imp (Yt (WM hc) hg hm jP (Rz (Kr (nT hc) hg2 hm2 wg (Rz ha.pe Ur he) (he:=he) (hpl:=rfl)) Ur he2) (he:=he2) (hpl:=rfl)) fun σ H Q h=>by
  obtain⟨Γ,μ,env,S,d,S',hK,R,e,q⟩:=h
  obtain⟨⟨y,S1⟩,e1,e⟩:=bind_some e
  obtain⟨ds,e2,e⟩:=bind_some e
  obtain⟨ns,e3,e⟩:=bind_some e
  by_cases hl:ns.length<1000/\(SetP.once ns).length<64
  .rw[if_pos hl] at e
   cases e
   refine⟨Γ,μ,env,S,y,_,hK,R,e1,fun v1 μ1 H1 x1 R1 r1=>?_⟩
   obtain⟨b,xs,rfl,hb,rb⟩:=VR.list R1 r1 e2
   have:=Gp e3
   subst this
   have:=rb.Oq
   subst this
   refine⟨b,ns,rfl,SqL.of hb,hl.1,fun s hs=>?_⟩
   obtain⟨R2,x2⟩:=R1.grow (Cp hs (Y0 X.prog X.w s (SetP.once ns)))
   refine⟨s,_,rfl,CK,hl.2,fun l ms hl' hp hsrt=>?_⟩
   have:=V2 hp hsrt
   subst this
   obtain⟨R3,x3⟩:=R2.grow (Cp hl' (.lst ((GQ ns).map V.int)))
   exact q _ μ1 _ (x1.trans (x2.trans x3)) R3 (.lst (R2.ok hl' true) (R2.dead hl') CK (VRs.ints _))
  .rw[if_neg hl] at e;cases e⟩
def Hu(a:BX):Ba:=fun env S=>(a env S).bind fun p=>match p.1 with
 |[.int j]=>if r62 j/\j.toNat<=1000 then some (.lst true (upD 0 j.toNat),p.2) else none
 |[.int i,.int j]=>if r62 i/\r62 j/\(j-i).toNat<=1000 then some (.lst true (upD i (j-i).toNat),p.2) else none
 |_=>none
theorem pG{Γ:Fr}{μ:Mu}{H:Hp}(lo:Int)(n:Nat):VRs Γ μ H ((upTo lo n).map V.int) (upD lo n):=by
 have:upD lo n=(upTo lo n).map D.int:=by unfold upD L2.upTo;rw[U0e];rfl
 rw[this];exact VRs.ints _
def Ys:List V->Hp->VK->Prop:=fun xs H Q=>(∃(n:Int),xs=[.int n]/\∀p,H p=none->Q (.ref p) (upd H p (.rng 0 n)))∨∃(a b:Int),xs=[.int a,.int b]/\∀p,H p=none->Q (.ref p) (upd H p (.rng a b))
theorem Zg{X:Cx}:Dc X (.type "range") Ys:=Dc.or aR aQ
theorem ZP{K:U0b}{f:BX}{σ:St}{H:Hp}{Q:VK} (h:∃Γ μ env S ds S',Γ.K=K/\Rep Γ μ σ H env S/\f env S=some (ds,S')/\∃lo n,((∃j,ds=[.int j]/\r62 j/\j.toNat<=1000/\lo=0/\n=j.toNat)∨∃i j,ds=[.int i,.int j]/\r62 i/\r62 j/\(j-i).toNat<=1000/\lo=i/\n=(j-i).toNat) /\
   ∀μ' H',Ext μ H μ' H'->Rep Γ μ' σ H' env S'->∀l,H' l=none->Q (.ref l) (upd H' l (.lst ((upTo lo n).map V.int)))) :
  tCB (fun xs H Q=>∃(r:Addr)(lo hi:Int),xs=[.ref r]/\H r=some (.rng lo hi)/\-(2^62)<=lo/\lo<2^62/\-(2^62)<=hi/\hi<2^62/\(hi-lo).toNat<=1000/\∀l,H l=none->Q (.ref l) (upd H l (.lst ((upTo lo (hi-lo).toNat).map V.int)))) (o8 (tCB Ys (wpA K f)) uH) σ H Q:=by
 obtain⟨Γ,μ,env,S,ds,S',hK,R,e1,lo,n,hc,q⟩:=h
 refine⟨Γ,μ,env,S,ds,S',hK,R,e1,fun vs μ1 H1 x1 R1 r1=>?_⟩
 rcases hc with ⟨j,rfl,h1,h2,rfl,rfl⟩|⟨i,j,rfl,h1,h2,h3,rfl,rfl⟩
 .obtain⟨v,rfl,r⟩:=r1.one
  cases r
  refine .inl ⟨j,rfl,fun p hp=>⟨p,0,j,rfl,CK,by decide,by decide,h1.1,h1.2,by simpa using h2,fun l hl=>?_⟩⟩
  obtain⟨R2,x2⟩:=R1.grow (Cp hp (.rng 0 j))
  have:=q μ1 _ (x1.trans x2) R2 l hl
  simpa using this
 .obtain⟨v,u,rfl,r,r'⟩:=r1.two
  cases r
  cases r'
  refine .inr ⟨lo,j,rfl,fun p hp=>⟨p,lo,j,rfl,CK,h1.1,h1.2,h2.1,h2.2,h3,fun l hl=>?_⟩⟩
  obtain⟨R2,x2⟩:=R1.grow (Cp hp (.rng lo j))
  exact q μ1 _ (x1.trans x2) R2 l hl
section
variable{X:Cx}{a:Expr}{as:List Expr}{f:BX}{p p2 pos pos2:Pos}
theorem Ri(hc:X.calm=true)(ha:JA X (a::as) f)(hg:Gl X "list")(hm:X.mg "list"=none)(hg2:Gl X "range")(hm2:X.mg "range"=none)
  (he:starEach (a::as) X.env=(false,eval a X.env)::starEach as X.env:=by rfl) (hpl:(backTo pos2 (starEach as X.env)).any (·.1)=false:=by rfl) (he2:starEach [.Call (.Name "range" p2) (a::as) [] pos2] X.env=[(false,eval (.Call (.Name "range" p2) (a::as) [] pos2) X.env)]:=by rfl) :
  JE X (.Call (.Name "list" p) [.Call (.Name "range" p2) (a::as) [] pos2] [] pos) (Hu f) :=
 ⟨PE.imp (Kr (WQ hc) hg hm SQ (Rz (Kr Zg hg2 hm2 nY ha.pa (he:=he) (hpl:=hpl)) Ur he2) (he:=he2) (hpl:=rfl)) fun σ H Q h=>by
  obtain⟨Γ,μ,env,S,d,S',hK,R,e,q⟩:=h
  obtain⟨⟨ds,S1⟩,e1,e⟩:=bind_some e
  refine ZP ⟨Γ,μ,env,S,ds,S1,hK,R,e1,?_⟩
  have fin:∀lo n,d=.lst true (upD lo n)->S1=S'->∀μ' H',Ext μ H μ' H'->Rep Γ μ' σ H' env S1->∀l,H' l=none->Q (.ref l) (upd H' l (.lst ((upTo lo n).map V.int))):=fun lo n hd hs μ' H' x' R' l hl=>by
   subst hd hs
   obtain⟨R2,x2⟩:=R'.grow (Cp hl (.lst ((upTo lo n).map V.int)))
   exact q _ μ' _ (x'.trans x2) R2 (.lst (R'.ok hl true) (R'.dead hl) CK (pG lo n))
  dsimp only at e
  split at e
  .rename_i j
   by_cases hj:r62 j/\j.toNat<=1000
   .rw[if_pos hj] at e;cases e
    exact⟨0,_,.inl ⟨j,rfl,hj.1,hj.2,rfl,rfl⟩,fin _ _ rfl rfl⟩
   .rw[if_neg hj] at e;cases e
  .rename_i i j
   by_cases hj:r62 i/\r62 j/\(j-i).toNat<=1000
   .rw[if_pos hj] at e;cases e
    exact⟨i,_,.inr ⟨i,j,rfl,hj.1,hj.2.1,hj.2.2,rfl,rfl⟩,fin _ _ rfl rfl⟩
   .rw[if_neg hj] at e;cases e
  .cases e⟩
end
end VS
end
section
namespace VS
open PySem PySem.Spec L2
def Ul(K:U0b):Sp:=fun vs H Q _=>∃(l:Addr)(ns:List Int),vs=[.ref l]/\Only H/\ns.length<=63/\SqL K H l (ns.map V.int)/\∀H',Q (.bl true) H'
theorem wG{K:U0b}{sem:DP}(h:∀ns:List Int,ns.length<=63->sem [.scr ns]=some (.bl true)):∀vs H Q E,Ul K vs H Q E->spP K sem 1 vs H Q E:=by
 intro vs H Q E ⟨l,ns,e,hO,hl,hq,q⟩
 subst e
 refine⟨fun _=>False,[.scr ns],.bl true,rfl,.cons ?_ .nil,h ns hl,fun v H' sm rv=>?_⟩
 .rcases hq with hq|hq
  .rcases hq with hq|⟨o,hq⟩
   .rcases hO l with z|⟨o,xs,z⟩
    .rw[z] at hq;cases hq
    .rw[z] at hq;cases hq
   .exact .scrR JV hq
  .exact .scrK fun H'=>.inr hq
 .cases rv;exact q H'
theorem sX{P:Program}{w:World}{K:U0b}{mg:Str->Option Value}{base:Heap}{k:Nat}{f:Addr}{fd:FuncData}{ps:List Str}{n:Nat}(hn:n=ps.length):Cv P w K mg base CX0 k f fd ps (spP K (fun _=>none) n) :=
 ⟨fun vs H Q E ⟨_,_,_,hl,_⟩=>hl.trans hn,fun A outer s H args us vs Q E hr e0 hb hv ⟨_,_,_,_,_,e,_⟩=>by cases e⟩
end VS
end
section
namespace VS
open PySem L2
theorem Ii(a b:BL)(env:VS.Env)(S:Store):VS.Bh a b env S=(a env S).bind fun p=>match p.1 with|.nx=>b p.2.1 p.2.2|f=>some (f,p.2.1,p.2.2):=rfl
theorem Bw(i:Nat)(a:Ba)(env:VS.Env)(S:Store):VS.Bb i a env S=(a env S).bind fun p=>some (.nx,env.set i (some p.1),p.2):=rfl
theorem Cr(a:Ba)(env:VS.Env)(S:Store):VS.Dg a env S=(a env S).bind fun p=>some (.ret p.1,env,p.2):=rfl
theorem Iw(c:Ew)(a b:BL)(env:VS.Env)(S:Store):VS.sIf c a b env S=(c env S).bind fun p=>if p.1=true then a env p.2 else b env p.2:=rfl
theorem qC(a:Ba)(g:Ke)(env:VS.Env)(S:Store):VS.cQ a g env S=(a env S).bind fun p=>(g p.1 env).bind fun e=>some (.nx,e,p.2):=rfl
theorem HW(a:Ba)(env:VS.Env)(S:Store):VS.Jt a env S=(a env S).bind fun p=>some (.nx,env,p.2):=rfl
theorem J7(env:VS.Env)(S:Store):VS.Eu  env S=some (.nx,env,S):=rfl
theorem iM(env:VS.Env)(S:Store):VS.Uo  env S=none:=rfl
theorem Ej(it:Jw)(g:Ke)(b:BL)(env:VS.Env)(S:Store):VS.Hv it g b env S=(it env S).bind fun p=>loop p.1.2 g b p.1.1 env p.2:=rfl
theorem MK(v o i:Ba)(env:VS.Env)(S:Store):VS.Jy v o i env S=(v env S).bind fun p=>(o env p.2).bind fun q=>(i env q.2).bind fun r=>match q.1,r.1 with
 |.ref j,.int k=>(match r.2[j]? with
  |some (some ds)=>(ixN ds.length k).bind fun n=>some (.nx,env,r.2.set j (some (ds.set n p.1)))
  |_=>none)
 |_,_=>none:=rfl
theorem Aq(i:Nat)(env:VS.Env)(S:Store):VS.Ac i env S=(env[i]?.join).map fun d=>(d,S):=rfl
theorem CJ(d:D)(env:VS.Env)(S:Store):VS.eC d env S=some (d,S):=rfl
theorem BJ(g:Store->D->D->Option D)(a b:Ba)(env:VS.Env)(S:Store):VS.eOp g a b env S=(a env S).bind fun p=>(b env p.2).bind fun q=>(g q.2 p.1 q.1).map fun d=>(d,q.2):=rfl
theorem fj(g:Store->D->Option D)(a:Ba)(env:VS.Env)(S:Store):VS.eUn g a env S=(a env S).bind fun p=>(g p.2 p.1).map fun d=>(d,p.2):=rfl
theorem BK(env:VS.Env)(S:Store):VS.Ae  env S=some ([],S):=rfl
theorem Ak(a:Ba)(r:BX)(env:VS.Env)(S:Store):VS.Aa a r env S=(a env S).bind fun p=>(r env p.2).bind fun q=>some (p.1::q.1,q.2):=rfl
theorem Df(g:Store->List D->Option D)(a:BX)(env:VS.Env)(S:Store):VS.eCB g a env S=(a env S).bind fun p=>(g p.2 p.1).map fun d=>(d,p.2):=rfl
theorem QC(a b:Ba)(env:VS.Env)(S:Store):VS.QK a b env S=(a env S).bind fun p=>match p.1 with|.bl true=>b env p.2|.bl false=>some (.bl false,p.2)|_=>none:=rfl
theorem bf(a:Ba)(env:VS.Env)(S:Store):VS.cU a env S=(a env S).bind fun p=>match p.1 with|.bl c=>some (.bl (!c),p.2)|_=>none:=rfl
theorem jJ(g g':Store->D->D->Option D)(a b c:Ba)(env:VS.Env)(S:Store):VS.Uz g g' a b c env S=(a env S).bind fun p=>(b env p.2).bind fun q=>(g q.2 p.1 q.1).bind fun z=>match z with
 |.bl true=>(c env q.2).bind fun r=>(g' r.2 q.1 r.1).map fun d=>(d,r.2)
 |.bl false=>some (.bl false,q.2)
 |_=>none:=rfl
theorem EY(a:Ba)(env:VS.Env)(S:Store):VS.Br a env S=(a env S).bind fun p=>match p.1 with|.bl c=>some (c,p.2)|_=>none:=rfl
theorem pO(a b:Ew)(env:VS.Env)(S:Store):VS.Ku a b env S=(a env S).bind fun p=>if p.1=true then b env p.2 else some (false,p.2):=rfl
theorem YF(a b:Ew)(env:VS.Env)(S:Store):VS.tOr a b env S=(a env S).bind fun p=>if p.1=true then some (true,p.2) else b env p.2:=rfl
theorem Rw(a:Ew)(env:VS.Env)(S:Store):VS.KY a env S=(a env S).bind fun p=>some (!p.1,p.2):=rfl
theorem Yv(env:VS.Env)(S:Store):VS.N7  env S=some (none,S):=rfl
theorem Yu(a:Ba)(env:VS.Env)(S:Store):VS.N6 a env S=(a env S).bind fun p=>match p.1 with|.int i=>some (some i,p.2)|_=>none:=rfl
theorem fu(g:Store->D->Option Int->Option Int->Option D)(a:Ba)(l h:Tf)(env:VS.Env)(S:Store):VS.eSl g a l h env S=(a env S).bind fun p=>(l env p.2).bind fun q=>(h env q.2).bind fun r=>(g r.2 p.1 q.1 r.1).map fun d=>(d,r.2):=rfl
theorem Ci(a:BX)(env:VS.Env)(S:Store):VS.Bl a env S=(a env S).bind fun p=>some (.lst true p.1,p.2):=rfl
theorem Nj(a:BX)(env:VS.Env)(S:Store):VS.Gd a env S=(a env S).bind fun p=>some (.ref p.2.length,p.2++[some p.1]):=rfl
theorem Gs(a:BX)(env:VS.Env)(S:Store):VS.BW a env S=(a env S).bind fun p=>some (.tup p.1,p.2):=rfl
theorem Gn(sem:DP)(a:BX)(env:VS.Env)(S:Store):VS.Bg sem a env S=(a env S).bind fun p=>(Cy 0 p.2 p.1).bind fun ds=>(sem (Bf ds)).bind fun r=>if (Aw p.1||newD r)=true then some (r,p.2) else none:=rfl
theorem MP(sem:JM)(a:BX)(env:VS.Env)(S:Store):VS.Az sem a env S=(a env S).bind fun p=>match p.1 with
 |.ref i::rest=>(match p.2[i]? with
  |some (some cs)=>(intsOf cs).bind fun ns=>(Cy 0 (p.2.set i none) rest).bind fun ds=>(sem ns (Bf ds)).bind fun r=>if (Aw rest||newD r.1)=true then some (r.1,p.2.set i (some (r.2.map D.int))) else none
  |_=>none)
 |_=>none:=rfl
theorem jG(sem:DP)(a:BX)(env:VS.Env)(S:Store):VS.RJ sem a env S=(Bg sem a env S).bind fun p=>(Nq p.2.length p.1).bind fun q=>some (q.1,p.2++[some q.2]):=rfl
theorem jH(sem:JM)(a:BX)(env:VS.Env)(S:Store):VS.RK sem a env S=(Az sem a env S).bind fun p=>(Nq p.2.length p.1).bind fun q=>some (q.1,p.2++[some q.2]):=rfl
theorem Z8(g:Store->D->List D->Option (D×Store))(o:Ba)(a:BX)(env:VS.Env)(S:Store):VS.Hg g o a env S=(o env S).bind fun p=>if (listOf p.2 p.1).isSome then (a env p.2).bind fun q=>g q.2 p.1 q.1 else none:=rfl
theorem nJ(g:Store->List D->Option (List D))(a:BX)(env:VS.Env)(S:Store):VS.Xz g a env S=(a env S).bind fun p=>(g p.2 p.1).map fun es=>(.lst true es,p.2):=rfl
theorem nH(g:Store->List D->Option (List D))(a:BX)(env:VS.Env)(S:Store):VS.Xy g a env S=(a env S).bind fun p=>(g p.2 p.1).map fun es=>(.ref p.2.length,p.2++[some es]):=rfl
theorem Qv(a:BX)(env:VS.Env)(S:Store):VS.Hu a env S=(a env S).bind fun p=>match p.1 with
 |[.int j]=>if r62 j/\j.toNat<=1000 then some (.lst true (upD 0 j.toNat),p.2) else none
 |[.int i,.int j]=>if r62 i/\r62 j/\(j-i).toNat<=1000 then some (.lst true (upD i (j-i).toNat),p.2) else none
 |_=>none:=rfl
theorem aP(a:Ba)(env:VS.Env)(S:Store):VS.Tv a env S=(a env S).bind fun p=>(listOf p.2 p.1).bind fun ds=>(intsOf ds).bind fun ns=>if ns.length<1000/\(SetP.once ns).length<64 then some (.lst true ((GQ ns).map .int),p.2) else none:=rfl
theorem Fy(a:Ba)(env:VS.Env)(S:Store):VS.DK a env S=(a env S).bind fun p=>(Bx p.2 p.1).map fun ds=>((ds,idOf ds p.1),p.2):=rfl
theorem Tq(a:BX)(env:VS.Env)(S:Store):VS.Ot a env S=(a env S).bind fun p=>match p.1 with
 |[.tup xs,.tup ys]=>some ((Cu xs ys,[]),p.2)
 |[x,.tup ys]=>(VS.listOf p.2 x).bind fun xs=>some ((Cu xs ys,VS.idOf xs x),p.2)
 |[x,y]=>(listOf p.2 x).bind fun xs=>(listOf p.2 y).bind fun ys=>some ((Cu xs ys,idOf xs x++idOf ys y),p.2)
 |_=>none:=rfl
theorem Dh(np n:Nat)(f:BL)(ds:List D):VS.FT np n f ds=if ds.length=np then (f (ds.map some++U05 (n-ds.length) none) []).bind fun p=>match p.1 with|.ret d=>den 0 p.2.2 d|.nx=>some .non|_=>none else none:=rfl
theorem Kl(np n:Nat)(f:BL)(ns:List Int)(ds:List D):VS.runM np n f ns ds=if ds.length+1=np then (f (some (.ref 0)::(ds.map some++U05 (n-1-ds.length) none)) [some (ns.map D.int)]).bind fun p=>match p.2.2[0]? with
 |some (some cs)=>(intsOf cs).bind fun ms=>(match p.1 with|.ret d=>(den 1 p.2.2 d).map fun r=>(r,ms)|.nx=>some (.non,ms)|_=>none)
 |_=>none
 else none:=rfl
theorem Ce(i:Nat)(d:D)(env:VS.Env):Pat.sem (.nm i) d env=some (env.set i (some d)):=by rw[Pat.sem]
theorem JR(ps:List Pat)(ds:List D)(env:VS.Env):Pat.sem (.tp ps) (.tup ds) env=Ip ps ds env:=by rw[Pat.sem]
theorem Gz(env:VS.Env):Ip [] [] env=some env:=by rw[Ip]
theorem G8(p:Pat)(ps:List Pat)(d:D)(ds:List D)(env:VS.Env):Ip (p::ps) (d::ds) env=(Pat.sem p d env).bind fun e=>Ip ps ds e:=by rw[Ip]
@[simp] theorem Jax(S:Store):calm [] S=True:=by simp[calm]
@[simp] theorem Jaw(i:Nat)(ds:List D)(S:Store):calm [(i,ds)] S=(S[i]?=some (some ds)):=by simp[calm]
@[simp] theorem Ja7{α:Type}(S:List α)(a:α):(S++[a])[S.length]?=some a:=by simp
@[simp] theorem Ja4{α:Type}(S:List α)(a b:α):(S++[a]).set S.length b=S++[b]:=by simp
theorem SM{n k:Nat}(h:k<n):ixN n (k:Int)=some k:=by
 unfold ixN
 rw[if_pos (by omega),if_pos (by omega)];simp
@[simp] theorem oM{n:Nat}:ixN (n+1) 0=some 0:=SM (k:=0) (by omega)
@[simp] theorem yx{n:Nat}:ixN (n+2) 1=some 1:=SM (k:=1) (by omega)
@[simp] theorem yw{n:Nat}:ixN (n+3) 2=some 2:=SM (k:=2) (by omega)
@[simp] theorem yu{n:Nat}:ixN (n+4) 3=some 3:=SM (k:=3) (by omega)
@[simp] theorem zL{α:Type}(a:α)(l:List α):atI (a::l) 0=some a:=by unfold atI;rw[U0j,oM];rfl
@[simp] theorem Jba{α:Type}(a b:α)(l:List α):atI (a::b::l) 1=some b:=by unfold atI;rw[U0j,U0j,yx];rfl
@[simp] theorem zK{α:Type}(a b c:α)(l:List α):atI (a::b::c::l) 2=some c:=by unfold atI;rw[U0j,U0j,U0j,yw];rfl
@[simp] theorem Ja9{α:Type}(a b c d:α)(l:List α):atI (a::b::c::d::l) 3=some d:=by unfold atI;rw[U0j,U0j,U0j,U0j,yu];rfl
theorem rA{w:List (Nat×List D)}{g:Ke}{b:BL}(I:Nat->Env->Store->Prop)(R:D->Store->Prop){ds:List D}{env:Env}{S:Store}(h0:I 0 env S)(hc:∀i env S,I i env S->calm w S)
  (step:∀i d env S,ds[i]?=some d->I i env S->∃env1,g d env=some env1/\((∃env2 S2,(b env1 S=some (.nx,env2,S2)∨b env1 S=some (.cnt,env2,S2))/\I (i+1) env2 S2)∨∃r env2 S2,b env1 S=some (.ret r,env2,S2)/\R r S2)) :
  (∃env' S',loop w g b ds env S=some (.nx,env',S')/\I ds.length env' S')∨∃r env' S',loop w g b ds env S=some (.ret r,env',S')/\R r S':=by
 have key:∀(l:List D)(i:Nat)(env:Env)(S:Store),ds.drop i=l->i<=ds.length->I i env S->(∃env' S',loop w g b l env S=some (.nx,env',S')/\I ds.length env' S')∨∃r env' S',loop w g b l env S=some (.ret r,env',S')/\R r S':=by
  intro l
  induction l with
  |nil =>
   intro i env S hd hi h
   have:i=ds.length:=by
    have:=congrArg U5 hd
    simp at this;omega
   subst this
   exact .inl ⟨env,S,by unfold loop;rw[if_pos (hc _ _ _ h)],h⟩
  |cons d r ih =>
   intro i env S hd hi h
   have hlt:i<ds.length:=by
    have:=congrArg U5 hd
    simp at this;omega
   have e:ds[i]?=some d:=by
    rw[U2i hlt] at hd
    rw[U0d hlt,(U6g hd).1]
   have hr:ds.drop (i+1)=r:=by
    rw[U2i hlt] at hd
    exact(U6g hd).2
   obtain⟨env1,e1,q⟩:=step i d env S e h
   rcases q with ⟨env2,S2,e2,q⟩|⟨v,env2,S2,e2,q⟩
   .have e3:loop w g b (d::r) env S=loop w g b r env2 S2:=by
     rcases e2 with e2|e2<;>(rw[loop,if_pos (hc _ _ _ h),e1];show(b env1 S).bind _=_;rw[e2];rfl)
    rw[e3]
    exact ih (i+1) env2 S2 hr hlt q
   .refine .inr ⟨v,env2,S2,?_,q⟩
    rw[loop,if_pos (hc _ _ _ h),e1]
    show(b env1 S).bind _=_
    rw[e2];rfl
 exact key ds 0 env S (by simp) (U3i _) h0
theorem Dw{w:List (Nat×List D)}{g:Ke}{b:BL}(I:Nat->Env->Store->Prop){ds:List D}{env:Env}{S:Store}(h0:I 0 env S)(hc:∀i env S,I i env S->calm w S)
  (step:∀i d env S,ds[i]?=some d->I i env S->∃env1,g d env=some env1/\∃env2 S2,b env1 S=some (.nx,env2,S2)/\I (i+1) env2 S2) :
  ∃env' S',loop w g b ds env S=some (.nx,env',S')/\I ds.length env' S':=by
 rcases rA I (fun _ _=>False) h0 hc (fun i d env S e h=>by
  obtain⟨env1,e1,env2,S2,e2,q⟩:=step i d env S e h
  exact⟨env1,e1,.inl ⟨env2,S2,.inl e2,q⟩⟩) with h|⟨_,_,_,_,h⟩
 .exact h
 .exact h.elim
theorem comp_map{w:List (Nat×List D)}{e0:Env}{g:Ke}{t:Ew}{f:Ba}{S:Store}(hc:calm w S)(p:D->Bool)(F:D->D):∀(ds ys:List D),ys.length+ds.length<=1000000 ->
  (∀d∈ds,∃e1,g d e0=some e1/\t e1 S=some (p d,S)/\(p d=true->f e1 S=some (F d,S)))->Fq w e0 g t f ds ys S=some (ys++(ds.filter p).map F,S)
 |[],ys,hl,_=>by unfold Fq;rw[if_pos ⟨hc,by simpa using hl⟩];simp
 |d::r,ys,hl,h=>by
  rw[U0j] at hl
  obtain⟨e1,h1,h2,h3⟩:=h d U0z
  unfold Fq
  rw[if_pos ⟨hc,by omega⟩,h1]
  show(t e1 S).bind _=_
  rw[h2]
  show(if p d=true then _ else _)=_
  have hr:∀x∈r,_:=fun x hx=>h x (U0t _ hx)
  by_cases hp:p d=true
  .rw[if_pos hp,h3 hp]
   show Fq w e0 g t f r (ys++[F d]) S=_
   rw[comp_map hc p F r (ys++[F d]) (by rw[U0u];simp;omega) hr,List.filter_cons_of_pos hp]
   simp
  .rw[if_neg hp,List.filter_cons_of_neg hp]
   exact comp_map hc p F r ys (by omega) hr
theorem QX{w:List (Nat×List D)}{e0:Env}{g:Ke}{f:Ba}{S:Store}(hc:calm w S)(F:D->D)(ds:List D)(hl:ds.length<=1000000)(h:∀d∈ds,∃e1,g d e0=some e1/\f e1 S=some (F d,S)):Fq w e0 g FQ f ds [] S=some (ds.map F,S):=by
 have:=comp_map (t:=FQ) hc (fun _=>true) F ds [] (by simpa using hl) (fun d hd=>let ⟨e1,h1,h2⟩:=h d hd;⟨e1,h1,rfl,fun _=>h2⟩)
 rw[this,U1x,U5s.mpr (by simp)]
theorem ZC{w:List (Nat×List D)}{e0:Env}{g:Ke}{f:Ba}(I:Nat->List D->Store->Prop){ds:List D}{S:Store}(h0:I 0 [] S)(hc:∀i ys S,I i ys S->calm w S/\ys.length<=1000000)
  (step:∀i d ys S,ds[i]?=some d->I i ys S->∃e1 y S2,g d e0=some e1/\f e1 S=some (y,S2)/\I (i+1) (ys++[y]) S2):∃ys S',Fq w e0 g FQ f ds [] S=some (ys,S')/\I ds.length ys S':=by
 have key:∀(l:List D)(i:Nat)(ys:List D)(S:Store),ds.drop i=l->i<=ds.length->I i ys S->∃ys' S',Fq w e0 g FQ f l ys S=some (ys',S')/\I ds.length ys' S':=by
  intro l
  induction l with
  |nil =>
   intro i ys S hd hi h
   have:i=ds.length:=by
    have:=congrArg U5 hd
    simp at this;omega
   subst this
   exact⟨ys,S,by unfold Fq;rw[if_pos (hc _ _ _ h)],h⟩
  |cons d r ih =>
   intro i ys S hd hi h
   have hlt:i<ds.length:=by
    have:=congrArg U5 hd
    simp at this;omega
   have e:ds[i]?=some d:=by
    rw[U2i hlt] at hd
    rw[U0d hlt,(U6g hd).1]
   have hr:ds.drop (i+1)=r:=by
    rw[U2i hlt] at hd
    exact(U6g hd).2
   obtain⟨e1,y,S2,h1,h2,h3⟩:=step i d ys S e h
   obtain⟨ys',S',h4,h5⟩:=ih (i+1) (ys++[y]) S2 hr hlt h3
   refine⟨ys',S',?_,h5⟩
   unfold Fq
   rw[if_pos (hc _ _ _ h),h1]
   simp only[U0c,FQ,if_true,h2]
   exact h4
 exact key ds 0 [] S (by simp) (U3i _) h0
theorem Nk{α:Type}{w:List (Nat×List D)}{e0:VS.Env}{g:Ke}{t:Ew}{f:Ba}{S:Store}(hc:calm w S)(enc:α->D)(p:α->Bool)(F:α->D):∀(l:List α)(ys:List D),ys.length+l.length<=1000000 ->
  (∀a∈l,∃e1,g (enc a) e0=some e1/\t e1 S=some (p a,S)/\(p a=true->f e1 S=some (F a,S)))->Fq w e0 g t f (l.map enc) ys S=some (ys++(l.filter p).map F,S)
 |[],ys,hl,_=>by rw[U1m,Fq,if_pos ⟨hc,by simpa using hl⟩];simp
 |d::r,ys,hl,h=>by
  rw[U0j] at hl
  obtain⟨e1,h1,h2,h3⟩:=h d U0z
  have hr:∀x∈r,_:=fun x hx=>h x (U0t _ hx)
  rw[U0s,Fq,if_pos ⟨hc,by omega⟩,h1]
  simp only[U0c,h2]
  by_cases hp:p d=true
  .simp only[hp,if_true,h3 hp,U0c]
   rw[Nk hc enc p F r (ys++[F d]) (by rw[U0u];simp;omega) hr,List.filter_cons_of_pos hp]
   simp
  .rw[if_neg hp,List.filter_cons_of_neg hp]
   exact Nk hc enc p F r ys (by omega) hr
theorem JB{α:Type}{w:List (Nat×List D)}{e0:VS.Env}{g:Ke}{f:Ba}{S:Store}(hc:calm w S)(enc F:α->D)(l:List α)(hl:l.length<=1000000)(h:∀a∈l,∃e1,g (enc a) e0=some e1/\f e1 S=some (F a,S)):Fq w e0 g VS.FQ f (l.map enc) [] S=some (l.map F,S):=by
 have:=Nk (t:=VS.FQ) hc enc (fun _=>true) F l [] (by simpa using hl) (fun d hd=>let ⟨e1,h1,h2⟩:=h d hd;⟨e1,h1,rfl,fun _=>h2⟩)
 rw[this,U1x,U5s.mpr (by simp)]
theorem cG{w:List (Nat×List D)}{e0:VS.Env}{g:Ke}{f:Ba}{S:Store}(hc:calm w S)(n:Nat)(F:Nat->D)(hl:n<=1000000)(h:∀i<n,∃e1,g (.int i) e0=some e1/\f e1 S=some (F i,S)):Fq w e0 g VS.FQ f (upD 0 n) [] S=some ((U0n n).map F,S):=by
 have e:upD 0 n=(U0n n).map fun(i:Nat)=>D.int i:=by unfold upD;simp
 rw[e]
 exact JB hc (fun(i:Nat)=>D.int i) F (U0n n) (by simpa using hl) fun i hi=>h i (U1z.mp hi)
theorem Lk(lo:Int)(n:Nat):(upD lo n).length=n:=by unfold upD;rw[U0k,U2z]
theorem Nh{lo:Int}{n i:Nat}{d:D}(h:(upD lo n)[i]?=some d):i<n/\d=.int (lo+i):=by
 have hi:i<n:=by rw[←Lk lo n];exact(U0i.mp h).1
 unfold upD at h
 rw[U0v,U5p hi] at h
 cases h
 exact⟨hi,rfl⟩
theorem Wf{j:Int}(h0:-1000000<=j)(h1:j<=1000000):r62 j:=⟨Int.le_trans (by decide) h0,Int.lt_of_le_of_lt h1 (by decide)⟩
theorem Jz{f:BX}{env:VS.Env}{S S':Store}{j:Int}(n:Nat)(hf:f env S=some ([.int j],S'))(hn:j.toNat=n)(h0:-1000000<=j)(h1:j<=1000000):Dn f env S=some ((upD 0 n,[]),S'):=by
 unfold Dn
 rw[hf,U0c]
 show(if r62 j then some ((upD 0 j.toNat,([]:List (Nat×List D))),S') else none)=_
 rw[if_pos (Wf h0 h1),hn]
theorem Rb{S:Store}{ds:List D}(h:Ei ds=true):Cy 0 S ds=some ds:=Cw 0 S (Cg h)
theorem Je{α:Type}{F:α->D}(l:List α)(h:∀a∈l,Dl (F a)=true):Ei (l.map F)=true:=by
 induction l with
 |nil=>rfl
 |cons a r ih=>rw[U0s,Ei,h a U0z,ih fun b hb=>h b (U0t _ hb)];rfl
theorem Yn{α:Type}{F:α->D}{G:α->PyData}(l:List α)(h:∀a∈l,toP (F a)=some (G a)):Js (l.map F)=some (l.map G):=by
 induction l with
 |nil=>rw[U1m,Js];rfl
 |cons a r ih=>rw[U0s,Js,h a U0z,ih fun b hb=>h b (U0t _ hb)];rfl
abbrev St2:=Int×Int
def Am(p:St2):D:=.tup [.int p.1,.int p.2]
def Af(b:List St2):D:=.tup (b.map Am)
def Ax(m:Bool)(n:Nat)(bs:List (List St2)):D:=.tup [.int n,.lst m (bs.map Af)]
@[simp] theorem Hq(p:St2):Dl (Am p)=true:=rfl
@[simp] theorem Im(b:List St2):Dl (Af b)=true:=by rw[Af,Dl];exact Je b fun p _=>Hq p
theorem CV(bs:List (List St2)):Ei (bs.map Af)=true:=Je bs fun b _=>Im b
def pS(p:St2):PyData:=.tuple [.int p.1,.int p.2]
def pB(b:List St2):PyData:=.tuple (b.map pS)
theorem Yl(p:St2):toP (Am p)=some (pS p):=by simp[Am,toP,Js,pS]
theorem Ym(b:List St2):toP (Af b)=some (pB b):=by rw[Af,toP,Yn b fun p _=>Yl p];rfl
theorem dI(bs:List (List St2)):Js (bs.map Af)=some (bs.map pB):=Yn bs fun b _=>Ym b
@[simp] theorem Ja0(S:Store)(x:D):Jv S [x,.ty "int"]=(Dj S x).map fun p=>.bl (isT "int" p):=rfl
@[simp] theorem xT:isT "int" (.none)=false:=rfl
@[simp] theorem xW(b:Bool):isT "int" (.bool b)=true:=rfl
@[simp] theorem xr(i:Int):isT "int" (.int i)=true:=rfl
@[simp] theorem xq(s:Str):isT "int" (.str s)=false:=rfl
@[simp] theorem xU(l:List PyData):isT "int" (.list l)=false:=rfl
@[simp] theorem tZ(l:List PyData):isT "int" (.tuple l)=false:=rfl
@[simp] theorem xV(l:List (PyData×PyData)):isT "int" (.dict l)=false:=rfl
@[simp] theorem zX(S:Store)(x:D):Jv S [x,.ty "bool"]=(Dj S x).map fun p=>.bl (isT "bool" p):=rfl
@[simp] theorem tu:isT "bool" (.none)=false:=rfl
@[simp] theorem u9(b:Bool):isT "bool" (.bool b)=true:=rfl
@[simp] theorem xY(i:Int):isT "bool" (.int i)=false:=rfl
@[simp] theorem xX(s:Str):isT "bool" (.str s)=false:=rfl
@[simp] theorem u5(l:List PyData):isT "bool" (.list l)=false:=rfl
@[simp] theorem tO(l:List PyData):isT "bool" (.tuple l)=false:=rfl
@[simp] theorem u6(l:List (PyData×PyData)):isT "bool" (.dict l)=false:=rfl
@[simp] theorem zQ(S:Store)(x:D):Jv S [x,.ty "tuple"]=(Dj S x).map fun p=>.bl (isT "tuple" p):=rfl
@[simp] theorem tG:isT "tuple" (.none)=false:=rfl
@[simp] theorem tL(b:Bool):isT "tuple" (.bool b)=false:=rfl
@[simp] theorem tR(i:Int):isT "tuple" (.int i)=false:=rfl
@[simp] theorem tQ(s:Str):isT "tuple" (.str s)=false:=rfl
@[simp] theorem tH(l:List PyData):isT "tuple" (.list l)=false:=rfl
@[simp] theorem oU(l:List PyData):isT "tuple" (.tuple l)=true:=rfl
@[simp] theorem tK(l:List (PyData×PyData)):isT "tuple" (.dict l)=false:=rfl
@[simp] theorem zW(S:Store)(x:D):Jv S [x,.ty "list"]=(Dj S x).map fun p=>.bl (isT "list" p):=rfl
@[simp] theorem tV:isT "list" (.none)=false:=rfl
@[simp] theorem tY(b:Bool):isT "list" (.bool b)=false:=rfl
@[simp] theorem xR(i:Int):isT "list" (.int i)=false:=rfl
@[simp] theorem xQ(s:Str):isT "list" (.str s)=false:=rfl
@[simp] theorem tW(l:List PyData):isT "list" (.list l)=true:=rfl
@[simp] theorem tM(l:List PyData):isT "list" (.tuple l)=false:=rfl
@[simp] theorem tX(l:List (PyData×PyData)):isT "list" (.dict l)=false:=rfl
@[simp] theorem Jay(S:Store)(x:D):Jv S [x,.ty "str"]=(Dj S x).map fun p=>.bl (isT "str" p):=rfl
@[simp] theorem xK:isT "str" (.none)=false:=rfl
@[simp] theorem xP(b:Bool):isT "str" (.bool b)=false:=rfl
@[simp] theorem xg(i:Int):isT "str" (.int i)=false:=rfl
@[simp] theorem xZ(s:Str):isT "str" (.str s)=true:=rfl
@[simp] theorem xM(l:List PyData):isT "str" (.list l)=false:=rfl
@[simp] theorem tU(l:List PyData):isT "str" (.tuple l)=false:=rfl
@[simp] theorem xO(l:List (PyData×PyData)):isT "str" (.dict l)=false:=rfl
@[simp] theorem Jaz(S:Store)(x:D):Jv S [x,.tup [.ty "tuple",.ty "list"]]=(Dj S x).bind fun p=>if noDict p=true then some (.bl (isSeq p)) else none:=rfl
@[simp] theorem Jao(S:Store)(i:Int):Dj S (.int i)=some (.int i):=by simp[Dj,den,toP]
@[simp] theorem Ja5(S:Store)(b:Bool):Dj S (.bl b)=some (.bool b):=by simp[Dj,den,toP]
@[simp] theorem Jam(S:Store):Dj S .non=some .none:=by simp[Dj,den,toP]
@[simp] theorem Jal(S:Store)(x:Str):Dj S (.str x)=some (.str x):=by simp[Dj,den,toP]
@[simp] theorem iH(S:Store)(p:St2):Dj S (Am p)=some (pS p):=by rw[Dj,Lq 0 S (Jd (Hq p))];exact Yl p
@[simp] theorem iI(S:Store)(b:List St2):Dj S (Af b)=some (pB b):=by rw[Dj,Lq 0 S (Jd (Im b))];exact Ym b
theorem V6(S:Store)(m:Bool)(bs:List (List St2)):Dj S (.lst m (bs.map Af))=some (.list (bs.map pB)):=by
 rw[Dj,den,Rb (CV bs)]
 show toP (.lst m (bs.map Af))=_
 rw[toP,dI];rfl
theorem RT(S:Store)(m:Bool)(n:Nat)(bs:List (List St2)):Dj S (Ax m n bs)=some (.tuple [.int n,.list (bs.map pB)]):=by
 have h:=V6 S m bs
 rw[Dj,den,Rb (CV bs)] at h
 have h':toP (.lst m (bs.map Af))=some (.list (bs.map pB)):=h
 simp[Dj,Ax,den,Cy,Rb (CV bs),toP,Js]
 rw[toP] at h'
 obtain⟨ps,e1,e2⟩:=map_some h'
 rw[e1]
 cases e2
 rfl
@[simp] theorem Ng(ns:List Int):Ei (ns.map D.int)=true:=Je ns fun _ _=>rfl
@[simp] theorem jK(k:Nat)(S:Store)(ns:List Int):Cy k S (ns.map D.int)=some (ns.map D.int):=Cw k S (Cg (Ng ns))
@[simp] theorem Mf(ns:List Int):Bf (ns.map D.int)=ns.map D.int:=Io (Ng ns)
@[simp] theorem Ht(ns:List Int):Aw (ns.map D.int)=true:=Cg (Ng ns)
@[simp] theorem zV(ns:List Int):newL (ns.map D.int)=true:=PJ (Ng ns)
theorem Yj(lo:Int)(n:Nat):upD lo n=((U0n n).map fun(i:Nat)=>lo+(i:Int)).map D.int:=by unfold upD;rw[U0e];rfl
@[simp] theorem Jav(k:Nat)(S:Store)(lo:Int)(n:Nat):Cy k S (upD lo n)=some (upD lo n):=by rw[Yj];exact jK ..
@[simp] theorem zU(lo:Int)(n:Nat):Aw (upD lo n)=true:=by rw[Yj];exact Ht _
@[simp] theorem zP(k:Nat)(S:Store)(bs:List (List St2)):Cy k S (bs.map Af)=some (bs.map Af):=Cw k S (Cg (CV bs))
@[simp] theorem fG(bs:List (List St2)):Bf (bs.map Af)=bs.map Af:=Io (CV bs)
@[simp] theorem Zu(bs:List (List St2)):Aw (bs.map Af)=true:=Cg (CV bs)
@[simp] theorem zO(bs:List (List St2)):newL (bs.map Af)=true:=PJ (CV bs)
@[simp] theorem xu(bs:List (List St2)):Ei (bs.map Af)=true:=CV bs
@[simp] theorem Jas(k:Nat)(S:Store)(p:St2):den k S (Am p)=some (Am p):=Lq k S (Jd (Hq p))
@[simp] theorem Jau(k:Nat)(S:Store)(b:List St2):den k S (Af b)=some (Af b):=Lq k S (Jd (Im b))
@[simp] theorem Ja1(p:St2):age (Am p)=Am p:=QW (Hq p)
@[simp] theorem Ja3(b:List St2):age (Af b)=Af b:=QW (Im b)
@[simp] theorem zR(p:St2):Bd (Am p)=true:=Jd (Hq p)
@[simp] theorem Jb(b:List St2):Bd (Af b)=true:=Jd (Im b)
@[simp] theorem Jaq(p:St2):newD (Am p)=true:=Tt (Hq p)
@[simp] theorem Jar(b:List St2):newD (Af b)=true:=Tt (Im b)
@[simp] theorem Jat(k:Nat)(S:Store)(m:Bool)(n:Nat)(bs:List (List St2)):den k S (Ax m n bs)=some (Ax m n bs):=by simp[Ax,den,Cy,Cw k S (Cg (CV bs))]
@[simp] theorem Ja2(m:Bool)(n:Nat)(bs:List (List St2)):age (Ax m n bs)=Ax false n bs:=by simp[Ax,age,Bf,Io (CV bs)]
@[simp] theorem zT(m:Bool)(n:Nat)(bs:List (List St2)):Bd (Ax m n bs)=true:=by simp[Ax,Bd,Aw,Cg (CV bs)]
structure Good(n:Nat)(bs:List (List St2)):Prop where
 ways:n=1∨n=2∨n=3
 most:bs.length<=[0,20,10,6].getD n 0
 box:∀b∈bs,b.length=n/\∀p∈b,p.1<p.2/\-1000000000<=p.1/\p.2<=1000000000
theorem Good.n3{n:Nat}{bs:List (List St2)}(g:Good n bs):1<=n/\n<=3:=by have:=g.ways;omega
theorem Good.few{n:Nat}{bs:List (List St2)}(g:Good n bs):bs.length<=20:=by
 have:=g.most
 rcases g.ways with h|h|h<;>subst h<;>simp at this<;>omega
theorem gG{α:Type}{l:List α}{i:Int}{j:Nat}(e:i=(j:Int))(h:j<l.length):atI l i=some l[j]:=by
 subst e
 exact Nm (U0d h)
theorem lH{n d:Nat}{a:Int}(h0:0<=a)(h1:a<=n):HT.sIx n d (some a)=a.toNat:=by
 show(if a<0 then (a+(n:Int)).toNat else min a.toNat n)=a.toNat
 rw[if_neg (by omega)]
 omega
theorem nO{xs:List D}{a:Int}(h0:0<=a)(h1:a<=xs.length):cut xs (some a) none=xs.drop a.toNat:=by
 unfold cut
 rw[lH h0 h1]
 simp only[HT.sIx]
 rw[U6d]
 simp
def lev:Nat->PyData->Bool
 |_,.none=>true
 |_,.bool _=>true
 |_,.int _=>true
 |k+1,.list xs=>xs.all (lev k)
 |k+1,.tuple xs=>xs.all (lev k)
 |_,_=>false
theorem W0{k:Nat}(ih:∀d,lev k d=true->U4t d=true/\d.depth<=k):∀xs:List PyData,xs.all (lev k)=true->U6a xs=true/\U6o xs<=k
 |[],_=>⟨by rw[U6a],by rw[U6o];omega⟩
 |x::xs,h=>by
  rw[U5l,U1e] at h
  obtain⟨h1,h2⟩:=ih x h.1
  obtain⟨h3,h4⟩:=W0 ih xs h.2
  exact⟨by rw[U6a,h1,h3];rfl,by rw[U6o];omega⟩
theorem Ut:∀(k:Nat)(d:PyData),lev k d=true->U4t d=true/\d.depth<=k
 |k,.none,_=>⟨by rw[U4t],by rw[U6r];omega⟩
 |k,.bool _,_=>⟨by rw[U4t],by rw[U6r];omega⟩
 |k,.int _,_=>⟨by rw[U4t],by rw[U6r];omega⟩
 |0,.list _,h=>by simp[lev] at h
 |0,.tuple _,h=>by simp[lev] at h
 |k,.str _,h=>by cases k<;>simp[lev] at h
 |k,.dict _,h=>by cases k<;>simp[lev] at h
 |k+1,.list xs,h=>by
  rw[lev] at h
  obtain⟨h1,h2⟩:=W0 (Ut k) xs h
  exact⟨by rw[U4t];exact h1,by rw[U6r];omega⟩
 |k+1,.tuple xs,h=>by
  rw[lev] at h
  obtain⟨h1,h2⟩:=W0 (Ut k) xs h
  exact⟨by rw[U4t];exact h1,by rw[U6r];omega⟩
theorem V8{k:Nat}{d:PyData}(h:lev k d=true)(hk:k<=60):U2v d=true:=by
 obtain⟨h1,h2⟩:=Ut k d h
 unfold U2v
 rw[h1,Bool.true_and]
 exact decide_eq_true (by omega)
theorem nG{neg:Bool}{S:Store}{x y:D}{p:PyData}(k:Nat)(hx:Dj S x=some p)(hy:Dj S y=some p)(h:lev k p=true)(hk:k<=60):eqP neg S x y=some (.bl (neg ^^ true)):=by
 unfold eqP
 rw[hx,hy]
 simp only[U0c]
 rw[V8 h hk,SeqAt.eqv_refl _ (Ut k p h).1];rfl
theorem bZ{neg:Bool}{S:Store}{x:D}{m:Bool}{l:List PyData}(k:Nat)(hx:Dj S x=some (.list l))(h:lev k (.list l)=true)(hk:k<=60):eqP neg S x (.lst m [])=some (.bl (neg ^^ l.isEmpty)):=by
 unfold eqP
 have hy:Dj S (.lst m [])=some (.list []):=by simp[Dj,den,Cy,toP,Js]
 rw[hx,hy]
 simp only[U0c]
 rw[V8 h hk]
 cases l with
 |nil=>rfl
 |cons a r=>rfl
theorem wD(k:Nat)(p:St2):lev (k+1) (pS p)=true:=by simp[pS,lev]
theorem wF(k:Nat)(b:List St2):lev (k+2) (pB b)=true:=by
 rw[pB,lev,U6s,U3g]
 exact fun p _=>wD k p
theorem j6(k:Nat)(bs:List (List St2)):lev (k+3) (.list (bs.map pB))=true:=by
 rw[lev,U6s,U3g]
 exact fun p _=>wF k p
theorem mO(k:Nat)(n:Nat)(bs:List (List St2)):lev (k+4) (.tuple [.int n,.list (bs.map pB)])=true:=by
 rw[lev,U5l,U5l,j6 k bs]
 rfl
theorem BZ{a b:BL}{env env1:VS.Env}{S S1:Store}(h:a env S=some (.nx,env1,S1)):Bh a b env S=b env1 S1:=by rw[Ii,h];rfl
theorem MF{c:Ew}{a b:BL}{env:VS.Env}{S S1:Store}(h:c env S=some (true,S1)):sIf c a b env S=a env S1:=by rw[Iw,h];rfl
theorem Lx{c:Ew}{a b:BL}{env:VS.Env}{S S1:Store}(h:c env S=some (false,S1)):sIf c a b env S=b env S1:=by rw[Iw,h];rfl
end VS
end
section
namespace VS
open PySem PySem.Spec L2
end VS
namespace HT
open PySem PySem.Spec PyProof PyProof.Rows
end HT
namespace L2
open PySem PySem.Spec PyProof PyProof.Rows
end L2
namespace VS
open PySem PySem.Spec L2
end VS
end
section
set_option maxRecDepth 100000
namespace HT
open PySem PySem.Spec PyProof.Rows
section
variable{prog:Program}{w:World}{A:Around}{E:Value->Shared->Prop}{s:Shared}
theorem Zh{a:Addr}{o:Obj}{Q:Option Obj->Shared->Prop}(e:s.heap.get? a=some o)(q:Q (some o) s):wpAny (model prog w) A (loadIfAlive a) Q E s:=by
 intro Γ p _
 unfold loadIfAlive
 rw[Sem.wp_loadIfAlive,e]
 exact(Sem.wp_pure ..).mpr q
abbrev O5(h:Heap)(z TI TO T:Addr)(c:Bool):Prop:=h.get? z=some { cls:=.type "zip",dict:=none,data:=.fields #[rawInt T,.bool c,.bool false,.ref TI,.ref TO],slots:=#[] }
variable{z TI TO i1 i2 T:Addr}{fp1 fp2:List Addr}{n1 n2 k:Nat}{P1 P2:Nat->Value->Prop}{S1 S2:Nat->Heap->Prop}{c:Bool}
theorem ak{Q:Bool->Shared->Prop}(hZ:O5 s.heap z TI TO T c)(hT:∃o,s.heap.get? T=some o)(q:∀h',O5 h' z TI TO T true->U0y z s.heap h'->Q false { s with heap:=h' }) :
  wpAny (model prog w) A (U1c (.ref z)) Q E s:=by
 obtain⟨o,hT⟩:=hT
 unfold U1c
 refine U0 (U1t hZ rfl (x:=rawInt T) rfl ?_)
 show wpAny _ _ (loadIfAlive (Int.toNat (T:Int)) >>= _) _ _ _
 rw[U3c]
 refine U0 (Zh hT ?_)
 simp only[Option.isNone_some,U2b,if_false]
 refine U0 (U1t hZ rfl (x:=.bool c) rfl ?_)
 cases c with
 |false =>
  rw[if_pos (by decide)]
  refine U0 (U2p hZ (by simp) fun g z' m=>?_)
  exact U0f (q g z' m)
 |true =>
  rw[if_neg (by decide)]
  exact U0f (q s.heap hZ (U0y.refl ..))
theorem zY{Q:Value->Shared->Prop}(D1:Draws prog w A i1 fp1 n1 P1 S1)(D2:Draws prog w A i2 fp2 n2 P2 S2)(D:Apart z TI TO i1 i2 fp1 fp2)(hZ:O5 s.heap z TI TO T c)(hI:IsPair s.heap TI (.ref i1) (.ref i2))(hT:∃o,s.heap.get? T=some o)
  (s1:S1 k s.heap) (s2:S2 k s.heap) (k1:k<n1) (k2:k<n2)
  (q:∀x y h' tk,P1 k x->P2 k y->O5 h' z TI TO T true->S1 (k+1) h'->S2 (k+1) h'->IsPair h' s.heap.objs.size x y->h'.objs.size=s.heap.objs.size+1 ->
   (∀c o,c≠z->c≠i1->c≠i2->s.heap.get? c=some o->h'.get? c=some o)->Q (.ref s.heap.objs.size) { s with heap:=h',toks:=tk }) :
  wpAny (model prog w) A (Builtin.«zip.__next__» ⟨[.ref z],[]⟩) (fun fin s'=>∃v,fin=.done (.ret v)/\Q v s') E s:=by
 obtain⟨hp,g,d,tk0,os⟩:=s
 refine(show wpAny _ _ (field (.ref z) 2 >>= _) _ _ _ from U0 (U1t hZ rfl (x:=.bool false) rfl ?_))
 refine(show wpAny _ _ (field (.ref z) 3 >>= _) _ _ _ from U0 (U1t hZ rfl (x:=.ref TI) rfl (U0 (U15 hI rfl ?_))))
 refine(show wpAny _ _ (U1c (.ref z) >>= _) _ _ _ from U0 (ak hZ hT fun g1 z1 m1=>?_))
 replace m1:U0y z hp g1:=m1
 simp only[U2b,if_false]
 have t1:S1 k g1:=D1.frame _ _ _ s1 fun c hc o e=>m1.extBut _ _ (D.b1 c hc).1 e
 have u1:S2 k g1:=D2.frame _ _ _ s2 fun c hc o e=>m1.extBut _ _ (D.b2 c hc).1 e
 refine U0 ?_
 simp only[List.forIn_toArray,U3p,U4s]
 refine U0 (U0 (U2s (show wpAny _ _ (U09 (.ref i1) >>= _) _ _ _ from U0 (D1.item k ⟨g1,g,d,tk0,os⟩ _ _ k1 t1 fun x g2 tk1 px t2 m2=>U0f ?_))))
 replace m2:U0y i1 g1 g2:=m2
 have u2:S2 k g2:=D2.frame _ _ _ u1 fun c hc o e=>m2.extBut _ _ (D.b2 c hc).2.2 e
 refine U0f ?_
 refine U0 (U0 (U2s (show wpAny _ _ (U09 (.ref i2) >>= _) _ _ _ from U0 (D2.item k ⟨g2,g,d,tk1,os⟩ _ _ k2 u2 fun y g3 tk2 py u3 m3=>U0f ?_))))
 replace m3:U0y i2 g2 g3:=m3
 refine U0f (U0f ?_)
 refine U0 (U7v ?_ (by simp[sizeLine]))
 have sz:g3.objs.size=hp.objs.size:=by rw[m3.1,m2.1,m1.1]
 refine U0f ⟨_,rfl,?_⟩
 show Q (.ref g3.objs.size) _
 have z3:O5 g3 z TI TO T true:=m3.extBut _ _ (U01 D.c2.1) (m2.extBut _ _ (U01 D.c1.1) z1)
 have q3:=q x y (g3.push { cls:=.type "tuple",data:=.seq #[x,y] }) tk2 px py (U0a _ z3)
  (D1.frame _ _ _ t2 fun c hc o e=>U0a _ (m3.extBut _ _ (D.b1 c hc).2.2 e)) (D2.frame _ _ _ u3 fun c hc o e=>U0a _ e)
  (by show IsPair _ hp.objs.size x y;rw[←sz];exact U0p _ rfl) (by rw[U1n,sz])
  fun c o n1 n3 n4 e=>U0a _ (m3.extBut _ _ n4 (m2.extBut _ _ n3 (m1.extBut _ _ n1 e)))
 rw[sz]
 exact q3
theorem yC{Q:PySem.Fin->Shared->Prop}(D1:Draws prog w A i1 fp1 n1 P1 S1)(D2:Draws prog w A i2 fp2 n2 P2 S2)(D:Apart z TI TO i1 i2 fp1 fp2)(hZ:O5 s.heap z TI TO T c)(hI:IsPair s.heap TI (.ref i1) (.ref i2))(hT:∃o,s.heap.get? T=some o)
  (s1:S1 k s.heap) (s2:S2 k s.heap) (ke:k=n1∨(k<n1/\k=n2))
  (q:∀h' e tk,(∀c o,c≠z->c≠i1->c≠i2->s.heap.get? c=some o->h'.get? c=some o)->(∃o,h'.get? e=some o/\o.cls=.type "StopIteration")->E (.ref e) { s with heap:=h',toks:=tk }) :
  wpAny (model prog w) A (Builtin.«zip.__next__» ⟨[.ref z],[]⟩) Q E s:=by
 obtain⟨hp,g,d,tk0,os⟩:=s
 refine(show wpAny _ _ (field (.ref z) 2 >>= _) _ _ _ from U0 (U1t hZ rfl (x:=.bool false) rfl ?_))
 refine(show wpAny _ _ (field (.ref z) 3 >>= _) _ _ _ from U0 (U1t hZ rfl (x:=.ref TI) rfl (U0 (U15 hI rfl ?_))))
 refine(show wpAny _ _ (U1c (.ref z) >>= _) _ _ _ from U0 (ak hZ hT fun g1 z1 m1=>?_))
 replace m1:U0y z hp g1:=m1
 simp only[U2b,if_false]
 have t1:S1 k g1:=D1.frame _ _ _ s1 fun c hc o e=>m1.extBut _ _ (D.b1 c hc).1 e
 have u1:S2 k g1:=D2.frame _ _ _ s2 fun c hc o e=>m1.extBut _ _ (D.b2 c hc).1 e
 refine U0 ?_
 simp only[List.forIn_toArray,U3p,U4s]
 rcases ke with ke|⟨k1,ke⟩
 .subst ke
  refine U0 (U0 (U2s (show wpAny _ _ (U09 (.ref i1) >>= _) _ _ _ from U0 (D1.done ⟨g1,g,d,tk0,os⟩ _ _ t1 fun g2 e m2 he=>?_))))
  replace m2:U5b i1 g1 g2:=m2
  exact q g2 e tk0 (fun c o n1 n3 _ x=>m2 _ _ n3 (m1.extBut _ _ n1 x)) he
 .refine U0 (U0 (U2s (show wpAny _ _ (U09 (.ref i1) >>= _) _ _ _ from U0 (D1.item k ⟨g1,g,d,tk0,os⟩ _ _ k1 t1 fun x g2 tk1 px t2 m2=>U0f ?_))))
  replace m2:U0y i1 g1 g2:=m2
  have u2:S2 k g2:=D2.frame _ _ _ u1 fun c hc o e=>m2.extBut _ _ (D.b2 c hc).2.2 e
  rw[ke] at u2
  refine U0f ?_
  refine U0 (U0 (U2s (show wpAny _ _ (U09 (.ref i2) >>= _) _ _ _ from U0 (D2.done ⟨g2,g,d,tk1,os⟩ _ _ u2 fun g3 e m3 he=>?_))))
  replace m3:U5b i2 g2 g3:=m3
  exact q g3 e tk1 (fun c o n1 n3 n4 x=>m3 _ _ n4 (m2.extBut _ _ n3 (m1.extBut _ _ n1 x))) he
def ZS(z TI TO i1 i2:Addr)(S1 S2:Nat->Heap->Prop)(k:Nat)(h:Heap):Prop :=
 IsPair h TI (.ref i1) (.ref i2)/\S1 k h/\S2 k h/\((∃a b,IsZip h z TI TO .none/\IsPair h TO a b)∨∃T c o,O5 h z TI TO T c/\h.get? T=some o/\T≠z/\T≠i1/\T≠i2)
theorem ZS.type(st:ZS z TI TO i1 i2 S1 S2 k s.heap):s.TypeIs (.ref z) "zip":=by
 obtain⟨_,_,_,⟨_,_,h,_⟩|⟨_,_,_,h,_⟩⟩:=st
 .exact⟨_,h,rfl⟩
 .exact⟨_,h,rfl⟩
theorem ZS.lt{h:Heap}(st:ZS z TI TO i1 i2 S1 S2 k h):z<h.objs.size:=by
 obtain⟨_,_,_,⟨_,_,h,_⟩|⟨_,_,_,h,_⟩⟩:=st
 .exact U0l h
 .exact U0l h
theorem ZS.frame{h h':Heap}(D1:Draws prog w A i1 fp1 n1 P1 S1)(D2:Draws prog w A i2 fp2 n2 P2 S2)(st:ZS z TI TO i1 i2 S1 S2 k h){S:Addr}(f1:S ∉ fp1)(f2:S ∉ fp2)(n1:S≠z)(n2:S≠TI)(n3:S≠TO)(lv:∃o,h'.get? S=some o)(m:∀c o,c≠S->h.get? c=some o->h'.get? c=some o):ZS z TI TO i1 i2 S1 S2 k h':=by
 obtain⟨a1,a2,a3,a4⟩:=st
 refine⟨m _ _ (U01 n2) a1,D1.frame _ _ _ a2 fun c hc o e=>m c o (fun q=>f1 (q ▸ hc)) e,D2.frame _ _ _ a3 fun c hc o e=>m c o (fun q=>f2 (q ▸ hc)) e,?_⟩
 rcases a4 with ⟨a,b,b1,b2⟩|⟨T,c,o,b1,b2,b3⟩
 .exact .inl ⟨a,b,m _ _ (U01 n1) b1,m _ _ (U01 n3) b2⟩
 .by_cases q:T=S
  .obtain⟨o',e⟩:=lv
   exact .inr ⟨T,c,o',m _ _ (U01 n1) b1,q ▸ e,b3⟩
  .exact .inr ⟨T,c,o,m _ _ (U01 n1) b1,m _ _ q b2,b3⟩
theorem uo{Q:Option Value->Shared->Prop}(D1:Draws prog w A.in1 i1 fp1 n1 P1 S1)(D2:Draws prog w A.in1 i2 fp2 n2 P2 S2)(D:Apart z TI TO i1 i2 fp1 fp2)(st:ZS z TI TO i1 i2 S1 S2 k s.heap)(k1:k<n1)(k2:k<n2)
  (q:∀x y h' tk,P1 k x->P2 k y->ZS z TI TO i1 i2 S1 S2 (k+1) h'->IsPair h' s.heap.objs.size x y->h'.objs.size=s.heap.objs.size+1->(∀c o,c≠z->c≠TO->c≠i1->c≠i2->s.heap.get? c=some o->h'.get? c=some o)->Q (some (.ref s.heap.objs.size)) { s with heap:=h',toks:=tk }) :
  wpAny (model prog w) A (pyNext (.ref z)) Q E s:=by
 have T:=st.type
 have lz:=st.lt
 obtain⟨a1,a2,a3,a4⟩:=st
 obtain⟨_,l1⟩:=D1.live _ _ a2
 obtain⟨_,l2⟩:=D2.live _ _ a3
 rcases a4 with ⟨a,b,b1,b2⟩|⟨T',c,o,b1,b2,b3,b4,b5⟩
 .refine aj D1 D2 D b1 a1 b2 a2 a3 k1 k2 fun x y h' tk p1 p2 c1 c2 c3 c4 c5 c6 c7=>q x y h' tk p1 p2 ⟨c7 _ _ D.a1 D.a3 (U01 D.c1.2.2) (U01 D.c2.2.2) a1,c3,c4,.inr ⟨_,false,_,c1,c5,U1p lz,U1p (U0l l1),U1p (U0l l2)⟩⟩ c5 c6 c7
 .unfold pyNext
  refine U0 (U4j (wpAny_callSpecial?_slot (name:=U3a "__next__") T U10 (U17 U10 T U3q (zY D1 D2 D b1 a1 ⟨o,b2⟩ a2 a3 k1 k2 fun x y h' tk p1 p2 c1 c3 c4 c5 c6 c7=>U0f (q x y h' tk p1 p2 ?_ c5 c6 fun c o n1 _ n3 n4 e=>c7 c o n1 n3 n4 e)) (U3l _))))
  exact⟨c7 _ _ D.a1 (U01 D.c1.2.2) (U01 D.c2.2.2) a1,c3,c4,.inr ⟨T',true,o,c1,c7 _ _ b3 b4 b5 b2,b3,b4,b5⟩⟩
theorem oV{Q:Option Value->Shared->Prop}(D1:Draws prog w A.in1 i1 fp1 n1 P1 S1)(D2:Draws prog w A.in1 i2 fp2 n2 P2 S2)(D:Apart z TI TO i1 i2 fp1 fp2)(st:ZS z TI TO i1 i2 S1 S2 k s.heap)(ke:k=n1∨(k<n1/\k=n2))
  (q:∀h' tk,(∀c o,c≠z->c≠TO->c≠i1->c≠i2->s.heap.get? c=some o->h'.get? c=some o)->Q none { s with heap:=h',toks:=tk }):wpAny (model prog w) A (pyNext (.ref z)) Q E s:=by
 have T:=st.type
 obtain⟨a1,a2,a3,a4⟩:=st
 rcases a4 with ⟨a,b,b1,b2⟩|⟨T',c,o,b1,b2,b3,b4,b5⟩
 .exact aZ D1 D2 D b1 a1 b2 a2 a3 ke q
 .unfold pyNext
  refine U0 (U4j (wpAny_callSpecial?_slot (name:=U3a "__next__") T U10 (U17 U10 T U3q (yC D1 D2 D b1 a1 ⟨o,b2⟩ a2 a3 ke fun h' e tk kk he=>?_) (U3l _))))
  obtain⟨o,e1,e2⟩:=he
  exact U0 (U4y (T:="StopIteration") (b:=true) ⟨o,e1,e2⟩ isSubtype_stop (U0f (q h' tk fun c o n1 _ n3 n4 e=>kk c o n1 n3 n4 e)))
def Laid(P1 P2:Nat->Value->Prop)(t0 k:Nat)(h:Heap):Prop:=∀j,j<k->∃x y,P1 j x/\P2 j y/\IsPair h (t0+j) x y
theorem oZ{R:Result->Shared->Prop}(D1:Draws prog w A.in1.in1 i1 fp1 n1 P1 S1)(D2:Draws prog w A.in1.in1 i2 fp2 n2 P2 S2)(D:Apart z TI TO i1 i2 fp1 fp2){m t0:Nat}(hm:∀k,k<m->k<n1/\k<n2)(he:m=n1∨(m<n1/\m=n2))(hs:m<=1000000)(S:Addr)(f1:S ∉ fp1)(f2:S ∉ fp2)(e1:S≠z)(e2:S≠TI)(e3:S≠TO)(e4:S≠i1)(e5:S≠i2)(e6:S<t0)
  (far:z<t0/\TO<t0/\i1<t0/\i2<t0) (res:Value) :
  ∀(j k:Nat)(s:Shared)(acc:Array Value)(c:Nat),m-k=j->k<=m->ZS z TI TO i1 i2 S1 S2 k s.heap->s.heap.get? S=some { cls:=.type "list",dict:=none,data:=.seq acc c,slots:=#[] }->acc=((U0n k).map fun j=>U2n (t0+j)).toArray->s.heap.objs.size=t0+k->Laid P1 P2 t0 k s.heap ->
  (∀h' tk c',(∀b o,b≠z->b≠TO->b≠i1->b≠i2->b≠S->s.heap.get? b=some o->h'.get? b=some o)->h'.get? S=some { cls:=.type "list",dict:=none,data:=.seq ((U0n m).map fun j=>U2n (t0+j)).toArray c',slots:=#[] }->Laid P1 P2 t0 m h'->R (.ok (.ret res)) { s with heap:=h',toks:=tk }) ->
  codeAny (model prog w) A (.builtin "list.extend.loop" ⟨[.ref S,.ref z,res],[]⟩) R s:=by
 have aw:∀j:Nat,t0+j≠z/\t0+j≠TO/\t0+j≠i1/\t0+j≠i2/\t0+j≠S:=fun j=>⟨U1p (U0w far.1 (U1j _ _)),U1p (U0w far.2.1 (U1j _ _)),U1p (U0w far.2.2.1 (U1j _ _)),U1p (U0w far.2.2.2 (U1j _ _)),U1p (U0w e6 (U1j _ _))⟩
 have hs2:m<=sizeLine:=U1a hs (by decide)
 intro j
 induction j with
 |zero =>
  intro k s acc c hj hk st hS ha hz hl q
  have hkm:k=m:=by omega
  subst hkm
  refine codeAny_builtin PySem.F.entry_extend_loop ?_
  rw[U3k U4p _]
  show wpAny _ A.in1 (pyNext (.ref z) >>= _) _ _ s
  refine U0 (oV D1 D2 D st he fun h' tk kk=>U0f (q h' tk c (fun b o n1 n2 n3 n4 _ e=>kk b o n1 n2 n3 n4 e) ?_ ?_))
  .rw[←ha];exact kk _ _ e1 e3 e4 e5 hS
  .intro j hj
   obtain⟨x,y,p1,p2,t⟩:=hl j hj
   exact⟨x,y,p1,p2,kk _ _ (aw j).1 (aw j).2.1 (aw j).2.2.1 (aw j).2.2.2.1 t⟩
 |succ j ih =>
  intro k s acc c hj hk st hS ha hz hl q
  have hlt:k<m:=by omega
  refine codeAny_builtin PySem.F.entry_extend_loop ?_
  rw[U3k U4p _]
  show wpAny _ A.in1 (pyNext (.ref z) >>= _) _ _ s
  refine U0 (uo D1 D2 D st (hm k hlt).1 (hm k hlt).2 fun x y h' tk p1 p2 st' tp sz kk=>?_)
  have hS':=kk _ _ e1 e3 e4 e5 hS
  have hlen:acc.size=k:=by rw[ha];simp
  show wpAny _ A.in1 (updateSeq S (·.push (.ref s.heap.objs.size)) >>= _) _ _ _
  refine U0 ?_
  have oth:∀b o,b≠S->h'.get? b=some o->(h'.update S (U2e (·.push (U2n s.heap.objs.size)))).get? b=some o:=fun b o n e=>(U1i _ _ (U01 n)).trans e
  have hS2:=U2a (U2e (·.push (U2n s.heap.objs.size))) hS' rfl
  have szu:(h'.update S (U2e (·.push (U2n s.heap.objs.size)))).objs.size=h'.objs.size:=(U1w ..).1
  refine U4h hS' rfl (U0f ⟨plainId_quiet U4p _,ih (k+1) _ (acc.push (.ref s.heap.objs.size)) _ (by omega) hlt (ZS.frame D1 D2 st' f1 f2 e1 e2 e3 ⟨_,hS2⟩ oth) hS2 ?_ ?_ ?_ fun h'' tk'' c'' kk2 hS3 hl3=>?_⟩)
   (by rw[hlen];omega) (by show(acc.push _).size<=sizeLine+1;rw[Array.size_push,hlen];omega)
  .rw[ha,hz,List.range_succ];simp
  .rw[show(U5d _).objs.size=_ from szu,sz,hz];omega
  .intro j hj
   by_cases q':j=k
   .subst q'
    refine⟨x,y,p1,p2,oth _ _ (aw _).2.2.2.2 ?_⟩
    rw[←hz];exact tp
   .obtain⟨x',y',r1,r2,t⟩:=hl j (by omega)
    exact⟨x',y',r1,r2,oth _ _ (aw j).2.2.2.2 (kk _ _ (aw j).1 (aw j).2.1 (aw j).2.2.1 (aw j).2.2.2.1 t)⟩
  .exact q h'' tk'' c'' (fun b o n1 n2 n3 n4 n5 e=>kk2 b o n1 n2 n3 n4 n5 (oth b o n5 (kk b o n1 n2 n3 n4 e))) hS3 hl3
theorem jj:typeLookup (.type "zip") "__len__"=pure none:=by rw[typeLookup_type,builtinLookup_eq_fast];kernel_rfl
theorem gJ:typeLookup (.type "zip") "__length_hint__"=pure none:=by rw[typeLookup_type,builtinLookup_eq_fast];kernel_rfl
theorem ZS.push{h:Heap}(D1:Draws prog w A i1 fp1 n1 P1 S1)(D2:Draws prog w A i2 fp2 n2 P2 S2)(st:ZS z TI TO i1 i2 S1 S2 k h)(o:Obj):ZS z TI TO i1 i2 S1 S2 k (h.push o):=by
 obtain⟨a1,a2,a3,a4⟩:=st
 refine⟨U0a _ a1,D1.frame _ _ _ a2 fun c hc o e=>U0a _ e,D2.frame _ _ _ a3 fun c hc o e=>U0a _ e,?_⟩
 rcases a4 with ⟨a,b,b1,b2⟩|⟨T,c,o,b1,b2,b3⟩
 .exact .inl ⟨a,b,U0a _ b1,U0a _ b2⟩
 .exact .inr ⟨T,c,o,U0a _ b1,U0a _ b2,b3⟩
theorem rM{Q:Value->Shared->Prop}(T:s.TypeIs (.ref z) "zip")(q:Q (.ref z) s):wpAny (model prog w) A (pyIter (.ref z)) Q E s :=
 U7 T PySem.F.slot_zip_iter (U17 PySem.F.slot_zip_iter T PySem.F.entry_zip_iter (show wpAny _ _ (ret (.ref z)) _ _ s from U0f ⟨_,rfl,"zip",_,T,U10.lookup,q⟩) (PySem.F.args_zip_iter_1 _))
theorem rB{Q:Value->Shared->Prop}(D1:Draws prog w A.in1.in1.in1 i1 fp1 n1 P1 S1)(D2:Draws prog w A.in1.in1.in1 i2 fp2 n2 P2 S2)(D:Apart z TI TO i1 i2 fp1 fp2){m:Nat}(hm:∀k,k<m->k<n1/\k<n2)(he:m=n1∨(m<n1/\m=n2))(hs:m<=1000000)(st:ZS z TI TO i1 i2 S1 S2 0 s.heap)
  (l1:∀b∈fp1,b<s.heap.objs.size) (l2:∀b∈fp2,b<s.heap.objs.size) (l3:z<s.heap.objs.size/\TI<s.heap.objs.size/\TO<s.heap.objs.size/\i1<s.heap.objs.size/\i2<s.heap.objs.size)
  (q:∀h' tk c',(∀b o,b≠z->b≠TO->b≠i1->b≠i2->s.heap.get? b=some o->h'.get? b=some o)->h'.get? s.heap.objs.size=some { cls:=.type "list",dict:=none,data:=.seq ((U0n m).map fun j=>U2n (s.heap.objs.size+1+j)).toArray c',slots:=#[] } ->
   Laid P1 P2 (s.heap.objs.size+1) m h'->Q (.ref s.heap.objs.size) { s with heap:=h',toks:=tk }):wpAny (model prog w) A (call (.type "list") [.ref z]) Q E s:=by
 refine callType_codes (Q₁:=fun obj s₁=>obj=.ref s.heap.objs.size/\s₁={ s with heap:=s.heap.push { cls:=.type "list",data:=.seq #[] } }) PySem.F.called_list (PySem.F.typeCall_list_1 _) PySem.F.entry_list_init (code_list_new _ ⟨rfl,rfl⟩) fun obj s₁ h₁=>?_
 obtain⟨rfl,rfl⟩:=h₁
 have g0:(s.heap.push { cls:=.type "list",data:=.seq #[] }).get? s.heap.objs.size=some { cls:=.type "list",data:=.seq #[] }:=U0p _ rfl
 refine⟨⟨_,g0,rfl⟩,PySem.F.args_list_init_2 _ _,?_⟩
 generalize hS:s.heap.objs.size=S at *
 have st0:=ZS.push D1 D2 st { cls:=.type "list",data:=.seq #[] }
 have sz0:(s.heap.push { cls:=.type "list",data:=.seq #[] }).objs.size=S+1:=by rw[U1n,hS]
 have k0:∀b o,s.heap.get? b=some o->(s.heap.push { cls:=.type "list",data:=.seq #[] }).get? b=some o:=fun b o e=>U0a _ e
 generalize s.heap.push { cls:=.type "list",data:=.seq #[] }=h0 at *
 have ne1:S≠z:=U1p l3.1
 have ne2:S≠TI:=U1p l3.2.1
 have ne3:S≠TO:=U1p l3.2.2.1
 have ne4:S≠i1:=U1p l3.2.2.2.1
 have ne5:S≠i2:=U1p l3.2.2.2.2
 have nf1:S ∉ fp1:=fun z=>U34 _ (l1 _ z)
 have nf2:S ∉ fp2:=fun z=>U34 _ (l2 _ z)
 -- one write of the new list after the other
 have wr:∀(h:Heap)(f:Array Value->Array Value)(xs:Array Value)(c:Nat),h.get? S=some { cls:=.type "list",data:=.seq xs c }->(∀b o,b≠S->h.get? b=some o->(h.update S (U2e f)).get? b=some o)/\(h.update S (U2e f)).objs.size=h.objs.size:=fun h f xs c e=>⟨fun b o n e=>(U1i _ _ (U01 n)).trans e,(U1w ..).1⟩
 refine(show wpAny _ _ (do let old ←Builtin.List.listItems (.ref S);Builtin.List.listUpdate (.ref S) (fun _=>#[]);letGo old.toList.reverse;U3o (.ref S) (.ref z) .none) _ _ _ from U0 ?_)
 unfold Builtin.List.listItems
 refine U0 (U15 g0 rfl (U0f (show wpAny _ _ (updateSeq S (fun _=>#[]) >>= fun _=>letGo (#[]:Array Value).toList.reverse >>= fun _=>U3o (.ref S) (.ref z) .none) _ _ _ from U0 (U4h g0 rfl (U0 (U5m ?_))))))
 have g1:=U2a (U2e (fun _=>(#[]:Array Value))) g0 rfl
 obtain⟨o1,z1⟩:=wr h0 (fun _=>#[]) _ _ g0
 have st1:=ZS.frame D1 D2 st0 nf1 nf2 ne1 ne2 ne3 ⟨_,g1⟩ o1
 unfold U3o
 refine U0 (U51 (st1.type (s:={ s with heap:=_ })) ?_)
 have b1:U40 (.ref S) (.ref z)=false:=by simp[U40,ne1]
 rw[if_neg (by rw[b1];decide)]
 have ty1:U6f { s with heap:=h0.update S (U2e (fun _=>(#[]:Array Value))) } (.ref z) "zip":=st1.type (s:={ s with heap:=_ })
 refine U0 (rM ty1 ?_)
 refine U0 (U2s ?_)
 unfold U5i
 refine U0 (U7k ty1 jj ?_)
 refine(show wpAny _ _ (specialOf (U2n z) (U3a "__length_hint__") >>= _) _ _ _ from U0 (U7k ty1 gJ (U0f ?_)))
 refine(show wpAny _ _ (rule "list.extend.makes-room" >>= fun _=>Builtin.List.listTouch (.ref S) >>= fun _=>again (.builtin "list.extend.loop" ⟨[.ref S,.ref z,.none],[]⟩)) _ _ _ from U0 (U39 (U0 ?_)))
 refine(show wpAny _ _ (updateSeq S (·.push .none) >>= fun _=>updateSeq S (·.pop)) _ _ _ from U0 (U4h g1 rfl ?_))
 have g2:=U2a (U2e (·.push U2w)) g1 rfl
 obtain⟨o2,z2⟩:=wr _ (·.push U2w) _ _ g1
 have g3:=U2a (U2e (·.pop)) g2 rfl
 obtain⟨o3,z3⟩:=wr _ (·.pop) _ _ g2
 refine U4h (hz:=by seq_fits) g2 rfl ?_
 have st3:=ZS.frame D1 D2 (ZS.frame D1 D2 st1 nf1 nf2 ne1 ne2 ne3 ⟨_,g2⟩ o2) nf1 nf2 ne1 ne2 ne3 ⟨_,g3⟩ o3
 refine U0f ⟨plainId_quiet U4p _,oZ D1 D2 D (t0:=S+1) hm he hs S nf1 nf2 ne1 ne2 ne3 ne4 ne5 (U4w _) ⟨U2y l3.1,U2y l3.2.2.1,U2y l3.2.2.2.1,U2y l3.2.2.2.2⟩ _ m 0 _ _ _ rfl (U3i _) st3 g3 ?_ ?_ (fun j hj=>absurd hj (U7j _)) fun h' tk c' kk hS' hl=>⟨rfl,q h' tk c' (fun b o n1 n2 n3 n4 e=>?_) hS' hl⟩⟩
 .simp
 .show(Heap.update _ _ _).objs.size=_
  rw[z3,z2,z1,sz0]
 .have nb:b≠S:=U0x (hS ▸ U0l e)
  exact kk b o n1 n2 n3 n4 nb (o3 b o nb (o2 b o nb (o1 b o nb (k0 b o e))))
end
end HT
end
section
namespace L2
open PySem PySem.Spec PyProof.Rows
section
variable{X:Cx}{pins:List (Addr×Obj)}{σ:St}{H:Hp}{s:Shared}
theorem Inv.yt{H':Hp}{h':Heap}{d':Drawn}{t':Nat}(I:Inv X pins σ H s)(k:∀b u,s.heap.get? b=some u->h'.get? b=some u)(old:∀b,b<s.heap.objs.size->H' b=H b)(ext:∀b o,H b=some o->H' b=some o)
  (new:∀b o,H' b=some o->H b=none->Dz X.prog X.w H' h' b o):Inv X pins σ H' { s with heap:=h',drawn:=d',toks:=t' }:=by
 refine I.step (g':=s.gens) (ch:=[]) (fun _ z=>nomatch z) (fun b u _ _ _ e _=>k b u e) (fun b u _ _ _ e _=>⟨u.slots,k b u e⟩) (fun b u _ e n=>by rw[old b (U0l e)];exact n) (fun b u _ e=>⟨u,k b u e⟩)
  (fun b xs e=>ext _ _ e) (fun b u xs e=>ext _ _ e) (fun b ps e=>⟨#[],by rw[ext _ _ e];simp⟩) (fun m hm=>?_) (fun b u e=>?_) I.bare (fun n=>by rw[old _ I.cW];exact n)
 .obtain⟨ob,es,ep,e,r⟩:=hm
  exact⟨ob,es,ep,k _ _ e,r⟩
 .cases q:H b with
  |none=>exact new b u e q
  |some o =>
   have:=ext b o q
   rw[this] at e
   cases e
   exact(I.hok b _ q).stay (fun c v _ q=>k c v q) (fun c q=>ext _ _ q) fun c xs q=>ext _ _ q
end
def jy(L:Bool)(ta:TA):TE:=fun σ H Q=>ta σ H fun vs H1=>∃a b xs ys,vs=[.ref a,.ref b]/\H1 a=some (HB L xs)/\H1 b=some (HB L ys)/\(xs.zip ys).length<=1000000 /\
 ∀l t0 H2,H1 l=none->(∀c o,H1 c=some o->H2 c=some o)->H2 l=some (.lst ((U0n (xs.zip ys).length).map fun j=>V.ref (t0+j)))->(∀j p,(xs.zip ys)[j]?=some p->H2 (t0+j)=some (.tup [p.1,p.2]))->Q (.ref l) H2
section
variable{X:Cx}
theorem dX(L:Bool){a b:Expr}{ta:TA}{p p2 pos pos2:Pos}(hc:X.calm=true)(hg:Gl X "list")(hm:X.mg "list"=none)(hg2:Gl X "zip")(hm2:X.mg "zip"=none)(ha:PA X [a,b] ta)(hs:starEach [a,b] X.env=[(false,eval a X.env),(false,eval b X.env)]:=by rfl)(hs2:starEach [b] X.env=[(false,eval b X.env)]:=by rfl)
  (he2:starEach [.Call (.Name "zip" p2) [a,b] [] pos2] X.env=[(false,eval (.Call (.Name "zip" p2) [a,b] [] pos2) X.env)]:=by rfl):PE X (.Call (.Name "list" p) [.Call (.Name "zip" p2) [a,b] [] pos2] [] pos) (jy L ta):=by
 intro pins s σ H Q I h
 refine U5y (K1 I hg hm (by decide +kernel:bootBuiltins "list"=some (.type "list")) (U2o ?_ he2 rfl))
 rw[he2]
 refine(show wpAny _ _ (spliced ((false,eval (.Call (.Name "zip" p2) [a,b] [] pos2) X.env)::backTo pos (starEach [] X.env))) _ _ s from Calls.spliced_cons ?_)
 refine Call_ (K1 I hg2 hm2 (by decide +kernel:bootBuiltins "zip"=some (.type "zip")) (U2o (thn (ha pos2 pins s σ H _ I h) fun us s1 ⟨vs,H1,I1,r1,q1⟩=>?_) (by rw[hs,hs2]) (by rw[hs2];rfl)))
 obtain⟨l,m,xs,ys,e,e1,e2,hl,q⟩:=q1
 subst e
 obtain⟨us1,us2⟩:us=[.ref l,.ref m]/\True:=by
  cases r1 with
  |cons r rr =>
   cases rr with
   |cons r' rr =>
    cases rr
    cases r
    cases r'
    exact⟨rfl,trivial⟩
 subst us1
 obtain⟨its1,rv1,p1⟩:=I1.Qx e1
 obtain⟨its2,rv2,p2⟩:=I1.Qx e2
 have fin:∀h',IsZip h' (s1.heap.objs.size+4) (s1.heap.objs.size+2) (s1.heap.objs.size+3) .none->IsPair h' (s1.heap.objs.size+2) (.ref s1.heap.objs.size) (.ref (s1.heap.objs.size+1))->IsPair h' (s1.heap.objs.size+3) .none .none ->
   K8 L h' s1.heap.objs.size l 0->K8 L h' (s1.heap.objs.size+1) m 0->(∀c o,s1.heap.get? c=some o->h'.get? c=some o)->wpAny (model X.prog X.w) X.A (spliced (backTo pos (starEach [] X.env))) (fun us s2=>wpAny (model X.prog X.w) X.A (call (.type "list") (.ref (s1.heap.objs.size+4)::us)) (fun v s3=>∃x H',Inv X pins σ H' s3/\RelV x v/\Q x H') X.xe s2) X.xe { s1 with heap:=h' }:=fun h' c1 c2 c3 c4 c5 k=>by
  refine Calls.spliced_nil ?_
  generalize hn:s1.heap.objs.size=n at *
  have seqAt:∀(t:Addr)(ws:Array Value),cY L s1.heap t ws->cY L h' t ws/\t<n:=fun t ws x=>by
   cases L with
   |true =>
    refine⟨Heap.IsList.at x fun o e=>k _ _ e,?_⟩
    obtain⟨o,e,_⟩:=(show s1.heap.IsList t ws from x)
    exact hn ▸ U0l e
   |false =>
    refine⟨U3r.at x fun o e=>k _ _ e,?_⟩
    obtain⟨o,e,_⟩:=(show s1.heap.IsTuple t ws from x)
    exact hn ▸ U0l e
  obtain⟨q1,ll⟩:=seqAt _ _ p1
  obtain⟨q2,lm⟩:=seqAt _ _ p2
  have lz:n+4<h'.objs.size:=U0l c1
  have lz0:n<h'.objs.size:=U3 (Nat.lt_add_of_pos_right (by decide)) lz
  have lz1:n+1<h'.objs.size:=U3 (U6w (by decide) n) lz
  have lz2:n+2<h'.objs.size:=U3 (U6w (by decide) n) lz
  have lz3:n+3<h'.objs.size:=U3 (U6w (by decide) n) lz
  have hh:X.A.in1.in1.in1.handled=none:=I1.ok.hd hc
  have sl1:=rv1.length
  have sl2:=rv2.length
  have hlen:(xs.zip ys).length=min its1.length its2.length:=by rw[U3e,sl1,sl2]
  refine HT.rB (z:=n+4) (TI:=n+2) (TO:=n+3) (i1:=n) (i2:=n+1) (m:=(xs.zip ys).length) (Q5 L hh n l (U0x ll) its1.toArray) (Q5 L hh (n+1) m (U0x (U2y lm)) its2.toArray)
   (UJ (by simp) (by simp) (by simp) ⟨by simp,by simp,by simp⟩ ⟨by simp,by simp,by simp⟩ (by simp) (by simp only[U0o,U02,or_false,not_or];exact⟨U0x (U0w ll (U1j _ _)),U0x (U0w ll (U1j _ _)),U0x (U0w ll (U1j _ _)),U0x ll,U0x (U0w ll (U1j _ _))⟩)
    (by simp only[U0o,U02,or_false,not_or];exact⟨U0x (U0w lm (U1j _ _)),U0x (U0w lm (U1j _ _)),U0x (U0w lm (U1j _ _)),U0x lm,U0x (U0w lm (U1j _ _))⟩))
   (fun j hj=>by rw[hlen] at hj;simp;omega) (by rw[hlen];simp;omega) hl ⟨c2,⟨c4,q1⟩,⟨c5,q2⟩,.inl ⟨_,_,c1,c3⟩⟩ ?_ ?_ ⟨lz,lz2,lz3,lz0,lz1⟩ fun h2 tk c' kk hS hL=>?_
  .intro b hb
   simp only[U0o,U02,or_false] at hb
   show b<h'.objs.size
   rcases hb with rfl|rfl
   .exact lz0
   .exact U3 ll lz0
  .intro b hb
   simp only[U0o,U02,or_false] at hb
   show b<h'.objs.size
   rcases hb with rfl|rfl
   .exact lz1
   .exact U3 lm lz0
  .generalize hS':h'.objs.size=S at *
   have up:∀b u,s1.heap.get? b=some u->b<n:=fun b u e=>hn ▸ U0l e
   have k2:∀b u,s1.heap.get? b=some u->h2.get? b=some u:=fun b u e=>by
    have:=up b u e
    exact kk b u (U0x (U0w this (U1j _ _))) (U0x (U0w this (U1j _ _))) (U0x this) (U0x (U0w this (U1j _ _))) (k b u e)
   let refs:List V:=(U0n (xs.zip ys).length).map fun j=>V.ref (S+1+j)
   let H2:Hp:=fun b=>if b=S then some (.lst refs) else match (if S+1<=b then (xs.zip ys)[b-(S+1)]? else none) with|some p=>some (.tup [p.1,p.2])|none=>H1 b
   have old:∀b,b<n->H2 b=H1 b:=fun b hb=>by
    have h1:b≠S:=U0x (U3 hb lz0)
    have h2:¬S+1<=b:=Nat.not_le_of_lt (U3 hb (U2y lz0))
    show(if b=S then _ else _)=_
    rw[if_neg h1,if_neg h2]
   have ext:∀b o,H1 b=some o->H2 b=some o:=fun b o e=>by
    obtain⟨ob,e'⟩:=(I1.hok b o e).obj
    rw[old b (up b ob e')];exact e
   have hpair:∀j p,(xs.zip ys)[j]?=some p->H2 (S+1+j)=some (.tup [p.1,p.2]):=fun j p e=>by
    show(if S+1+j=S then _ else _)=_
    rw[if_neg (by omega),if_pos (by omega),show S+1+j-(S+1)=j by omega,e]
   have hlst:H2 S=some (.lst refs):=by show(if S=S then _ else _)=_;rw[if_pos rfl]
   have fresh:∀b,n<=b->H1 b=none:=fun b hb=>I1.hok.fresh (hn ▸ hb)
   refine⟨.ref S,H2,I1.yt (h':=h2) (d':=s1.drawn) (t':=tk) k2 (hn ▸ old) ext fun b o e e'=>?_,rfl,q S (S+1) H2 (fresh S (U2u lz0)) ext hlst hpair⟩
   by_cases hb:b=S
   .subst hb
    rw[hlst] at e
    cases e
    refine⟨?_,(U0n (xs.zip ys).length).map (fun j=>U2n (b+1+j)),c',?_,hS⟩
    .show((U0n (xs.zip ys).length).map _).length<=_
     rw[U0k,U2z];exact U1a hl (by decide)
    .show Vals ((U0n (xs.zip ys).length).map _) _
     generalize U0n (xs.zip ys).length=r
     induction r with
     |nil=>exact .nil
     |cons j r ih=>exact .cons rfl ih
   .by_cases hb2:S+1<=b
    .obtain⟨j,rfl⟩:∃j,b=S+1+j:=⟨b-(S+1),(Nat.add_sub_cancel' hb2).symm⟩
     cases hz:(xs.zip ys)[j]? with
     |none =>
      have:H2 (S+1+j)=H1 (S+1+j):=by
       show(if S+1+j=S then _ else _)=_
       rw[if_neg hb,if_pos hb2,show S+1+j-(S+1)=j by omega,hz]
      rw[this,e'] at e;cases e
     |some p =>
      rw[hpair j p hz] at e
      cases e
      obtain⟨hj,_⟩:=U0i.mp hz
      obtain⟨x,y,r1,r2,t⟩:=hL j hj
      have z1:=List.getElem?_zip_eq_some.mp hz
      obtain⟨u,hu,ru⟩:=rv1.get z1.1
      obtain⟨v,hv,rv⟩:=rv2.get z1.2
      have g1:its1[j]?=some x:=by simpa using r1
      have g2:its2[j]?=some y:=by simpa using r2
      rw[hu] at g1
      rw[hv] at g2
      have g1':=U06 g1
      have g2':=U06 g2
      rw[g1'] at ru
      rw[g2'] at rv
      exact⟨(by decide:2<=sizeLine),[x,y],.cons ru (.cons rv .nil),⟨_,t,rfl,_,rfl⟩⟩
    .have:H2 b=H1 b:=by
      show(if b=S then _ else _)=_
      rw[if_neg hb,if_neg hb2]
     rw[this,e'] at e;cases e
 cases L with
 |true=>exact call_zip_2 p1 p2 fun h' c1 c2 c3 c4 c5 _ k=>fin h' c1 c2 c3 c4 c5 k
 |false=>exact HT.ZK p1 p2 fun h' c1 c2 c3 c4 c5 k=>fin h' c1 c2 c3 c4 c5 k
end
end L2
end
section
namespace VS
open PySem PySem.Spec L2 PyProof.Rows
theorem Wk{Γ:Fr}{μ:Mu}{H:Hp}:∀{as bs:List V} {xs ys:List D} (t0:Nat),VRs Γ μ H as xs->VRs Γ μ H bs ys->(∀j p,(as.zip bs)[j]?=some p->H (t0+j)=some (.tup [p.1,p.2]))->VRs Γ μ H ((U77 t0 (as.zip bs).length).map V.ref) (Cu xs ys)
 |[],_,_,_,_,.nil,_,_=>by simp[Cu];exact .nil
 |_::_,[],_,_,_,.cons _ _,.nil,_=>by simp[Cu];exact .nil
 |a::as,b::bs,_,_,t0,.cons ra rs,.cons rb rt,h=>by
  rw[U4b,U0j,List.range'_succ,U0s,Cu]
  refine .cons (.tup (h 0 (a,b) rfl) (.cons ra (.cons rb .nil))) (Wk (t0+1) rs rt fun j p hp=>?_)
  have:=h (j+1) p (by simpa using hp)
  rw[show t0+1+j=t0+(j+1) by omega]
  exact this
theorem WR:∀(xs ys:List D),(Cu xs ys).length=(xs.zip ys).length
 |[],_=>by simp[Cu]
 |_::_,[]=>by simp[Cu]
 |_::xs,_::ys=>by simp[Cu,WR xs ys]
def Oa(a:BX):Ba:=fun env S=>(a env S).bind fun p=>match p.1 with
 |[x,y]=>(listOf p.2 x).bind fun xs=>(listOf p.2 y).bind fun ys=>if (Cu xs ys).length<=1000000 then some (.lst true (Cu xs ys),p.2) else none
 |_=>none
theorem V9{X:Cx}{a b:Expr}{f:BX}{p p2 pos pos2:Pos}(hc:X.calm=true)(ha:JA X [a,b] f)(hg:Gl X "list")(hm:X.mg "list"=none)(hg2:Gl X "zip")(hm2:X.mg "zip"=none)(hs:starEach [a,b] X.env=[(false,eval a X.env),(false,eval b X.env)]:=by rfl)(hs2:starEach [b] X.env=[(false,eval b X.env)]:=by rfl)
  (he2:starEach [.Call (.Name "zip" p2) [a,b] [] pos2] X.env=[(false,eval (.Call (.Name "zip" p2) [a,b] [] pos2) X.env)]:=by rfl):JE X (.Call (.Name "list" p) [.Call (.Name "zip" p2) [a,b] [] pos2] [] pos) (Oa f) :=
 ⟨PE.imp (dX true hc hg hm hg2 hm2 ha.pa hs hs2 he2) fun σ H Q h=>by
  obtain⟨Γ,μ,env,S,d,S',hK,R,e,q⟩:=h
  obtain⟨⟨ds,S1⟩,e1,e⟩:=bind_some e
  dsimp only at e
  split at e
  .rename_i x y
   obtain⟨xs,e2,e⟩:=bind_some e
   obtain⟨ys,e3,e⟩:=bind_some e
   by_cases hl:(Cu xs ys).length<=1000000
   .rw[if_pos hl] at e;cases e
    refine⟨Γ,μ,env,S,[x,y],_,hK,R,e1,fun vs μ1 H1 x1 R1 r1=>?_⟩
    obtain⟨v,u,rfl,ra,rb⟩:=r1.two
    obtain⟨pa,as,rfl,ha',rx⟩:=VR.list R1 ra e2
    obtain⟨pb,bs,rfl,hb',ry⟩:=VR.list R1 rb e3
    refine⟨pa,pb,as,bs,rfl,ha',hb',?_,fun l t0 H2 hn hx hl2 hp=>?_⟩
    .rw[WR,U3e,←rx.length,←ry.length] at hl
     rw[U3e];exact hl
    .obtain⟨R2,x2⟩:=R1.grow (show Same H1 H2 from hx)
     have hr:(U0n (as.zip bs).length).map (fun j=>V.ref (t0+j))=(U77 t0 (as.zip bs).length).map V.ref:=by
      rw[List.range'_eq_map_range,U0e];rfl
     exact q _ μ1 H2 (x1.trans x2) R2 (.lst (R1.ok hn true) (R1.dead hn) hl2 (by rw[hr];exact Wk t0 (rx.ext x2) (ry.ext x2) hp))
   .rw[if_neg hl] at e;cases e
  .cases e⟩
theorem T6(a:BX)(env:VS.Env)(S:Store):VS.Oa a env S=(a env S).bind fun p=>match p.1 with
 |[x,y]=>(listOf p.2 x).bind fun xs=>(listOf p.2 y).bind fun ys=>if (Cu xs ys).length<=1000000 then some (.lst true (Cu xs ys),p.2) else none
 |_=>none:=rfl
end VS
end
section
namespace VS
open PySem PySem.Spec L2
end VS
end
section
namespace HT
open PySem PySem.Spec PyProof PyProof.Rows
def half{α:Type}(a:Nat)(l:List α):List α:=(U0n ((l.length+1-a)/2)).filterMap fun k=>l[a+2*k]?
theorem Z2{α:Type}(a:Nat)(l:List α):(half a l).length<=l.length:=by
 refine U1a (List.length_filterMap_le ..) ?_
 rw[U2z]
 omega
theorem Vl(xs:Array Value):slicePick xs none none (some 2)=(half 0 xs.toList).toArray:=by
 have b:sliceBounds none none (some 2) xs.size=(0,(xs.size:Int),2):=by simp[sliceBounds]
 unfold slicePick
 rw[b]
 unfold sliceRange half
 simp only[show((2:Int)>0) by decide,if_true]
 have e:(if (0:Int)<(xs.size:Int) then ((xs.size:Int)-0+2-1)/2 else 0).toNat=(xs.toList.length+1-0)/2:=by
  rw[U1r]
  split<;>omega
 rw[e,U48]
 refine congrArg U73 (congrArg (fun f=>List.filterMap f _) (funext fun k=>?_))
 show xs[((0:Int)+2*(k:Int)).toNat]?=_
 rw[show((0:Int)+2*(k:Int)).toNat=0+2*k by omega,U24]
theorem Vk(xs:Array Value):slicePick xs (some 1) none (some 2)=(half 1 xs.toList).toArray:=by
 have b:sliceBounds (some 1) none (some 2) xs.size=(min 1 (xs.size:Int),(xs.size:Int),2):=by
  simp[sliceBounds]
  omega
 unfold slicePick
 rw[b]
 unfold sliceRange half
 simp only[show((2:Int)>0) by decide,if_true]
 have e:(if min 1 (xs.size:Int)<(xs.size:Int) then ((xs.size:Int)-min 1 (xs.size:Int)+2-1)/2 else 0).toNat=(xs.toList.length+1-1)/2:=by
  rw[U1r]
  split<;>omega
 rw[e,U48]
 by_cases hn:xs.size=0
 .have:xs.toList.length=0:=by rw[U1r];exact hn
  rw[this];rfl
 refine congrArg U73 (congrArg (fun f=>List.filterMap f _) (funext fun k=>?_))
 show xs[(min 1 (xs.size:Int)+2*(k:Int)).toNat]?=_
 rw[show(min 1 (xs.size:Int)+2*(k:Int)).toNat=1+2*k by omega,U24]
end HT
namespace L2
open PySem PySem.Spec PyProof PyProof.Rows
theorem Vals.pick{xs:List V}{us:List Value}(r:Vals xs us):∀ks:List Nat,Vals (ks.filterMap (xs[·]?)) (ks.filterMap (us[·]?))
 |[]=>.nil
 |k::ks=>by
  have hl:=r.length
  cases h:xs[k]? with
  |none =>
   have h':us[k]?=none:=by rw[List.getElem?_eq_none_iff] at h ⊢;omega
   rw[U43 h,U43 h']
   exact r.pick ks
  |some x =>
   obtain⟨u,hu,ru⟩:=r.get h
   rw[U25 h,U25 hu]
   exact .cons ru (r.pick ks)
theorem PB{α:Type}(a:Nat)(l:List α):HT.half a l=((U0n ((l.length+1-a)/2)).map fun k=>a+2*k).filterMap (l[·]?):=by
 unfold HT.half
 rw[U48];rfl
theorem Vals.half{xs:List V}{us:List Value}(r:Vals xs us)(a:Nat):Vals (HT.half a xs) (HT.half a us):=by
 rw[PB,PB,←r.length]
 exact r.pick _
def d7(K:U0b)(k:Nat)(te:TE):TE:=fun σ H Q=>te σ H fun x H1=>∃(a:Addr)(xs:List V),x=.ref a/\SqL K H1 a xs/\∀p,H1 p=none->Q (.ref p) (upd H1 p (.lst (HT.half k xs)))
theorem lg{X:Cx}{e:Expr}{te:TE}{j:Nat}{p0 p2 pos:Pos}(he:PE X e te):PE X (.Subscript e (.Slice none none (some (.Constant (.int 2) j p0)) p2) pos) (d7 X.K 0 te):=by
 intro pins s σ H Q I h
 refine Subscript_ (thn (he pins s σ H _ I h) fun v s1 ⟨x,H1,I1,r1,q1⟩=>?_)
 obtain⟨a,xs,rfl,ha,q⟩:=q1
 cases r1
 refine wpAny_Slice ?_
 rw[evalPart_none]
 refine U0f (U0f ?_)
 rw[evalPart_some]
 refine thn (Uq pins s1 σ H1 (fun x H2=>x=.int 2/\H2=H1) I1 ⟨rfl,rfl⟩) fun u s2 ⟨y,H2,I2,r2,e1,e2⟩=>?_
 subst e1 e2
 obtain⟨t0,rfl⟩:=(show ∃t,u=U3f 2 t from r2)
 have I4:Inv X pins σ H2 { s2 with heap:=s2.heap.push { cls:=.type "slice",data:=.fields #[.none,.none,.int 2 t0] } }:=I2.kept (t':=s2.toks) fun b ob q=>U0a _ q
 obtain⟨its,rv,ht,hz⟩:=I4.list ha
 have hlen:=rv.length
 show wpAny (model X.prog X.w) X.A (subscriptTail e (.Slice none none (some (.Constant (.int 2) j p0)) p2) (.ref a) (.ref s2.heap.objs.size)) (EP X pins σ Q) X.xe { s2 with heap:=s2.heap.push { cls:=.type "slice",data:=.fields #[.none,.none,.int 2 t0] } }
 refine tail_any (ops:=[.ref a,.ref s2.heap.objs.size]) ht.isList.typeIs slot_list_getitem.lookup ?_ (by with_unfolding_all rfl)
 refine U52 ht.isList (U62 ..) .none .none (.int 2 t0) (by simp) ?_ (by rw[U0m,←hlen];exact hz)
 rw[HT.Vl]
 refine⟨.ref _,_,I4.laid (t':=s2.toks) (o:=.lst (HT.half 0 xs)) (fun b ob q=>U0a _ q) (U0q _) ?_,rfl,q _ (I4.hok.fresh (U0q _))⟩
 exact⟨U1a (HT.Z2 0 xs) hz,HT.half 0 its,0,rv.half 0,U0p _ rfl⟩
theorem lZ{X:Cx}{e:Expr}{te:TE}{i j:Nat}{p0 p1 p2 pos:Pos}(he:PE X e te):PE X (.Subscript e (.Slice (some (.Constant (.int 1) i p1)) none (some (.Constant (.int 2) j p0)) p2) pos) (d7 X.K 1 te):=by
 intro pins s σ H Q I h
 refine Subscript_ (thn (he pins s σ H _ I h) fun v s1 ⟨x,H1,I1,r1,q1⟩=>?_)
 obtain⟨a,xs,rfl,ha,q⟩:=q1
 cases r1
 refine wpAny_Slice ?_
 rw[evalPart_some]
 refine thn (Uq pins s1 σ H1 (fun x H2=>x=.int 1/\H2=H1) I1 ⟨rfl,rfl⟩) fun u s2 ⟨y,H2,I2,r2,e1,e2⟩=>?_
 subst e1 e2
 obtain⟨t0,rfl⟩:=(show ∃t,u=U3f 1 t from r2)
 rw[evalPart_none]
 refine U0f ?_
 rw[evalPart_some]
 refine thn (Uq pins s2 σ H2 (fun x H3=>x=.int 2/\H3=H2) I2 ⟨rfl,rfl⟩) fun u s3 ⟨y,H3,I3,r3,e1,e2⟩=>?_
 subst e1 e2
 obtain⟨t1,rfl⟩:=(show ∃t,u=U3f 2 t from r3)
 have I4:Inv X pins σ H3 { s3 with heap:=s3.heap.push { cls:=.type "slice",data:=.fields #[.int 1 t0,.none,.int 2 t1] } }:=I3.kept (t':=s3.toks) fun b ob q=>U0a _ q
 obtain⟨its,rv,ht,hz⟩:=I4.list ha
 have hlen:=rv.length
 show wpAny (model X.prog X.w) X.A (subscriptTail e (.Slice (some (.Constant (.int 1) i p1)) none (some (.Constant (.int 2) j p0)) p2) (.ref a) (.ref s3.heap.objs.size)) (EP X pins σ Q) X.xe { s3 with heap:=s3.heap.push { cls:=.type "slice",data:=.fields #[.int 1 t0,.none,.int 2 t1] } }
 refine tail_any (ops:=[.ref a,.ref s3.heap.objs.size]) ht.isList.typeIs slot_list_getitem.lookup ?_ (by with_unfolding_all rfl)
 refine U52 ht.isList (U62 ..) (.int 1 t0) .none (.int 2 t1) (by simp) ?_ (by rw[U0m,←hlen];exact hz)
 rw[HT.Vk]
 refine⟨.ref _,_,I4.laid (t':=s3.toks) (o:=.lst (HT.half 1 xs)) (fun b ob q=>U0a _ q) (U0q _) ?_,rfl,q _ (I4.hok.fresh (U0q _))⟩
 exact⟨U1a (HT.Z2 1 xs) hz,HT.half 1 its,0,rv.half 1,U0p _ rfl⟩
def Itw(lo:Int)(n:Nat):It:=⟨fun i _=>i<n,fun i H x H'=>H'=H/\x=.int (lo+i*2),fun i _=>n<=i⟩
theorem jr{P:Program}{w:World}{K:U0b}{tg:Expr}(it:Addr)(lo:Int)(n:Nat):Turn P w K tg (Itw lo n) [it] it (fun i h=>IsRangeIter h it (lo+(i:Nat)*2) ((n:Int)-(i:Nat)) 2) where
 mem:=by simp
 obj:=fun i h st b hb=>by
  obtain rfl:b=it:=by simpa using hb
  exact⟨_,st,fun v z=>by
   have z':Data.fields _=Data.cell v:=z
   cases z'⟩
 keep:=fun i h h' st k=>k it (by simp) _ st
 item:=by
  intro X hP hw hK hc i pins s σ H E I hf st hg
  subst hP hw hK
  obtain⟨f0,f1,f2,f3,f4,f5⟩:=hf it (by simp)
  refine(Walks.range (prog:=X.prog) (w:=X.w) (I.ok.hd hc) it lo 2 n).item i s _ _ hg st fun v h' tk hv st' kk=>?_
  obtain⟨t,rfl⟩:=hv
  have I1:Inv X pins σ H { s with heap:=h',toks:=tk }:=I.turned (fun b o hb e=>kk b o (by simpa using hb) e) f0 f1 f3 f4 f5
  exact⟨_,rfl,Xw (s:={ s with heap:=h',toks:=tk }) (n:="range_iterator") st' rfl rfl (by decide) ⟨.int (lo+i*2),H,I1,⟨t,rfl⟩,⟨rfl,rfl⟩,st',fun b hb=>(hf b hb).1⟩⟩
 done:=by
  intro X hP hw hK hc i pins s σ H E I hf st hg
  subst hP hw hK
  obtain⟨f0,f1,f2,f3,f4,f5⟩:=hf it (by simp)
  exact wpAny_pyNext_range_end (I.ok.hd hc) st (by have:n<=i:=hg;omega) fun h' eb=>⟨rfl,I.turned (t':=s.toks) (fun b o hb e=>eb b o hb e) f0 f1 f3 f4 f5⟩
 self:=fun _ _ _ _ _ st h=>wpAny_pyIter_rangeiter st h
theorem gn{a b:Int}(h1:-1000000<=a)(h2:a<=1000000)(h3:-1000000<=b)(h4:b<=1000000):Builtin.Range.small a b 2=true:=by
 unfold Builtin.Range.small
 unfold U37
 simp only[Builtin.Range.rangeFitsLong,U1e,U5x,decide_eq_true_eq,beq_iff_eq,show(2:Int)>0 by decide,if_true]
 split<;>omega
def Ls(lo hi:Int):Nat:=((hi-lo+1)/2).toNat
def zF(ta:TA):TI:=fun σ H R=>ta σ H fun vs H1=>∃i j:Int,vs=[.int i,.int j,.int 2]/\(-1000000<=i/\i<=1000000/\-1000000<=j/\j<=1000000)/\R (Itw i (Ls i j)) H1
theorem iZ{X:Cx}{tg:Expr}{a b c:Expr}{ta:TA}{p pos:Pos}(hg:Gl X "range")(hm:X.mg "range"=none)(ha:PA X [a,b,c] ta)(hs:starEach [a,b,c] X.env=[(false,eval a X.env),(false,eval b X.env),(false,eval c X.env)]:=by rfl)(hs2:starEach [b,c] X.env=[(false,eval b X.env),(false,eval c X.env)]:=by rfl) :
  PI X tg (.Call (.Name "range" p) [a,b,c] [] pos) (zF ta):=by
 intro pins s σ H R I h
 refine Call_ (K1 I hg hm boot_range (U2o (thn (ha pos pins s σ H _ I h) fun us s1 ⟨vs,H1,I1,r1,q1⟩=>?_) (by rw[hs,hs2]) (by rw[hs2];rfl)))
 obtain⟨i,j,e,⟨q1,q2,q3,q4⟩,q⟩:=q1
 subst e
 cases r1 with
 |cons r rr =>
  cases rr with
  |cons r' rr =>
   cases rr with
   |cons r'' rr =>
    cases rr
    obtain⟨t,rfl⟩:=r
    obtain⟨t',rfl⟩:=r'
    obtain⟨t'',rfl⟩:=r''
    refine PySem.call_range_3 (by decide) ?_ (.inl (PyProof.noPylong_small (by decide)))
    refine wpAny_pyIter_range (IsRange.new ..) (gn q1 q2 q3 q4) ?_
    have I2:Inv X pins σ H1 { s1 with heap:=s1.heap.push { cls:=.type "range",data:=.fields #[.int i t,.int j t',.int 2 t''] } }:=I1.kept (t':=s1.toks) fun b o e=>U0a _ e
    refine⟨_,[_],_,_,H1,rfl,I2.kept (t':=s1.toks) fun b o e=>U0a _ e,jr _ i (Ls i j),?_,fun b hb=>?_,q⟩
    .have e1:i+((0:Nat):Int)*2=i:=by simp
     have e2:((Ls i j:Nat):Int)-((0:Nat):Int)=U37 i j 2:=by
      unfold Ls U37
      simp only[show(2:Int)>0 by decide,if_true]
      split<;>omega
     show IsRangeIter _ _ (i+((0:Nat):Int)*2) (((Ls i j:Nat):Int)-((0:Nat):Int)) 2
     rw[e1,e2]
     exact U0p _ rfl
    .obtain rfl:=U04.mp hb
     exact I2.Tc (U0q _) (I2.hok.fresh (U0q _))
end L2
end
section
namespace VS
open PySem PySem.Spec L2
theorem VRs.pick{Γ:Fr}{μ:Mu}{H:Hp}{xs:List V}{ds:List D}(r:VRs Γ μ H xs ds):∀ks:List Nat,VRs Γ μ H (ks.filterMap (xs[·]?)) (ks.filterMap (ds[·]?))
 |[]=>.nil
 |k::ks=>by
  have hl:=r.length
  cases h:ds[k]? with
  |none =>
   have h':xs[k]?=none:=by rw[List.getElem?_eq_none_iff] at h ⊢;omega
   rw[U43 h,U43 h']
   exact r.pick ks
  |some d =>
   obtain⟨u,hu,ru⟩:=r.get h
   rw[U25 h,U25 hu]
   exact .cons ru (r.pick ks)
theorem VRs.half{Γ:Fr}{μ:Mu}{H:Hp}{xs:List V}{ds:List D}(r:VRs Γ μ H xs ds)(a:Nat):VRs Γ μ H (HT.half a xs) (HT.half a ds):=by
 rw[PB,PB,r.length]
 exact r.pick _
def Oj(k:Nat)(S:Store)(x:D):Option D:=(listOf S x).map fun ds=>.lst true (HT.half k ds)
theorem aq{K:U0b}{k:Nat}{f:Ba}{σ:St}{H:Hp}{Q:VK}(h:wpE K (eUn (Oj k) f) σ H Q):d7 K k (wpE K f) σ H Q:=by
 obtain⟨Γ,μ,env,S,d,S',hK,R,e,q⟩:=h
 obtain⟨⟨x,S1⟩,e1,e⟩:=bind_some e
 obtain⟨z,e3,e⟩:=map_some e
 cases e
 refine⟨Γ,μ,env,S,x,S1,hK,R,e1,fun v1 μ1 H1 x1 R1 r1=>?_⟩
 obtain⟨ds,e4,e5⟩:=map_some e3
 subst e5
 obtain⟨a,xs,rfl,ha,rs⟩:=VR.list R1 r1 e4
 refine⟨a,xs,rfl,SqL.of ha,fun t ht=>?_⟩
 obtain⟨R2,x2⟩:=R1.grow (Cp ht (.lst (HT.half k xs)))
 exact q _ μ1 _ (x1.trans x2) R2 (.lst (R1.ok ht true) (R1.dead ht) CK ((rs.half k).ext x2))
theorem mz{X:Cx}{e:Expr}{f:Ba}{j:Nat}{p0 p2 pos:Pos}(he:JE X e f):JE X (.Subscript e (.Slice none none (some (.Constant (.int 2) j p0)) p2) pos) (eUn (Oj 0) f):=⟨PE.imp (lg he.pe) fun σ H Q h=>aq h⟩
theorem mq{X:Cx}{e:Expr}{f:Ba}{i j:Nat}{p0 p1 p2 pos:Pos}(he:JE X e f):JE X (.Subscript e (.Slice (some (.Constant (.int 1) i p1)) none (some (.Constant (.int 2) j p0)) p2) pos) (eUn (Oj 1) f):=⟨PE.imp (lZ he.pe) fun σ H Q h=>aq h⟩
def upW(lo:Int)(n:Nat):List D:=(U0n n).map fun i=>D.int (lo+(i:Nat)*2)
theorem wU{Γ:Fr}{μ:Mu}{H:Hp}(lo:Int)(n:Nat):Tg Γ μ H (Itw lo n) (upW lo n) []:=by
 have len:(upW lo n).length=n:=by unfold upW;rw[U0k,U2z]
 refine⟨fun i d μ' H' σ' env' S' hi x R c=>?_,fun μ' H' σ' env' S' x R c=>?_⟩
 .have hi':i<n:=by rw[←len];exact(U0i.mp hi).1
  refine⟨hi',fun y H'' yl=>?_⟩
  obtain⟨e1,e2⟩:=yl
  subst e1 e2
  unfold upW at hi
  rw[U0v,U5p hi'] at hi
  cases hi
  exact⟨Same.refl _,.int _⟩
 .show n<=(upW lo n).length
  rw[len];exact U0q _
def SN(a:BX):Jw:=fun env S=>(a env S).bind fun p=>match p.1 with|[.int i,.int j,.int 2]=>if (-1000000<=i/\i<=1000000)/\-1000000<=j/\j<=1000000 then some ((upW i (Ls i j),[]),p.2) else none|_=>none
theorem eY(a:BX)(env:VS.Env)(S:Store):SN a env S=(a env S).bind fun p=>match p.1 with|[.int i,.int j,.int 2]=>if (-1000000<=i/\i<=1000000)/\-1000000<=j/\j<=1000000 then some ((upW i (Ls i j),[]),p.2) else none|_=>none:=rfl
theorem VRs.three{Γ:Fr}{μ:Mu}{H:Hp}{vs:List V}{d e f:D}(h:VRs Γ μ H vs [d,e,f]):∃v u t,vs=[v,u,t]/\VR Γ μ H v d/\VR Γ μ H u e/\VR Γ μ H t f:=by
 cases h with|cons r t=>cases t with|cons r' t=>cases t with|cons r'' t=>cases t;exact⟨_,_,_,rfl,r,r',r''⟩
theorem j8{X:Cx}{tg:Expr}{a b c:Expr}{f:BX}{p pos:Pos}(hg:Gl X "range")(hm:X.mg "range"=none)(ha:JA X [a,b,c] f)(hs:starEach [a,b,c] X.env=[(false,eval a X.env),(false,eval b X.env),(false,eval c X.env)]:=by rfl)(hs2:starEach [b,c] X.env=[(false,eval b X.env),(false,eval c X.env)]:=by rfl) :
  JI X tg (.Call (.Name "range" p) [a,b,c] [] pos) (SN f) :=
 ⟨PI.imp (iZ hg hm ha.pa hs hs2) fun σ H Q h=>by
  obtain⟨Γ,μ,env,S,ds,w,S',hK,R,e,q⟩:=h
  obtain⟨⟨d,S1⟩,e1,e⟩:=bind_some e
  refine⟨Γ,μ,env,S,d,S1,hK,R,e1,fun v μ1 H1 x1 R1 r1=>?_⟩
  dsimp only at e
  split at e
  .rename_i i j
   by_cases hj:(-1000000<=i/\i<=1000000)/\-1000000<=j/\j<=1000000
   .rw[if_pos hj] at e
    cases e
    obtain⟨v,u,t,rfl,r,r',r''⟩:=r1.three
    cases r
    cases r'
    cases r''
    exact⟨i,j,rfl,⟨hj.1.1,hj.1.2,hj.2.1,hj.2.2⟩,q _ μ1 H1 x1 R1 (wU i _)⟩
   .rw[if_neg hj] at e;cases e
  .cases e⟩
def cj(i j:Int):Prop:=i.natAbs<2^1024/\j.natAbs<2^1024
theorem cj.ok{i j:Int}(h:cj i j):IntMulOk i j:=by
 have h1:=PyProof.Rows.intBits_le h.1
 have h2:=PyProof.Rows.intBits_le h.2
 have h3:Builtin.Int.intTooBig (Builtin.Int.intBits i+Builtin.Int.intBits j)=false:=by
  unfold Builtin.Int.intTooBig
  refine decide_eq_false ?_
  have:(4096:Int)<=bitsLine:=by decide
  omega
 unfold IntMulOk
 rw[h3]
 simp
theorem S6{X:Cx}:OpR X (binaryOp .Mult) (rI cj fun i j=>.int (i*j)):=opI fun _ _ _ _ _ _ _ hc q=>PyProof.Rows.mul_int q hc.ok
def Y8(i j:Int):Bool:=decide (i.natAbs<2^1024)&&decide (j.natAbs<2^1024)
def N8:=oI Y8 fun i j=>.int (i*j)
theorem QT{K:U0b}:Fv K (rI cj fun i j=>.int (i*j)) N8:=Xq _ fun i j h=>by
 unfold Y8 at h
 rw[U1e,decide_eq_true_eq,decide_eq_true_eq] at h
 exact h
end VS
end
section
namespace L2
open PySem PySem.Spec PyProof PyProof.Rows
section
variable{X:Cx}
def uM(K:U0b):List V->Hp->VK->Prop:=fun xs H Q=>∃(p:Addr)(ns:List Int),xs=[.ref p]/\SqL K H p (ns.map V.int)/\Q (.int ns.sum) H
theorem jM(hc:X.calm=true):Dc X (.builtin "sum") (uM X.K):=by
 intro pins s σ H xs us Q I r h
 obtain⟨p,ns,rfl,hq,q⟩:=h
 obtain⟨u,rfl,rx⟩:=vals1 r
 cases rx
 obtain⟨its,rv,pl,hz⟩:=I.list hq
 have hi:IntsAre its ns:=intsAre_of rv
 obtain⟨ys,hy⟩:=hi.allInts.items
 have hn:=hi.numsOf
 have hl:=pl.isList
 rw[hy] at hl
 refine sum_intListG (I.ok.hd hc) hl fun h' tk t' hk=>⟨.int ns.sum,H,I.kept (h':=h') (t':=tk) hk,⟨t',?_⟩,q⟩
 have e:its=(intItems ys).toList:=by rw[←hy]
 rw[e,nums_intItems] at hn
 rw[preSum_eq,U6d (by simp),hn]
end
end L2
end
section
namespace HT
open PySem PySem.Spec PyProof PyProof.Rows
section
variable{P0:Program}{wd:World}{Ar:Around}{Er:Value->Shared->Prop}{sh:Shared}
variable{J:Addr}{fp wr:List Addr}{n:Nat}{P:Nat->Value->Prop}{St:Nat->Heap->Prop}{Rr:Result->Shared->Prop}{dv:Value}
end
end HT
namespace L2
open PySem PySem.Spec PyProof PyProof.Rows
section
variable{X:Cx}
end
end L2
end
section
namespace VS
open PySem PySem.Spec L2
theorem wZ:bootBuiltins "sum"=some (.builtin "sum"):=by decide +kernel
def cX(S:Store):List D->Option D
 |[x]=>(listOf S x).bind fun ds=>(intsOf ds).map fun ns=>.int ns.sum
 |_=>none
theorem pY{K:U0b}:Lj K (uM K) cX:=by
 intro Γ μ σ H env S xs ds d hK R rs e Q q
 unfold cX at e
 split at e
 .obtain⟨es,e1,e⟩:=bind_some e
  obtain⟨ns,e2,e4⟩:=map_some e
  subst e4
  obtain⟨v,rfl,r⟩:=rs.one
  obtain⟨a,ys,rfl,ha,rx⟩:=VR.list R r e1
  have:=Gp e2
  subst this
  have:=rx.Oq
  subst this
  exact⟨a,ns,rfl,SqL.of ha,q _ H (Same.refl H) (.int _)⟩
 .cases e
end VS
end
section
namespace VS
open PySem PySem.Spec L2
def cP(i j:Nat)(a:BX):BL:=fun env S=>(a env S).bind fun p=>match p.1 with
 |[d,e]=>some (.nx,(env.set i (some d)).set j (some e),p.2)
 |_=>none
theorem pZ(i j:Nat)(a:BX)(env:VS.Env)(S:Store):cP i j a env S=(a env S).bind fun p=>match p.1 with
 |[d,e]=>some (.nx,(env.set i (some d)).set j (some e),p.2)
 |_=>none:=rfl
theorem wM{X:Cx}{i j:Nat}{x y:Str}{a b:Expr}{fa:BX}{px py pt pos:Pos}{kt k2 pt2}(hc:X.calm=true)(hN:X.N.Nodup)(ha:JA X [a,b] fa)(hi:X.N[i]?=some x:=by rfl)(hj:X.N[j]?=some y:=by rfl)(hij:i≠j:=by decide)
  (hx:X.env.scope.names.lookup x=some .local:=by rfl) (hy:X.env.scope.names.lookup y=some .local:=by rfl)
  (hw:swappedStores [.Tuple [.Name x px,.Name y py] kt pt] (.Tuple [a,b] k2 pt2) X.env=pure (some [x,y]):=by rfl)
  (hs:swapsWithSole [.Tuple [.Name x px,.Name y py] kt pt] (.Tuple [a,b] k2 pt2) pos.line X.env=pure false:=by rfl) :
  JS X (.Assign [.Tuple [.Name x px,.Name y py] kt pt] (.Tuple [a,b] k2 pt2) pos) (cP i j fa):=⟨PS.imp (vN hc hN hi hj hij hx hy ha.pa hw hs) fun E σ H h=>by
 obtain⟨Γ,μ,env,S,fl,env',S',hK,R,e,q⟩:=h
 obtain⟨⟨ds,S1⟩,e1,e⟩:=bind_some e
 match ds,e with
 |[d1,d2],e =>
  cases e
  refine⟨Γ,μ,env,S,[d1,d2],S1,hK,R,e1,fun vs μ1 H1 x1 R1 r1=>?_⟩
  cases r1 with
  |cons p q1 =>
   cases q1 with
   |cons p' q2 =>
    cases q2
    exact⟨_,_,rfl,q μ1 _ H1 x1 ((R1.Vs i p).Vs j p')⟩⟩
end VS
end
section
set_option maxRecDepth 100000
namespace HT
open PySem PySem.Spec PyProof.Rows
section
variable{prog:Program}{w:World}{A:Around}{E:Value->Shared->Prop}{s:Shared}
abbrev Eb(h:Heap)(T:Addr)(a b c:Value):Prop:=h.get? T=some { cls:=.type "tuple",data:=.seq #[a,b,c] }
theorem jT{T:Addr}{a b c x:Value}{k:Nat}{Q:Unit->Shared->Prop}(hT:Eb s.heap T a b c)
  (h:∀h',h'.get? T=some { cls:=.type "tuple",data:=.seq ((#[a,b,c]:Array Value).setIfInBounds k x) }->U0y T s.heap h'->Q () { s with heap:=h' }) :
  wpAny (model prog w) A (updateSeq T (·.setIfInBounds k x)) Q E s:=by
 refine U4h hT rfl (h _ ?_ (U1w ..))
 rw[U2a _ hT rfl]
 simp[U2e]
structure Q8(z TI TO i1 i2 i3:Addr)(fp1 fp2 fp3:List Addr):Prop where
 a1:TI≠z
 a2:TO≠z
 a3:TI≠TO
 b1:∀b∈fp1,b≠z/\b≠TO/\b≠i2/\b≠i3
 b2:∀b∈fp2,b≠z/\b≠TO/\b≠i1/\b≠i3
 b3:∀b∈fp3,b≠z/\b≠TO/\b≠i1/\b≠i2
 c1:i1≠z/\i1≠TO/\i1≠TI
 c2:i2≠z/\i2≠TO/\i2≠TI
 c3:i3≠z/\i3≠TO/\i3≠TI
section
variable{z TI TO i1 i2 i3:Addr}{fp1 fp2 fp3:List Addr}{n1 n2 n3 k:Nat}{P1 P2 P3:Nat->Value->Prop}{S1 S2 S3:Nat->Heap->Prop}{a b c:Value}
theorem yD{Q:Value->Shared->Prop}(D1:Draws prog w A i1 fp1 n1 P1 S1)(D2:Draws prog w A i2 fp2 n2 P2 S2)(D3:Draws prog w A i3 fp3 n3 P3 S3)(D:Q8 z TI TO i1 i2 i3 fp1 fp2 fp3)(hZ:IsZip s.heap z TI TO .none)(hI:Eb s.heap TI (.ref i1) (.ref i2) (.ref i3))(hO:Eb s.heap TO a b c)
  (s1:S1 k s.heap) (s2:S2 k s.heap) (s3:S3 k s.heap) (k1:k<n1) (k2:k<n2) (k3:k<n3)
  (q:∀x y v h' tk,P1 k x->P2 k y->P3 k v->IsZip h' z TI TO (rawInt s.heap.objs.size)->Eb h' TO x y v->S1 (k+1) h'->S2 (k+1) h'->S3 (k+1) h'->Eb h' s.heap.objs.size x y v->h'.objs.size=s.heap.objs.size+1 ->
   (∀c o,c≠z->c≠TO->c≠i1->c≠i2->c≠i3->s.heap.get? c=some o->h'.get? c=some o)->Q (.ref s.heap.objs.size) { s with heap:=h',toks:=tk }) :
  wpAny (model prog w) A (Builtin.«zip.__next__» ⟨[.ref z],[]⟩) (fun fin s'=>∃v,fin=.done (.ret v)/\Q v s') E s:=by
 obtain⟨hp,g,d,tk0,os⟩:=s
 refine(show wpAny _ _ (field (.ref z) 2 >>= _) _ _ _ from U0 (U1t hZ rfl (x:=.bool false) rfl ?_))
 refine(show wpAny _ _ (field (.ref z) 3 >>= _) _ _ _ from U0 (U1t hZ rfl (x:=.ref TI) rfl (U0 (U15 hI rfl ?_))))
 refine(show wpAny _ _ (U1c (.ref z) >>= _) _ _ _ from U0 ?_)
 unfold U1c
 refine U0 (U1t hZ rfl (x:=.none) rfl (U0f ?_))
 simp only[if_true]
 refine U0 (U39 (U0 (U1t hZ rfl (x:=.ref TO) rfl (U0 (U2p hZ (by simp) fun g1 z1 m1=>?_)))))
 replace z1:IsZip g1 z TI TO .ellipsis:=z1
 replace m1:U0y z hp g1:=m1
 refine U0 ?_
 simp only[U41,U6p,U3p,U4s]
 have t1:S1 k g1:=D1.frame _ _ _ s1 fun c hc o e=>m1.extBut _ _ (D.b1 c hc).1 e
 have u1:S2 k g1:=D2.frame _ _ _ s2 fun c hc o e=>m1.extBut _ _ (D.b2 c hc).1 e
 have r1:S3 k g1:=D3.frame _ _ _ s3 fun c hc o e=>m1.extBut _ _ (D.b3 c hc).1 e
 refine U0 (U0 (U36 (show wpAny _ _ (U09 (.ref i1) >>= _) _ _ _ from U0 (D1.item k ⟨g1,g,d,tk0,os⟩ _ _ k1 t1 fun x g2 tk1 px t2 m2=>U0f ?_))))
 replace m2:U0y i1 g1 g2:=m2
 have o2:Eb g2 TO a b c:=m2.extBut _ _ (U01 D.c1.2.1) (m1.extBut _ _ D.a2 hO)
 refine U0 (U15 o2 rfl (U0 (jT o2 fun g3 o3 m3=>?_)))
 replace o3:Eb g3 TO x b c:=o3
 replace m3:U0y TO g2 g3:=m3
 have u3:S2 k g3:=D2.frame _ _ _ u1 fun c hc o e=>m3.extBut _ _ (D.b2 c hc).2.1 (m2.extBut _ _ (D.b2 c hc).2.2.1 e)
 have r3:S3 k g3:=D3.frame _ _ _ r1 fun c hc o e=>m3.extBut _ _ (D.b3 c hc).2.1 (m2.extBut _ _ (D.b3 c hc).2.2.1 e)
 refine U0 (U5m (U0f ?_))
 refine U0 (U0 (U36 (show wpAny _ _ (U09 (.ref i2) >>= _) _ _ _ from U0 (D2.item k ⟨g3,g,d,tk1,os⟩ _ _ k2 u3 fun y g4 tk2 py u4 m4=>U0f ?_))))
 replace m4:U0y i2 g3 g4:=m4
 have o4:Eb g4 TO x b c:=m4.extBut _ _ (U01 D.c2.2.1) o3
 refine U0 (U15 o4 rfl (U0 (jT o4 fun g5 o5 m5=>?_)))
 replace o5:Eb g5 TO x y c:=o5
 replace m5:U0y TO g4 g5:=m5
 have r5:S3 k g5:=D3.frame _ _ _ r3 fun c hc o e=>m5.extBut _ _ (D.b3 c hc).2.1 (m4.extBut _ _ (D.b3 c hc).2.2.2 e)
 refine U0 (U5m (U0f ?_))
 refine U0 (U0 (U36 (show wpAny _ _ (U09 (.ref i3) >>= _) _ _ _ from U0 (D3.item k ⟨g5,g,d,tk2,os⟩ _ _ k3 r5 fun v g6 tk3 pv r6 m6=>U0f ?_))))
 replace m6:U0y i3 g5 g6:=m6
 have o6:Eb g6 TO x y c:=m6.extBut _ _ (U01 D.c3.2.1) o5
 refine U0 (U15 o6 rfl (U0 (jT o6 fun g7 o7 m7=>?_)))
 replace o7:Eb g7 TO x y v:=o7
 replace m7:U0y TO g6 g7:=m7
 refine U0 (U5m (U0f (U0f (U0 (U15 o7 rfl (U0 (U7v ?_)))))))
 have sz:g7.objs.size=hp.objs.size:=by rw[m7.1,m6.1,m5.1,m4.1,m3.1,m2.1,m1.1]
 have z7:IsZip g7 z TI TO .ellipsis:=m7.extBut _ _ (U01 D.a2) (m6.extBut _ _ (U01 D.c3.1) (m5.extBut _ _ (U01 D.a2) (m4.extBut _ _ (U01 D.c2.1) (m3.extBut _ _ (U01 D.a2) (m2.extBut _ _ (U01 D.c1.1) z1)))))
 have kk:∀c o,c≠z->c≠TO->c≠i1->c≠i2->c≠i3->hp.get? c=some o->g7.get? c=some o:=fun c o n1 n2 n3 n4 n5 e=>m7.extBut _ _ n2 (m6.extBut _ _ n5 (m5.extBut _ _ n2 (m4.extBut _ _ n4 (m3.extBut _ _ n2 (m2.extBut _ _ n3 (m1.extBut _ _ n1 e))))))
 have lz:z<g7.objs.size:=U0l z7
 refine(show wpAny _ _ (U3h (.ref z) (.ref g7.objs.size) >>= _) _ _ _ from U0 ?_)
 unfold U3h
 have z8:IsZip (g7.push { cls:=.type "tuple",data:=.seq #[x,y,v] }) z TI TO .ellipsis:=U0a _ z7
 refine U0 (U2p z8 (by simp) fun g9 z9 m9=>?_)
 replace z9:IsZip g9 z TI TO (rawInt g7.objs.size):=z9
 refine U2p z9 (by simp) fun gA zA mA=>?_
 replace zA:IsZip gA z TI TO (rawInt g7.objs.size):=zA
 have up:∀c o,c≠z->g7.get? c=some o->gA.get? c=some o:=fun c o n e=>mA.extBut _ _ n (m9.extBut _ _ n (U0a _ e))
 have pA:Eb gA g7.objs.size x y v:=mA.extBut _ _ (U1p lz) (m9.extBut _ _ (U1p lz) (U0p _ rfl))
 have wA:gA.objs.size=g7.objs.size+1:=by rw[mA.1,m9.1,U1n]
 rw[sz] at zA pA wA
 refine U0f ⟨_,rfl,?_⟩
 show Q (.ref g7.objs.size) _
 rw[sz]
 refine q x y v gA tk3 px py pv zA (up _ _ D.a2 o7) ?_ ?_ ?_ pA wA fun c o n1 n2 n3 n4 n5 e=>up c o n1 (kk c o n1 n2 n3 n4 n5 e)
 .exact D1.frame _ _ _ t2 fun c hc o e=>up _ _ (D.b1 c hc).1 (m7.extBut _ _ (D.b1 c hc).2.1 (m6.extBut _ _ (D.b1 c hc).2.2.2 (m5.extBut _ _ (D.b1 c hc).2.1 (m4.extBut _ _ (D.b1 c hc).2.2.1 (m3.extBut _ _ (D.b1 c hc).2.1 e)))))
 .exact D2.frame _ _ _ u4 fun c hc o e=>up _ _ (D.b2 c hc).1 (m7.extBut _ _ (D.b2 c hc).2.1 (m6.extBut _ _ (D.b2 c hc).2.2.2 (m5.extBut _ _ (D.b2 c hc).2.1 e)))
 .exact D3.frame _ _ _ r6 fun c hc o e=>up _ _ (D.b3 c hc).1 (m7.extBut _ _ (D.b3 c hc).2.1 e)
theorem yE{Q:PySem.Fin->Shared->Prop}(D1:Draws prog w A i1 fp1 k P1 S1)(D:Q8 z TI TO i1 i2 i3 fp1 fp2 fp3)(hZ:IsZip s.heap z TI TO .none)(hI:Eb s.heap TI (.ref i1) (.ref i2) (.ref i3))(hO:Eb s.heap TO a b c)
  (s1:S1 k s.heap)
  (q:∀h' e tk,(∀c o,c≠z->c≠TO->c≠i1->c≠i2->c≠i3->s.heap.get? c=some o->h'.get? c=some o)->(∃o,h'.get? e=some o/\o.cls=.type "StopIteration")->E (.ref e) { s with heap:=h',toks:=tk }) :
  wpAny (model prog w) A (Builtin.«zip.__next__» ⟨[.ref z],[]⟩) Q E s:=by
 obtain⟨hp,g,d,tk0,os⟩:=s
 refine(show wpAny _ _ (field (.ref z) 2 >>= _) _ _ _ from U0 (U1t hZ rfl (x:=.bool false) rfl ?_))
 refine(show wpAny _ _ (field (.ref z) 3 >>= _) _ _ _ from U0 (U1t hZ rfl (x:=.ref TI) rfl (U0 (U15 hI rfl ?_))))
 refine(show wpAny _ _ (U1c (.ref z) >>= _) _ _ _ from U0 ?_)
 unfold U1c
 refine U0 (U1t hZ rfl (x:=.none) rfl (U0f ?_))
 simp only[if_true]
 refine U0 (U39 (U0 (U1t hZ rfl (x:=.ref TO) rfl (U0 (U2p hZ (by simp) fun g1 z1 m1=>?_)))))
 replace z1:IsZip g1 z TI TO .ellipsis:=z1
 replace m1:U0y z hp g1:=m1
 refine U0 ?_
 simp only[U41,U6p,U3p,U4s]
 have t1:S1 k g1:=D1.frame _ _ _ s1 fun c hc o e=>m1.extBut _ _ (D.b1 c hc).1 e
 refine U0 (U0 (U36 (show wpAny _ _ (U09 (.ref i1) >>= _) _ _ _ from U0 (D1.done ⟨g1,g,d,tk0,os⟩ _ _ t1 fun g2 e m2 he=>?_))))
 obtain⟨oe,he1,he2⟩:=he
 replace m2:U5b i1 g1 g2:=m2
 have z2:IsZip g2 z TI TO .ellipsis:=m2 _ _ (U01 D.c1.1) z1
 have ez:e≠z:=fun x=>by subst x;rw[z2] at he1;cases he1;simp at he2
 exact U2p z2 (by simp) fun g3 _ m3=>q g3 e _ (fun c o n1 _ n3 _ _ x=>m3.extBut _ _ n1 (m2 _ _ n3 (m1.extBut _ _ n1 x))) ⟨oe,m3.extBut _ _ ez he1,he2⟩
theorem jk{Q:Option Value->Shared->Prop}(D1:Draws prog w A.in1 i1 fp1 n1 P1 S1)(D2:Draws prog w A.in1 i2 fp2 n2 P2 S2)(D3:Draws prog w A.in1 i3 fp3 n3 P3 S3)(D:Q8 z TI TO i1 i2 i3 fp1 fp2 fp3)(hZ:IsZip s.heap z TI TO .none)(hI:Eb s.heap TI (.ref i1) (.ref i2) (.ref i3))(hO:Eb s.heap TO a b c)
  (s1:S1 k s.heap) (s2:S2 k s.heap) (s3:S3 k s.heap) (k1:k<n1) (k2:k<n2) (k3:k<n3)
  (q:∀x y v h' tk,P1 k x->P2 k y->P3 k v->IsZip h' z TI TO (rawInt s.heap.objs.size)->Eb h' TO x y v->S1 (k+1) h'->S2 (k+1) h'->S3 (k+1) h'->Eb h' s.heap.objs.size x y v->h'.objs.size=s.heap.objs.size+1 ->
   (∀c o,c≠z->c≠TO->c≠i1->c≠i2->c≠i3->s.heap.get? c=some o->h'.get? c=some o)->Q (some (.ref s.heap.objs.size)) { s with heap:=h',toks:=tk }) :
  wpAny (model prog w) A (pyNext (.ref z)) Q E s:=by
 have T:s.TypeIs (.ref z) "zip":=⟨_,hZ,rfl⟩
 unfold pyNext
 exact U0 (U4j (wpAny_callSpecial?_slot (name:=U3a "__next__") T U10 (U17 U10 T U3q (yD D1 D2 D3 D hZ hI hO s1 s2 s3 k1 k2 k3 fun x y v h' tk c1 c2 c3 c4 c5 c6 c7 c8 c9 cA cB=>U0f (q x y v h' tk c1 c2 c3 c4 c5 c6 c7 c8 c9 cA cB)) (U3l _))))
theorem ji{Q:Option Value->Shared->Prop}(D1:Draws prog w A.in1 i1 fp1 k P1 S1)(D:Q8 z TI TO i1 i2 i3 fp1 fp2 fp3)(hZ:IsZip s.heap z TI TO .none)(hI:Eb s.heap TI (.ref i1) (.ref i2) (.ref i3))(hO:Eb s.heap TO a b c)
  (s1:S1 k s.heap)
  (q:∀h' tk,(∀c o,c≠z->c≠TO->c≠i1->c≠i2->c≠i3->s.heap.get? c=some o->h'.get? c=some o)->Q none { s with heap:=h',toks:=tk }):wpAny (model prog w) A (pyNext (.ref z)) Q E s:=by
 have T:s.TypeIs (.ref z) "zip":=⟨_,hZ,rfl⟩
 unfold pyNext
 refine U0 (U4j (wpAny_callSpecial?_slot (name:=U3a "__next__") T U10 (U17 U10 T U3q (yE D1 D hZ hI hO s1 fun h' e tk kk he=>?_) (U3l _))))
 obtain⟨o,e1,e2⟩:=he
 exact U0 (U4y (T:="StopIteration") (b:=true) ⟨o,e1,e2⟩ isSubtype_stop (U0f (q h' tk kk)))
end
abbrev zr3(h:Heap)(l1 l2 l3:Addr):Heap:=(zt2 "list_iterator" "tuple_iterator" h l1 l2).push (itO "tuple_iterator" l3)
abbrev zr4(h:Heap)(l1 l2 l3:Addr):Heap:=(zr3 h l1 l2 l3).push { cls:=.type "tuple",data:=.seq #[.ref h.objs.size,.ref (zt1 "list_iterator" h l1).objs.size,.ref (zt2 "list_iterator" "tuple_iterator" h l1 l2).objs.size] }
abbrev zr5(h:Heap)(l1 l2 l3:Addr):Heap:=(zr4 h l1 l2 l3).push { cls:=.type "tuple",data:=.seq #[.none,.none,.none] }
abbrev zr6(h:Heap)(l1 l2 l3:Addr):Heap:=(zr5 h l1 l2 l3).push { cls:=.type "zip",data:=.fields #[.none,.bool false,.bool false,.ref (zr3 h l1 l2 l3).objs.size,.ref (zr4 h l1 l2 l3).objs.size] }
set_option maxHeartbeats 4000000 in
theorem oY(l1 l2 l3:Addr)(xs ys zs:Array Value):Meets (Builtin.«zip.__new__» ⟨[.type "zip",.ref l1,.ref l2,.ref l3],[]⟩) (fun _ R s=>s.heap.IsList l1 xs/\s.heap.IsTuple l2 ys/\s.heap.IsTuple l3 zs/\R (.ok (.ret (.ref (zr5 s.heap l1 l2 l3).objs.size))) { s with heap:=zr6 s.heap l1 l2 l3 }) :=
 .of_wp fun prog w A R s h=>by
  obtain⟨hp,g,d,tk,os⟩:=s
  obtain⟨e1,e2,e3,h⟩:=h
  have sub:=sub_zip
  have T1:Heap.IsList (U5d ⟨hp,g,d,tk,os⟩) l1 xs:=e1
  have T2:U3r (U5d ⟨hp.push { cls:=.type "list_iterator",data:=.fields #[.ref l1,.int 0 0] },g,d,tk,os⟩) l2 ys:=U5g e2 _
  have T3:U3r (U5d ⟨(hp.push { cls:=.type "list_iterator",data:=.fields #[.ref l1,.int 0 0] }).push { cls:=.type "tuple_iterator",data:=.fields #[.ref l2,.int 0 0] },g,d,tk,os⟩) l3 zs:=U5g (U5g e3 _) _
  wp_walk using U33 T1,U4a T2,U4a T3
  exact⟨_,rfl,h⟩
theorem W9(a b c:Value):checkTypeCall "zip" ⟨[a,b,c],[]⟩=pure ():=by kernel_rfl
theorem Xl(a b c:Value):checkBuiltinCall "zip.__new__" ⟨[.type "zip",a,b,c],[]⟩=pure ():=by kernel_rfl
end
end HT
end
section
namespace HT
open PySem PySem.Spec PyProof.Rows
section
variable{prog:Program}{w:World}{A:Around}{E:Value->Shared->Prop}{s:Shared}
theorem Rq(a b c d:Value):argsOk "object.__init__" ⟨[a,b,c,d],[]⟩:=by
 unfold argsOk;rw[signature?_of (id:="object.__init__") (n:=['_','_','t','i','n','i','_','_']) (o:=['t','c','e','j','b','o']) (by kernel_rfl) PySem.F.owner_object];kernel_rfl
theorem nW{l1 l2 l3:Addr}{xs ys zs:Array Value}{Q:Value->Shared->Prop}(e1:s.heap.IsList l1 xs)(e2:s.heap.IsTuple l2 ys)(e3:s.heap.IsTuple l3 zs)
  (q:∀h',IsZip h' (s.heap.objs.size+5) (s.heap.objs.size+3) (s.heap.objs.size+4) .none->Eb h' (s.heap.objs.size+3) (.ref s.heap.objs.size) (.ref (s.heap.objs.size+1)) (.ref (s.heap.objs.size+2))->Eb h' (s.heap.objs.size+4) .none .none .none ->
   h'.IsListIter s.heap.objs.size l1 0->h'.IsTupleIter (s.heap.objs.size+1) l2 0->h'.IsTupleIter (s.heap.objs.size+2) l3 0->(∀c o,s.heap.get? c=some o->h'.get? c=some o)->Q (.ref (s.heap.objs.size+5)) { s with heap:=h' }) :
  wpAny (model prog w) A (call (.type "zip") [.ref l1,.ref l2,.ref l3]) Q E s:=by
 refine callType_new PySem.F.called_zip (by decide) (W9 _ _ _) (Xl _ _ _) (fun obj=>Rq obj _ _ _) PySem.F.entry_zip_new (oY l1 l2 l3 xs ys zs) ⟨e1,e2,e3,?_⟩
 have z1:(zt1 "list_iterator" s.heap l1).objs.size=s.heap.objs.size+1:=U1n ..
 have z2:(zt2 "list_iterator" "tuple_iterator" s.heap l1 l2).objs.size=s.heap.objs.size+2:=by rw[U1n,z1]
 have z3:(zr3 s.heap l1 l2 l3).objs.size=s.heap.objs.size+3:=by rw[U1n,z2]
 have z4:(zr4 s.heap l1 l2 l3).objs.size=s.heap.objs.size+4:=by rw[U1n,z3]
 have z5:(zr5 s.heap l1 l2 l3).objs.size=s.heap.objs.size+5:=by rw[U1n,z4]
 have g6:(zr6 s.heap l1 l2 l3).get? (zr5 s.heap l1 l2 l3).objs.size=some _:=U0p _ rfl
 have g5:(zr6 s.heap l1 l2 l3).get? (zr4 s.heap l1 l2 l3).objs.size=some _:=U0a _ (U0p _ rfl)
 have g4:(zr6 s.heap l1 l2 l3).get? (zr3 s.heap l1 l2 l3).objs.size=some _:=U0a _ (U0a _ (U0p _ rfl))
 have g3:(zr6 s.heap l1 l2 l3).get? (zt2 "list_iterator" "tuple_iterator" s.heap l1 l2).objs.size=some _:=U0a _ (U0a _ (U0a _ (U0p _ rfl)))
 have g2:(zr6 s.heap l1 l2 l3).get? (zt1 "list_iterator" s.heap l1).objs.size=some _:=U0a _ (U0a _ (U0a _ (U0a _ (U0p _ rfl))))
 have g1:(zr6 s.heap l1 l2 l3).get? s.heap.objs.size=some _:=U0a _ (U0a _ (U0a _ (U0a _ (U0a _ (U0p _ rfl)))))
 have kk:∀c o,s.heap.get? c=some o->(zr6 s.heap l1 l2 l3).get? c=some o:=fun c o e=>U0a _ (U0a _ (U0a _ (U0a _ (U0a _ (U0a _ e)))))
 show _/\_
 rw[z3,z4,z5] at g6
 rw[z1,z2,z3] at g4
 rw[z4] at g5
 rw[z2] at g3
 rw[z1] at g2
 have Z:IsZip (zr6 s.heap l1 l2 l3) (s.heap.objs.size+5) (s.heap.objs.size+3) (s.heap.objs.size+4) .none:=g6
 rw[z5]
 exact⟨⟨_,Z,rfl⟩,q _ Z g4 g5 ⟨_,g1,rfl,rfl⟩ ⟨_,g2,rfl,rfl⟩ ⟨_,g3,rfl,rfl⟩ kk⟩
end
end HT
namespace L2
open PySem PySem.Spec PyProof.Rows
theorem Inv.yG{X:Cx}{pins:List (Addr×Obj)}{σ:St}{H:Hp}{s:Shared}{h':Heap}{t':Nat}{fp:List Addr}{x y z:V}{u v r:Value}(I:Inv X pins σ H s)(rx:RelV x u)(ry:RelV y v)(rz:RelV z r)
  (ht:h'.get? s.heap.objs.size=some { cls:=.type "tuple",data:=.seq #[u,v,r] }) (k:∀b o,b ∉ fp->s.heap.get? b=some o->h'.get? b=some o) (hf:∀b∈fp,Ny X pins H b) (hlt:∀b∈fp,b<s.heap.objs.size) :
  Inv X pins σ (upd H s.heap.objs.size (.tup [x,y,z])) { s with heap:=h',toks:=t' }:=by
 have I1:=I.laid (h':=s.heap.push { cls:=.type "tuple",data:=.seq #[u,v,r] }) (t':=s.toks) (a:=s.heap.objs.size) (o:=.tup [x,y,z]) (fun b ob q=>U0a _ q) (U0q _)
  ⟨(by decide:3<=sizeLine),[u,v,r],.cons rx (.cons ry (.cons rz .nil)),U6k _ _⟩
 refine Inv.Q9 (s:={ s with heap:=s.heap.push { cls:=.type "tuple",data:=.seq #[u,v,r] } }) (h':=h') (t':=t') (fp:=fp) I1 (fun b o hb e=>?_) (fun b hb=>?_)
 .rcases Heap.get?_push_cases e with ⟨z1,z2⟩|z
  .rw[z1,z2]
   exact ht
  .exact k b o hb z
 .obtain⟨a1,a2,a3,a4,a5,a6⟩:=hf b hb
  exact⟨by rw[Bm (U0x (hlt b hb))];exact a1,a2,a3,a4,a5,a6⟩
def jg(a b c:Addr):It :=
 ⟨fun i H=>∃xs ys zs x y z,H a=some (.lst xs)/\H b=some (.tup ys)/\H c=some (.tup zs)/\xs[i]?=some x/\ys[i]?=some y/\zs[i]?=some z,
  fun i H v H'=>∃p x y z,H p=none/\v=.ref p/\H'=upd H p (.tup [x,y,z])/\(∀xs,H a=some (.lst xs)->xs[i]?=some x)/\(∀ys,H b=some (.tup ys)->ys[i]?=some y)/\∀zs,H c=some (.tup zs)->zs[i]?=some z,
  fun i H=>∃xs,H a=some (.lst xs)/\i=xs.length⟩
def xJ(a b c z TI TO i1 i2 i3:Addr)(i:Nat)(h:Heap):Prop:=IsZip h z TI TO .none/\HT.Eb h TI (.ref i1) (.ref i2) (.ref i3)/\(∃c d e,HT.Eb h TO c d e)/\h.IsListIter i1 a i/\h.IsTupleIter i2 b i/\h.IsTupleIter i3 c i
theorem jQ{n:Nat}{z TI TO i1 i2 i3 a b c:Addr}(d:[z,TI,TO,i1,i2,i3].Nodup)(na:a ∉ [z,TI,TO,i1,i2,i3])(nb:b ∉ [z,TI,TO,i1,i2,i3])(nc:c ∉ [z,TI,TO,i1,i2,i3]):HT.Q8 z TI TO i1 i2 i3 [i1,a] [i2,b] [i3,c]:=by
 simp only[U4d,U0o,U02,or_false,not_or] at d na nb nc
 obtain⟨⟨p1,p2,p3,p4,p5⟩,⟨p6,p7,p8,p9⟩,⟨q1,q2,q3⟩,⟨q4,q5⟩,q6,_⟩:=d
 obtain⟨a1,a2,a3,a4,a5,a6⟩:=na
 obtain⟨b1,b2,b3,b4,b5,b6⟩:=nb
 obtain⟨c1,c2,c3,c4,c5,c6⟩:=nc
 refine⟨U01 p1,U01 p2,p6,fun e he=>?_,fun e he=>?_,fun e he=>?_,⟨U01 p3,U01 q1,U01 p7⟩,⟨U01 p4,U01 q2,U01 p8⟩,⟨U01 p5,U01 q3,U01 p9⟩⟩ <;>
 .simp only[U0o,U02,or_false] at he
  rcases he with rfl|rfl
  .refine⟨U01 ‹_›,U01 ‹_›,?_,?_⟩<;>first|assumption|exact U01 ‹_›
  .exact⟨‹_›,‹_›,‹_›,‹_›⟩
end L2
end
section
namespace L2
open PySem PySem.Spec PyProof.Rows
theorem gU{P:Program}{w:World}{K:U0b}{elts:List Expr}{x1:Nat}{pos:Pos}(a b c z TI TO i1 i2 i3:Addr)(d:[z,TI,TO,i1,i2,i3].Nodup) :
  Turn P w K (.Tuple elts x1 pos) (jg a b c) [z,TI,TO,i1,i2,i3] z (xJ a b c z TI TO i1 i2 i3) where
 mem:=by simp
 obj:=fun i h st e he=>by
  obtain⟨h1,h2,⟨c',d',e',h3⟩,h4,h5,h6⟩:=st
  simp only[U0o,U02,or_false] at he
  rcases he with rfl|rfl|rfl|rfl|rfl|rfl
  .exact⟨_,h1,fun v q=>by cases q⟩
  .exact⟨_,h2,fun v q=>by cases q⟩
  .exact⟨_,h3,fun v q=>by cases q⟩
  .obtain⟨o,e,_,dd⟩:=h4
   exact⟨o,e,fun v q=>by rw[dd] at q;cases q⟩
  .obtain⟨o,e,_,dd⟩:=h5
   exact⟨o,e,fun v q=>by rw[dd] at q;cases q⟩
  .obtain⟨o,e,_,dd⟩:=h6
   exact⟨o,e,fun v q=>by rw[dd] at q;cases q⟩
 keep:=fun i h h' st k=>by
  obtain⟨h1,h2,⟨c',d',e',h3⟩,h4,h5,h6⟩:=st
  exact⟨k z (by simp) _ h1,k TI (by simp) _ h2,⟨c',d',e',k TO (by simp) _ h3⟩,h4.at fun o q=>k i1 (by simp) o q,h5.at fun o q=>k i2 (by simp) o q,h6.at fun o q=>k i3 (by simp) o q⟩
 item:=by
  intro X hP hw hK hc i pins s σ H E I hf st hg
  subst hP hw hK
  obtain⟨xs,ys,zs,x,y,v,hq1,hq2,hq3,hx,hy,hv⟩:=hg
  obtain⟨its1,rv1,pp1,_⟩:=I.list (SqL.of hq1)
  obtain⟨its2,rv2,p2,_⟩:=I.tuple (SqT.of hq2)
  obtain⟨its3,rv3,p3,_⟩:=I.tuple (SqT.of hq3)
  have p1:=pp1.isList
  obtain⟨u1,hu1,ru1⟩:=rv1.get hx
  obtain⟨u2,hu2,ru2⟩:=rv2.get hy
  obtain⟨u3,hu3,ru3⟩:=rv3.get hv
  obtain⟨h1,h2,⟨c',d',e',h3⟩,h4,h5,h6⟩:=st
  have lt:∀e∈[z,TI,TO,i1,i2,i3],e<s.heap.objs.size:=fun e he=>by
   simp only[U0o,U02,or_false] at he
   rcases he with rfl|rfl|rfl|rfl|rfl|rfl
   .exact U0l h1
   .exact U0l h2
   .exact U0l h3
   .obtain⟨o,e,_⟩:=h4;exact U0l e
   .obtain⟨o,e,_⟩:=h5;exact U0l e
   .obtain⟨o,e,_⟩:=h6;exact U0l e
  have na:a ∉ [z,TI,TO,i1,i2,i3]:=fun q=>by rw[(hf a q).1] at hq1;cases hq1
  have nb:b ∉ [z,TI,TO,i1,i2,i3]:=fun q=>by rw[(hf b q).1] at hq2;cases hq2
  have nc:c ∉ [z,TI,TO,i1,i2,i3]:=fun q=>by rw[(hf c q).1] at hq3;cases hq3
  have ap:=jQ (n:=0) d na nb nc
  have hh:X.A.in1.handled=none:=I.ok.hd hc
  refine HT.jk (Draws.list hh i1 a (fun q=>na (by simp[q])) its1.toArray) (HT.Yb hh i2 b (fun q=>nb (by simp[q])) its2.toArray) (HT.Yb hh i3 c (fun q=>nc (by simp[q])) its3.toArray) ap h1 h2 h3 ⟨h4,p1⟩ ⟨h5,p2⟩ ⟨h6,p3⟩ (by rw[U0m];exact(U0i.mp hu1).1) (by rw[U0m];exact(U0i.mp hu2).1) (by rw[U0m];exact(U0i.mp hu3).1)
   fun x' y' v' h' tk q1 q2 q3 z' o' s1' s2' s3' tp sz k=>⟨_,rfl,?_⟩
  have q1':its1[i]?=some x':=by simpa using q1
  have q2':its2[i]?=some y':=by simpa using q2
  have q3':its3[i]?=some v':=by simpa using q3
  rw[hu1] at q1'
  rw[hu2] at q2'
  rw[hu3] at q3'
  cases q1'
  cases q2'
  cases q3'
  refine wpAny_letOwnedTupleGo_zip z' fun h3' z2 sb=>?_
  have sb':U0y z h' h3':=sb
  have nz:s.heap.objs.size≠z:=U1p (lt z (by simp))
  have J:=I.yG (h':=h3') (t':=tk) (fp:=[z,TI,TO,i1,i2,i3]) (x:=x) (y:=y) (z:=v) ru1 ru2 ru3 (sb'.extBut _ _ nz tp) (fun e o he q=>by
   simp only[U0o,U02,or_false,not_or] at he
   exact sb'.extBut _ _ he.1 (k e o he.1 he.2.2.1 he.2.2.2.1 he.2.2.2.2.1 he.2.2.2.2.2 q)) hf lt
  refine⟨.ref s.heap.objs.size,_,J,rfl,⟨_,x,y,v,I.hok.fresh (U0q _),rfl,rfl,fun ws hz=>?_,fun ws hz=>?_,fun ws hz=>?_⟩,⟨z2,?_,⟨_,_,_,sb'.extBut _ _ ap.a2 o'⟩,s1'.1.at fun o q=>sb'.extBut _ _ ap.c1.1 q,s2'.1.at fun o q=>sb'.extBut _ _ ap.c2.1 q,s3'.1.at fun o q=>sb'.extBut _ _ ap.c3.1 q⟩,fun e he=>?_⟩
  .rw[hq1] at hz;cases hz;exact hx
  .rw[hq2] at hz;cases hz;exact hy
  .rw[hq3] at hz;cases hz;exact hv
  .exact sb'.extBut _ _ ap.a1 (k TI _ ap.a1 ap.a3 (U01 ap.c1.2.2) (U01 ap.c2.2.2) (U01 ap.c3.2.2) h2)
  .rw[Bm (U0x (lt e he))]
   exact(hf e he).1
 done:=by
  intro X hP hw hK hc i pins s σ H E I hf st hg
  subst hP hw hK
  obtain⟨xs,hq1,ke⟩:=hg
  obtain⟨its1,rv1,pp1,_⟩:=I.list (SqL.of hq1)
  have p1:=pp1.isList
  obtain⟨h1,h2,⟨c',d',e',h3⟩,h4,h5,h6⟩:=st
  have na:a ∉ [z,TI,TO,i1,i2,i3]:=fun q=>by rw[(hf a q).1] at hq1;cases hq1
  have hh:X.A.in1.handled=none:=I.ok.hd hc
  have hk:its1.toArray.size=i:=by rw[U0m,←rv1.length,ke]
  have D1:=Draws.list (prog:=X.prog) (w:=X.w) hh i1 a (fun q=>na (by simp[q])) its1.toArray
  rw[hk] at D1
  have ap:HT.Q8 z TI TO i1 i2 i3 [i1,a] [] []:=by
   simp only[U4d,U0o,U02,or_false,not_or] at d na
   obtain⟨⟨p1,p2,p3,p4,p5⟩,⟨p6,p7,p8,p9⟩,⟨q1,q2,q3⟩,⟨q4,q5⟩,q6,_⟩:=d
   obtain⟨a1,a2,a3,a4,a5,a6⟩:=na
   refine⟨U01 p1,U01 p2,p6,fun e he=>?_,fun e he=>by simp at he,fun e he=>by simp at he,⟨U01 p3,U01 q1,U01 p7⟩,⟨U01 p4,U01 q2,U01 p8⟩,⟨U01 p5,U01 q3,U01 p9⟩⟩
   simp only[U0o,U02,or_false] at he
   rcases he with rfl|rfl
   .exact⟨U01 p3,U01 q1,q4,q5⟩
   .exact⟨a1,a3,a5,a6⟩
  refine HT.ji D1 ap h1 h2 h3 ⟨h4,p1⟩ fun h' tk k=>⟨rfl,I.Q9 (t':=tk) (fp:=[z,TI,TO,i1,i2,i3]) (fun e o he q=>?_) hf⟩
  simp only[U0o,U02,or_false,not_or] at he
  exact k e o he.1 he.2.2.1 he.2.2.2.1 he.2.2.2.2.1 he.2.2.2.2.2 q
 self:=fun _ _ _ _ _ st h=>U6h st.1 h
abbrev zE(ta:TA):TI:=fun σ H R=>ta σ H fun vs H1=>∃a b c xs ys zs,vs=[.ref a,.ref b,.ref c]/\H1 a=some (.lst xs)/\H1 b=some (.tup ys)/\H1 c=some (.tup zs)/\R (jg a b c) H1
section
variable{X:Cx}
theorem qR{a b c:Expr}{ta:TA}{p pos:Pos}{elts:List Expr}{x1:Nat}{tpos:Pos}(hg:Gl X "zip")(hm:X.mg "zip"=none)(ha:PA X [a,b,c] ta)(hs:starEach [a,b,c] X.env=[(false,eval a X.env),(false,eval b X.env),(false,eval c X.env)]:=by rfl)(hs2:starEach [b,c] X.env=[(false,eval b X.env),(false,eval c X.env)]:=by rfl) :
  PI X (.Tuple elts x1 tpos) (.Call (.Name "zip" p) [a,b,c] [] pos) (zE ta):=by
 intro pins s σ H R I h
 refine Call_ (K1 I hg hm (by decide +kernel:bootBuiltins "zip"=some (.type "zip")) (U2o (thn (ha pos pins s σ H _ I h) fun us s1 ⟨vs,H1,I1,r1,q1⟩=>?_) (by rw[hs,hs2]) (by rw[hs2];rfl)))
 obtain⟨l,m,n,xs,ys,zs,e,e1,e2,e3,q⟩:=q1
 subst e
 obtain⟨us1,us2⟩:us=[.ref l,.ref m,.ref n]/\True:=by
  cases r1 with
  |cons r rr =>
   cases rr with
   |cons r' rr =>
    cases rr with
    |cons r'' rr =>
     cases rr
     cases r
     cases r'
     cases r''
     exact⟨rfl,trivial⟩
 subst us1
 obtain⟨its1,rv1,pp1,_⟩:=I1.list (SqL.of e1)
 obtain⟨its2,rv2,p2,_⟩:=I1.tuple (SqT.of e2)
 obtain⟨its3,rv3,p3,_⟩:=I1.tuple (SqT.of e3)
 refine HT.nW pp1.isList p2 p3 fun h' c1 c2 c3 c4 c5 c6 k=>?_
 refine U6h c1 ?_
 refine⟨s1.heap.objs.size+5,[s1.heap.objs.size+5,s1.heap.objs.size+3,s1.heap.objs.size+4,s1.heap.objs.size,s1.heap.objs.size+1,s1.heap.objs.size+2],_,_,H1,rfl,I1.kept (t':=s1.toks) k,
  gU l m n _ _ _ _ _ _ (by simp),⟨c1,c2,⟨_,_,_,c3⟩,c4,c5,c6⟩,fun e he=>?_,q⟩
 have hc':s1.heap.objs.size<=e:=by
  simp only[U0o,U02,or_false] at he
  rcases he with rfl|rfl|rfl|rfl|rfl|rfl<;>first|exact U1j _ _|exact U0q _
 exact I1.Tc hc' (I1.hok.fresh hc')
end
end L2
end
section
namespace VS
open PySem PySem.Spec L2
section
variable{X:Cx}
def Ia:List D->List D->List D->List D
 |x::xs,y::ys,z::zs=>.tup [x,y,z]::Ia xs ys zs
 |_,_,_=>[]
theorem WW:∀{xs ys zs:List D} {i:Nat} {d:D},(Ia xs ys zs)[i]?=some d->∃x y z,xs[i]?=some x/\ys[i]?=some y/\zs[i]?=some z/\d=.tup [x,y,z]
 |[],_,_,_,_,h=>by simp[Ia] at h
 |_::_,[],_,_,_,h=>by simp[Ia] at h
 |_::_,_::_,[],_,_,h=>by simp[Ia] at h
 |x::xs,y::ys,z::zs,0,d,h=>by simp[Ia] at h;exact⟨x,y,z,rfl,rfl,rfl,h.symm⟩
 |x::xs,y::ys,z::zs,i+1,d,h=>by
  simp[Ia] at h
  obtain⟨a,b,c,h1,h2,h3,h4⟩:=WW h
  exact⟨a,b,c,by simpa using h1,by simpa using h2,by simpa using h3,h4⟩
theorem WT:∀(xs ys zs:List D),xs.length=ys.length->xs.length=zs.length->(Ia xs ys zs).length=xs.length
 |[],_,_,_,_=>rfl
 |x::xs,y::ys,z::zs,h1,h2=>by
  simp only[U0j,Nat.add_right_cancel_iff] at h1 h2
  rw[Ia,U0j,WT xs ys zs h1 h2,U0j]
def YX(a:BX):Jw:=fun env S=>(a env S).bind fun p=>match p.1 with
 |[x,.tup ys,.tup zs]=>(listOf p.2 x).bind fun xs=>if xs.length=ys.length/\xs.length=zs.length then some ((Ia xs ys zs,idOf xs x),p.2) else none
 |_=>none
theorem rN{Γ:Fr}{μ:Mu}{H:Hp}{a b c:Addr}{xs ys zs:List D}{w:List (Nat×List D)}(l1:xs.length=ys.length)(l2:xs.length=zs.length)(hr:∀μ' H' σ' env' S',Ext μ H μ' H'->Rep Γ μ' σ' H' env' S'->calm w S'->∃us vs ws,H' a=some (.lst us)/\VRs Γ μ' H' us xs/\H' b=some (.tup vs)/\VRs Γ μ' H' vs ys/\H' c=some (.tup ws)/\VRs Γ μ' H' ws zs) :
  Tg Γ μ H (jg a b c) (Ia xs ys zs) w:=by
 refine⟨fun i d μ' H' σ' env' S' hi x R c=>?_,fun μ' H' σ' env' S' x R c=>?_⟩
 .obtain⟨us,vs,ws,h1,h2,h3,h4,h5,h6⟩:=hr μ' H' σ' env' S' x R c
  obtain⟨p,q,r,e1,e2,e3,e4⟩:=WW hi
  obtain⟨u,f1,f2⟩:=h2.get e1
  obtain⟨v,g1,g2⟩:=h4.get e2
  obtain⟨t,k1,k2⟩:=h6.get e3
  refine⟨⟨us,vs,ws,u,v,t,h1,h3,h5,f1,g1,k1⟩,fun z H'' yl=>?_⟩
  obtain⟨t0,u',v',t',ht,rfl,rfl,m1,m2,m3⟩:=yl
  have m1':=m1 us h1
  have m2':=m2 vs h3
  have m3':=m3 ws h5
  rw[f1] at m1';cases m1'
  rw[g1] at m2';cases m2'
  rw[k1] at m3';cases m3'
  subst e4
  have sm:=Cp ht (.tup [u,v,t])
  obtain⟨_,x2⟩:=R.grow sm
  exact⟨sm,.tup CK (.cons (f2.ext x2) (.cons (g2.ext x2) (.cons (k2.ext x2) .nil)))⟩
 .obtain⟨us,vs,ws,h1,h2,h3,h4,h5,h6⟩:=hr μ' H' σ' env' S' x R c
  exact⟨us,h1,by rw[h2.length,WT xs ys zs l1 l2]⟩
theorem rF{a b c:Expr}{f:BX}{p pos:Pos}{elts:List Expr}{x1:Nat}{tpos:Pos}(hg:Gl X "zip")(hm:X.mg "zip"=none)(ha:JA X [a,b,c] f)(hs:starEach [a,b,c] X.env=[(false,eval a X.env),(false,eval b X.env),(false,eval c X.env)]:=by rfl)(hs2:starEach [b,c] X.env=[(false,eval b X.env),(false,eval c X.env)]:=by rfl) :
  JI X (.Tuple elts x1 tpos) (.Call (.Name "zip" p) [a,b,c] [] pos) (YX f) :=
 ⟨PI.imp (qR hg hm ha.pa hs hs2) fun σ H Q h=>by
  obtain⟨Γ,μ,env,S,ds,w,S',hK,R,e,q⟩:=h
  obtain⟨⟨d,S1⟩,e1,e⟩:=bind_some e
  dsimp only at e
  split at e
  .rename_i x ys zs
   obtain⟨xs,e2,e⟩:=bind_some e
   by_cases hl:xs.length=ys.length/\xs.length=zs.length
   .rw[if_pos hl] at e
    cases e
    refine⟨Γ,μ,env,S,_,_,hK,R,e1,fun v μ1 H1 x1 R1 r1=>?_⟩
    cases r1 with
    |cons r rr =>
     cases rr with
     |cons r' rr =>
      cases rr with
      |cons r'' rr =>
       cases rr
       obtain⟨a,us,rfl,ha,ra⟩:=VR.list R1 r e2
       cases r' with
       |@tup b vs _ hb rb =>
        cases r'' with
        |@tup c ws _ hc rc =>
         refine⟨a,b,c,us,vs,ws,rfl,ha,hb,hc,q _ μ1 H1 x1 R1 (rN hl.1 hl.2 fun μ' H' σ' env' S' x' R' c'=>?_)⟩
         obtain⟨a',us',e4,ha',ra'⟩:=VR.list R' (r.ext x') (Jq e2 c')
         cases e4
         exact⟨us',vs,ws,ha',ra',x'.tups _ _ hb,rb.ext x',x'.tups _ _ hc,rc.ext x'⟩
   .rw[if_neg hl] at e;cases e
  .cases e⟩
end
end VS
end
section
namespace VS
def at1(bs:List (List St2))(i w:Nat):St2:=(bs.getD i []).getD w (0,0)
def inS(p:St2)(x:Int):Bool:=decide (p.1<=x)&&decide (x<p.2)
def Gi(bs:List (List St2))(w:Nat)(x:Int)(ns:List Nat):List Nat:=ns.filter fun i=>inS (at1 bs i w) x
def steps(E:List Int):List St2:=E.zip E.tail
def Ds(bs:List (List St2))(w:Nat)(ns:List Nat):List Int:=GQ (ns.map (fun i=>(at1 bs i w).1)++ns.map (fun i=>(at1 bs i w).2))
def Ck(bs:List (List St2)):Nat->Nat->List Nat->List (List St2×List Nat)
 |0,_,ns=>if ns=[] then [] else [([],ns)]
 |k+1,w,ns=>if ns=[] then [] else (steps (Ds bs w ns)).flatMap fun p=>(Ck bs k (w+1) (Gi bs w p.1 ns)).map fun c=>(p::c.1,c.2)
def Em(g:Int->Int)(a:Int):Nat->Int
 |0=>0
 |n+1=>Em g a n+g (a+n)
def canon(bs:List (List St2))(F:List Nat->Int)(A:Int)(N:Nat):Nat->Nat->List Nat->Int
 |0,_,ns=>F ns
 |k+1,w,ns=>Em (fun x=>canon bs F A N k (w+1) (Gi bs w x ns)) A N
def HJ:List St2->Int
 |[]=>1
 |p::r=>(p.2-p.1)*HJ r
def csum(F:List Nat->Int)(cs:List (List St2×List Nat)):Int:=(cs.map fun c=>HJ c.1*F c.2).sum
theorem OJ(g:Int->Int)(a:Int)(m:Nat):∀n:Nat,Em g a (m+n)=Em g a m+Em g (a+m) n
 |0=>by simp[Em]
 |n+1=>by
  rw[show m+(n+1)=m+n+1 by omega,Em,OJ g a m n,Em,show a+((m+n:Nat):Int)=a+m+n by omega]
  omega
theorem Fd(g:Int->Int)(a v:Int):∀n:Nat,(∀x,a<=x->x<a+n->g x=v)->Em g a n=n*v
 |0,_=>by simp[Em]
 |n+1,h=>by
  rw[Em,Fd g a v n (fun x h1 h2=>h x h1 (by omega)),h (a+n) (by omega) (by omega)]
  rw[show((n+1:Nat):Int)=n+1 by omega,Int.add_mul,U7r]
theorem Ir(a b:Int)(r:List Int):steps (a::b::r)=(a,b)::steps (b::r):=rfl
theorem Ow:∀{E:List Int},E.Pairwise (·<·)->∀p∈steps E,p.1<p.2/\p.1∈E/\p.2∈E/\∀e∈E,e<=p.1∨p.2<=e
 |[],_,p,h=>by simp[steps] at h
 |[a],_,p,h=>by simp[steps] at h
 |a::b::r,hp,p,h=>by
  have hab:=(U13.mp hp).1
  have ht:=(U13.mp hp).2
  rw[Ir] at h
  rcases U0o.mp h with z|z
  .subst z
   refine⟨hab b U0z,by simp,by simp,fun e he=>?_⟩
   rcases U0o.mp he with q|q
   .left;show e<=a;omega
   .right
    show b<=e
    rcases U0o.mp q with q|q
    .omega
    .exact U74 ((U13.mp ht).1 e q)
  .obtain⟨h1,h2,h3,h4⟩:=Ow ht p z
   refine⟨h1,U0t _ h2,U0t _ h3,fun e he=>?_⟩
   rcases U0o.mp he with q|q
   .left;rw[q];exact U74 (hab _ h2)
   .exact h4 e q
def TV(E:List Int)(g:Int->Int):Int:=((steps E).map fun p=>(p.2-p.1)*g p.1).sum
theorem Wb(g:Int->Int)(B:Int):∀(r:List Int)(a:Int),(a::r).Pairwise (·<·)->(∀p∈steps (a::r),∀x,p.1<=x->x<p.2->g x=g p.1)->(∀x,(∀e∈a::r,e<=x)->g x=0)->(∀e∈a::r,e<=B)->TV (a::r) g=Em g a (B-a).toNat
 |[],a,hp,hc,ho,hB=>by
  have:Em g a (B-a).toNat=(B-a).toNat*0:=Fd g a 0 _ fun x h1 _=>ho x (by simpa using h1)
  rw[this];simp[TV,steps]
 |b::r,a,hp,hc,ho,hB=>by
  have hab:=(U13.mp hp).1 b U0z
  have ht:=(U13.mp hp).2
  have hb:=hB b (by simp)
  have ih:=Wb g B r b ht (fun p h=>hc p (by rw[Ir];exact U0t _ h)) (fun x h=>ho x fun e he=>by
   rcases U0o.mp he with q|q
   .have:=h b U0z;omega
   .exact h e q) fun e he=>hB e (U0t _ he)
  have e1:(B-a).toNat=(b-a).toNat+(B-b).toNat:=by omega
  have e2:Em g a (b-a).toNat=(b-a).toNat*g a:=Fd g a (g a) _ fun x h1 h2=>hc (a,b) (by rw[Ir];exact U0z) x h1 (by show x<b;omega)
  have e3:(((b-a).toNat:Nat):Int)=b-a:=by omega
  rw[e1,OJ,e2,e3,show a+(b-a)=b by omega,←ih]
  simp[TV,Ir]
theorem gk{E:List Int}{g:Int->Int}{A:Int}{N:Nat}(hp:E.Pairwise (·<·))(hc:∀p∈steps E,∀x,p.1<=x->x<p.2->g x=g p.1)(h0:∀x,(∀e∈E,x<e)->g x=0)(h1:∀x,(∀e∈E,e<=x)->g x=0)(hb:∀e∈E,A<=e/\e<=A+N):TV E g=Em g A N:=by
 cases E with
 |nil =>
  have:Em g A N=N*0:=Fd g A 0 _ fun x _ _=>h0 x fun e he=>by simp at he
  rw[this];simp[TV,steps]
 |cons a r =>
  have ha:=hb a U0z
  rw[Wb g (A+N) r a hp hc h1 fun e he=>(hb e he).2]
  have e1:N=(a-A).toNat+(A+N-a).toNat:=by omega
  have e2:Em g A (a-A).toNat=(a-A).toNat*0:=Fd g A 0 _ fun x _ h2=>h0 x fun e he=>by
   rcases U0o.mp he with q|q
   .omega
   .have:=(U13.mp hp).1 e q;omega
  have e3:A+(((a-A).toNat:Nat):Int)=a:=by omega
  conv=>rhs;rw[e1,OJ,e2,e3]
  simp
theorem Yp{α:Type}(F:List Nat->Int)(f:α->List (List St2×List Nat)):∀l:List α,csum F (l.flatMap f)=(l.map fun p=>csum F (f p)).sum
 |[]=>rfl
 |a::l=>by
  rw[U4m,csum,U1u,List.sum_append_int,U0s,U47,←Yp F f l];rfl
theorem X7(F:List Nat->Int)(p:St2):∀cs:List (List St2×List Nat),csum F (cs.map fun c=>(p::c.1,c.2))=(p.2-p.1)*csum F cs
 |[]=>by simp[csum]
 |c::cs=>by
  have:=X7 F p cs
  simp only[csum,U0s,U47] at this ⊢
  rw[this,HJ,Int.mul_add,U66]
theorem Ox{ns:List Int}{x:Int}:x∈GQ ns↔x∈ns:=(U5r _ _).mem_iff.trans ((SetP.O8 ns).2.2 x)
theorem V3(ns:List Int):(GQ ns).Pairwise (·<·):=by
 obtain⟨o1,o2,o3⟩:=SetP.O8 ns
 have hp:(GQ ns).Perm (SetP.once ns):=U5r _ _
 have hs:(GQ ns).Pairwise (·<=·):=by
  have:=List.pairwise_mergeSort (le:=fun a b:Int=>decide (a<=b)) (by intro a b c h1 h2;simp at *;omega) (by intro a b;simp;omega) (SetP.once ns)
  exact this.imp fun h=>by simpa using h
 exact(hs.and (hp.nodup_iff.mpr o1)).imp fun⟨h,n⟩=>by omega
theorem RQ(ns:List Int):(GQ ns).length<=ns.length:=by
 obtain⟨o1,o2,o3⟩:=SetP.O8 ns
 have hp:(GQ ns).Perm (SetP.once ns):=U5r _ _
 rw[hp.length_eq];omega
theorem Gq{p:St2}{x:Int}:inS p x=true↔p.1<=x/\x<p.2:=by simp[inS]
theorem Zf{bs:List (List St2)}{w:Nat}{ns:List Nat}{E:List Int}(hp:E.Pairwise (·<·))(hE:∀i∈ns,(at1 bs i w).1∈E/\(at1 bs i w).2∈E):∀p∈steps E,∀x,p.1<=x->x<p.2->Gi bs w x ns=Gi bs w p.1 ns:=fun p h x h1 h2=>by
 obtain⟨g1,g2,g3,g4⟩:=Ow hp p h
 unfold Gi
 refine U5h fun i hi=>?_
 rw[U22,Gq,Gq]
 have a1:=g4 _ (hE i hi).1
 have a2:=g4 _ (hE i hi).2
 omega
theorem Z4{bs:List (List St2)}{w:Nat}{ns:List Nat}{x:Int}(h:∀i∈ns,x<(at1 bs i w).1∨(at1 bs i w).2<=x):Gi bs w x ns=[]:=by
 unfold Gi
 rw[U5e]
 intro i hi
 rw[Gq]
 have:=h i hi
 omega
theorem PL{bs:List (List St2)}{F:List Nat->Int}{A:Int}{N:Nat}(hF:F []=0):∀k w,canon bs F A N k w []=0
 |0,_=>hF
 |k+1,w=>by
  have:Em (fun x=>canon bs F A N k (w+1) (Gi bs w x [])) A N=N*0:=Fd _ A 0 N fun x _ _=>PL hF k (w+1)
  rw[canon,this];simp
def Wide(bs:List (List St2))(A:Int)(N:Nat)(w k:Nat)(ns:List Nat):Prop:=∀i∈ns,∀v,w<=v->v<w+k->(at1 bs i v).1<(at1 bs i v).2/\A<=(at1 bs i v).1/\(at1 bs i v).2<=A+N
theorem Wide.sub{bs:List (List St2)}{A:Int}{N w k:Nat}{ns ms:List Nat}(h:Wide bs A N w (k+1) ns)(hs:∀i∈ms,i∈ns):Wide bs A N (w+1) k ms:=fun i hi v h1 h2=>h i (hs i hi) v (by omega) (by omega)
theorem fD{bs:List (List St2)}{F:List Nat->Int}{A:Int}{N k w:Nat}{ns:List Nat}(hF:F []=0)(hw:Wide bs A N w (k+1) ns){E:List Int}(hp:E.Pairwise (·<·))(hE:∀i∈ns,(at1 bs i w).1∈E/\(at1 bs i w).2∈E)(hb:∀e∈E,A<=e/\e<=A+N) :
  TV E (fun x=>canon bs F A N k (w+1) (Gi bs w x ns))=canon bs F A N (k+1) w ns:=by
 rw[canon]
 refine gk hp (fun p h x h1 h2=>by rw[Zf hp hE p h x h1 h2]) (fun x h=>?_) (fun x h=>?_) hb
 .rw[Z4 fun i hi=>.inl (h _ (hE i hi).1),PL hF]
 .rw[Z4 fun i hi=>.inr (h _ (hE i hi).2),PL hF]
theorem eZ{bs:List (List St2)}{w:Nat}{ns:List Nat}:∀i∈ns,(at1 bs i w).1∈Ds bs w ns/\(at1 bs i w).2∈Ds bs w ns:=fun i hi =>
 ⟨Ox.mpr (U3z _ (List.mem_map_of_mem hi)),Ox.mpr (U1l _ (List.mem_map_of_mem hi))⟩
theorem jF{bs:List (List St2)}{w:Nat}{ns:List Nat}{e:Int}(h:e∈Ds bs w ns):∃i∈ns,e=(at1 bs i w).1∨e=(at1 bs i w).2:=by
 rcases U12.mp (Ox.mp h) with z|z
 .obtain⟨i,hi,e⟩:=U2c.mp z;exact⟨i,hi,.inl e.symm⟩
 .obtain⟨i,hi,e⟩:=U2c.mp z;exact⟨i,hi,.inr e.symm⟩
theorem Pr{bs:List (List St2)}{A:Int}{N w k:Nat}{ns:List Nat}(hw:Wide bs A N w (k+1) ns):∀e∈Ds bs w ns,A<=e/\e<=A+N:=fun e he=>by
 obtain⟨i,hi,q⟩:=jF he
 have:=hw i hi w (U0q _) (by omega)
 omega
theorem Qm{bs:List (List St2)}{F:List Nat->Int}{A:Int}{N:Nat}(hF:F []=0):∀(k w:Nat)(ns:List Nat),Wide bs A N w k ns->csum F (Ck bs k w ns)=canon bs F A N k w ns
 |0,w,ns,_=>by
  rw[Ck,canon]
  by_cases h:ns=[]
  .rw[if_pos h,h,hF];rfl
  .rw[if_neg h];simp[csum,HJ]
 |k+1,w,ns,hw=>by
  rw[Ck]
  by_cases h:ns=[]
  .rw[if_pos h,h,PL hF];rfl
  .rw[if_neg h,Yp,←fD hF hw (V3 _) eZ (Pr hw),TV]
   refine congrArg List.sum (U5t fun p _=>?_)
   rw[X7,Qm hF k (w+1) (Gi bs w p.1 ns) (hw.sub fun i hi=>(U3n.mp hi).1)]
def Ov(bs:List (List St2)):Nat->List Int->List Nat->List Nat
 |_,[],ns=>ns
 |w,x::xs,ns=>Ov bs (w+1) xs (Gi bs w x ns)
def lows(c:List St2):List Int:=c.map fun p=>p.1
def own1(i:Nat)(ns:List Nat):Int:=if ns=[i] then 1 else 0
def ownStep(acc:List Int)(c:List St2×List Nat):List Int:=match c.2 with|[i]=>acc.set i (acc.getD i 0+HJ c.1)|_=>acc
theorem Ss(acc:List Int)(c:List St2×List Nat):(ownStep acc c).length=acc.length:=by
 unfold ownStep;split<;>simp
theorem dY(acc:List Int)(c:List St2×List Nat)(j:Nat)(hj:j<acc.length):(ownStep acc c).getD j 0=acc.getD j 0+HJ c.1*own1 j c.2:=by
 unfold ownStep own1
 split
 .rename_i i e
  rw[e]
  by_cases q:i=j
  .subst q
   simp[hj]
  .have:¬([i]=[j]):=fun z=>q (by simpa using z)
   rw[if_neg this]
   simp[U0h,U21 q]
 .rename_i h
  have:¬(c.2=[j]):=fun z=>h j z
  rw[if_neg this];simp
theorem YL:∀(cs:List (List St2×List Nat))(acc:List Int)(j:Nat),j<acc.length->(cs.foldl ownStep acc).getD j 0=acc.getD j 0+csum (own1 j) cs
 |[],acc,j,_=>by simp[csum]
 |c::cs,acc,j,hj=>by
  rw[U3d,YL cs _ j (by rw[Ss];exact hj),dY acc c j hj]
  simp only[csum,U0s,U47]
  omega
theorem Ni:∀(cs:List (List St2×List Nat))(acc:List Int),(cs.foldl ownStep acc).length=acc.length
 |[],_=>rfl
 |c::cs,acc=>by rw[U3d,Ni cs,Ss]
theorem Jap{cs ds:List (List St2×List Nat)}(acc:List Int)(h:∀j,csum (own1 j) cs=csum (own1 j) ds):cs.foldl ownStep acc=ds.foldl ownStep acc:=by
 refine U6i (by rw[Ni,Ni]) fun j h1 h2=>?_
 rw[Ni] at h1
 have:=YL cs acc j h1
 have q:=YL ds acc j h1
 rw[h j,←q] at this
 rw[U0h,U0h,U0d (by rw[Ni];exact h1),U0d (by rw[Ni];exact h1)] at this
 exact this
end VS
end
section
namespace VS
def Td{α:Type}:List (List α)->List (List α)
 |[]=>[[]]
 |l::r=>l.flatMap fun x=>(Td r).map (x::·)
theorem XF{α β:Type}(f:β->List α):∀(Es:List β)(acc:List (List α)),Es.foldl (fun acc E=>acc.flatMap fun s=>(f E).map fun x=>s++[x]) acc=acc.flatMap fun s=>(Td (Es.map f)).map (s++·)
 |[],acc=>by
  show acc=acc.flatMap fun s=>[s++[]]
  simp
 |E::r,acc=>by
  rw[U3d,XF f r,List.flatMap_assoc,U0s]
  refine congrArg (fun g=>U75 g acc) (funext fun s=>?_)
  rw[List.flatMap_map,Td,List.map_flatMap]
  refine congrArg (fun g=>U75 g (f E)) (funext fun x=>?_)
  rw[U0e]
  refine U5t fun t _=>?_
  simp
def Ou:List (List Int)->List (List St2)
 |[]=>[[]]
 |E::r=>(steps E).flatMap fun p=>(Ou r).map (p::·)
def Cov(bs:List (List St2))(A:Int)(N:Nat):Nat->List (List Int)->List Nat->Prop
 |_,[],_=>True
 |w,E::r,ns=>(E.Pairwise (·<·)/\(∀i∈ns,(at1 bs i w).1∈E/\(at1 bs i w).2∈E)/\∀e∈E,A<=e/\e<=A+N)/\Cov bs A N (w+1) r ns
end VS
end
section
namespace VS
def mx(a b:Int):Int:=if a<b then b else a
def mn(a b:Int):Int:=if b<a then b else a
def clip(B p:St2):Int:=mx 0 (mn B.2 p.2-mx B.1 p.1)
theorem Wr(B:St2)(v a:Int):∀n:Nat,Em (fun x=>if inS B x then v else 0) a n=clip B (a,a+n)*v
 |0=>by
  have:clip B (a,a+(0:Nat))=0:=by unfold clip mx mn;simp only;split<;>split<;>split<;>omega
  rw[this];simp[Em]
 |n+1=>by
  rw[Em,Wr B v a n]
  by_cases h:inS B (a+n)=true
  .have h':=Gq.mp h
   have e:clip B (a,a+((n+1:Nat):Int))=clip B (a,a+(n:Int))+1:=by
    unfold clip mx mn;simp only;repeat (first|split|skip)<;>omega
   rw[if_pos h,e,Int.add_mul,U7r]
  .have h':¬(B.1<=a+n/\a+n<B.2):=fun z=>h (Gq.mpr z)
   have e:clip B (a,a+((n+1:Nat):Int))=clip B (a,a+(n:Int)):=by
    unfold clip mx mn;simp only;repeat (first|split|skip)<;>omega
   rw[if_neg h,e,U76]
theorem Nf{f g:Int->Int}{a:Int}:∀{n:Nat},(∀x,a<=x->x<a+n->f x=g x)->Em f a n=Em g a n
 |0,_=>rfl
 |n+1,h=>by
  rw[Em,Em,Nf fun x h1 h2=>h x h1 (by omega),h (a+n) (by omega) (by omega)]
def Rt(E:List Int)(B:St2)(g:Int->Int):Int:=((steps E).map fun p=>clip B p*g p.1).sum
theorem V1(g:Int->Int)(B:St2)(T:Int):∀(r:List Int)(a:Int),(a::r).Pairwise (·<·)->(∀p∈steps (a::r),∀x,p.1<=x->x<p.2->g x=g p.1)->(∀x,(∀e∈a::r,e<=x)->g x=0)->(∀e∈a::r,e<=T)->Rt (a::r) B g=Em (fun x=>if inS B x then g x else 0) a (T-a).toNat
 |[],a,hp,hc,ho,hB=>by
  have:Em (fun x=>if inS B x then g x else 0) a (T-a).toNat=(T-a).toNat*0:=Fd _ a 0 _ fun x h1 _=>by rw[ho x (by simpa using h1)];simp
  rw[this];simp[Rt,steps]
 |b::r,a,hp,hc,ho,hB=>by
  have hab:=(U13.mp hp).1 b U0z
  have ht:=(U13.mp hp).2
  have hb:=hB b (by simp)
  have ih:=V1 g B T r b ht (fun p h=>hc p (by rw[Ir];exact U0t _ h)) (fun x h=>ho x fun e he=>by
   rcases U0o.mp he with q|q
   .have:=h b U0z;omega
   .exact h e q) fun e he=>hB e (U0t _ he)
  have e1:(T-a).toNat=(b-a).toNat+(T-b).toNat:=by omega
  have e3:(((b-a).toNat:Nat):Int)=b-a:=by omega
  have e2:Em (fun x=>if inS B x then g x else 0) a (b-a).toNat=clip B (a,b)*g a:=by
   rw[Nf (g:=fun x=>if inS B x then g a else 0) fun x h1 h2=>by rw[hc (a,b) (by rw[Ir];exact U0z) x h1 (by show x<b;omega)],Wr,e3,show a+(b-a)=b by omega]
  rw[e1,OJ,e2,e3,show a+(b-a)=b by omega,←ih]
  simp[Rt,Ir]
theorem dJ{E:List Int}{g:Int->Int}{B:St2}{A:Int}{N:Nat}(hp:E.Pairwise (·<·))(hc:∀p∈steps E,∀x,p.1<=x->x<p.2->g x=g p.1)(h0:∀x,(∀e∈E,x<e)->g x=0)(h1:∀x,(∀e∈E,e<=x)->g x=0)(hb:∀e∈E,A<=e/\e<=A+N):Rt E B g=Em (fun x=>if inS B x then g x else 0) A N:=by
 cases E with
 |nil =>
  have:Em (fun x=>if inS B x then g x else 0) A N=N*0:=Fd _ A 0 _ fun x _ _=>by rw[h0 x fun e he=>by simp at he];simp
  rw[this];simp[Rt,steps]
 |cons a r =>
  have ha:=hb a U0z
  rw[V1 g B (A+N) r a hp hc h1 fun e he=>(hb e he).2]
  have e1:N=(a-A).toNat+(A+N-a).toNat:=by omega
  have e2:Em (fun x=>if inS B x then g x else 0) A (a-A).toNat=(a-A).toNat*0:=Fd _ A 0 _ fun x _ h2=>by
   rw[h0 x fun e he=>by
    rcases U0o.mp he with q|q
    .omega
    .have:=(U13.mp hp).1 e q;omega]
   simp
  have e3:A+(((a-A).toNat:Nat):Int)=a:=by omega
  conv=>rhs;rw[e1,OJ,e2,e3]
  simp
def flt(w:Nat)(x:Int)(L:List (List St2)):List (List St2):=L.filter fun b=>inS (b.getD w (0,0)) x
def one(L:List (List St2)):Int:=if L=[] then 0 else 1
def cv(A:Int)(N:Nat):Nat->Nat->List (List St2)->Int
 |0,_,L=>one L
 |k+1,w,L=>Em (fun x=>cv A N k (w+1) (flt w x L)) A N
def cvB(A:Int)(N:Nat)(B:List St2):Nat->Nat->List (List St2)->Int
 |0,_,L=>one L
 |k+1,w,L=>Em (fun x=>if inS (B.getD w (0,0)) x then cvB A N B k (w+1) (flt w x L) else 0) A N
def F1(ns:List Nat):Int:=if ns=[] then 0 else 1
theorem bY(bs:List (List St2))(w:Nat)(x:Int)(ns:List Nat):flt w x (ns.map fun i=>bs.getD i [])=(Gi bs w x ns).map fun i=>bs.getD i []:=by
 unfold flt Gi at1
 rw[U7o];rfl
theorem U8(bs:List (List St2))(A:Int)(N:Nat):∀(k w:Nat)(ns:List Nat),canon bs F1 A N k w ns=cv A N k w (ns.map fun i=>bs.getD i [])
 |0,w,ns=>by
  rw[canon,cv]
  unfold F1 one
  cases ns<;>simp
 |k+1,w,ns=>by
  rw[canon,cv]
  refine Nf fun x _ _=>?_
  rw[U8 bs A N k (w+1),bY]
theorem gD(A:Int)(N:Nat):∀k w:Nat,cv A N k w []=0
 |0,w=>rfl
 |k+1,w=>by
  rw[cv,Fd _ A 0 N fun x _ _=>by rw[show flt w x []=[] from rfl];exact gD A N k (w+1)];simp
def Eo(p q:St2):St2:=(mx p.1 q.1,mn p.2 q.2)
def cap(B b:List St2):List St2:=(b.zip B).map fun q=>Eo q.1 q.2
def Xv(w n:Nat)(B b:List St2):Prop:=∀v,w<=v->v<n->(Eo (b.getD v (0,0)) (B.getD v (0,0))).1<(Eo (b.getD v (0,0)) (B.getD v (0,0))).2
def Kw(w n:Nat)(B b:List St2):Bool:=(U0n n).all fun v=>decide (v<w)||decide ((Eo (b.getD v (0,0)) (B.getD v (0,0))).1<(Eo (b.getD v (0,0)) (B.getD v (0,0))).2)
theorem MN{w n:Nat}{B b:List St2}:Kw w n B b=true↔Xv w n B b:=by
 unfold Kw Xv
 rw[U3g]
 constructor
 .intro h v h1 h2
  have:=h v (U1z.mpr h2)
  rw[U5x,decide_eq_true_eq,decide_eq_true_eq] at this
  rcases this with z|z
  .omega
  .exact z
 .intro h v hv
  rw[U5x,decide_eq_true_eq,decide_eq_true_eq]
  by_cases z:v<w
  .exact .inl z
  .exact .inr (h v (by omega) (U1z.mp hv))
theorem W5{p q:St2}{x:Int}:inS (Eo p q) x=(inS p x&&inS q x):=by
 rw[U22,U1e,Gq,Gq,Gq]
 unfold Eo mx mn
 simp only
 split<;>split<;>omega
theorem RL{B b:List St2}{n:Nat}(hB:B.length=n)(hb:b.length=n){w:Nat}(hw:w<n):(cap B b).getD w (0,0)=Eo (b.getD w (0,0)) (B.getD w (0,0)):=by
 unfold cap
 rw[U0h,U0v,U0d (by rw[U3e];omega),U7g,U0h,U0d (by omega),U0h,U0d (by omega)]
 rfl
theorem Yc{A:Int}{N:Nat}{B:List St2}{n:Nat}(hB:B.length=n):∀(k w:Nat)(L:List (List St2)),w+k=n->(∀b∈L,b.length=n)->cv A N k w ((L.filter (Kw w n B)).map (cap B))=cvB A N B k w L
 |0,w,L,hk,hL=>by
  have e:L.filter (Kw w n B)=L:=U5s.mpr fun b _=>MN.mpr fun v h1 h2=>by omega
  rw[e,cv,cvB]
  unfold one
  cases L<;>simp
 |k+1,w,L,hk,hL=>by
  rw[cv,cvB]
  refine Nf fun x _ _=>?_
  by_cases h:inS (B.getD w (0,0)) x=true
  .rw[if_pos h,←Yc hB k (w+1) (flt w x L) (by omega) fun b hb=>hL b (U3n.mp hb).1]
   congr 1
   unfold flt
   rw[U7o]
   congr 1
   rw[U63,U63]
   refine U5h fun b hb=>?_
   show(inS ((cap B b).getD w (0,0)) x&&Kw w n B b)=(Kw (w+1) n B b&&inS (b.getD w (0,0)) x)
   rw[RL hB (hL b hb) (by omega),W5,h,U7z,Bool.and_comm]
   by_cases q:inS (b.getD w (0,0)) x=true
   .rw[q,U7z,U7z]
    have z:inS (Eo (b.getD w (0,0)) (B.getD w (0,0))) x=true:=by rw[W5,q,h];rfl
    have z':=Gq.mp z
    have e:Xv w n B b↔Xv (w+1) n B b:=⟨fun g v h1 h2=>g v (by omega) h2,fun g v h1 h2=>by
     by_cases y:v=w
     .subst y;omega
     .exact g v (by omega) h2⟩
    exact U22.mpr (MN.trans (e.trans MN.symm))
   .rw[Bool.eq_false_iff.mpr q,U6z,U6z]
  .rw[if_neg h]
   have e:flt w x ((L.filter (Kw w n B)).map (cap B))=[]:=by
    unfold flt
    rw[U5e]
    intro c hc
    obtain⟨b,hb,rfl⟩:=U2c.mp hc
    rw[RL hB (hL b (U3n.mp hb).1) (by omega),W5,Bool.eq_false_iff.mpr h,U6z]
    decide
   rw[e,gD]
def K7(B:List St2):Nat->List St2->Int
 |_,[]=>1
 |w,p::c=>clip (B.getD w (0,0)) p*K7 B (w+1) c
def Qy:Nat->List Int->List (List St2)->List (List St2)
 |_,[],L=>L
 |w,x::xs,L=>Qy (w+1) xs (flt w x L)
def Vu(A:Int)(N:Nat):Nat->List (List Int)->List (List St2)->Prop
 |_,[],_=>True
 |w,E::r,L=>(E.Pairwise (·<·)/\(∀b∈L,(b.getD w (0,0)).1∈E/\(b.getD w (0,0)).2∈E)/\∀e∈E,A<=e/\e<=A+N)/\Vu A N (w+1) r L
theorem Vu.sub{A:Int}{N:Nat}{L M:List (List St2)}(h:∀b∈M,b∈L):∀{w:Nat} {Es:List (List Int)},Vu A N w Es L->Vu A N w Es M
 |_,[],_=>trivial
 |_,_::_,⟨⟨a,b,c⟩,d⟩=>⟨⟨a,fun x hx=>b x (h x hx),c⟩,d.sub h⟩
theorem cF(A:Int)(N:Nat)(B:List St2):∀k w:Nat,cvB A N B k w []=0
 |0,w=>rfl
 |k+1,w=>by
  rw[cvB,Fd _ A 0 N fun x _ _=>by rw[show flt w x []=[] from rfl,cF A N B k (w+1)];simp];simp
theorem aO{L:List (List St2)}{w:Nat}{E:List Int}(hp:E.Pairwise (·<·))(hE:∀b∈L,(b.getD w (0,0)).1∈E/\(b.getD w (0,0)).2∈E):∀p∈steps E,∀x,p.1<=x->x<p.2->flt w x L=flt w p.1 L:=fun p hp' x h1 h2=>by
 obtain⟨s1,s2,s3,s4⟩:=Ow hp p hp'
 refine U5h fun b hb=>?_
 obtain⟨e1,e2⟩:=hE b hb
 rw[U22,Gq,Gq]
 rcases s4 _ e1 with z|z<;>rcases s4 _ e2 with y|y<;>omega
theorem bW{A:Int}{N:Nat}{B:List St2}:∀(Es:List (List Int))(w:Nat)(L:List (List St2)),Vu A N w Es L->((Ou Es).map fun c=>K7 B w c*one (Qy w (lows c) L)).sum=cvB A N B Es.length w L
 |[],w,L,_=>by simp[Ou,K7,Qy,lows,cvB]
 |E::r,w,L,h=>by
  obtain⟨⟨h1,h2,h3⟩,h4⟩:=h
  have fl:=aO h1 h2
  have out:∀x,(∀b∈L,x<(b.getD w (0,0)).1∨(b.getD w (0,0)).2<=x)->cvB A N B r.length (w+1) (flt w x L)=0:=fun x hx=>by
   have:flt w x L=[]:=by
    unfold flt
    rw[U5e]
    intro b hb k
    have:=Gq.mp k
    have:=hx b hb
    omega
   rw[this,cF]
  have key:=dJ (E:=E) (B:=B.getD w (0,0)) (A:=A) (N:=N) (g:=fun x=>cvB A N B r.length (w+1) (flt w x L)) h1 (fun p hp x k1 k2=>by show cvB A N B r.length (w+1) (flt w x L)=_;rw[fl p hp x k1 k2]) (fun x hx=>out x fun b hb=>.inl (hx _ (h2 b hb).1)) (fun x hx=>out x fun b hb=>.inr (hx _ (h2 b hb).2)) h3
  rw[U0j,cvB,←key,Rt,Ou]
  have flat:∀l:List St2,((l.flatMap fun p=>(Ou r).map (p::·)).map fun c=>K7 B w c*one (Qy w (lows c) L)).sum=(l.map fun p=>clip (B.getD w (0,0)) p*cvB A N B r.length (w+1) (flt w p.1 L)).sum:=by
   intro l
   induction l with
   |nil=>rfl
   |cons p q ih =>
    rw[U4m,U1u,List.sum_append,ih,U0s,U47]
    congr 1
    rw[←bW r (w+1) (flt w p.1 L) (h4.sub fun b hb=>(U3n.mp hb).1),U0e]
    generalize Ou r=G
    induction G with
    |nil=>simp
    |cons c G ih=>rw[U0s,U47,ih,U0s,U47,Int.mul_add,←U66];rfl
  exact flat (steps E)
theorem VH(bs:List (List St2)):∀(xs:List Int)(w:Nat)(ns:List Nat),Qy w xs (ns.map fun i=>bs.getD i [])=(Ov bs w xs ns).map fun i=>bs.getD i []
 |[],w,ns=>by rw[Qy,Ov]
 |x::xs,w,ns=>by rw[Qy,Ov,bY,VH bs xs]
end VS
end
section
namespace W18
open PySem L2 VS
def VP:BL :=
 (Dg (QK (eCB Jv (Aa (Ac 0) (Aa (eC (.ty "int")) Ae))) (cU (eCB Jv (Aa (Ac 0) (Aa (eC (.ty "bool")) Ae))))))
def Fe:DP:=FT 1 1 VP
def Vc:BL :=
 (Dg (QK (Bg Fe (Aa (Ac 0) Ae)) (eUn (Y4 Bc.D3) (Ac 0))))
def Ep:DP:=FT 1 1 Vc
def Rn:BL :=
 (Bh (sIf (tOr (KY (Br (eCB Jv (Aa (Ac 0) (Aa (eC (.ty "tuple")) Ae))))) (Br (eOp (oEq true) (eCB Eh (Aa (Ac 0) Ae)) (eC (.int 2)))))
  (Dg (eC (.bl false)))
  Eu)
  (Dg (QK (Bg Fe (Aa (eOp oIx (Ac 0) (eC (.int 0))) Ae)) (QK (Bg Fe (Aa (eOp oIx (Ac 0) (eC (.int 1))) Ae)) (eOp oLt (eOp oIx (Ac 0) (eC (.int 0))) (eOp oIx (Ac 0) (eC (.int 1))))))))
def El:DP:=FT 1 1 Rn
def RZ:BX :=
 CZ 1 [] (DK (Ac 1)) (Pat.sem (.nm 0)) FQ (Bg El (Aa (Ac 0) Ae))
def Z5:BL :=
 (Bh (sIf (tOr (KY (Br (Bg Ep (Aa (Ac 0) Ae)))) (tOr (KY (Br (eCB Jv (Aa (Ac 1) (Aa (eC (.ty "tuple")) Ae))))) (Br (eOp (oEq true) (eCB Eh (Aa (Ac 1) Ae)) (Ac 0)))))
  (Dg (eC (.bl false)))
  Eu)
  (Dg (eCB Ka (Aa (Bl RZ) Ae))))
def Gk:DP:=FT 2 2 Z5
def Qi:BX :=
 CZ 1 [1] (DK (Ac 2)) (Pat.sem (.nm 0)) FQ (Bg Gk (Aa (Ac 1) (Aa (Ac 0) Ae)))
def Wz:BL :=
 (Bh (sIf (tOr (KY (Br (eCB Jv (Aa (Ac 0) (Aa (eC (.ty "tuple")) Ae))))) (Br (eOp (oEq true) (eCB Eh (Aa (Ac 0) Ae)) (eC (.int 2)))))
  (Dg (eC (.bl false)))
  Eu)
  (Bh (Bb 1 (eOp oIx (Ac 0) (eC (.int 0))))
  (Bh (Bb 2 (eOp oIx (Ac 0) (eC (.int 1))))
  (Bh (sIf (tOr (KY (Br (Bg Ep (Aa (Ac 1) Ae)))) (tOr (KY (Br (eCB Jv (Aa (Ac 2) (Aa (eC (.ty "list")) Ae))))) (Br (eOp oGt (eCB Eh (Aa (Ac 2) Ae)) (eUn (Us Bc.D3) (Ac 1))))))
  (Dg (eC (.bl false)))
  Eu)
  (Dg (eCB Ka (Aa (Bl Qi) Ae)))))))
def JD:DP:=FT 1 3 Wz
def Sx:BL :=
 (sIf (KY (Br (Bg JD (Aa (Ac 0) Ae))))
  Uo
  Eu)
def Ge:DP:=FT 1 1 Sx
def VJ:BL :=
 (sIf (KY (Br (Bg Gk (Aa (Ac 0) (Aa (Ac 1) Ae)))))
  Uo
  Eu)
def HD:DP:=FT 2 2 VJ
def Px:BL :=
 (Bb 1 (eOp Hw (Ac 1) (eOp Dk (Ac 3) (Ac 2))))
def Pu:BL :=
 Hv (DK (Ac 0)) (Pat.sem (.tp [(.nm 2),(.nm 3)]))
  Px
def Vb:BL :=
 (Bh (Bb 1 (eC (.int 1)))
  (Bh Pu
  (Dg (Ac 1))))
def Ik:DP:=FT 1 4 Vb
def Mh:BX :=
 CZ 2 [] (Ot (Aa (Ac 0) (Aa (Ac 1) Ae))) (Pat.sem (.tp [(.nm 0),(.nm 1)])) FQ (BW (Aa (eCB Ft (Aa (eOp oIx (Ac 0) (eC (.int 0))) (Aa (eOp oIx (Ac 1) (eC (.int 0))) Ae))) (Aa (eCB Ib (Aa (eOp oIx (Ac 0) (eC (.int 1))) (Aa (eOp oIx (Ac 1) (eC (.int 1))) Ae))) Ae)))
def Mg:BX :=
 CZ 1 [] (DK (Ac 2)) (Pat.sem (.nm 0)) FQ (Bg El (Aa (Ac 0) Ae))
def Og:BL :=
 (Bh (Bb 2 (Bl Mh))
  (Bh (sIf (Br (eCB Ka (Aa (Bl Mg) Ae)))
  (Dg (eCB Nv (Aa (Ac 2) Ae)))
  Eu)
  (Dg (eC .non))))
def Fz:DP:=FT 2 3 Og
def Mv:BX :=
 CZ 1 [1] (DK (Ac 0)) (Pat.sem (.nm 0)) FQ (eOp oIx (eOp oIx (Ac 0) (Ac 1)) (eC (.int 0)))
def Mt:BX :=
 CZ 1 [1] (DK (Ac 0)) (Pat.sem (.nm 0)) FQ (eOp oIx (eOp oIx (Ac 0) (Ac 1)) (eC (.int 1)))
def Ro:BL :=
 (Dg (Tv (eOp Cm (Bl Mv) (Bl Mt))))
def Gv:DP:=FT 2 2 Ro
def Qt:BL :=
 (Bh (Bb 2 (Bg Gv (Aa (Ac 0) (Aa (Ac 1) Ae))))
  (Dg (Oa (Aa (Ac 2) (Aa (eSl oSl (Ac 2) (N6 (eC (.int 1))) N7) Ae)))))
def Fi:DP:=FT 2 3 Qt
def KN(rec:DP):BX :=
 CZ 1 [0] (DK (Ac 1)) (Pat.sem (.nm 0)) FQ (eOp oIx (Ac 1) (Ac 0))
def KJ(rec:DP):BX :=
 CZ 1 [0,2,5] (DK (Ac 1)) (Pat.sem (.nm 0)) (Br (Uz oLe oLt (eOp oIx (eOp oIx (eOp oIx (Ac 1) (Ac 0)) (Ac 2)) (eC (.int 0))) (Ac 3) (eOp oIx (eOp oIx (eOp oIx (Ac 1) (Ac 0)) (Ac 2)) (eC (.int 1))))) (Ac 0)
def KR(rec:DP):BL :=
 (Jt (Hg Gb (Ac 4) (Aa (BW (Aa (eOp Cm (BW (Aa (BW (Aa (Ac 5) (Aa (Ac 6) Ae))) Ae)) (Ac 8)) (Aa (Ac 9) Ae))) Ae)))
def Mx(rec:DP):BL :=
 Hv (DK (Bg rec (Aa (Ac 0) (Aa (Ac 7) (Aa (eOp Cm (Ac 2) (eC (.int 1))) (Aa (Ac 3) Ae)))))) (Pat.sem (.tp [(.nm 8),(.nm 9)]))
  (KR rec)
def KQ(rec:DP):BL :=
 (Bh (Bb 7 (Bl (KJ rec)))
  (Mx rec))
def Mw(rec:DP):BL :=
 Hv (DK (Bg Fi (Aa (Bl (KN rec)) (Aa (Ac 2) Ae)))) (Pat.sem (.tp [(.nm 5),(.nm 6)]))
  (KQ rec)
def Lf(rec:DP):BL :=
 (Bh (sIf (Br (eOp (oEq false) (eCB Eh (Aa (Ac 1) Ae)) (eC (.int 0))))
  (Dg (Bl Ae))
  Eu)
  (Bh (sIf (Br (eOp (oEq false) (Ac 2) (Ac 3)))
  (Dg (Bl (Aa (BW (Aa (BW Ae) (Aa (Ac 1) Ae))) Ae)))
  Eu)
  (Bh (Bb 4 (Gd Ae))
  (Bh (Mw rec)
  (Dg (Ac 4))))))
def CQ:Nat->DP
 |0=>fun _=>none
 |n+1=>FT 4 10 (Lf (CQ n))
def Va:BL :=
 (Dg (Bg (CQ 4) (Aa (eOp oIx (Ac 0) (eC (.int 1))) (Aa (Hu (Aa (eCB Eh (Aa (eOp oIx (Ac 0) (eC (.int 1))) Ae)) Ae)) (Aa (eC (.int 0)) (Aa (eOp oIx (Ac 0) (eC (.int 0))) Ae))))))
def GD:DP:=FT 1 1 Va
def Kg:BX :=
 CZ 2 [] (DK (Ac 0)) (Pat.sem (.tp [(.nm 0),(.nm 1)])) FQ (Bg Ik (Aa (Ac 0) Ae))
def Pa:BL :=
 (Dg (eCB cX (Aa (Bl Kg) Ae)))
def En:DP:=FT 1 1 Pa
def Jr:BX :=
 CZ 1 [1] (DK (eOp oIx (Ac 0) (eC (.int 1)))) (Pat.sem (.nm 0)) FQ (Bg Fz (Aa (Ac 0) (Aa (Ac 1) Ae)))
def Gu:BX :=
 CZ 1 [] (DK (Ac 2)) (Pat.sem (.nm 0)) (Br (eOp (jV true) (Ac 0) (eC .non))) (Ac 0)
def Qu:BL :=
 (Bh (Jt (Bg Ge (Aa (Ac 0) Ae)))
  (Bh (Jt (Bg HD (Aa (eOp oIx (Ac 0) (eC (.int 0))) (Aa (Ac 1) Ae))))
  (Bh (Bb 2 (Bl Jr))
  (Dg (Bg En (Aa (Bg GD (Aa (BW (Aa (eOp oIx (Ac 0) (eC (.int 0))) (Aa (Bl Gu) Ae))) Ae)) Ae))))))
def DG:DP:=FT 2 3 Qu
def T4:BL :=
 (Bh (Bb 2 (eOp oMod (eOp Hw (eOp Cm (eOp Cm (eOp oMod (Ac 0) (eC (.int 2147483647))) (eOp Hw (eC (.int 7919)) (Ac 1))) (eC (.int 1))) (eC (.int 48271))) (eC (.int 2147483647))))
  (Bh (Bb 2 (eOp oMod (eOp Hw (Ac 2) (Ac 2)) (eC (.int 2147483629))))
  (Dg (eOp oDiv (eOp oMod (eOp Hw (eOp Cm (Ac 2) (eOp Hw (eC (.int 40692)) (eOp Cm (Ac 1) (eC (.int 3))))) (eC (.int 69621))) (eC (.int 2147483579))) (eC (.int 8))))))
def HX:DP:=FT 2 3 T4
def Wv:BL :=
 (Dg (Bl (Aa (eOp N8 (eOp oMod (Ac 0) (eOp N8 (eOp N8 (eOp N8 (eOp Ea (eC (.int 10)) (eC (.int 50))) (eOp Ea (eC (.int 10)) (eC (.int 50)))) (eOp Ea (eC (.int 10)) (eC (.int 50)))) (eOp Ea (eC (.int 10)) (eC (.int 50))))) (eCB Pg (Aa (eOp oGe (Ac 0) (eOp Ea (eC (.int 10)) (eC (.int 18)))) Ae))) (Aa (Ac 0) (Aa (eC (.int 0)) Ae)))))
def Hy:DP:=FT 1 1 Wv
def Qj:BL :=
 (Bh (Jy (eOp Cm (eOp oIx (Ac 0) (eC (.int 2))) (eC (.int 1))) (Ac 0) (eC (.int 2)))
  (Bh (sIf (Br (eOp oGt (eOp oIx (Ac 0) (eC (.int 0))) (eC (.int 0))))
  (Bh (Bb 2 (eOp oMod (eOp oIx (Ac 0) (eC (.int 0))) (Ac 1)))
  (Bh (Jy (eOp oDiv (eOp oIx (Ac 0) (eC (.int 0))) (Ac 1)) (Ac 0) (eC (.int 0)))
  (Dg (Ac 2))))
  Eu)
  (Dg (eOp oMod (Bg HX (Aa (eOp oIx (Ac 0) (eC (.int 1))) (Aa (eOp oIx (Ac 0) (eC (.int 2))) Ae))) (Ac 1)))))
def Aj:JM:=runM 2 3 Qj
def Lg:BX :=
 CZ 1 [2,0] (DK (Ac 1)) (Pat.sem (.nm 0)) FQ (Hg Nz (Ac 1) (Aa (Az Aj (Aa (Ac 2) (Aa (eCB Eh (Aa (Ac 1) Ae)) Ae))) Ae))
def QG:BL :=
 (Bh (Bb 2 (Xy nList (Aa (Ac 1) Ae)))
  (Dg (Bl Lg)))
def Ez:JM:=runM 2 3 QG
def Ml:BX :=
 CZ 2 [] (DK (Ac 6)) (Pat.sem (.tp [(.nm 0),(.nm 1)])) FQ (BW (Aa (eCB Ib (Aa (Ac 0) (Aa (Ac 1) Ae))) (Aa (eCB Ft (Aa (Ac 0) (Aa (Ac 1) Ae))) Ae)))
def KD:BL :=
 (Bh (Bb 5 (Az Ez (Aa (Ac 0) (Aa (Hu (Aa (eOp Hw (eC (.int 2)) (Ac 2)) Ae)) Ae))))
  (Bh (Bb 6 (Oa (Aa (eUn (Oj 0) (Ac 5)) (Aa (eUn (Oj 1) (Ac 5)) Ae))))
  (Jt (Hg Gb (Ac 3) (Aa (Bl Ml) Ae)))))
def Mi:BL :=
 Hv (Dn (Aa (Ac 1) Ae)) (Pat.sem (.nm 4))
  KD
def KC:BX :=
 CZ 1 [0] (DK (Ac 1)) (Pat.sem (.nm 0)) FQ (eOp oIx (Ac 0) (Ac 1))
def Mj:BX :=
 CZ 1 [3] (Dn (Aa (Ac 2) Ae)) (Pat.sem (.nm 0)) FQ (eCB Nv (Aa (Bl KC) Ae))
def Rk:BL :=
 (Bh (Bb 3 (Gd Ae))
  (Bh Mi
  (Dg (Bl Mj))))
def G3:JM:=runM 3 7 Rk
def Ld:BL :=
 (Bh (Bb 10 (Az Aj (Aa (Ac 0) (Aa (Ac 5) Ae))))
  (Jt (Hg Gb (Ac 8) (Aa (BW (Aa (Ac 10) (Aa (eOp Cm (eOp Cm (Ac 10) (eC (.int 1))) (eOp oIx (Bl (Aa (eC (.int 0)) (Aa (Az Aj (Aa (Ac 0) (Aa (eOp Dk (Ac 5) (Ac 10)) Ae))) Ae))) (Az Aj (Aa (Ac 0) (Aa (eC (.int 2)) Ae))))) Ae))) Ae))))
def Od:BL :=
 Hv (Dn (Aa (Ac 1) Ae)) (Pat.sem (.nm 9))
  Ld
def Lb:BL :=
 (Bh (Bb 8 (Gd Ae))
  (Bh Od
  (Jt (Hg Gb (Ac 6) (Aa (eCB Nv (Aa (Ac 8) Ae)) Ae)))))
def Oc:BL :=
 Hv (Dn (Aa (Ac 4) Ae)) (Pat.sem (.nm 7))
  Lb
def La:BX :=
 CZ 1 [] (SN (Aa (eC (.int 0)) (Aa (eOp Hw (eC (.int 2)) (Ac 2)) (Aa (eC (.int 2)) Ae)))) (Pat.sem (.nm 0)) FQ (BW (Aa (BW (Aa (eOp oMod (Ac 0) (eC (.int 3))) (Aa (eOp Cm (eOp oMod (Ac 0) (eC (.int 3))) (eC (.int 1))) Ae))) (Aa (BW (Aa (eOp oDiv (Ac 0) (eC (.int 3))) (Aa (eOp Cm (eOp oDiv (Ac 0) (eC (.int 3))) (eC (.int 1))) Ae))) Ae)))
def Sy:BL :=
 (Bh (Bb 4 (eOp oIx (Bl (Aa (Az Aj (Aa (Ac 0) (Aa (eOp Cm (Ac 2) (eC (.int 1))) Ae))) (Aa (Ac 2) (Aa (eOp Cm (eC (.int 1)) (Az Aj (Aa (Ac 0) (Aa (Ac 2) Ae)))) Ae)))) (Az Aj (Aa (Ac 0) (Aa (eC (.int 3)) Ae)))))
  (Bh (Bb 5 (eOp oIx (Bl (Aa (eC (.int 2)) (Aa (eC (.int 3)) (Aa (eC (.int 5)) (Aa (Ac 3) Ae))))) (Az Aj (Aa (Ac 0) (Aa (eC (.int 4)) Ae)))))
  (Bh (Bb 6 (Gd Ae))
  (Bh Oc
  (Bh (Bb 11 (Az Aj (Aa (Ac 0) (Aa (eC (.int 8)) Ae))))
  (Bh (sIf (Ku (Br (eOp (oEq false) (Ac 11) (eC (.int 1)))) (Br (eOp oGt (Ac 4) (eC (.int 1)))))
  (Jy (eOp oIx (Ac 6) (Az Aj (Aa (Ac 0) (Aa (eOp Dk (Ac 4) (eC (.int 1))) Ae)))) (Ac 6) (eUn Nr (eC (.int 1))))
  Eu)
  (Bh (sIf (Ku (Br (eOp (oEq false) (Ac 1) (eC (.int 2)))) (Br (eOp (oEq false) (Ac 11) (eC (.int 2)))))
  (Bh (Bb 12 (Bl (Aa (BW (Aa (BW (Aa (eC (.int 0)) (Aa (eC (.int 3)) Ae))) (Aa (BW (Aa (eC (.int 0)) (Aa (eC (.int 1)) Ae))) Ae))) (Aa (BW (Aa (BW (Aa (eC (.int 0)) (Aa (eC (.int 3)) Ae))) (Aa (BW (Aa (eC (.int 2)) (Aa (eC (.int 3)) Ae))) Ae))) (Aa (BW (Aa (BW (Aa (eC (.int 0)) (Aa (eC (.int 1)) Ae))) (Aa (BW (Aa (eC (.int 0)) (Aa (eC (.int 3)) Ae))) Ae))) (Aa (BW (Aa (BW (Aa (eC (.int 2)) (Aa (eC (.int 3)) Ae))) (Aa (BW (Aa (eC (.int 0)) (Aa (eC (.int 3)) Ae))) Ae))) Ae))))))
  (Bb 6 (eOp Cm (Ac 12) (eSl oSl (Ac 6) N7 (N6 (Az Aj (Aa (Ac 0) (Aa (eOp Dk (Ac 2) (eC (.int 3))) Ae))))))))
  Eu)
  (Bh (sIf (Ku (Br (eOp (oEq false) (Ac 1) (eC (.int 2)))) (Br (eOp (oEq false) (Ac 11) (eC (.int 3)))))
  (Bb 6 (Gd La))
  Eu)
  (Bh (sIf (Ku (Br (eOp oGt (Ac 11) (eC (.int 5)))) (Br (eOp oGt (Ac 3) (eC (.int 8)))))
  (Bb 6 (RK G3 (Aa (Ac 0) (Aa (Ac 1) (Aa (Ac 4) Ae)))))
  Eu)
  (Dg (Ac 6)))))))))))
def Gf:JM:=runM 4 13 Sy
def Le:BL :=
 (Jt (Hg Gb (Ac 4) (Aa (eCB Ib (Aa (eOp Cm (eOp Cm (eOp oIx (Ac 4) (eUn Nr (eC (.int 1)))) (eC (.int 1))) (Az Aj (Aa (Ac 0) (Aa (Ac 2) Ae)))) (Aa (eOp Cm (eOp Dk (eOp Dk (eOp Ea (eC (.int 10)) (eC (.int 9))) (eC (.int 200))) (Ac 1)) (Ac 5)) Ae))) Ae)))
def Oe:BL :=
 Hv (Dn (Aa (Ac 1) Ae)) (Pat.sem (.nm 5))
  Le
def T5:BL :=
 (Bh (Bb 2 (eOp oIx (Bl (Aa (eC (.int 1)) (Aa (eC (.int 3)) (Aa (eOp oDiv (eOp Ea (eC (.int 10)) (eC (.int 9))) (Ac 1)) Ae)))) (Az Aj (Aa (Ac 0) (Aa (eC (.int 3)) Ae)))))
  (Bh (Bb 3 (eOp oIx (Bl (Aa (eC (.int 0)) (Aa (eOp Dk (eC (.int 0)) (Az Aj (Aa (Ac 0) (Aa (eC (.int 10)) Ae)))) (Aa (eOp Dk (eC (.int 0)) (eOp Ea (eC (.int 10)) (eC (.int 9)))) Ae)))) (Az Aj (Aa (Ac 0) (Aa (eC (.int 3)) Ae)))))
  (Bh (Bb 4 (Gd (Aa (Ac 3) Ae)))
  (Bh Oe
  (Bh (sIf (Br (eOp (oEq false) (Az Aj (Aa (Ac 0) (Aa (eC (.int 3)) Ae))) (eC (.int 0))))
  (Jy (eOp Ea (eC (.int 10)) (eC (.int 9))) (Ac 4) (eUn Nr (eC (.int 1))))
  Eu)
  (Bh (sIf (Br (eOp (oEq false) (Az Aj (Aa (Ac 0) (Aa (eC (.int 6)) Ae))) (eC (.int 0))))
  (Jy (eOp Dk (eC (.int 0)) (eOp Ea (eC (.int 10)) (eC (.int 9)))) (Ac 4) (eC (.int 0)))
  Eu)
  (Dg (Ac 4))))))))
def Gg:JM:=runM 2 6 T5
def M5:BX :=
 CZ 1 [0,3] (Dn (Aa (Ac 1) Ae)) (Pat.sem (.nm 0)) FQ (Az Gg (Aa (Ac 1) (Aa (Ac 2) Ae)))
def Pn:BX :=
 CZ 3 [] (Ot (Aa (Ac 5) (Aa (Ac 7) Ae))) (Pat.sem (.tp [(.nm 0),(.tp [(.nm 1),(.nm 2)])])) FQ (BW (Aa (eOp oIx (Ac 0) (Ac 1)) (Aa (eOp oIx (Ac 0) (Ac 2)) Ae)))
def Pq:BL :=
 (Jt (Hg Gb (Ac 6) (Aa (eCB Nv (Aa (Bl Pn) Ae)) Ae)))
def Pk:BL :=
 Hv (DK (Ac 4)) (Pat.sem (.nm 7))
  Pq
def VN:BL :=
 (Bh (Bb 3 (eOp oIx (Bl (Aa (eC (.int 8)) (Aa (eOp oIx (Bl (Aa (eC (.int 0)) (Aa (eC (.int 40)) (Aa (eC (.int 20)) (Aa (eC (.int 12)) Ae))))) (Ac 1)) Ae))) (eCB Pg (Aa (eOp (oEq false) (Az Aj (Aa (Ac 0) (Aa (eC (.int 3)) Ae))) (eC (.int 0))) Ae))))
  (Bh (Bb 4 (Az Gf (Aa (Ac 0) (Aa (Ac 1) (Aa (Ac 2) (Aa (Ac 3) Ae))))))
  (Bh (Bb 5 (Bl M5))
  (Bh (Bb 6 (Gd Ae))
  (Bh Pk
  (Dg (BW (Aa (Ac 4) (Aa (Ac 5) (Aa (BW (Aa (Ac 1) (Aa (Ac 6) Ae))) Ae))))))))))
def GC:JM:=runM 3 8 VN
def Ww:BL :=
 (Dg (BW (Aa (eOp oIx (Ac 0) (eC (.int 0))) (Aa (Xz nList (Aa (eOp oIx (Ac 0) (eC (.int 1))) Ae)) Ae))))
def Hz:DP:=FT 1 1 Ww
def Mq:BX :=
 CZ 1 [4] (Dn (Aa (eOp Dk (eCB Eh (Aa (Ac 2) Ae)) (eC (.int 1))) Ae)) (Pat.sem (.nm 0)) FQ (eOp Cm (Ac 1) (BW (Aa (Ac 0) Ae)))
def Ms:BL :=
 (Jt (Hg S9 (Ac 3) (Aa (Bl Mq) Ae)))
def KH:BL :=
 Hv (DK (Ac 1)) (Pat.sem (.nm 4))
  Ms
def Mr:BL :=
 (Bh (Bb 3 (Gd Ae))
  (Bh KH
  (Bb 1 (Ac 3))))
def Mp:BL :=
 Hv (DK (Ac 0)) (Pat.sem (.nm 2))
  Mr
def Rm:BL :=
 (Bh (Bb 1 (Bl (Aa (BW Ae) Ae)))
  (Bh Mp
  (Dg (Ac 1))))
def FP:DP:=FT 1 5 Rm
def M4:BX :=
 CZ 3 [] (Ot (Aa (Ac 4) (Aa (Ac 1) Ae))) (Pat.sem (.tp [(.tp [(.nm 1),(.nm 2)]),(.nm 0)])) (tOr (Br (eOp oLt (Ac 0) (Ac 1))) (Br (eOp oGe (Ac 0) (Ac 2)))) (eC (.int 1))
def Pj:BL :=
 (sIf (Br (eOp (oEq false) (Bl M4) (Bl Ae)))
  (Jt (Hg Gb (Ac 2) (Aa (Ac 3) Ae)))
  Eu)
def Ph:BL :=
 Hv (YZ (Aa (Ac 0) Ae)) (Pat.sem (.tp [(.nm 3),(.nm 4)]))
  Pj
def VL:BL :=
 (Bh (Bb 2 (Gd Ae))
  (Bh Ph
  (Dg (Ac 2))))
def G9:DP:=FT 2 5 VL
def QH:BL :=
 (Dg (QK (eCB Jv (Aa (Ac 0) (Aa (eC (.ty "int")) Ae))) (QK (cU (eCB Jv (Aa (Ac 0) (Aa (eC (.ty "bool")) Ae)))) (eOp (oEq false) (Ac 0) (Ac 1)))))
def FJ:DP:=FT 2 2 QH
def Nb:BL :=
 (Bh (Bb 6 (eOp Cm (eOp oIx (Ac 3) (Az Aj (Aa (Ac 0) (Aa (eCB Eh (Aa (Ac 3) Ae)) Ae)))) (eOp oIx (Bl (Aa (eC (.int 0)) (Aa (eOp Dk (Az Aj (Aa (Ac 0) (Aa (eC (.int 5)) Ae))) (eC (.int 2))) Ae))) (Az Aj (Aa (Ac 0) (Aa (eC (.int 2)) Ae))))))
  (Jt (Hg Gb (Ac 4) (Aa (eCB Ft (Aa (eOp Dk (eC (.int 0)) (eOp Ea (eC (.int 10)) (eC (.int 9)))) (Aa (eCB Ib (Aa (Ac 6) (Aa (eOp Dk (eOp Ea (eC (.int 10)) (eC (.int 9))) (eC (.int 1))) Ae))) Ae))) Ae))))
def Qh:BL :=
 Hv (Dn (Aa (eC (.int 2)) Ae)) (Pat.sem (.nm 5))
  Nb
def NZ:BL :=
 (Bh (Bb 4 (Gd Ae))
  (Bh Qh
  (Bh (cP 7 8 (Aa (eCB Ru (Aa (Ac 4) Ae)) (Aa (eCB Rv (Aa (Ac 4) Ae)) Ae)))
  (Bh (Bb 9 (eOp oIx (Bl (Aa (eC (.int 0)) (Aa (eC (.int 0)) (Aa (eC (.int 0)) (Aa (eC (.int 0)) (Aa (eC (.int 1)) (Aa (eC (.int 2)) Ae))))))) (Az Aj (Aa (Ac 0) (Aa (eC (.int 6)) Ae)))))
  (Jt (Hg Gb (Ac 2) (Aa (eOp oIx (Bl (Aa (BW (Aa (Ac 7) (Aa (eCB Ft (Aa (Ac 8) (Aa (eOp Cm (Ac 7) (eC (.int 1))) Ae))) Ae))) (Aa (BW (Aa (Ac 7) (Aa (eOp Cm (Ac 7) (eC (.int 1))) Ae))) (Aa (BW (Aa (eOp Dk (eC (.int 0)) (eOp Ea (eC (.int 10)) (eC (.int 9)))) (Aa (eOp Ea (eC (.int 10)) (eC (.int 9))) Ae))) Ae)))) (Ac 9)) Ae)))))))
def Qg:BL :=
 Hv (DK (Ac 1)) (Pat.sem (.nm 3))
  NZ
def Wy:BL :=
 (Bh (Bb 2 (Gd Ae))
  (Bh Qg
  (Dg (eCB Nv (Aa (Ac 2) Ae)))))
def IV:JM:=runM 2 10 Wy
def Qf:BL :=
 (Bb 5 (eOp Hw (Ac 5) (eCB Ft (Aa (eC (.int 0)) (Aa (eOp Dk (eCB Ib (Aa (Ac 9) (Aa (eOp oIx (Ac 6) (eOp Cm (Ac 7) (eC (.int 1)))) Ae))) (eCB Ft (Aa (Ac 8) (Aa (eOp oIx (Ac 6) (Ac 7)) Ae)))) Ae)))))
def Qd:BL :=
 Hv (YX (Aa (Ac 1) (Aa (Ac 4) (Aa (Ac 2) Ae)))) (Pat.sem (.tp [(.nm 6),(.nm 7),(.tp [(.nm 8),(.nm 9)])]))
  Qf
def NT:BL :=
 (sIf (Br (eOp (oEq true) (Bg G9 (Aa (Ac 0) (Aa (Ac 4) Ae))) (Bl Ae)))
  (Bh (Bb 5 (eC (.int 1)))
  (Bh Qd
  (Bb 3 (eOp Cm (Ac 3) (Ac 5)))))
  Eu)
def Qc:BL :=
 Hv (DK (Bg FP (Aa (Ac 1) Ae))) (Pat.sem (.nm 4))
  NT
def Wx:BL :=
 (Bh (Bb 3 (eC (.int 0)))
  (Bh Qc
  (Dg (Ac 3))))
def IK:DP:=FT 3 10 Wx
def Ux:BL :=
 (sIf (tOr (KY (Br (Bg FJ (Aa (Bg DG (Aa (Ac 8) (Aa (Ac 10) Ae))) (Aa (Ac 11) Ae))))) (Br (eOp (oEq true) (Ac 8) (Ac 7))))
  (Dg (eC (.bl false)))
  Eu)
def YS:BL :=
 Hv (Dn (Aa (eC (.int 2)) Ae)) (Pat.sem (.nm 12))
  Ux
def Uw:BL :=
 (Bh (Bb 10 (Az IV (Aa (Ac 2) (Aa (Ac 6) Ae))))
  (Bh (Bb 11 (Bg IK (Aa (Ac 5) (Aa (Ac 6) (Aa (Ac 10) Ae)))))
  YS))
def fU:BL :=
 Hv (Dn (Aa (eC (.int 4)) Ae)) (Pat.sem (.nm 9))
  Uw
def Uv:BL :=
 (Bh (cQ (Az GC (Aa (Ac 2) (Aa (Ac 3) (Aa (Ac 4) Ae)))) (Pat.sem (.tp [(.nm 5),(.nm 6),(.nm 7)])))
  (Bh (Bb 8 (Bg Hz (Aa (Ac 7) Ae)))
  fU))
def YQ:BL :=
 Hv (DK (BW (Aa (BW (Aa (eC (.int 1)) (Aa (eC (.int 20)) Ae))) (Aa (BW (Aa (eC (.int 2)) (Aa (eC (.int 10)) Ae))) (Aa (BW (Aa (eC (.int 3)) (Aa (eC (.int 6)) Ae))) Ae))))) (Pat.sem (.tp [(.nm 3),(.nm 4)]))
  Uv
def Uu:BL :=
 (Bh (Bb 2 (RJ Hy (Aa (Ac 1) Ae)))
  YQ)
def YM:BL :=
 Hv (DK (eOp Cm (eSl oSl (Ac 0) N7 (N6 (eC (.int 4)))) (Bl (Aa (eCB Eh (Aa (Ac 0) Ae)) Ae)))) (Pat.sem (.nm 1))
  Uu
def oN:BL :=
 (Bh YM
  (Dg (QK (eOp (oEq false) (Bg DG (Aa (BW (Aa (eC (.int 2)) (Aa (Bl (Aa (BW (Aa (BW (Aa (eC (.int 0)) (Aa (eC (.int 4)) Ae))) (Aa (BW (Aa (eC (.int 0)) (Aa (eC (.int 4)) Ae))) Ae))) Ae)) Ae))) (Aa (BW (Aa (BW (Aa (eC (.int 3)) (Aa (eC (.int 9)) Ae))) (Aa (BW (Aa (eUn Nr (eC (.int 5))) (Aa (eC (.int 1)) Ae))) Ae))) Ae))) (eC (.int 1))) (eOp (oEq false) (Bg DG (Aa (BW (Aa (eC (.int 1)) (Aa (Bl Ae) Ae))) (Aa (BW (Aa (BW (Aa (eC (.int 0)) (Aa (eC (.int 9)) Ae))) Ae)) Ae))) (eC (.int 0))))))
def Vx:DP:=FT 1 13 oN
end W18
end
section
namespace W18
open PySem PySem.Spec L2 VS
def top (i : Nat) : Stmt := PySem.Challenge.pw_boxcover_k18_sizes_within.main.body.getD i (.Pass ⟨0, 0, 0, 0⟩)
abbrev Jl:Stmt:=top 6
abbrev Jp:Stmt:=top 7
abbrev Il:Stmt:=top 8
abbrev Kf:Stmt:=top 9
abbrev Ja:Stmt:=top 10
abbrev JH:Stmt:=top 11
abbrev Jj:Stmt:=top 12
abbrev Jo:Stmt:=top 13
abbrev GF:Stmt:=top 14
abbrev GK:Stmt:=top 16
abbrev Hf:Stmt:=top 17
abbrev GP:Stmt:=top 18
abbrev Jm:Stmt:=top 19
abbrev Fj:Stmt:=top 20
abbrev Fo:Stmt:=top 22
abbrev JK:Stmt:=top 24
abbrev Km:Stmt:=top 25
abbrev Jk:Stmt:=top 26
abbrev G4:Stmt:=top 27
abbrev GJ:Stmt:=top 28
abbrev IW:Stmt:=top 29
abbrev JL:Stmt:=top 30
abbrev Hs:Stmt:=top 31
abbrev Ko:Stmt:=top 32
abbrev HF:Stmt:=top 33
abbrev Iu:Stmt:=top 34
abbrev Gw:Stmt:=top 37
abbrev Kq:Stmt:=top 39
abbrev Kp:Stmt:=top 40
abbrev N5:Stmt:=top 41
theorem Zo:CP ["thing"] ["thing"] (Al Jl):=⟨rfl,rfl,rfl,by decide +kernel,rfl,by decide +kernel,by decide +kernel⟩
theorem Zr:CP ["thing"] ["thing"] (Al Jp):=⟨rfl,rfl,rfl,by decide +kernel,rfl,by decide +kernel,by decide +kernel⟩
theorem Xe:CP ["thing"] ["thing"] (Al Il):=⟨rfl,rfl,rfl,by decide +kernel,rfl,by decide +kernel,by decide +kernel⟩
theorem iK:CP ["ways","thing"] ["ways","thing"] (Al Kf):=⟨rfl,rfl,rfl,by decide +kernel,rfl,by decide +kernel,by decide +kernel⟩
theorem QZ:CP ["thing","ways","boxes"] ["thing"] (Al Ja):=⟨rfl,rfl,rfl,by decide +kernel,rfl,by decide +kernel,by decide +kernel⟩
theorem ZR:CP ["heap"] ["heap"] (Al JH):=⟨rfl,rfl,rfl,by decide +kernel,rfl,by decide +kernel,by decide +kernel⟩
theorem Zn:CP ["ways","box"] ["ways","box"] (Al Jj):=⟨rfl,rfl,rfl,by decide +kernel,rfl,by decide +kernel,by decide +kernel⟩
theorem K5:CP ["box","size","low","high"] ["box"] (Al Jo):=⟨rfl,rfl,rfl,by decide +kernel,rfl,by decide +kernel,by decide +kernel⟩
theorem Qq:CP ["one","other","shared"] ["one","other"] (Al GF):=⟨rfl,rfl,rfl,by decide +kernel,rfl,by decide +kernel,by decide +kernel⟩
theorem Xf:CP ["boxes","way"] ["boxes","way"] (Al GK):=⟨rfl,rfl,rfl,by decide +kernel,rfl,by decide +kernel,by decide +kernel⟩
theorem QD:CP ["boxes","way","ends"] ["boxes","way"] (Al Hf):=⟨rfl,rfl,rfl,by decide +kernel,rfl,by decide +kernel,by decide +kernel⟩
theorem Gh:CP ["boxes","numbers","way","ways","cells","low","high","there","rest","held_by"] ["boxes","numbers","way","ways"] (Al GP):=⟨rfl,rfl,rfl,by decide +kernel,rfl,by decide +kernel,by decide +kernel⟩
theorem Zq:CP ["heap"] ["heap"] (Al Jm):=⟨rfl,rfl,rfl,by decide +kernel,rfl,by decide +kernel,by decide +kernel⟩
theorem Ub:CP ["cells"] ["cells"] (Al Fj):=⟨rfl,rfl,rfl,by decide +kernel,rfl,by decide +kernel,by decide +kernel⟩
theorem QF:CP ["heap","box","shared"] ["heap","box"] (Al Fo):=⟨rfl,rfl,rfl,by decide +kernel,rfl,by decide +kernel,by decide +kernel⟩
theorem Ob:CP ["cell","k","number"] ["cell","k"] (Al JK):=⟨rfl,rfl,rfl,by decide +kernel,rfl,by decide +kernel,by decide +kernel⟩
theorem dN:CP ["cell"] ["cell"] (Al Km):=⟨rfl,rfl,rfl,by decide +kernel,rfl,by decide +kernel,by decide +kernel⟩
theorem Sg:CP ["pot","many","told"] ["pot","many"] (Al Jk):=⟨rfl,rfl,rfl,by decide +kernel,rfl,by decide +kernel,by decide +kernel⟩
theorem PX:CP ["pot","things","left"] ["pot","things"] (Al G4):=⟨rfl,rfl,rfl,by decide +kernel,rfl,by decide +kernel,by decide +kernel⟩
theorem J3:CP ["pot","ways","count","sides","way","ends","two"] ["pot","ways","count"] (Al GJ):=⟨rfl,rfl,rfl,by decide +kernel,rfl,by decide +kernel,by decide +kernel⟩
theorem Dp:CP ["pot","ways","most","many","count","wide","found","k","box","way","low","kind","ring"] ["pot","ways","most","many"] (Al IW):=⟨rfl,rfl,rfl,by decide +kernel,rfl,by decide +kernel,by decide +kernel⟩
theorem Jf:CP ["pot","many","step","here","found","k"] ["pot","many"] (Al JL):=⟨rfl,rfl,rfl,by decide +kernel,rfl,by decide +kernel,by decide +kernel⟩
theorem JF:CP ["pot","ways","most","many","small","marks","boxes","box"] ["pot","ways","most"] (Al Hs):=⟨rfl,rfl,rfl,by decide +kernel,rfl,by decide +kernel,by decide +kernel⟩
theorem dO:CP ["heap"] ["heap"] (Al Ko):=⟨rfl,rfl,rfl,by decide +kernel,rfl,by decide +kernel,by decide +kernel⟩
theorem HY:CP ["marks","found","some","longer","spot"] ["marks"] (Al HF):=⟨rfl,rfl,rfl,by decide +kernel,rfl,by decide +kernel,by decide +kernel⟩
theorem Lz:CP ["small","spot","found","number","box"] ["small","spot"] (Al Iu):=⟨rfl,rfl,rfl,by decide +kernel,rfl,by decide +kernel,by decide +kernel⟩
theorem Vm:CP ["found","due"] ["found","due"] (Al Gw):=⟨rfl,rfl,rfl,by decide +kernel,rfl,by decide +kernel,by decide +kernel⟩
theorem Hr:CP ["pot","marks","found","some","two","k","one","low","high","kind"] ["pot","marks"] (Al Kq):=⟨rfl,rfl,rfl,by decide +kernel,rfl,by decide +kernel,by decide +kernel⟩
theorem G5:CP ["small","marks","box","found","spot","size","some","one","low","high"] ["small","marks","box"] (Al Kp):=⟨rfl,rfl,rfl,by decide +kernel,rfl,by decide +kernel,by decide +kernel⟩
theorem Ig:CP ["script","cell","pot","ways","most","small","marks","heap","handed","turn","box","due","again"] ["script"] (Al N5):=⟨rfl,rfl,rfl,by decide +kernel,rfl,by decide +kernel,by decide +kernel⟩
section
variable{P:Program}{w:World}{K:U0b}{mg:Str->Option Value}{base:Heap}
set_option maxHeartbeats 4000000 in
theorem aC{f:Addr}{fd:FuncData}(F:Fun K "is_whole" "is_whole" Jl f fd)(B:Blt mg):Cv P w K mg base CX0 1 f fd ["thing"] (spP K Fe 1) :=
 fnP F Zo fun cdv A outer s H E hr =>
  (Ay (CW (O1 (Bq JX Kh rfl (B.is "isinstance") Fp (Ab (Ad 0) (Ab (Oo (n:="int") rfl (B.is "int") V0) Ag))) (RG (fV (Bq JX Kh rfl (B.is "isinstance") Fp (Ab (Ad 0) (Ab (Oo (n:="bool") rfl (B.is "bool") cJ) Ag))))))))
set_option maxHeartbeats 4000000 in
theorem aG{f:Addr}{fd:FuncData}(F:Fun K "are_ways" "are_ways" Jp f fd)(B:Blt mg){d_MOST_BOXES:Addr}(M_MOST_BOXES:mg "MOST_BOXES"=some (.ref d_MOST_BOXES))(T_MOST_BOXES:∀h,K.In h->U5q P w h d_MOST_BOXES Bc.D3)(c_is_whole:Ca P w K mg base "is_whole" 1 Fe):Cv P w K mg base CX0 2 f fd ["thing"] (spP K Ep 1) :=
 fnP F Zr fun cdv A outer s H E hr =>
  (Ay (CW (O1 (CT c_is_whole hr (by omega) rfl (Ab (Ad 0) Ag)) (RG (mj T_MOST_BOXES (Ad 0) rfl M_MOST_BOXES)))))
set_option maxHeartbeats 4000000 in
theorem Xj{f:Addr}{fd:FuncData}(F:Fun K "is_stretch" "is_stretch" Il f fd)(B:Blt mg)(c_is_whole:Ca P w K mg base "is_whole" 1 Fe):Cv P w K mg base CX0 2 f fd ["thing"] (spP K El 1) :=
 fnP F Xe fun cdv A outer s H E hr =>
  (Ao (Gj (Lw (Om (LQ (K3 (Bq JX Kh rfl (B.is "isinstance") Fp (Ab (Ad 0) (Ab (Oo (n:="tuple") rfl (B.is "tuple") JZ) Ag))))) (Py (Ed (RB hr) R8 (Bq Et J6 rfl (B.is "len") K4 (Ab (Ad 0) Ag)) Ah (Dd _)))))
   (Ay (CW Uh))
   Ek)
   (Ay (CW (O1 (CT c_is_whole hr (by omega) rfl (Ab (Bu Bk Bj (Ad 0) Ah (fun _ _=>rfl)) Ag)) (O1 (CT c_is_whole hr (by omega) rfl (Ab (Bu Bk Bj (Ad 0) Ah (fun _ _=>rfl)) Ag)) (RG (Pz dB YJ (Bu Bk Bj (Ad 0) Ah (fun _ _=>rfl)) (Bu Bk Bj (Ad 0) Ah (fun _ _=>rfl)) (Dd _))))))))
set_option maxHeartbeats 4000000 in
theorem iy{f:Addr}{fd:FuncData}(F:Fun K "is_box" "is_box" Kf f fd)(B:Blt mg)(c_are_ways:Ca P w K mg base "are_ways" 2 Ep)(c_is_stretch:Ca P w K mg base "is_stretch" 2 El):Cv P w K mg base CX0 3 f fd ["ways","thing"] (spP K Gk 2) :=
 fnP F iK fun cdv A outer s H E hr =>
  (Ao (Gj (Lw (Om (LQ (K3 (CT c_are_ways hr (by omega) rfl (Ab (Ad 0) Ag)))) (Om (LQ (K3 (Bq JX Kh rfl (B.is "isinstance") Fp (Ab (Ad 1) (Ab (Oo (n:="tuple") rfl (B.is "tuple") JZ) Ag))))) (Py (Ed (RB hr) R8 (Bq Et J6 rfl (B.is "len") K4 (Ab (Ad 1) Ag)) (Ad 0) (Dd _))))))
   (Ay (CW Uh))
   Ek)
   (Ay (CW (Bq (U9 rfl) Vy rfl (B.is "all") Yd (Ab (Ey rfl (Di.of (sc:=Al Kf) (N:=["ways","thing"]) (N2:=["part"]) (k:=1) (caps:=[]) (by decide +kernel)) rfl (Ef (Ad 1)) ⟨fun _ _ _ _ _=>⟨(BR (i:=0) (show U14 (["part"]:List Str) by decide +kernel)),FN,(CT c_is_stretch hr (by omega) rfl (Ab (Ad 0) Ag))⟩⟩) Ag)))))
set_option maxHeartbeats 4000000 in
theorem dz{f:Addr}{fd:FuncData}(F:Fun K "is_heap" "is_heap" Ja f fd)(B:Blt mg){d_MOST_BOXES:Addr}(M_MOST_BOXES:mg "MOST_BOXES"=some (.ref d_MOST_BOXES))(T_MOST_BOXES:∀h,K.In h->U5q P w h d_MOST_BOXES Bc.D3)(c_are_ways:Ca P w K mg base "are_ways" 2 Ep)(c_is_box:Ca P w K mg base "is_box" 3 Gk):Cv P w K mg base CX0 4 f fd ["thing"] (spP K JD 1) :=
 fnP F QZ fun cdv A outer s H E hr =>
  (Ao (Gj (Lw (Om (LQ (K3 (Bq JX Kh rfl (B.is "isinstance") Fp (Ab (Ad 0) (Ab (Oo (n:="tuple") rfl (B.is "tuple") JZ) Ag))))) (Py (Ed (RB hr) R8 (Bq Et J6 rfl (B.is "len") K4 (Ab (Ad 0) Ag)) Ah (Dd _)))))
   (Ay (CW Uh))
   Ek)
   (Ao (Bv (i:=1) QZ.nd (Bu Bk Bj (Ad 0) Ah (fun _ _=>rfl)))
   (Ao (Bv (i:=2) QZ.nd (Bu Bk Bj (Ad 0) Ah (fun _ _=>rfl)))
   (Ao (Gj (Lw (Om (LQ (K3 (CT c_are_ways hr (by omega) rfl (Ab (Ad 1) Ag)))) (Om (LQ (K3 (Bq JX Kh rfl (B.is "isinstance") Fp (Ab (Ad 2) (Ab (Oo (n:="list") rfl (B.is "list") SQ) Ag))))) (Py (Ed Ug R9 (Bq Et J6 rfl (B.is "len") K4 (Ab (Ad 2) Ag)) (mZ T_MOST_BOXES (Ad 1) rfl M_MOST_BOXES (fun _ _=>rfl)) (Dd _))))))
   (Ay (CW Uh))
   Ek)
   (Ay (CW (Bq (U9 rfl) Vy rfl (B.is "all") Yd (Ab (Ey rfl (Di.of (sc:=Al Ja) (N:=["thing","ways","boxes"]) (N2:=["box","ways"]) (k:=1) (caps:=[1]) (by decide +kernel)) rfl (Ef (Ad 2)) ⟨fun _ _ _ _ _=>⟨(BR (i:=0) (show U14 (["box","ways"]:List Str) by decide +kernel)),FN,(CT c_is_box hr (by omega) rfl (Ab (Ad 1) (Ab (Ad 0) Ag)))⟩⟩) Ag))))))))
set_option maxHeartbeats 4000000 in
theorem ZW{f:Addr}{fd:FuncData}(F:Fun K "need_heap" "need_heap" JH f fd)(B:Blt mg)(c_is_heap:Ca P w K mg base "is_heap" 4 JD):Cv P w K mg base CX0 5 f fd ["heap"] (spP K Ge 1) :=
 fnP F ZR fun cdv A outer s H E hr =>
  (Ay (Gj (LQ (K3 (CT c_is_heap hr (by omega) rfl (Ab (Ad 0) Ag))))
   (Ay Z0)
   Ek))
set_option maxHeartbeats 4000000 in
theorem Zw{f:Addr}{fd:FuncData}(F:Fun K "need_box" "need_box" Jj f fd)(B:Blt mg)(c_is_box:Ca P w K mg base "is_box" 3 Gk):Cv P w K mg base CX0 4 f fd ["ways","box"] (spP K HD 2) :=
 fnP F Zn fun cdv A outer s H E hr =>
  (Ay (Gj (LQ (K3 (CT c_is_box hr (by omega) rfl (Ab (Ad 0) (Ab (Ad 1) Ag)))))
   (Ay Z0)
   Ek))
set_option maxHeartbeats 4000000 in
theorem aF{f:Addr}{fd:FuncData}(F:Fun K "box_size" "box_size" Jo f fd)(B:Blt mg):Cv P w K mg base CX0 1 f fd ["box"] (spP K Ik 1) :=
 fnP F K5 fun cdv A outer s H E hr =>
  (Ao (Bv (i:=1) K5.nd Ah)
   (Ao (FZ rfl (Ef (Ad 0)) (Gy rfl (CG (BR (i:=2) K5.nd) (CG (BR (i:=3) K5.nd) Fx)))
   (Ay (Bv (i:=1) K5.nd (BP Ji Jg (Ad 1) (BP Gx Fw (Ad 3) (Ad 2))))) U1y)
   (Ay (CW (Ad 1)))))
set_option maxHeartbeats 4000000 in
theorem Xg{f:Addr}{fd:FuncData}(F:Fun K "shared_box" "shared_box" GF f fd)(B:Blt mg)(Bz:mg "zip"=none)(c_is_stretch:Ca P w K mg base "is_stretch" 2 El):Cv P w K mg base CX0 3 f fd ["one","other"] (spP K Fz 2) :=
 fnP F Qq fun cdv A outer s H E hr =>
  (Ao (M6 (i:=2) rfl Qq.nd (Di.of (sc:=Al GF) (N:=["one","other","shared"]) (N2:=["mine","yours"]) (k:=2) (caps:=[]) (by decide +kernel)) rfl (YT rfl Bz (Ab (Ad 0) (Ab (Ad 1) Ag))) ⟨fun _ _ _ _ _=>⟨(Gy rfl (CG (BR (i:=0) (show U14 (["mine","yours"]:List Str) by decide +kernel)) (CG (BR (i:=1) (show U14 (["mine","yours"]:List Str) by decide +kernel)) Fx))),FN,(Bp (Ab (Bq (Ks rfl) Lp rfl (B.is "max") O2 (Ab (Bu Bk Bj (Ad 0) Ah (fun _ _=>rfl)) (Ab (Bu Bk Bj (Ad 1) Ah (fun _ _=>rfl)) Ag))) (Ab (Bq (Ma rfl) O6 rfl (B.is "min") Q7 (Ab (Bu Bk Bj (Ad 0) Ah (fun _ _=>rfl)) (Ab (Bu Bk Bj (Ad 1) Ah (fun _ _=>rfl)) Ag))) Ag)) (Ai (Ai Av)))⟩⟩)
   (Ao (Gj (K3 (Bq (U9 rfl) Vy rfl (B.is "all") Yd (Ab (Ey rfl (Di.of (sc:=Al GF) (N:=["one","other","shared"]) (N2:=["part"]) (k:=1) (caps:=[]) (by decide +kernel)) rfl (Ef (Ad 2)) ⟨fun _ _ _ _ _=>⟨(BR (i:=0) (show U14 (["part"]:List Str) by decide +kernel)),FN,(CT c_is_stretch hr (by omega) rfl (Ab (Ad 0) Ag))⟩⟩) Ag)))
   (Ay (CW (Jc J5 MJ rfl (B.is "tuple") JZ (Ab (Ad 2) Ag))))
   Ek)
   (Ay (CW fW))))
set_option maxHeartbeats 4000000 in
theorem Xk{f:Addr}{fd:FuncData}(F:Fun K "ends_along" "ends_along" GK f fd)(B:Blt mg):Cv P w K mg base CX0 1 f fd ["boxes","way"] (spP K Gv 2) :=
 fnP F Xf fun cdv A outer s H E hr =>
  (Ay (CW (eU rfl (BP DY DW (Ey rfl (Di.of (sc:=Al GK) (N:=["boxes","way"]) (N2:=["box","way"]) (k:=1) (caps:=[1]) (by decide +kernel)) rfl (Ef (Ad 0)) ⟨fun _ _ _ _ _=>⟨(BR (i:=0) (show U14 (["box","way"]:List Str) by decide +kernel)),FN,(Bu Bk Bj (Bu Bk Bj (Ad 0) (Ad 1) (fun _ _=>rfl)) Ah (fun _ _=>rfl))⟩⟩) (Ey rfl (Di.of (sc:=Al GK) (N:=["boxes","way"]) (N2:=["box","way"]) (k:=1) (caps:=[1]) (by decide +kernel)) rfl (Ef (Ad 0)) ⟨fun _ _ _ _ _=>⟨(BR (i:=0) (show U14 (["box","way"]:List Str) by decide +kernel)),FN,(Bu Bk Bj (Bu Bk Bj (Ad 0) (Ad 1) (fun _ _=>rfl)) Ah (fun _ _=>rfl))⟩⟩)) rfl (B.is "sorted") rfl (B.is "set"))))
set_option maxHeartbeats 4000000 in
theorem WD{f:Addr}{fd:FuncData}(F:Fun K "steps_along" "steps_along" Hf f fd)(B:Blt mg)(Bz:mg "zip"=none)(c_ends_along:Ca P w K mg base "ends_along" 1 Gv):Cv P w K mg base CX0 2 f fd ["boxes","way"] (spP K Fi 2) :=
 fnP F QD fun cdv A outer s H E hr =>
  (Ao (Bv (i:=2) QD.nd (CT c_ends_along hr (by omega) rfl (Ab (Ad 0) (Ab (Ad 1) Ag))))
   (Ay (CW (V9 rfl (Ab (Ad 2) (Ab (Tj YG YH (Ad 2) (W3 Ah) W4) Ag)) rfl (B.is "list") rfl Bz))))
set_option maxHeartbeats 4000000 in
theorem K9{f:Addr}{fd:FuncData}(F:Fun K "cells_from" "cells_from" GP f fd)(B:Blt mg)(c_steps_along:Ca P w K mg base "steps_along" 2 Fi){n k:Nat}(hk:2<=k)(c_cells_from:Ca P w K mg base "cells_from" k (CQ n)):Cv P w K mg base CX0 (k+1) f fd ["boxes","numbers","way","ways"] (spP K (CQ (n+1)) 4) :=
 fnP F Gh fun cdv A outer s H E hr =>
  (Ao (Gj (Ed (Hj hr) Hh (Bq Et J6 rfl (B.is "len") K4 (Ab (Ad 1) Ag)) Ah (Dd _))
   (Ay (CW (Ec Ag Av)))
   Ek)
   (Ao (Gj (Ed (Hj hr) Hh (Ad 2) (Ad 3) (Dd _))
   (Ay (CW (Ec (Ab (Bp (Ab (Bp Ag Av) (Ab (Ad 1) Ag)) (Ai (Ai Av))) Ag) (Ai Av))))
   Ek)
   (Ao (Bv (i:=4) Gh.nd (J9 Ag Av))
   (Ao (FZ rfl (Ef (CT c_steps_along hr (by omega) rfl (Ab (Ey rfl (Di.of (sc:=Al GP) (N:=["boxes","numbers","way","ways","cells","low","high","there","rest","held_by"]) (N2:=["number","boxes"]) (k:=1) (caps:=[0]) (by decide +kernel)) rfl (Ef (Ad 1)) ⟨fun _ _ _ _ _=>⟨(BR (i:=0) (show U14 (["number","boxes"]:List Str) by decide +kernel)),FN,(Bu Bk Bj (Ad 1) (Ad 0) (fun _ _=>rfl))⟩⟩) (Ab (Ad 2) Ag)))) (Gy rfl (CG (BR (i:=5) Gh.nd) (CG (BR (i:=6) Gh.nd) Fx)))
   (Ao (M6 (i:=7) rfl Gh.nd (Di.of (sc:=Al GP) (N:=["boxes","numbers","way","ways","cells","low","high","there","rest","held_by"]) (N2:=["number","boxes","way","low"]) (k:=1) (caps:=[0,2,5]) (by decide +kernel)) rfl (Ef (Ad 1)) ⟨fun _ _ _ _ _=>⟨(BR (i:=0) (show U14 (["number","boxes","way","low"]:List Str) by decide +kernel)),(W2 (mW yj uz dB YJ (Bu Bk Bj (Bu Bk Bj (Bu Bk Bj (Ad 1) (Ad 0) (fun _ _=>rfl)) (Ad 2) (fun _ _=>rfl)) Ah (fun _ _=>rfl)) (Ad 3) (Bu Bk Bj (Bu Bk Bj (Bu Bk Bj (Ad 1) (Ad 0) (fun _ _=>rfl)) (Ad 2) (fun _ _=>rfl)) Ah (fun _ _=>rfl)))),(Ad 0)⟩⟩)
   (Ay (FZ rfl (Ef (CT c_cells_from hr (by omega) rfl (Ab (Ad 0) (Ab (Ad 7) (Ab (BP DY DW (Ad 2) Ah) (Ab (Ad 3) Ag)))))) (Gy rfl (CG (BR (i:=8) Gh.nd) (CG (BR (i:=9) Gh.nd) Fx)))
   (Ay (Iz (Ij U18 U2q U2r Ho Hl (Ad 4) (Ab (Bp (Ab (BP DY DW (Bp (Ab (Bp (Ab (Ad 5) (Ab (Ad 6) Ag)) (Ai (Ai Av))) Ag) (Ai Av)) (Ad 8)) (Ab (Ad 9) Ag)) (Ai (Ai Av))) Ag)))) U1y))) U1y)
   (Ay (CW (Ad 4)))))))
set_option maxHeartbeats 4000000 in
theorem aD{f:Addr}{fd:FuncData}(F:Fun K "cells_of" "cells_of" Jm f fd)(B:Blt mg)(c_cells_from:Ca P w K mg base "cells_from" 6 (CQ 4)):Cv P w K mg base CX0 7 f fd ["heap"] (spP K GD 1) :=
 fnP F Zq fun cdv A outer s H E hr =>
  (Ay (CW (CT c_cells_from hr (by omega) rfl (Ab (Bu Bk Bj (Ad 0) Ah (fun _ _=>rfl)) (Ab (Ri rfl (Ab (Bq Et J6 rfl (B.is "len") K4 (Ab (Bu Bk Bj (Ad 0) Ah (fun _ _=>rfl)) Ag)) Ag) rfl (B.is "list") rfl (B.is "range")) (Ab Ah (Ab (Bu Bk Bj (Ad 0) Ah (fun _ _=>rfl)) Ag)))))))
set_option maxHeartbeats 4000000 in
theorem Uc{f:Addr}{fd:FuncData}(F:Fun K "size_together" "size_together" Fj f fd)(B:Blt mg)(Bs:mg "sum"=none)(c_box_size:Ca P w K mg base "box_size" 1 Ik):Cv P w K mg base CX0 2 f fd ["cells"] (spP K En 1) :=
 fnP F Ub fun cdv A outer s H E hr =>
  (Ay (CW (Bq (jM rfl) pY rfl Bs wZ (Ab (Ey rfl (Di.of (sc:=Al Fj) (N:=["cells"]) (N2:=["cell","numbers"]) (k:=2) (caps:=[]) (by decide +kernel)) rfl (Ef (Ad 0)) ⟨fun _ _ _ _ _=>⟨(Gy rfl (CG (BR (i:=0) (show U14 (["cell","numbers"]:List Str) by decide +kernel)) (CG (BR (i:=1) (show U14 (["cell","numbers"]:List Str) by decide +kernel)) Fx))),FN,(CT c_box_size hr (by omega) rfl (Ab (Ad 0) Ag))⟩⟩) Ag))))
set_option maxHeartbeats 4000000 in
theorem WK{f:Addr}{fd:FuncData}(F:Fun K "size_within" "size_within" Fo f fd)(B:Blt mg)(c_need_heap:Ca P w K mg base "need_heap" 5 Ge)(c_need_box:Ca P w K mg base "need_box" 4 HD)(c_shared_box:Ca P w K mg base "shared_box" 3 Fz)(c_size_together:Ca P w K mg base "size_together" 2 En)(c_cells_of:Ca P w K mg base "cells_of" 7 GD):Cv P w K mg base CX0 8 f fd ["heap","box"] (spP K DG 2) :=
 fnP F QF fun cdv A outer s H E hr =>
  (Ao (Iz (CT c_need_heap hr (by omega) rfl (Ab (Ad 0) Ag)))
   (Ao (Iz (CT c_need_box hr (by omega) rfl (Ab (Bu Bk Bj (Ad 0) Ah (fun _ _=>rfl)) (Ab (Ad 1) Ag))))
   (Ao (M6 (i:=2) rfl QF.nd (Di.of (sc:=Al Fo) (N:=["heap","box","shared"]) (N2:=["mine","box"]) (k:=1) (caps:=[1]) (by decide +kernel)) rfl (Ef (Bu Bk Bj (Ad 0) Ah (fun _ _=>rfl))) ⟨fun _ _ _ _ _=>⟨(BR (i:=0) (show U14 (["mine","box"]:List Str) by decide +kernel)),FN,(CT c_shared_box hr (by omega) rfl (Ab (Ad 0) (Ab (Ad 1) Ag)))⟩⟩)
   (Ay (CW (CT c_size_together hr (by omega) rfl (Ab (CT c_cells_of hr (by omega) rfl (Ab (Bp (Ab (Bu Bk Bj (Ad 0) Ah (fun _ _=>rfl)) (Ab (Ey rfl (Di.of (sc:=Al Fo) (N:=["heap","box","shared"]) (N2:=["part"]) (k:=1) (caps:=[]) (by decide +kernel)) rfl (Ef (Ad 2)) ⟨fun _ _ _ _ _=>⟨(BR (i:=0) (show U14 (["part"]:List Str) by decide +kernel)),(W2 (Ed lq lG (Ad 0) fW (Dd _))),(Ad 0)⟩⟩) Ag)) (Ai (Ai Av))) Ag)) Ag)))))))
set_option maxHeartbeats 4000000 in
theorem Za{f:Addr}{fd:FuncData}(F:Fun K "_law_mixed" "_law_mixed" JK f fd)(B:Blt mg):Cv P w K mg base CX0 1 f fd ["cell","k"] (spP K HX 2) :=
 fnP F Ob fun cdv A outer s H E hr =>
  (Ao (Bv (i:=2) Ob.nd (BP LK Jh (BP Ji Jg (BP DY DW (BP DY DW (BP LK Jh (Ad 0) Ah) (BP Ji Jg Ah (Ad 1))) Ah) Ah) Ah))
   (Ao (Bv (i:=2) Ob.nd (BP LK Jh (BP Ji Jg (Ad 2) (Ad 2)) Ah))
   (Ay (CW (BP O7 QB (BP LK Jh (BP Ji Jg (BP DY DW (Ad 2) (BP Ji Jg Ah (BP DY DW (Ad 1) Ah))) Ah) Ah) Ah)))))
set_option maxHeartbeats 4000000 in
theorem dg{f:Addr}{fd:FuncData}(F:Fun K "_law_pot" "_law_pot" Km f fd)(B:Blt mg):Cv P w K mg base CX0 1 f fd ["cell"] (spP K Hy 1) :=
 fnP F dN fun cdv A outer s H E hr =>
  (Ay (CW (Ec (Ab (BP S6 QT (BP LK Jh (Ad 0) (BP S6 QT (BP S6 QT (BP S6 QT (BP Hi Ga Ah Ah) (BP Hi Ga Ah Ah)) (BP Hi Ga Ah Ah)) (BP Hi Ga Ah Ah))) (Jc XJ bH rfl (B.is "int") V0 (Ab (Pz oJ fK (Ad 0) (BP Hi Ga Ah Ah) (Dd _)) Ag))) (Ab (Ad 0) (Ab Ah Ag))) (Ai (Ai (Ai Av))))))
set_option maxHeartbeats 4000000 in
theorem Zx{f:Addr}{fd:FuncData}(F:Fun K "_law_take" "_law_take" Jk f fd)(B:Blt mg)(c_law_mixed:Ca P w K mg base "_law_mixed" 1 HX):Cv P w K mg base CX0 2 f fd ["pot","many"] (spM K Aj 2) :=
 fnM F Sg fun cdv A outer s H E hr =>
  (Ao (OD (BP DY DW (Bu Bk Bj (Ad 0) Ah (fun _ _=>rfl)) Ah) (Ad 0) Ah)
   (Ao (Gj (Ed Ug R9 (Bu Bk Bj (Ad 0) Ah (fun _ _=>rfl)) Ah (Dd _))
   (Ao (Bv (i:=2) Sg.nd (BP LK Jh (Bu Bk Bj (Ad 0) Ah (fun _ _=>rfl)) (Ad 1)))
   (Ao (OD (BP O7 QB (Bu Bk Bj (Ad 0) Ah (fun _ _=>rfl)) (Ad 1)) (Ad 0) Ah)
   (Ay (CW (Ad 2)))))
   Ek)
   (Ay (CW (BP LK Jh (CT c_law_mixed hr (by omega) rfl (Ab (Bu Bk Bj (Ad 0) Ah (fun _ _=>rfl)) (Ab (Bu Bk Bj (Ad 0) Ah (fun _ _=>rfl)) Ag))) (Ad 1))))))
set_option maxHeartbeats 4000000 in
theorem Vn{f:Addr}{fd:FuncData}(F:Fun K "_law_mixed_up" "_law_mixed_up" G4 f fd)(B:Blt mg)(c_law_take:Ie P w K mg base "_law_take" 2 Aj):Cv P w K mg base CX0 3 f fd ["pot","things"] (spM K Ez 2) :=
 fnM F PX fun cdv A outer s H E hr =>
  (Ao (Bv (i:=2) PX.nd (rH Rp Yq rfl (B.is "list") SQ (Ab (Ad 1) Ag)))
   (Ay (CW (Ey rfl (Di.of (sc:=Al G4) (N:=["pot","things","left"]) (N2:=["thing","left","pot"]) (k:=1) (caps:=[2,0]) (by decide +kernel)) rfl (Ef (Ad 1)) ⟨fun _ _ _ _ _=>⟨(BR (i:=0) (show U14 (["thing","left","pot"]:List Str) by decide +kernel)),FN,(Ij U18 PySem.F.slot_list_pop PySem.F.type_list_pop mD lD (Ad 1) (Ab (Cd c_law_take hr (by omega) rfl (Ab (Ad 2) (Ab (Bq Et J6 rfl (B.is "len") K4 (Ab (Ad 1) Ag)) Ag))) Ag))⟩⟩))))
set_option maxHeartbeats 4000000 in
theorem Xh{f:Addr}{fd:FuncData}(F:Fun K "_law_unlike" "_law_unlike" GJ f fd)(B:Blt mg)(Bz:mg "zip"=none)(c_law_mixed_up:Ie P w K mg base "_law_mixed_up" 3 Ez):Cv P w K mg base CX0 4 f fd ["pot","ways","count"] (spM K G3 3) :=
 fnM F J3 fun cdv A outer s H E hr =>
  (Ao (Bv (i:=3) J3.nd (J9 Ag Av))
   (Ao (FZ rfl (Gm rfl (B.is "range") (Ab (Ad 1) Ag)) (BR (i:=4) J3.nd)
   (Ao (Bv (i:=5) J3.nd (Cd c_law_mixed_up hr (by omega) rfl (Ab (Ad 0) (Ab (Ri rfl (Ab (BP Ji Jg Ah (Ad 2)) Ag) rfl (B.is "list") rfl (B.is "range")) Ag))))
   (Ao (Bv (i:=6) J3.nd (V9 rfl (Ab (mz (Ad 5)) (Ab (mq (Ad 5)) Ag)) rfl (B.is "list") rfl Bz))
   (Ay (Iz (Ij U18 U2q U2r Ho Hl (Ad 3) (Ab (Ey rfl (Di.of (sc:=Al GJ) (N:=["pot","ways","count","sides","way","ends","two"]) (N2:=["one","other"]) (k:=2) (caps:=[]) (by decide +kernel)) rfl (Ef (Ad 6)) ⟨fun _ _ _ _ _=>⟨(Gy rfl (CG (BR (i:=0) (show U14 (["one","other"]:List Str) by decide +kernel)) (CG (BR (i:=1) (show U14 (["one","other"]:List Str) by decide +kernel)) Fx))),FN,(Bp (Ab (Bq (Ma rfl) O6 rfl (B.is "min") Q7 (Ab (Ad 0) (Ab (Ad 1) Ag))) (Ab (Bq (Ks rfl) Lp rfl (B.is "max") O2 (Ab (Ad 0) (Ab (Ad 1) Ag))) Ag)) (Ai (Ai Av)))⟩⟩) Ag)))))) U1y)
   (Ay (CW (Ey rfl (Di.of (sc:=Al GJ) (N:=["pot","ways","count","sides","way","ends","two"]) (N2:=["k","sides"]) (k:=1) (caps:=[3]) (by decide +kernel)) rfl (Gm rfl (B.is "range") (Ab (Ad 2) Ag)) ⟨fun _ _ _ _ _=>⟨(BR (i:=0) (show U14 (["k","sides"]:List Str) by decide +kernel)),FN,(Jc J5 MJ rfl (B.is "tuple") JZ (Ab (Ey rfl (Di.of (N:=["k","sides"]) (N2:=["side","k"]) (k:=1) (caps:=[0]) (by kernel_rfl)) rfl (Ef (Ad 1)) ⟨fun _ _ _ _ _=>⟨(BR (i:=0) (show U14 (["side","k"]:List Str) by decide +kernel)),FN,(Bu Bk Bj (Ad 0) (Ad 1) (fun _ _=>rfl))⟩⟩) Ag))⟩⟩)))))
set_option maxHeartbeats 4000000 in
theorem ZX{f:Addr}{fd:FuncData}(F:Fun K "_law_small" "_law_small" IW f fd)(B:Blt mg)(c_law_take:Ie P w K mg base "_law_take" 2 Aj)(c_law_unlike:Ie P w K mg base "_law_unlike" 4 G3):Cv P w K mg base CX0 5 f fd ["pot","ways","most","many"] (spM K Gf 4) :=
 fnM F Dp fun cdv A outer s H E hr =>
  (Ao (Bv (i:=4) Dp.nd (Bu Bk Bj (Ec (Ab (Cd c_law_take hr (by omega) rfl (Ab (Ad 0) (Ab (BP DY DW (Ad 2) Ah) Ag))) (Ab (Ad 2) (Ab (BP DY DW Ah (Cd c_law_take hr (by omega) rfl (Ab (Ad 0) (Ab (Ad 2) Ag)))) Ag))) (Ai (Ai (Ai Av)))) (Cd c_law_take hr (by omega) rfl (Ab (Ad 0) (Ab Ah Ag))) (fun _ _=>rfl)))
   (Ao (Bv (i:=5) Dp.nd (Bu Bk Bj (Ec (Ab Ah (Ab Ah (Ab Ah (Ab (Ad 3) Ag)))) (Ai (Ai (Ai (Ai Av))))) (Cd c_law_take hr (by omega) rfl (Ab (Ad 0) (Ab Ah Ag))) (fun _ _=>rfl)))
   (Ao (Bv (i:=6) Dp.nd (J9 Ag Av))
   (Ao (FZ rfl (Gm rfl (B.is "range") (Ab (Ad 4) Ag)) (BR (i:=7) Dp.nd)
   (Ao (Bv (i:=8) Dp.nd (J9 Ag Av))
   (Ao (FZ rfl (Gm rfl (B.is "range") (Ab (Ad 1) Ag)) (BR (i:=9) Dp.nd)
   (Ao (Bv (i:=10) Dp.nd (Cd c_law_take hr (by omega) rfl (Ab (Ad 0) (Ab (Ad 5) Ag))))
   (Ay (Iz (Ij U18 U2q U2r Ho Hl (Ad 8) (Ab (Bp (Ab (Ad 10) (Ab (BP DY DW (BP DY DW (Ad 10) Ah) (Bu Bk Bj (Ec (Ab Ah (Ab (Cd c_law_take hr (by omega) rfl (Ab (Ad 0) (Ab (BP Gx Fw (Ad 5) (Ad 10)) Ag))) Ag)) (Ai (Ai Av))) (Cd c_law_take hr (by omega) rfl (Ab (Ad 0) (Ab Ah Ag))) (fun _ _=>rfl))) Ag)) (Ai (Ai Av))) Ag))))) U1y)
   (Ay (Iz (Ij U18 U2q U2r Ho Hl (Ad 6) (Ab (Jc J5 MJ rfl (B.is "tuple") JZ (Ab (Ad 8) Ag)) Ag)))))) U1y)
   (Ao (Bv (i:=11) Dp.nd (Cd c_law_take hr (by omega) rfl (Ab (Ad 0) (Ab Ah Ag))))
   (Ao (Gj (Lw (Uy (Ed (Hj hr) Hh (Ad 11) Ah (Dd _)) (SJ (Ed Ug R9 (Ad 4) Ah (Dd _)))))
   (Ay (OD (Bu Bk Bj (Ad 6) (Cd c_law_take hr (by omega) rfl (Ab (Ad 0) (Ab (BP Gx Fw (Ad 4) Ah) Ag))) (fun _ _=>rfl)) (Ad 6) (Xr Uk Rx Ah)))
   Ek)
   (Ao (Gj (Lw (Uy (Ed (Hj hr) Hh (Ad 1) Ah (Dd _)) (SJ (Ed (Hj hr) Hh (Ad 11) Ah (Dd _)))))
   (Ao (Bv (i:=12) Dp.nd (Ec (Ab (Bp (Ab (Bp (Ab Ah (Ab Ah Ag)) (Ai (Ai Av))) (Ab (Bp (Ab Ah (Ab Ah Ag)) (Ai (Ai Av))) Ag)) (Ai (Ai Av))) (Ab (Bp (Ab (Bp (Ab Ah (Ab Ah Ag)) (Ai (Ai Av))) (Ab (Bp (Ab Ah (Ab Ah Ag)) (Ai (Ai Av))) Ag)) (Ai (Ai Av))) (Ab (Bp (Ab (Bp (Ab Ah (Ab Ah Ag)) (Ai (Ai Av))) (Ab (Bp (Ab Ah (Ab Ah Ag)) (Ai (Ai Av))) Ag)) (Ai (Ai Av))) (Ab (Bp (Ab (Bp (Ab Ah (Ab Ah Ag)) (Ai (Ai Av))) (Ab (Bp (Ab Ah (Ab Ah Ag)) (Ai (Ai Av))) Ag)) (Ai (Ai Av))) Ag)))) (Ai (Ai (Ai (Ai Av))))))
   (Ay (Bv (i:=6) Dp.nd (BP DY DW (Ad 12) (Tj YG YH (Ad 6) W4 (W3 (Cd c_law_take hr (by omega) rfl (Ab (Ad 0) (Ab (BP Gx Fw (Ad 2) Ah) Ag)))))))))
   Ek)
   (Ao (Gj (Lw (Uy (Ed (Hj hr) Hh (Ad 1) Ah (Dd _)) (SJ (Ed (Hj hr) Hh (Ad 11) Ah (Dd _)))))
   (Ay (aL (i:=6) rfl Dp.nd (Di.of (sc:=Al IW) (N:=["pot","ways","most","many","count","wide","found","k","box","way","low","kind","ring"]) (N2:=["k"]) (k:=1) (caps:=[]) (by decide +kernel)) rfl (j8 rfl (B.is "range") (Ab Ah (Ab (BP Ji Jg Ah (Ad 2)) (Ab Ah Ag)))) ⟨fun _ _ _ _ _=>⟨(BR (i:=0) (show U14 (["k"]:List Str) by decide +kernel)),FN,(Bp (Ab (Bp (Ab (BP LK Jh (Ad 0) Ah) (Ab (BP DY DW (BP LK Jh (Ad 0) Ah) Ah) Ag)) (Ai (Ai Av))) (Ab (Bp (Ab (BP O7 QB (Ad 0) Ah) (Ab (BP DY DW (BP O7 QB (Ad 0) Ah) Ah) Ag)) (Ai (Ai Av))) Ag)) (Ai (Ai Av)))⟩⟩))
   Ek)
   (Ao (Gj (Lw (Uy (Ed Ug R9 (Ad 11) Ah (Dd _)) (SJ (Ed Ug R9 (Ad 3) Ah (Dd _)))))
   (Ay (Bv (i:=6) Dp.nd (mY c_law_unlike hr (by omega) rfl (Ab (Ad 0) (Ab (Ad 1) (Ab (Ad 4) Ag))))))
   Ek)
   (Ay (CW (Ad 6))))))))))))
set_option maxHeartbeats 4000000 in
theorem Zb{f:Addr}{fd:FuncData}(F:Fun K "_law_marks" "_law_marks" JL f fd)(B:Blt mg)(c_law_take:Ie P w K mg base "_law_take" 2 Aj):Cv P w K mg base CX0 3 f fd ["pot","many"] (spM K Gg 2) :=
 fnM F Jf fun cdv A outer s H E hr =>
  (Ao (Bv (i:=2) Jf.nd (Bu Bk Bj (Ec (Ab Ah (Ab Ah (Ab (BP O7 QB (BP Hi Ga Ah Ah) (Ad 1)) Ag))) (Ai (Ai (Ai Av)))) (Cd c_law_take hr (by omega) rfl (Ab (Ad 0) (Ab Ah Ag))) (fun _ _=>rfl)))
   (Ao (Bv (i:=3) Jf.nd (Bu Bk Bj (Ec (Ab Ah (Ab (BP Gx Fw Ah (Cd c_law_take hr (by omega) rfl (Ab (Ad 0) (Ab Ah Ag)))) (Ab (BP Gx Fw Ah (BP Hi Ga Ah Ah)) Ag))) (Ai (Ai (Ai Av)))) (Cd c_law_take hr (by omega) rfl (Ab (Ad 0) (Ab Ah Ag))) (fun _ _=>rfl)))
   (Ao (Bv (i:=4) Jf.nd (J9 (Ab (Ad 3) Ag) (Ai Av)))
   (Ao (FZ rfl (Gm rfl (B.is "range") (Ab (Ad 1) Ag)) (BR (i:=5) Jf.nd)
   (Ay (Iz (Ij U18 U2q U2r Ho Hl (Ad 4) (Ab (Bq (Ma rfl) O6 rfl (B.is "min") Q7 (Ab (BP DY DW (BP DY DW (Bu Bk Bj (Ad 4) (Xr Uk Rx Ah) (fun _ _=>rfl)) Ah) (Cd c_law_take hr (by omega) rfl (Ab (Ad 0) (Ab (Ad 2) Ag)))) (Ab (BP DY DW (BP Gx Fw (BP Gx Fw (BP Hi Ga Ah Ah) Ah) (Ad 1)) (Ad 5)) Ag))) Ag)))) U1y)
   (Ao (Gj (Ed (Hj hr) Hh (Cd c_law_take hr (by omega) rfl (Ab (Ad 0) (Ab Ah Ag))) Ah (Dd _))
   (Ay (OD (BP Hi Ga Ah Ah) (Ad 4) (Xr Uk Rx Ah)))
   Ek)
   (Ao (Gj (Ed (Hj hr) Hh (Cd c_law_take hr (by omega) rfl (Ab (Ad 0) (Ab Ah Ag))) Ah (Dd _))
   (Ay (OD (BP Gx Fw Ah (BP Hi Ga Ah Ah)) (Ad 4) Ah))
   Ek)
   (Ay (CW (Ad 4)))))))))
set_option maxHeartbeats 4000000 in
theorem Zz{f:Addr}{fd:FuncData}(F:Fun K "_law_heap" "_law_heap" Hs f fd)(B:Blt mg)(Bz:mg "zip"=none)(c_law_take:Ie P w K mg base "_law_take" 2 Aj)(c_law_small:Ie P w K mg base "_law_small" 5 Gf)(c_law_marks:Ie P w K mg base "_law_marks" 3 Gg):Cv P w K mg base CX0 6 f fd ["pot","ways","most"] (spM K GC 3) :=
 fnM F JF fun cdv A outer s H E hr =>
  (Ao (Bv (i:=3) JF.nd (Bu Bk Bj (Ec (Ab Ah (Ab (Bu Bk Bj (Ec (Ab Ah (Ab Ah (Ab Ah (Ab Ah Ag)))) (Ai (Ai (Ai (Ai Av))))) (Ad 1) (fun _ _=>rfl)) Ag)) (Ai (Ai Av))) (Jc XJ bH rfl (B.is "int") V0 (Ab (Pz (Hj hr) Hh (Cd c_law_take hr (by omega) rfl (Ab (Ad 0) (Ab Ah Ag))) Ah (Dd _)) Ag)) (fun _ _=>rfl)))
   (Ao (Bv (i:=4) JF.nd (Cd c_law_small hr (by omega) rfl (Ab (Ad 0) (Ab (Ad 1) (Ab (Ad 2) (Ab (Ad 3) Ag))))))
   (Ao (M6 (i:=5) rfl JF.nd (Di.of (sc:=Al Hs) (N:=["pot","ways","most","many","small","marks","boxes","box"]) (N2:=["way","pot","many"]) (k:=1) (caps:=[0,3]) (by decide +kernel)) rfl (Gm rfl (B.is "range") (Ab (Ad 1) Ag)) ⟨fun _ _ _ _ _=>⟨(BR (i:=0) (show U14 (["way","pot","many"]:List Str) by decide +kernel)),FN,(Cd c_law_marks hr (by omega) rfl (Ab (Ad 1) (Ab (Ad 2) Ag)))⟩⟩)
   (Ao (Bv (i:=6) JF.nd (J9 Ag Av))
   (Ao (FZ rfl (Ef (Ad 4)) (BR (i:=7) JF.nd)
   (Ay (Iz (Ij U18 U2q U2r Ho Hl (Ad 6) (Ab (Jc J5 MJ rfl (B.is "tuple") JZ (Ab (Ey rfl (Di.of (sc:=Al Hs) (N:=["pot","ways","most","many","small","marks","boxes","box"]) (N2:=["some","low","high"]) (k:=3) (caps:=[]) (by decide +kernel)) rfl (YT rfl Bz (Ab (Ad 5) (Ab (Ad 7) Ag))) ⟨fun _ _ _ _ _=>⟨(Gy rfl (CG (BR (i:=0) (show U14 (["some","low","high"]:List Str) by decide +kernel)) (CG (Gy rfl (CG (BR (i:=1) (show U14 (["some","low","high"]:List Str) by decide +kernel)) (CG (BR (i:=2) (show U14 (["some","low","high"]:List Str) by decide +kernel)) Fx))) Fx))),FN,(Bp (Ab (Bu Bk Bj (Ad 0) (Ad 1) (fun _ _=>rfl)) (Ab (Bu Bk Bj (Ad 0) (Ad 2) (fun _ _=>rfl)) Ag)) (Ai (Ai Av)))⟩⟩) Ag)) Ag)))) U1y)
   (Ay (CW (Bp (Ab (Ad 4) (Ab (Ad 5) (Ab (Bp (Ab (Ad 1) (Ab (Ad 6) Ag)) (Ai (Ai Av))) Ag))) (Ai (Ai (Ai Av)))))))))))
set_option maxHeartbeats 4000000 in
theorem dh{f:Addr}{fd:FuncData}(F:Fun K "_law_own" "_law_own" Ko f fd)(B:Blt mg):Cv P w K mg base CX0 1 f fd ["heap"] (spP K Hz 1) :=
 fnP F dO fun cdv A outer s H E hr =>
  (Ay (CW (Bp (Ab (Bu Bk Bj (Ad 0) Ah (fun _ _=>rfl)) (Ab (rJ Rp Yq rfl (B.is "list") SQ (Ab (Bu Bk Bj (Ad 0) Ah (fun _ _=>rfl)) Ag)) Ag)) (Ai (Ai Av)))))
set_option maxHeartbeats 4000000 in
theorem Xi{f:Addr}{fd:FuncData}(F:Fun K "_law_places" "_law_places" HF f fd)(B:Blt mg):Cv P w K mg base CX0 1 f fd ["marks"] (spP K FP 1) :=
 fnP F HY fun cdv A outer s H E hr =>
  (Ao (Bv (i:=1) HY.nd (Ec (Ab (Bp Ag Av) Ag) (Ai Av)))
   (Ao (FZ rfl (Ef (Ad 0)) (BR (i:=2) HY.nd)
   (Ao (Bv (i:=3) HY.nd (J9 Ag Av))
   (Ao (FZ rfl (Ef (Ad 1)) (BR (i:=4) HY.nd)
   (Ay (Iz (Ij U18 PySem.F.slot_list_extend PySem.F.type_list_extend j4 gq (Ad 3) (Ab (Ey rfl (Di.of (sc:=Al HF) (N:=["marks","found","some","longer","spot"]) (N2:=["k","spot"]) (k:=1) (caps:=[4]) (by decide +kernel)) rfl (Gm rfl (B.is "range") (Ab (BP Gx Fw (Bq Et J6 rfl (B.is "len") K4 (Ab (Ad 2) Ag)) Ah) Ag)) ⟨fun _ _ _ _ _=>⟨(BR (i:=0) (show U14 (["k","spot"]:List Str) by decide +kernel)),FN,(BP DY DW (Ad 1) (Bp (Ab (Ad 0) Ag) (Ai Av)))⟩⟩) Ag)))) U1y)
   (Ay (Bv (i:=1) HY.nd (Ad 3))))) U1y)
   (Ay (CW (Ad 1)))))
set_option maxHeartbeats 4000000 in
theorem Zy{f:Addr}{fd:FuncData}(F:Fun K "_law_held" "_law_held" Iu f fd)(B:Blt mg)(Bz:mg "zip"=none)(Be:mg "enumerate"=none):Cv P w K mg base CX0 1 f fd ["small","spot"] (spP K G9 2) :=
 fnP F Lz fun cdv A outer s H E hr =>
  (Ao (Bv (i:=2) Lz.nd (J9 Ag Av))
   (Ao (FZ rfl (rG rfl Be (Ab (Ad 0) Ag)) (Gy rfl (CG (BR (i:=3) Lz.nd) (CG (BR (i:=4) Lz.nd) Fx)))
   (Ay (Gj (Ed (Hj hr) Hh (Ey rfl (Di.of (sc:=Al Iu) (N:=["small","spot","found","number","box"]) (N2:=["one","low","high"]) (k:=3) (caps:=[]) (by decide +kernel)) rfl (YT rfl Bz (Ab (Ad 4) (Ab (Ad 1) Ag))) ⟨fun _ _ _ _ _=>⟨(Gy rfl (CG (Gy rfl (CG (BR (i:=1) (show U14 (["one","low","high"]:List Str) by decide +kernel)) (CG (BR (i:=2) (show U14 (["one","low","high"]:List Str) by decide +kernel)) Fx))) (CG (BR (i:=0) (show U14 (["one","low","high"]:List Str) by decide +kernel)) Fx))),(W2 (Lw (Om (Ed dB YJ (Ad 0) (Ad 1) (Dd _)) (Py (Ed oJ fK (Ad 0) (Ad 2) (Dd _)))))),Ah⟩⟩) (Ec Ag Av) (Dd _))
   (Ay (Iz (Ij U18 U2q U2r Ho Hl (Ad 2) (Ab (Ad 3) Ag))))
   Ek)) U1y)
   (Ay (CW (Ad 2)))))
set_option maxHeartbeats 4000000 in
theorem Vo{f:Addr}{fd:FuncData}(F:Fun K "_law_is_whole" "_law_is_whole" Gw f fd)(B:Blt mg):Cv P w K mg base CX0 1 f fd ["found","due"] (spP K FJ 2) :=
 fnP F Vm fun cdv A outer s H E hr =>
  (Ay (CW (O1 (Bq JX Kh rfl (B.is "isinstance") Fp (Ab (Ad 0) (Ab (Oo (n:="int") rfl (B.is "int") V0) Ag))) (O1 (fV (Bq JX Kh rfl (B.is "isinstance") Fp (Ab (Ad 0) (Ab (Oo (n:="bool") rfl (B.is "bool") cJ) Ag)))) (RG (Pz (Hj hr) Hh (Ad 0) (Ad 1) (Dd _)))))))
set_option maxHeartbeats 4000000 in
theorem dw{f:Addr}{fd:FuncData}(F:Fun K "_law_box" "_law_box" Kq f fd)(B:Blt mg)(c_law_take:Ie P w K mg base "_law_take" 2 Aj):Cv P w K mg base CX0 3 f fd ["pot","marks"] (spM K IV 2) :=
 fnM F Hr fun cdv A outer s H E hr =>
  (Ao (Bv (i:=2) Hr.nd (J9 Ag Av))
   (Ao (FZ rfl (Ef (Ad 1)) (BR (i:=3) Hr.nd)
   (Ao (Bv (i:=4) Hr.nd (J9 Ag Av))
   (Ao (FZ rfl (Gm rfl (B.is "range") (Ab Ah Ag)) (BR (i:=5) Hr.nd)
   (Ao (Bv (i:=6) Hr.nd (BP DY DW (Bu Bk Bj (Ad 3) (Cd c_law_take hr (by omega) rfl (Ab (Ad 0) (Ab (Bq Et J6 rfl (B.is "len") K4 (Ab (Ad 3) Ag)) Ag))) (fun _ _=>rfl)) (Bu Bk Bj (Ec (Ab Ah (Ab (BP Gx Fw (Cd c_law_take hr (by omega) rfl (Ab (Ad 0) (Ab Ah Ag))) Ah) Ag)) (Ai (Ai Av))) (Cd c_law_take hr (by omega) rfl (Ab (Ad 0) (Ab Ah Ag))) (fun _ _=>rfl))))
   (Ay (Iz (Ij U18 U2q U2r Ho Hl (Ad 4) (Ab (Bq (Ks rfl) Lp rfl (B.is "max") O2 (Ab (BP Gx Fw Ah (BP Hi Ga Ah Ah)) (Ab (Bq (Ma rfl) O6 rfl (B.is "min") Q7 (Ab (Ad 6) (Ab (BP Gx Fw (BP Hi Ga Ah Ah) Ah) Ag))) Ag))) Ag))))) U1y)
   (Ao (wM (i:=7) (j:=8) rfl Hr.nd (Ab (Bq (jN rfl rfl) lE rfl (B.is "min") Q7 (Ab (Ad 4) Ag)) (Ab (Bq (jO rfl rfl) lF rfl (B.is "max") O2 (Ab (Ad 4) Ag)) Ag)))
   (Ao (Bv (i:=9) Hr.nd (Bu Bk Bj (Ec (Ab Ah (Ab Ah (Ab Ah (Ab Ah (Ab Ah (Ab Ah Ag)))))) (Ai (Ai (Ai (Ai (Ai (Ai Av))))))) (Cd c_law_take hr (by omega) rfl (Ab (Ad 0) (Ab Ah Ag))) (fun _ _=>rfl)))
   (Ay (Iz (Ij U18 U2q U2r Ho Hl (Ad 2) (Ab (Bu Bk Bj (Ec (Ab (Bp (Ab (Ad 7) (Ab (Bq (Ks rfl) Lp rfl (B.is "max") O2 (Ab (Ad 8) (Ab (BP DY DW (Ad 7) Ah) Ag))) Ag)) (Ai (Ai Av))) (Ab (Bp (Ab (Ad 7) (Ab (BP DY DW (Ad 7) Ah) Ag)) (Ai (Ai Av))) (Ab (Bp (Ab (BP Gx Fw Ah (BP Hi Ga Ah Ah)) (Ab (BP Hi Ga Ah Ah) Ag)) (Ai (Ai Av))) Ag))) (Ai (Ai (Ai Av)))) (Ad 9) (fun _ _=>rfl)) Ag)))))))) U1y)
   (Ay (CW (Jc J5 MJ rfl (B.is "tuple") JZ (Ab (Ad 2) Ag))))))
set_option maxHeartbeats 4000000 in
theorem dj{f:Addr}{fd:FuncData}(F:Fun K "_law_due" "_law_due" Kp f fd)(B:Blt mg)(Bz:mg "zip"=none)(c_law_places:Ca P w K mg base "_law_places" 1 FP)(c_law_held:Ca P w K mg base "_law_held" 1 G9):Cv P w K mg base CX0 2 f fd ["small","marks","box"] (spP K IK 3) :=
 fnP F G5 fun cdv A outer s H E hr =>
  (Ao (Bv (i:=3) G5.nd Ah)
   (Ao (FZ rfl (Ef (CT c_law_places hr (by omega) rfl (Ab (Ad 1) Ag))) (BR (i:=4) G5.nd)
   (Ay (Gj (Ed (RB hr) R8 (CT c_law_held hr (by omega) rfl (Ab (Ad 0) (Ab (Ad 4) Ag))) (Ec Ag Av) (Dd _))
   (Ao (Bv (i:=5) G5.nd Ah)
   (Ao (FZ rfl (rF rfl Bz (Ab (Ad 1) (Ab (Ad 4) (Ab (Ad 2) Ag)))) (Gy rfl (CG (BR (i:=6) G5.nd) (CG (BR (i:=7) G5.nd) (CG (Gy rfl (CG (BR (i:=8) G5.nd) (CG (BR (i:=9) G5.nd) Fx))) Fx))))
   (Ay (Bv (i:=5) G5.nd (BP Ji Jg (Ad 5) (Bq (Ks rfl) Lp rfl (B.is "max") O2 (Ab Ah (Ab (BP Gx Fw (Bq (Ma rfl) O6 rfl (B.is "min") Q7 (Ab (Ad 9) (Ab (Bu Bk Bj (Ad 6) (BP DY DW (Ad 7) Ah) (fun _ _=>rfl)) Ag))) (Bq (Ks rfl) Lp rfl (B.is "max") O2 (Ab (Ad 8) (Ab (Bu Bk Bj (Ad 6) (Ad 7) (fun _ _=>rfl)) Ag)))) Ag)))))) U1y)
   (Ay (Bv (i:=3) G5.nd (BP DY DW (Ad 3) (Ad 5))))))
   Ek)) U1y)
   (Ay (CW (Ad 3)))))
set_option maxHeartbeats 4000000 in
theorem vp{f:Addr}{fd:FuncData}(F:Fun K "law" "law" N5 f fd)(B:Blt mg)(c_law_pot:Ca P w K mg base "_law_pot" 1 Hy)(c_law_heap:Ie P w K mg base "_law_heap" 6 GC)(c_law_own:Ca P w K mg base "_law_own" 1 Hz)(c_law_box:Ie P w K mg base "_law_box" 3 IV)(c_law_due:Ca P w K mg base "_law_due" 2 IK)(c_law_is_whole:Ca P w K mg base "_law_is_whole" 1 FJ)(c_size_within:Ca P w K mg base "size_within" 8 DG):Cv P w K mg base CX0 9 f fd ["script"] (spP K Vx 1) :=
 fnP F Ig fun cdv A outer s H E hr =>
  (Ao (FZ rfl (Ef (BP DY DW (Tj YG YH (Ad 0) W4 (W3 Ah)) (Ec (Ab (Bq Et J6 rfl (B.is "len") K4 (Ab (Ad 0) Ag)) Ag) (Ai Av)))) (BR (i:=1) Ig.nd)
   (Ao (Bv (i:=2) Ig.nd (mX c_law_pot hr (by omega) rfl (Ab (Ad 1) Ag)))
   (Ay (FZ rfl (Ef (Bp (Ab (Bp (Ab Ah (Ab Ah Ag)) (Ai (Ai Av))) (Ab (Bp (Ab Ah (Ab Ah Ag)) (Ai (Ai Av))) (Ab (Bp (Ab Ah (Ab Ah Ag)) (Ai (Ai Av))) Ag))) (Ai (Ai (Ai Av))))) (Gy rfl (CG (BR (i:=3) Ig.nd) (CG (BR (i:=4) Ig.nd) Fx)))
   (Ao (wN (Cd c_law_heap hr (by omega) rfl (Ab (Ad 2) (Ab (Ad 3) (Ab (Ad 4) Ag)))) (Gy rfl (CG (BR (i:=5) Ig.nd) (CG (BR (i:=6) Ig.nd) (CG (BR (i:=7) Ig.nd) Fx)))))
   (Ao (Bv (i:=8) Ig.nd (CT c_law_own hr (by omega) rfl (Ab (Ad 7) Ag)))
   (Ay (FZ rfl (Gm rfl (B.is "range") (Ab Ah Ag)) (BR (i:=9) Ig.nd)
   (Ao (Bv (i:=10) Ig.nd (Cd c_law_box hr (by omega) rfl (Ab (Ad 2) (Ab (Ad 6) Ag))))
   (Ao (Bv (i:=11) Ig.nd (CT c_law_due hr (by omega) rfl (Ab (Ad 5) (Ab (Ad 6) (Ab (Ad 10) Ag)))))
   (Ay (FZ rfl (Gm rfl (B.is "range") (Ab Ah Ag)) (BR (i:=12) Ig.nd)
   (Ay (Gj (Lw (Om (LQ (K3 (CT c_law_is_whole hr (by omega) rfl (Ab (CT c_size_within hr (by omega) rfl (Ab (Ad 8) (Ab (Ad 10) Ag))) (Ab (Ad 11) Ag))))) (Py (Ed (RB hr) R8 (Ad 8) (Ad 7) (Dd _)))))
   (Ay (CW Uh))
   Ek)) U1y)))) U1y)))) U1y))) U1y)
   (Ay (CW (O1 (Pz (Hj hr) Hh (CT c_size_within hr (by omega) rfl (Ab (Bp (Ab Ah (Ab (Ec (Ab (Bp (Ab (Bp (Ab Ah (Ab Ah Ag)) (Ai (Ai Av))) (Ab (Bp (Ab Ah (Ab Ah Ag)) (Ai (Ai Av))) Ag)) (Ai (Ai Av))) Ag) (Ai Av)) Ag)) (Ai (Ai Av))) (Ab (Bp (Ab (Bp (Ab Ah (Ab Ah Ag)) (Ai (Ai Av))) (Ab (Bp (Ab (Xr Uk Rx Ah) (Ab Ah Ag)) (Ai (Ai Av))) Ag)) (Ai (Ai Av))) Ag))) Ah (Dd _)) (RG (Pz (Hj hr) Hh (CT c_size_within hr (by omega) rfl (Ab (Bp (Ab Ah (Ab (Ec Ag Av) Ag)) (Ai (Ai Av))) (Ab (Bp (Ab (Bp (Ab Ah (Ab Ah Ag)) (Ai (Ai Av))) Ag) (Ai Av)) Ag))) Ah (Dd _)))))))
end
end W18
end
section
namespace W18
open PySem L2 VS
theorem Rj(i:Int):Fe [.int i]=some (.bl true):=by
 simp[Fe,VP,Cr,Aq,CJ,BK,Ak,Df,QC,bf,Dh,den,-U0e,-U0g]
theorem TQ{n:Int}(h:n=1∨n=2∨n=3):Ep [.int n]=some (.bl true):=by
 have e:(Spec.lookup (.int n) Bc.D3).isSome=true:=by rw[Bc.zB];exact decide_eq_true h
 simp[Ep,Vc,Cr,Aq,fj,BK,Ak,QC,Gn,Dh,den,Cy,age,Bf,Bd,Aw,-U0e,-U0g,Rj,Y4,e]
theorem Qs(p:St2):El [Am p]=some (.bl (decide (p.1<p.2))):=by
 have h:Dj [] (Am p)=some (pS p):=iH [] p
 simp only[Am] at h ⊢
 simp[El,Rn,Ii,Cr,Iw,J7,Aq,CJ,BJ,BK,Ak,Df,QC,EY,YF,Rw,Gn,oI,HN,oLt,oEq,oIx,Eh,VS.listOf,Bx,Dh,den,Cy,age,Bf,Bd,Aw,-U0e,-U0g,Rj,h,pS]
theorem n8(n:Nat)(b:List St2)(hb:∀p∈b,p.1<p.2)(hl:b.length<=1000):RZ [some (.int n),some (Af b)] []=some (b.map (fun _=>D.bl true),[]):=by
 unfold RZ CZ
 have e:DK (Ac 1) [some (.int n),some (Af b)] []=some ((b.map Am,[]),[]):=by simp[Aq,VS.listOf,Bx,VS.idOf,Fy,-U0e,-U0g,Af]
 rw[e]
 simp only[U0c]
 rw[QX (by simp) (fun _=>.bl true) _ (by simp;omega)]
 .simp[Function.comp_def]
 .intro d hd
  obtain⟨p,hp,rfl⟩:=U2c.mp hd
  refine⟨_,rfl,?_⟩
  have h1:=Qs p
  rw[decide_eq_true (hb p hp)] at h1
  simp[Aq,BK,Ak,G7,Gn,Cy,Bf,Aw,U0r,-U0e,-U0g,h1]
theorem Vg{α:Type}(l:List α):Ka.boolsOf (l.map fun _=>D.bl true)=some (l.map fun _=>true):=by
 have:=TJ (l.map fun _=>true)
 rw[U0e] at this
 exact this
theorem Ws{n:Nat}{b:List St2}(hn:n=1∨n=2∨n=3)(hb:∀p∈b,p.1<p.2)(hl:b.length=n):Gk [.int n,Af b]=some (.bl true):=by
 have hw:Ep [.int n]=some (.bl true):=TQ (by omega)
 have hc:=n8 n b hb (by omega)
 have h:Dj [] (Af b)=some (pB b):=iI [] b
 have hlen:Eh [] [Af b]=some (.int n):=by simp[Eh,Af,Bx,hl]
 simp[Gk,Z5,Bh,sIf,Dg,Eu,VS.tOr,VS.KY,Br,Bg,eCB,Aa,Ae,Ac,eC,eOp,Bl,FT,den,Cy,age,Bf,Bd,Aw,hw,h,pB,hlen,oEq,hc,Ka,VS.listOf,Vg]
theorem qt{n:Nat}(h:n=1∨n=2∨n=3):Us Bc.D3 [] (.int n)=some (.int ([0,20,10,6].getD n 0:Nat)):=by
 rcases h with h|h|h<;>subst h<;>rfl
theorem jA{n:Nat}{m:Bool}{bs:List (List St2)}(g:Good n bs):Qi [some (Ax m n bs),some (.int n),some (.lst m (bs.map Af))] []=some (bs.map (fun _=>D.bl true),[]):=by
 have few:=g.few
 unfold Qi CZ
 have e:DK (Ac 2) [some (Ax m n bs),some (.int n),some (.lst m (bs.map Af))] []=some ((bs.map Af,[]),[]):=by simp[Aq,VS.listOf,Bx,VS.idOf,Fy,-U0e,-U0g]
 rw[e]
 simp only[U0c]
 rw[QX (by simp) (fun _=>.bl true) _ (by simp;omega)]
 .simp[Function.comp_def]
 .intro d hd
  obtain⟨b,hb,rfl⟩:=U2c.mp hd
  refine⟨_,rfl,?_⟩
  have h1:=Ws g.ways (fun p hp=>((g.box b hb).2 p hp).1) (g.box b hb).1
  simp[Aq,BK,Ak,G7,Gn,den,Cy,age,Bf,Bd,Aw,U0r,-U0e,-U0g,h1]
theorem eX{n:Nat}{m:Bool}{bs:List (List St2)}(g:Good n bs):JD [Ax m n bs]=some (.bl true):=by
 have hw:Ep [.int n]=some (.bl true):=TQ (by have:=g.ways;omega)
 have hc:=jA (m:=m) g
 have h:=RT [] m n bs
 have h2:=V6 [] m bs
 have hm:=qt g.ways
 have hle:¬(([0,20,10,6].getD n 0:Nat):Int)<(bs.length:Int):=by have:=g.most;omega
 unfold Ax at h hc ⊢
 simp only[U0h] at hm hle
 simp[JD,Wz,Bh,sIf,Dg,Eu,Bb,VS.tOr,VS.KY,Br,Bg,eCB,Aa,Ae,Ac,eC,eOp,eUn,Bl,FT,den,Cy,age,Bf,Bd,Aw,hw,h,h2,hc,oEq,oIx,oGt,oI,HN,Eh,VS.Bx,VS.listOf,Ka,Vg,hm,hle]
theorem Zc{n:Nat}{m:Bool}{bs:List (List St2)}(g:Good n bs):Ge [Ax m n bs]=some .non:=by
 have h:=eX (m:=false) g
 simp[Ge,Sx,Iw,J7,iM,Aq,BK,Ak,EY,Rw,Gn,Dh,Cy,Bf,Aw,-U0e,-U0g,h]
end W18
end
section
namespace W18
open PySem L2 VS
theorem Dy{sem:DP}{a:BX}{env:VS.Env}{S S':Store}{ds es:List D}{r:D}(h:a env S=some (ds,S'))(hp:Aw ds=true)(ha:Bf ds=es)(hr:sem es=some r):Bg sem a env S=some (r,S'):=by
 rw[Gn,h]
 simp only[U0c,Cw 0 S' hp,ha,hr,hp,Bool.true_or,if_true]
def Lr(b:List St2):Int:=b.foldl (fun z p=>z*(p.2-p.1)) 1
def GR(bs:List (List St2))(w:Nat):List Int:=bs.map fun b=>(b.getD w (0,0)).1
def Fb(bs:List (List St2))(w:Nat):List Int:=bs.map fun b=>(b.getD w (0,0)).2
theorem col{bs:List (List St2)}{w:Nat}(hw:∀b∈bs,w<b.length)(hl:bs.length<=1000)(S:Store)(e0:VS.Env)(h0:∀d:D,(e0.set 0 (some d))[0]?=some (some d)/\(e0.set 0 (some d))[1]?=some (some (.int w))) :
  Fq [] e0 (Pat.sem (.nm 0)) FQ (eOp oIx (eOp oIx (Ac 0) (Ac 1)) (eC (.int 0))) (bs.map Af) [] S=some ((GR bs w).map .int,S) /\
  Fq [] e0 (Pat.sem (.nm 0)) FQ (eOp oIx (eOp oIx (Ac 0) (Ac 1)) (eC (.int 1))) (bs.map Af) [] S=some ((Fb bs w).map .int,S):=by
 have key:∀b∈bs,atI (b.map Am) (w:Int)=some (Am (b.getD w (0,0))):=fun b hb=>by
  have h:=hw b hb
  refine Nm ?_
  rw[U0v,U0d h]
  simp[h]
 constructor
 .rw[JB (by simp) Af (fun b=>.int (b.getD w (0,0)).1) bs (by omega)]
  .rw[GR,U0e];rfl
  .intro b hb
   refine⟨_,Ce _ _ _,?_⟩
   have ha:=key b hb
   simp only[Am] at ha
   simp[Aq,CJ,BJ,oIx,VS.listOf,Bx,-U0e,-U0g,h0,Af,ha]
 .rw[JB (by simp) Af (fun b=>.int (b.getD w (0,0)).2) bs (by omega)]
  .rw[Fb,U0e];rfl
  .intro b hb
   refine⟨_,Ce _ _ _,?_⟩
   have ha:=key b hb
   simp only[Am] at ha
   simp[Aq,CJ,BJ,oIx,VS.listOf,Bx,-U0e,-U0g,h0,Af,ha]
theorem V5:∀(b:List St2)(z:Int),b.foldl (fun z p=>z*(p.2-p.1)) z=z*HJ b
 |[],z=>by simp[HJ]
 |p::b,z=>by rw[U3d,V5 b,HJ,U66]
theorem pR(b:List St2):Lr b=HJ b:=by rw[Lr,V5,U7r]
theorem Z7{cs:List (List St2)}{w:Nat}(hl:cs.length<=20):(SetP.once (GR cs w++Fb cs w)).length<64/\(GR cs w++Fb cs w).length<1000:=by
 have h1:=(SetP.O8 (GR cs w++Fb cs w)).2.1
 have h2:(GR cs w++Fb cs w).length=cs.length+cs.length:=by simp[GR,Fb]
 omega
theorem jE(a b:List Int):intsOf (a.map D.int++b.map D.int)=some (a++b):=by rw[←U1u];exact Iv _
theorem sY{m:Bool}{cs:List (List St2)}{w:Nat}(hw:∀b∈cs,w<b.length)(hl:cs.length<=20):Gv [.lst m (cs.map Af),.int w]=some (.lst true ((GQ (GR cs w++Fb cs w)).map .int)):=by
 obtain⟨c1,c2⟩:=col hw (by omega) [] [none,some (.int w)] fun d=>⟨rfl,rfl⟩
 have e:DK (Ac 0) [some (.lst m (cs.map Af)),some (.int w)] []=some ((cs.map Af,[]),[]):=by simp[Aq,VS.listOf,Bx,VS.idOf,Fy,-U0e,-U0g]
 have e1:Mv [some (.lst m (cs.map Af)),some (.int w)] []=some ((GR cs w).map .int,[]):=by
  unfold Mv CZ
  rw[e]
  exact c1
 have e2:Mt [some (.lst m (cs.map Af)),some (.int w)] []=some ((Fb cs w).map .int,[]):=by
  unfold Mt CZ
  rw[e]
  exact c2
 obtain⟨h1,h2⟩:=Z7 (w:=w) hl
 have h3:(GR cs w).length+(Fb cs w).length<=1000000:=by simp at h2;omega
 have h4:(GR cs w).length+(Fb cs w).length<1000:=by simpa using h2
 simp[Gv,Ro,Cr,BJ,Ci,aP,Cm,VS.listOf,Dh,den,-U0e,-U0g,e1,e2,jE,h1,h3,h4]
theorem Ye:∀a b:List Int,Cu (a.map D.int) (b.map D.int)=(a.zip b).map Am
 |[],_=>by simp[Cu]
 |_::_,[]=>by simp[Cu]
 |p::a,q::b=>by simp[Cu,Ye a b,Am]
theorem gj(E:List Int):Cu (E.map D.int) (E.map D.int).tail=(steps E).map Am:=by
 rw[←List.map_tail,Ye];rfl
theorem RP(E:List Int):(steps E).length<=E.length:=by simp[steps]
theorem jz{m:Bool}{cs:List (List St2)}{w:Nat}(hw:∀b∈cs,w<b.length)(hl:cs.length<=20)(hne:cs≠[]):Fi [.lst m (cs.map Af),.int w]=some (.lst true ((steps (GQ (GR cs w++Fb cs w))).map Am)):=by
 have h0:=sY (m:=false) hw hl
 have hl1:=RQ (GR cs w++Fb cs w)
 obtain⟨_,h2⟩:=Z7 (w:=w) hl
 have pos:1<=(GQ (GR cs w++Fb cs w)).length:=by
  cases cs with
  |nil=>exact absurd rfl hne
  |cons b r =>
   have:(b.getD w (0,0)).1∈GQ (GR (b::r) w++Fb (b::r) w):=Ox.mpr (by simp[GR])
   exact List.length_pos_of_mem this
 generalize GQ (GR cs w++Fb cs w)=E at *
 have c:=nO (xs:=E.map D.int) (a:=1) (by decide) (by simp;omega)
 have z:=gj E
 have hz:(steps E).length<=1000000:=by have:=RP E;omega
 have c':cut (E.map D.int) (some 1) none=(E.map D.int).drop 1:=c
 have hd:∀(k:Nat)(S:Store),Cy k S ((steps E).map Am)=some ((steps E).map Am):=fun k S=>Cw k S (Cg (Je _ fun p _=>Hq p))
 simp[Fi,Qt,Ii,Bw,Cr,Aq,CJ,BK,Ak,Yv,Yu,fu,Gn,T6,oSl,VS.listOf,Bx,Dh,den,Cy,age,Bf,Bd,Aw,U0r,-U0e,-U0g,h0,c',z,hz,hd]
def DN(m:Bool)(ns:List Nat):D:=.lst m (ns.map fun(i:Nat)=>D.int i)
def encC(c:List St2×List Nat):D:=.tup [Af c.1,DN false c.2]
theorem Oz(m:Bool)(ns:List Nat):Bd (DN m ns)=true:=by
 have:=Ht (ns.map fun(i:Nat)=>(i:Int))
 rw[U0e] at this
 rw[DN,Bd];exact this
theorem UL(m:Bool)(ns:List Nat):age (DN m ns)=DN false ns:=by
 have:=Mf (ns.map fun(i:Nat)=>(i:Int))
 rw[U0e] at this
 rw[DN,age]
 exact congrArg (D.lst false) this
theorem iR(c:List St2×List Nat):Bd (encC c)=true:=by
 rw[encC,Bd,Aw,Aw,Aw,Jb,Oz];rfl
theorem nj(c:List St2×List Nat):age (encC c)=encC c:=by
 rw[encC,age,Bf,Bf,Bf,QW (Im c.1),UL]
theorem LR:∀cs:List (List St2×List Nat),Aw (cs.map encC)=true
 |[]=>rfl
 |c::r=>by rw[U0s,Aw,iR,LR r];rfl
theorem gF{n:Nat}{bs:List (List St2)}(hb:∀b∈bs,b.length=n){i w:Nat}(hi:i<bs.length)(hw:w<n):atI (bs.map Af) (i:Int)=some (Af (bs.getD i []))/\atI ((bs.getD i []).map Am) (w:Int)=some (Am (at1 bs i w)):=by
 have h1:bs[i]?=some bs[i]:=U0d hi
 have h2:bs.getD i []=bs[i]:=by rw[U0h,h1];rfl
 have h3:w<bs[i].length:=by rw[hb _ (U1f hi)];exact hw
 refine⟨Nm (by rw[U0v,h1,h2];rfl),Nm ?_⟩
 rw[at1,h2,U0v,U0d h3,U0h,U0d h3]
 rfl
theorem sS(rec:DP){n:Nat}{m m':Bool}{bs:List (List St2)}(hb:∀b∈bs,b.length=n)(hn:0<n){ns:List Nat}(hi:∀i∈ns,i<bs.length)(hl:ns.length<=20)(r:VS.Env)(S:Store) :
  KN rec (some (.lst m (bs.map Af))::some (DN m' ns)::r) S=some ((ns.map fun i=>bs.getD i []).map Af,S):=by
 unfold KN CZ
 have e:DK (Ac 1) (some (.lst m (bs.map Af))::some (DN m' ns)::r) S=some ((ns.map fun(i:Nat)=>D.int i,[]),S):=by simp[Aq,VS.listOf,Bx,VS.idOf,Fy,-U0e,-U0g,DN]
 rw[e]
 simp only[U0c]
 rw[JB (by simp) (fun(i:Nat)=>D.int i) (fun i=>Af (bs.getD i [])) ns (by omega)]
 .rw[U0e];rfl
 .intro i hi'
  obtain⟨h1,_⟩:=gF hb (hi i hi') hn
  exact⟨_,Ce _ _ _,by simp[Aq,BJ,G7,oIx,VS.listOf,Bx,U0r,-U0e,-U0g,h1]⟩
theorem sO(rec:DP){n:Nat}{m m':Bool}{bs:List (List St2)}(hb:∀b∈bs,b.length=n){ns:List Nat}(hi:∀i∈ns,i<bs.length)(hl:ns.length<=20){w:Nat}(hw:w<n)(x:Int)(z3 z4:Option D)(r:VS.Env)(S:Store) :
  KJ rec (some (.lst m (bs.map Af))::some (DN m' ns)::some (.int w)::z3::z4::some (.int x)::r) S=some ((Gi bs w x ns).map (fun(i:Nat)=>D.int i),S):=by
 unfold KJ CZ
 have e:DK (Ac 1) (some (.lst m (bs.map Af))::some (DN m' ns)::some (.int w)::z3::z4::some (.int x)::r) S=some ((ns.map fun(i:Nat)=>D.int i,[]),S):=by simp[Aq,VS.listOf,Bx,VS.idOf,Fy,-U0e,-U0g,DN]
 rw[e]
 simp only[U0c]
 rw[Nk (by simp) (fun(i:Nat)=>D.int i) (fun i=>inS (at1 bs i w) x) (fun i=>.int i) _ _ (by simp;omega)]
 .rfl
 .intro i hi'
  obtain⟨h1,h2⟩:=gF hb (hi i hi') hw
  refine⟨_,Ce _ _ _,?_,fun _=>by simp[Aq,G7,U0r,-U0e,-U0g]⟩
  simp only[Am] at h2
  generalize bs.getD i []=B at *
  generalize ((w:Nat):Int)=w' at *
  generalize ((i:Nat):Int)=i' at *
  by_cases g:(at1 bs i w).1<=x<;>simp[Aq,CJ,BJ,jJ,EY,G7,oI,HN,oLt,oLe,oIx,VS.listOf,Bx,U0r,-U0e,-U0g,h1,h2,Af,inS,g]
theorem Qn{bs:List (List St2)}:∀(k w:Nat)(ns:List Nat),ns.length<=20->(Ck bs k w ns).length<=40^k
 |0,w,ns,_=>by rw[Ck];split<;>simp
 |k+1,w,ns,hl=>by
  rw[Ck]
  split
  .simp
  .have h1:(steps (Ds bs w ns)).length<=40:=by
    have:=RP (Ds bs w ns)
    have h2:=RQ (ns.map (fun i=>(at1 bs i w).1)++ns.map (fun i=>(at1 bs i w).2))
    rw[U0u,U0k,U0k] at h2
    unfold Ds at this ⊢
    omega
   have h2:∀l:List St2,(l.flatMap fun p=>(Ck bs k (w+1) (Gi bs w p.1 ns)).map fun c=>(p::c.1,c.2)).length<=l.length*40^k:=fun l=>by
    induction l with
    |nil=>simp
    |cons p l ih =>
     rw[U4m,U0u,U0k,U0j,Nat.add_mul,Nat.one_mul]
     have:=Qn (bs:=bs) k (w+1) (Gi bs w p.1 ns) (U1a (U3w _ _) hl)
     omega
   have h3:=h2 (steps (Ds bs w ns))
   have h4:=Nat.mul_le_mul_right (40^k) h1
   rw[Nat.pow_succ,U7c]
   omega
end W18
end
section
namespace W18
open PySem L2 VS
theorem aV(b:List St2)(hb:∀p∈b,p.1<p.2/\-1000000000<=p.1/\p.2<=1000000000):Ik [Af b]=some (.int (Lr b)):=by
 have e:DK (Ac 0) [some (Af b),some (.int 1),none,none] []=some ((b.map Am,[]),[]):=by simp[Aq,VS.listOf,Bx,VS.idOf,Fy,-U0e,-U0g,Af]
 obtain⟨env',S',e2,hS,z2,z3,he⟩:=Dw (w:=[]) (g:=Pat.sem (.tp [(.nm 2),(.nm 3)])) (b:=Px) (ds:=b.map Am) (env:=[some (Af b),some (.int 1),none,none]) (S:=[])
  (fun i env S=>S=[]/\∃z2 z3,env=[some (Af b),some (.int (Lr (b.take i))),z2,z3]) ⟨rfl,none,none,by rw[List.take_zero];rfl⟩ (fun i env S _=>by simp) (fun i d env S hd ⟨hS,z2,z3,he⟩=>by
   rw[U0v] at hd
   obtain⟨p,hp,rfl⟩:=U16.mp hd
   subst hS he
   have hm:-18446744073709551616<p.2-p.1/\p.2-p.1<18446744073709551616:=by have:=hb p (U1h hp);omega
   refine⟨[some (Af b),some (.int (Lr (b.take i))),some (.int p.1),some (.int p.2)],by simp[Ce,JR,Gz,G8,-U0e,-U0g,Am],[some (Af b),some (.int (Lr (b.take i)*(p.2-p.1))),some (.int p.1),some (.int p.2)],[],by simp[Px,Bw,Aq,BJ,oI,HN,R0,Dk,Hw,VS.listOf,-U0e,-U0g,hm],rfl,some (.int p.1),some (.int p.2),?_⟩
   rw[U3x,hp,Lr,Lr,U4c,U59]
   rfl)
 subst hS he
 have hlen:(b.map Am).length=b.length:=by simp
 rw[hlen,U29] at e2
 have s1:(Bb 1 (eC (.int 1))) [some (Af b),none,none,none] []=some (.nx,[some (Af b),some (.int 1),none,none],[]):=by simp[Bw,CJ,-U0e,-U0g]
 have l1:Pu [some (Af b),some (.int 1),none,none] []=some (.nx,[some (Af b),some (.int (Lr b)),z2,z3],[]):=by
  unfold Pu
  rw[Ej,e]
  exact e2
 unfold Ik
 rw[Dh]
 simp only[U0j,U1o,U0s,U1m,U2k,U2l,U0r,U1s,U2f,U1x,if_true]
 unfold Vb
 rw[BZ s1,BZ l1]
 simp[Cr,Aq,den,-U0e,-U0g]
end W18
end
section
namespace W18
open PySem L2 VS
theorem sU(rec:DP)(e0 e1 e2 e3 z7:Option D)(p:St2)(c:List St2×List Nat)(acc:List D)(hl:acc.length<1000000)(hc:c.1.length<=3) :
  KR rec [e0,e1,e2,e3,some (.ref 0),some (.int p.1),some (.int p.2),z7,some (Af c.1),some (DN false c.2)] [some acc]=some (.nx,[e0,e1,e2,e3,some (.ref 0),some (.int p.1),some (.int p.2),z7,some (Af c.1),some (DN false c.2)],[some (acc++[encC (p::c.1,c.2)])]):=by
 have h1:1+c.1.length<=1000000:=by omega
 have h2:c.1.length+1<=1000000:=by omega
 have h3:c.1.length<=999999:=by omega
 simp[KR,HW,Aq,BJ,BK,Ak,Gs,Z8,Cm,VS.listOf,Gb,-U0e,-U0g,hl,h1,h2,h3,Af,encC,Am]
theorem sJ(rec:DP){n w:Nat}{bs:List (List St2)}{there:List Nat}{cs:List (List St2×List Nat)}(hrec:rec [.lst false (bs.map Af),DN false there,.int ((w:Int)+1),.int n]=some (.lst true (cs.map encC)))(hcs:∀c∈cs,c.1.length<=3)(NS:D)(p:St2)(z8 z9:Option D)(acc:List D)(hl:acc.length+cs.length<=999999) :
  ∃z8' z9',Mx rec [some (.lst false (bs.map Af)),some NS,some (.int w),some (.int n),some (.ref 0),some (.int p.1),some (.int p.2),some (DN true there),z8,z9] [some acc] =
   some (.nx,[some (.lst false (bs.map Af)),some NS,some (.int w),some (.int n),some (.ref 0),some (.int p.1),some (.int p.2),some (DN true there),z8',z9'],[some (acc++(cs.map fun c=>(p::c.1,c.2)).map encC)]):=by
 have e:DK (Bg rec (Aa (Ac 0) (Aa (Ac 7) (Aa (eOp Cm (Ac 2) (eC (.int 1))) (Aa (Ac 3) Ae))))) [some (.lst false (bs.map Af)),some NS,some (.int w),some (.int n),some (.ref 0),some (.int p.1),some (.int p.2),some (DN true there),z8,z9] [some acc]=some ((cs.map encC,[]),[some acc]):=by
  rw[Fy,Dy (ds:=[.lst false (bs.map Af),DN true there,.int ((w:Int)+1),.int n]) (S':=[some acc]) (by simp[Aq,CJ,BJ,BK,Ak,Cm,VS.listOf,-U0e,-U0g]) (by simp[Aw,Bd,Oz]) (by simp[Bf,age,UL]) hrec]
  simp[Bx,VS.listOf,VS.idOf]
 unfold Mx
 rw[Ej,e]
 obtain⟨env',S',e2,z8',z9',he,hS⟩:=Dw (w:=[]) (g:=Pat.sem (.tp [(.nm 8),(.nm 9)])) (b:=KR rec) (ds:=cs.map encC) (env:=[some (.lst false (bs.map Af)),some NS,some (.int w),some (.int n),some (.ref 0),some (.int p.1),some (.int p.2),some (DN true there),z8,z9]) (S:=[some acc])
  (fun i env S=>∃z8 z9,env=[some (.lst false (bs.map Af)),some NS,some (.int w),some (.int n),some (.ref 0),some (.int p.1),some (.int p.2),some (DN true there),z8,z9]/\S=[some (acc++((cs.take i).map fun c=>(p::c.1,c.2)).map encC)])
  ⟨z8,z9,rfl,by simp⟩ (fun i env S _=>by simp) (fun i d env S hd q=>by
   obtain⟨z8,z9,he,hS⟩:=q
   subst he hS
   rw[U0v] at hd
   obtain⟨c,hc,rfl⟩:=U16.mp hd
   have hi:=(U0i.mp hc).1
   refine⟨_,by simp[Ce,JR,Gz,G8,-U0e,-U0g,encC],_,_,sU rec _ _ _ _ _ p c _ (by simp;omega) (hcs c (U1h hc)),_,_,rfl,?_⟩
   rw[U3x,hc]
   simp)
 subst he hS
 refine⟨z8',z9',e2.trans ?_⟩
 have:(cs.map encC).length=cs.length:=by simp
 rw[this,U29]
theorem XC{bs:List (List St2)}:∀(k w:Nat)(ns:List Nat)(c:List St2×List Nat),c∈Ck bs k w ns->c.1.length=k
 |0,w,ns,c,h=>by
  rw[Ck] at h
  split at h
  .simp at h
  .have:c=([],ns):=by simpa using h
   rw[this];rfl
 |k+1,w,ns,c,h=>by
  rw[Ck] at h
  split at h
  .simp at h
  .obtain⟨p,_,h2⟩:=U6j.mp h
   obtain⟨d,h3,rfl⟩:=U2c.mp h2
   rw[U0j,XC k (w+1) _ d h3]
theorem mK(bs:List (List St2))(w:Nat)(ns:List Nat):GQ (GR (ns.map fun i=>bs.getD i []) w++Fb (ns.map fun i=>bs.getD i []) w)=Ds bs w ns:=by
 unfold GR Fb Ds at1
 rw[U0e,U0e];rfl
theorem sI(rec:DP){n w k:Nat}{bs:List (List St2)}{ns:List Nat}(hb:∀b∈bs,b.length=n)(hi:∀i∈ns,i<bs.length)(hl:ns.length<=20)(hne:ns≠[])(hw:w<n)(hk:k<=2)
  (ih:∀ms:List Nat,(∀i∈ms,i<bs.length)->ms.length<=20->rec [.lst false (bs.map Af),DN false ms,.int ((w:Int)+1),.int n]=some (.lst true ((Ck bs k (w+1) ms).map encC))) :
  ∃z5 z6 z7 z8 z9,Mw rec [some (.lst false (bs.map Af)),some (DN false ns),some (.int w),some (.int n),some (.ref 0),none,none,none,none,none] [some []] =
   some (.nx,[some (.lst false (bs.map Af)),some (DN false ns),some (.int w),some (.int n),some (.ref 0),z5,z6,z7,z8,z9],[some ((Ck bs (k+1) w ns).map encC)]):=by
 have c1:=sS rec (m:=false) (m':=false) hb (by omega) hi hl [some (.int w),some (.int n),some (.ref 0),none,none,none,none,none] [some []]
 have h1:=jz (m:=false) (cs:=ns.map fun i=>bs.getD i []) (w:=w) (fun b hb'=>by
  obtain⟨i,hi',rfl⟩:=U2c.mp hb'
  have h:=hi i hi'
  rw[U0h,U0d h]
  show w<bs[i].length
  rw[hb _ (U1f h)];exact hw) (by rw[U0k];exact hl) (by simpa using hne)
 rw[mK] at h1
 have e:DK (Bg Fi (Aa (Bl (KN rec)) (Aa (Ac 2) Ae))) [some (.lst false (bs.map Af)),some (DN false ns),some (.int w),some (.int n),some (.ref 0),none,none,none,none,none] [some []]=some (((steps (Ds bs w ns)).map Am,[]),[some []]):=by
  rw[Fy,Dy (ds:=[.lst true ((ns.map fun i=>bs.getD i []).map Af),.int w]) (S':=[some []]) (by simp only[Ak,BK,Ci,Aq,c1,U0c];rfl) (by rw[Aw,Bd,Zu];rfl) (by rw[Bf,age,fG,Bf,Bf];rfl) h1]
  simp[Bx,VS.listOf,VS.idOf]
 have hst:(steps (Ds bs w ns)).length<=40:=by
  have:=RP (Ds bs w ns)
  have h2:=RQ (ns.map (fun i=>(at1 bs i w).1)++ns.map (fun i=>(at1 bs i w).2))
  rw[U0u,U0k,U0k] at h2
  unfold Ds at this ⊢
  omega
 have hcl:∀x,(Ck bs k (w+1) (Gi bs w x ns)).length<=1600:=fun x=>by
  have:=Qn (bs:=bs) k (w+1) (Gi bs w x ns) (U1a (U3w _ _) hl)
  have h2:40^k<=40^2:=U5j (by decide) hk
  omega
 let f:St2->List (List St2×List Nat):=fun p=>(Ck bs k (w+1) (Gi bs w p.1 ns)).map fun c=>(p::c.1,c.2)
 have hf:∀l:List St2,(l.flatMap f).length<=l.length*1600:=fun l=>by
  induction l with
  |nil=>simp
  |cons p l ih =>
   rw[U4m,U0u,U0j,Nat.add_mul,Nat.one_mul]
   have:(f p).length<=1600:=by rw[U0k];exact hcl p.1
   omega
 unfold Mw
 rw[Ej,e]
 obtain⟨env',S',e2,z5,z6,z7,z8,z9,he,hS⟩:=Dw (w:=[]) (g:=Pat.sem (.tp [(.nm 5),(.nm 6)])) (b:=KQ rec) (ds:=(steps (Ds bs w ns)).map Am) (env:=[some (.lst false (bs.map Af)),some (DN false ns),some (.int w),some (.int n),some (.ref 0),none,none,none,none,none]) (S:=[some []])
  (fun i env S=>∃z5 z6 z7 z8 z9,env=[some (.lst false (bs.map Af)),some (DN false ns),some (.int w),some (.int n),some (.ref 0),z5,z6,z7,z8,z9]/\S=[some ((((steps (Ds bs w ns)).take i).flatMap f).map encC)])
  ⟨none,none,none,none,none,rfl,by simp⟩ (fun i env S _=>by simp) (fun i d env S hd q=>by
   obtain⟨z5,z6,z7,z8,z9,he,hS⟩:=q
   subst he hS
   rw[U0v] at hd
   obtain⟨p,hp,rfl⟩:=U16.mp hd
   have hi':=(U0i.mp hp).1
   have h2:=hf ((steps (Ds bs w ns)).take i)
   rw[U2t] at h2
   obtain⟨z8',z9',l1⟩:=sJ rec (n:=n) (w:=w) (bs:=bs) (there:=Gi bs w p.1 ns) (cs:=Ck bs k (w+1) (Gi bs w p.1 ns)) (ih _ (fun i hi'=>hi i (U3n.mp hi').1) (U1a (U3w _ _) hl)) (fun c hc=>by rw[XC _ _ _ _ hc];omega) (DN false ns) p z8 z9 ((((steps (Ds bs w ns)).take i).flatMap f).map encC) (by
    have h3:=hcl p.1
    rw[U0k]
    have h4:min i (steps (Ds bs w ns)).length<=40:=by omega
    have h5:=Nat.mul_le_mul_right 1600 h4
    omega)
   have c2:=sO rec (m:=false) (m':=false) hb hi hl hw p.1 (some (.int n)) (some (.ref 0)) [some (.int p.2),z7,z8,z9] [some ((((steps (Ds bs w ns)).take i).flatMap f).map encC)]
   have s1:(Bb 7 (Bl (KJ rec))) [some (.lst false (bs.map Af)),some (DN false ns),some (.int w),some (.int n),some (.ref 0),some (.int p.1),some (.int p.2),z7,z8,z9] [some ((((steps (Ds bs w ns)).take i).flatMap f).map encC)]=some (.nx,[some (.lst false (bs.map Af)),some (DN false ns),some (.int w),some (.int n),some (.ref 0),some (.int p.1),some (.int p.2),some (DN true (Gi bs w p.1 ns)),z8,z9],[some ((((steps (Ds bs w ns)).take i).flatMap f).map encC)]):=by
    rw[Bw,Ci,c2];rfl
   refine⟨_,by simp[Ce,JR,Gz,G8,-U0e,-U0g,Am];rfl,_,_,(show KQ rec _ _=_ by unfold KQ;rw[BZ s1];exact l1),_,_,_,_,_,rfl,?_⟩
   rw[U3x,hp]
   simp[f])
 subst he hS
 refine⟨z5,z6,z7,z8,z9,e2.trans ?_⟩
 have:((steps (Ds bs w ns)).map Am).length=(steps (Ds bs w ns)).length:=by simp
 rw[this,U29,Ck,if_neg hne]
theorem sH{n:Nat}{bs:List (List St2)}(hb:∀b∈bs,b.length=n)(hn:n<=3):∀(k d w:Nat)(ns:List Nat),w+k=n->(∀i∈ns,i<bs.length)->ns.length<=20->CQ (d+k+1) [.lst false (bs.map Af),DN false ns,.int w,.int n]=some (.lst true ((Ck bs k w ns).map encC)):=by
 have hlen:∀(ns:List Nat)(r:VS.Env)(S:Store),eCB Eh (Aa (Ac 1) Ae) (some (.lst false (bs.map Af))::some (DN false ns)::r) S=some (.int ns.length,S):=fun ns r S=>by simp[Aq,BK,Ak,Df,Eh,VS.listOf,Bx,-U0e,-U0g,DN]
 have first:∀(ns:List Nat)(r:VS.Env),ns≠[]->(sIf (Br (eOp (oEq false) (eCB Eh (Aa (Ac 1) Ae)) (eC (.int 0)))) (Dg (Bl Ae)) Eu) (some (.lst false (bs.map Af))::some (DN false ns)::r) []=some (.nx,some (.lst false (bs.map Af))::some (DN false ns)::r,[]):=fun ns r h=>by
  have h0:¬((ns.length:Int)=0):=by have:=U5o.mpr h;omega
  simp only[Iw,EY,BJ,hlen,U0c,CJ]
  simp[Cr,J7,BK,Ci,oEq,-U0e,-U0g,h0]
  exact h
 have nil:∀(k w:Nat),CQ (k+1) [.lst false (bs.map Af),DN false [],.int w,.int n]=some (.lst true []):=fun k w=>by
  simp[CQ,Lf,Ii,Bw,Cr,Iw,J7,Aq,CJ,BJ,BK,Ak,Df,EY,Ci,Nj,Gs,oEq,Eh,VS.listOf,Bx,Dh,den,Cy,U0r,-U0e,-U0g,DN]
 intro k
 induction k with
 |zero =>
  intro d w ns hw hi hl
  by_cases h:ns=[]
  .subst h
   rw[nil,Ck,if_pos rfl];rfl
  .rw[Ck,if_neg h]
   have hwn:w=n:=by omega
   subst hwn
   have f1:=first ns [some (.int w),some (.int w),none,none,none,none,none,none] h
   unfold CQ
   rw[Dh]
   simp only[U0j,U1o,U0s,U1m,U2k,U2l,U0r,U1s,U2f,U1x,if_true]
   unfold Lf
   rw[BZ f1]
   have hd:=Lq 0 [] (Oz false ns)
   simp[Ii,Bw,Cr,Iw,J7,Aq,BJ,BK,Ak,EY,Ci,Nj,Gs,oEq,den,Cy,-U0e,-U0g,hd,encC,Af]
 |succ k ih =>
  intro d w ns hw hi hl
  by_cases h:ns=[]
  .subst h
   rw[nil,Ck,if_pos rfl];rfl
  .have hwn:¬((w:Int)=(n:Int)):=by omega
   have f1:=first ns [some (.int w),some (.int n),none,none,none,none,none,none] h
   have f2:(sIf (Br (eOp (oEq false) (Ac 2) (Ac 3))) (Dg (Bl (Aa (BW (Aa (BW Ae) (Aa (Ac 1) Ae))) Ae))) Eu) [some (.lst false (bs.map Af)),some (DN false ns),some (.int w),some (.int n),none,none,none,none,none,none] []=some (.nx,[some (.lst false (bs.map Af)),some (DN false ns),some (.int w),some (.int n),none,none,none,none,none,none],[]):=by
    simp[Cr,Iw,J7,Aq,BJ,BK,Ak,EY,Ci,Gs,oEq,-U0e,-U0g,hwn]
   have f3:(Bb 4 (Gd Ae)) [some (.lst false (bs.map Af)),some (DN false ns),some (.int w),some (.int n),none,none,none,none,none,none] []=some (.nx,[some (.lst false (bs.map Af)),some (DN false ns),some (.int w),some (.int n),some (.ref 0),none,none,none,none,none],[some []]):=by
    simp[Bw,BK,Nj,-U0e,-U0g]
   obtain⟨z5,z6,z7,z8,z9,f4⟩:=sI (CQ (d+(k+1))) (w:=w) (k:=k) hb hi hl h (by omega) (by omega) fun ms h1 h2=>by
    have:=ih d (w+1) ms (by omega) h1 h2
    rw[show((w+1:Nat):Int)=(w:Int)+1 by omega] at this
    exact this
   rw[CQ,Dh]
   simp only[U0j,U1o,U0s,U1m,U2k,U2l,U0r,U1s,U2f,U1x,if_true]
   unfold Lf
   rw[BZ f1,BZ f2,BZ f3,BZ f4]
   have hd:∀(j:Nat)(S:Store),Cy j S ((Ck bs (k+1) w ns).map encC)=some ((Ck bs (k+1) w ns).map encC):=fun j S=>Cw j S (LR (Ck bs (k+1) w ns))
   simp[Cr,Aq,den,-U0e,-U0g,hd,LR]
theorem list_range{a:BX}{env:VS.Env}{S S':Store}{n:Nat}(h:a env S=some ([.int n],S'))(hn:n<=1000):Hu a env S=some (DN true (U0n n),S'):=by
 have hr:r62 (n:Int):=by unfold r62;omega
 have up:upD 0 n=(U0n n).map fun(i:Nat)=>D.int i:=by unfold upD;simp
 rw[Qv,h,U0c]
 show(if r62 (n:Int)/\(n:Int).toNat<=1000 then _ else _)=_
 rw[if_pos ⟨hr,by omega⟩,U3c,up,DN]
theorem nQ{n:Nat}{bs:List (List St2)}(g:Good n bs):GD [Ax false n bs]=some (.lst true ((Ck bs n 0 (U0n bs.length)).map encC)):=by
 have n3:=g.n3
 have few:=g.few
 have h:=sH (bs:=bs) (fun b hb=>(g.box b hb).1) n3.2 n (3-n) 0 (U0n bs.length) (by omega) (fun i hi=>U1z.mp hi) (by simpa using few)
 rw[show 3-n+n+1=4 by omega] at h
 have hd:=fun(j:Nat) (S:Store)=>Cw j S (LR (Ck bs n 0 (U0n bs.length)))
 have t1:(eOp oIx (Ac 0) (eC (.int 1))) [some (Ax false n bs)] []=some (.lst false (bs.map Af),[]):=by simp[Aq,CJ,BJ,oIx,VS.listOf,Bx,-U0e,-U0g,Ax]
 have t0:(eOp oIx (Ac 0) (eC (.int 0))) [some (Ax false n bs)] []=some (.int n,[]):=by simp[Aq,CJ,BJ,oIx,VS.listOf,Bx,-U0e,-U0g,Ax]
 have t2:(Aa (eCB Eh (Aa (eOp oIx (Ac 0) (eC (.int 1))) Ae)) Ae) [some (Ax false n bs)] []=some ([.int bs.length],[]):=by
  simp only[Ak,BK,Df,t1,U0c]
  simp[Eh,Bx,VS.listOf]
 have t3:=list_range t2 (by omega)
 have a1:(Aa (eOp oIx (Ac 0) (eC (.int 1))) (Aa (Hu (Aa (eCB Eh (Aa (eOp oIx (Ac 0) (eC (.int 1))) Ae)) Ae)) (Aa (eC (.int 0)) (Aa (eOp oIx (Ac 0) (eC (.int 0))) Ae)))) [some (Ax false n bs)] []=some ([.lst false (bs.map Af),DN true (U0n bs.length),.int 0,.int n],[]):=by
  rw[Ak,t1,U0c,Ak,t3,U0c,Ak,CJ,U0c,Ak,t0]
  rfl
 have c:=Dy (sem:=CQ 4) a1 (by simp[Aw,Bd,Oz]) (es:=[.lst false (bs.map Af),DN false (U0n bs.length),.int 0,.int n]) (by simp[Bf,age,UL]) h
 unfold GD
 rw[Dh]
 simp only[U0j,U1o,U0s,U1m,U2k,U2l,U1s,U2f,U1x,if_true]
 unfold Va
 rw[Cr,c]
 show den 0 [] (.lst true _)=_
 rw[den,hd];rfl
end W18
end
section
namespace W18
open PySem L2 VS
theorem mF(c k:Int):∃v,HX [.int c,.int k]=some (.int v):=by
 have hc:∀t:Int,-18446744073709551616<t%2147483647/\t%2147483647<18446744073709551616:=fun t=>by omega
 simp[HX,T4,Ii,Bw,Cr,Aq,CJ,BJ,oI,R0,Te,R6,Cm,Hw,oDiv,oMod,VS.listOf,Dh,den,U0r,-U0e,-U0g,hc]
theorem Du(x y z m:Int)(h0:0<m)(h1:m<2^63):∃r x' z',Aj [x,y,z] [.int m]=some (.int r,[x',y,z'])/\0<=r/\r<m:=by
 have hm:m<18446744073709551616:=by omega
 by_cases h:0<x
 .simp[Aj,Qj,Ii,Bw,Cr,Iw,J7,MK,Aq,CJ,BJ,BK,Ak,EY,Gn,oI,HN,Te,R6,Cm,oDiv,oMod,oGt,oIx,VS.listOf,Bx,Kl,intsOf,den,U0r,-U0e,-U0g,h,h0,hm]
  exact⟨U7p _ (by omega),U64 _ h0⟩
 .obtain⟨v,hv⟩:=mF y (z+1)
  simp[Aj,Qj,Ii,Bw,Cr,Iw,J7,MK,Aq,CJ,BJ,BK,Ak,EY,Gn,oI,HN,Te,R6,Cm,oDiv,oMod,oGt,oIx,VS.listOf,Bx,Kl,intsOf,den,Cy,age,Bf,Bd,Aw,U0r,-U0e,-U0g,h,h0,hm,hv]
  exact⟨U7p _ (by omega),U64 _ h0⟩
theorem O4{k:Nat}(hk:k<=300):((10:Int)^k).natAbs<2^1024:=by
 rw[Int.natAbs_pow]
 refine U53 (U5j (by decide) hk) ?_
 decide +kernel
theorem pow10(k:Nat)(hk:k<=1000)(env:VS.Env)(S:Store):eOp Ea (eC (.int 10)) (eC (.int k)) env S=some (.int (10^k),S):=by
 have h:Li 10 (k:Int)=true:=by
  unfold Li
  simp
  omega
 rw[BJ,CJ,U0c,CJ,U0c]
 show(if Li 10 (k:Int)=true then some (D.int (10^(k:Int).toNat)) else none).map _=_
 rw[if_pos h,U3c];rfl
theorem S8{a b:Ba}{env:VS.Env}{S S1 S2:Store}{i j:Int}(ha:a env S=some (.int i,S1))(hb:b env S1=some (.int j,S2))(hi:i.natAbs<2^1024)(hj:j.natAbs<2^1024):eOp N8 a b env S=some (.int (i*j),S2):=by
 have h:Y8 i j=true:=by
  unfold Y8
  rw[U1e]
  exact⟨decide_eq_true hi,decide_eq_true hj⟩
 rw[BJ,ha,U0c,hb,U0c]
 show(if Y8 i j=true then some (D.int (i*j)) else none).map _=_
 rw[if_pos h];rfl
theorem vP(c:Int):∃x,Hy [.int c]=some (.lst true [.int x,.int c,.int 0]):=by
 have p:=pow10 50 (by decide) [some (.int c)] []
 have q1:=S8 p p (O4 (by decide)) (O4 (by decide))
 rw[←U78] at q1
 have q2:=S8 q1 p (O4 (by decide)) (O4 (by decide))
 rw[←U78] at q2
 have q3:=S8 q2 p (O4 (by decide)) (O4 (by decide))
 rw[←U78] at q3
 have hp:(0:Int)<10^(50+50+50+50):=Int.pow_pos (by decide)
 have m1:eOp oMod (Ac 0) (eOp N8 (eOp N8 (eOp N8 (eOp Ea (eC (.int 10)) (eC (.int 50))) (eOp Ea (eC (.int 10)) (eC (.int 50)))) (eOp Ea (eC (.int 10)) (eC (.int 50)))) (eOp Ea (eC (.int 10)) (eC (.int 50)))) [some (.int c)] []=some (.int (c%10^(50+50+50+50)),[]):=by
  have v:Ac 0 [some (.int c)] []=some (.int c,[]):=rfl
  have h:R6 c (10^(50+50+50+50))=true:=decide_eq_true hp
  rw[BJ,v,U0c]
  refine(congrArg (fun z=>Option.bind z _) q3).trans ?_
  rw[U0c]
  show(if R6 c (10^(50+50+50+50))=true then some (D.int (c%10^(50+50+50+50))) else none).map _=_
  rw[if_pos h];rfl
 have hb:(c%10^(50+50+50+50)).natAbs<2^1024 :=
  U3 (Int.natAbs_lt_natAbs_of_nonneg_of_lt (U7p _ (Int.ne_of_gt hp)) (U64 _ hp)) (O4 (by decide))
 obtain⟨b,hb1,hb2⟩:∃b:Int,eCB Pg (Aa (eOp oGe (Ac 0) (eOp Ea (eC (.int 10)) (eC (.int 18)))) Ae) [some (.int c)] []=some (.int b,[])/\b.natAbs<2^1024:=by
  by_cases h:(1000000000000000000:Int)<=c
  .exact⟨1,by simp[Aq,CJ,BJ,BK,Ak,Df,oI,HN,Li,Ea,oGe,Pg,-U0e,-U0g,h],by decide +kernel⟩
  .exact⟨0,by simp[Aq,CJ,BJ,BK,Ak,Df,oI,HN,Li,Ea,oGe,Pg,-U0e,-U0g,h],by decide +kernel⟩
 have q4:=S8 m1 hb1 hb hb2
 refine⟨c%10^(50+50+50+50)*b,?_⟩
 have v:∀S,Ac 0 [some (.int c)] S=some (.int c,S):=fun _=>rfl
 unfold Hy
 rw[Dh]
 simp only[U0j,U1o,U0s,U1m,U2k,U2l,U1s,U27,if_true]
 unfold Wv
 rw[Cr,Ci,Ak,q4]
 generalize c%10^(50+50+50+50)*b=x
 simp[Aq,CJ,BK,Ak,den,Cy,-U0e,-U0g]
end W18
end
section
namespace W18
open PySem L2 VS
theorem jw{sem:DP}{a:BX}{env:VS.Env}{S S':Store}{d d':D}{cs:List D}(h:Bg sem a env S=some (d,S'))(ht:Nq S'.length d=some (d',cs)):RJ sem a env S=some (d',S'++[some cs]):=by
 rw[jG,h,U0c]
 show(Nq S'.length d).bind _=_
 rw[ht];rfl
theorem Hx{sem:JM}{a:BX}{env:VS.Env}{S S':Store}{i:Nat}{rest es:List D}{ns ms:List Int}{r:D}(h:a env S=some (.ref i::rest,S'))(hi:S'[i]?=some (some (ns.map D.int)))(hp:Aw rest=true)(ha:Bf rest=es)(hr:sem ns es=some (r,ms)):Az sem a env S=some (r,S'.set i (some (ms.map D.int))):=by
 rw[MP,h]
 simp only[U0c,hi,Iv,Cw 0 _ hp,ha,hr,hp,Bool.true_or,if_true]
theorem jx{sem:JM}{a:BX}{env:VS.Env}{S S':Store}{d d':D}{cs:List D}(h:Az sem a env S=some (d,S'))(ht:Nq S'.length d=some (d',cs)):RK sem a env S=some (d',S'++[some cs]):=by
 rw[jH,h,U0c]
 show(Nq S'.length d).bind _=_
 rw[ht];rfl
theorem J8{g:Store->D->List D->Option (D×Store)}{o:Ba}{a:BX}{env:VS.Env}{S S1 S2 S3:Store}{d r:D}{cs ds:List D}(h:o env S=some (d,S1))(hl:VS.listOf S1 d=some cs)(h2:a env S1=some (ds,S2))(h3:g S2 d ds=some (r,S3)):Hg g o a env S=some (r,S3):=by
 rw[Z8,h,U0c]
 show(if (VS.listOf S1 d).isSome=true then _ else _)=_
 rw[hl]
 show(a env S1).bind _=_
 rw[h2]
 exact h3
theorem Vt(S:Store)(a:Option (List D))(l:List (Option (List D))):(S++a::l)[S.length]?=some a:=by simp
theorem uJ(S:Store)(a c:Option (List D))(l:List (Option (List D))):(S++a::l).set S.length c=S++c::l:=by
 rw[List.set_append_right _ _ (by omega)]
 simp
end W18
end
section
namespace W18
open PySem L2 VS
theorem lU{S:Store}{i:Nat}{l:List D}{r:Int}(h:S[i]?=some (some l))(h0:0<=r)(h1:r<l.length)(h2:r<2^63)(hn:r.toNat<l.length):Nz S (.ref i) [.int r]=some (l[r.toNat],S.set i (some (l.eraseIdx r.toNat))):=by
 have hix:seqIndex? r l.length=some r.toNat:=PySem.StrLaws.seqIndex_nonneg h0 h1
 rw[Nz,h]
 show(if -(2^63)<=r/\r<2^63 then (seqIndex? r l.length).bind _ else _)=_
 rw[if_pos ⟨by omega,h2⟩,hix,U0c,U0d hn]
 rfl
theorem Wh{α:Type}:∀(l:List α)(i:Nat)(h:i<l.length),(l[i]::l.eraseIdx i).Perm l
 |a::r,0,_=>by simp
 |a::r,i+1,h=>by
  have h':i<r.length:=by simpa using h
  show(r[i]::a::r.eraseIdx i).Perm (a::r)
  exact(U4q.swap ..).trans ((Wh r i h').cons a)
def toI:D->Option Int
 |.int i=>some i
 |_=>none
theorem bC:∀{es:List D},(∀e∈es,∃n,e=.int n)->(es.filterMap toI).map .int=es
 |[],_=>rfl
 |e::r,h=>by
  obtain⟨n,rfl⟩:=h e U0z
  rw[U25 (show toI (.int n)=some n from rfl),U0s,bC fun e he=>h e (U0t _ he)]
theorem jC{es:List D}{ns:List Int}(hp:es.Perm (ns.map .int)):∃ms:List Int,es=ms.map .int/\ms.Perm ns:=by
 refine⟨es.filterMap toI,(bC fun e he=>?_).symm,?_⟩
 .obtain⟨n,_,q⟩:=U2c.mp (hp.mem_iff.mp he)
  exact⟨n,q.symm⟩
 .have:=hp.filterMap toI
  rw[U48] at this
  have e:(fun n:Int=>toI (.int n))=some:=rfl
  rw[show(toI∘D.int)=some from rfl,List.filterMap_some] at this
  exact this
theorem yr(x y z:Int)(ds:List D)(hl:ds.length<=1000):∃(es:List D)(x' z':Int),Lg [some (.ref 0),some (.lst false ds),some (.ref 1)] [some [.int x,.int y,.int z],some ds]=some (es,[some [.int x',.int y,.int z'],some []])/\es.Perm ds:=by
 have e:DK (Ac 1) [some (.ref 0),some (.lst false ds),some (.ref 1)] [some [.int x,.int y,.int z],some ds]=some ((ds,[]),[some [.int x,.int y,.int z],some ds]):=by simp[Aq,VS.listOf,Bx,VS.idOf,Fy,-U0e,-U0g]
 unfold Lg CZ
 rw[e]
 simp only[U0c]
 obtain⟨ys,S',e2,left,x',z',hS,hi,hp⟩:=ZC (w:=[]) (e0:=G7 1 [2,0] [some (.ref 0),some (.lst false ds),some (.ref 1)]) (g:=Pat.sem (.nm 0)) (ds:=ds) (S:=[some [.int x,.int y,.int z],some ds])
  (f:=Hg Nz (Ac 1) (Aa (Az Aj (Aa (Ac 2) (Aa (eCB Eh (Aa (Ac 1) Ae)) Ae))) Ae))
  (fun i ys S=>∃(left:List D)(x' z':Int),S=[some [.int x',.int y,.int z'],some left]/\ys.length=min i ds.length/\(ys++left).Perm ds)
  ⟨ds,x,z,rfl,by simp,.refl _⟩ (fun i ys S q=>by obtain⟨left,x',z',h1,h2,h3⟩:=q;exact⟨by simp,by omega⟩)
  (fun i d ys S hd q=>by
   obtain⟨left,x',z',h1,h2,h3⟩:=q
   subst h1
   have hi:i<ds.length:=(U0i.mp hd).1
   have hlen:=h3.length_eq
   rw[U0u] at hlen
   obtain⟨r,x2,z2,e3,r0,r1⟩:=Du x' y z' left.length (by omega) (by omega)
   have hrn:r.toNat<left.length:=by omega
   have v1:∀a:List D,Ac 1 [some d,some (.ref 1),some (.ref 0)] [some a,some left]=some (.ref 1,[some a,some left]):=fun a=>rfl
   have v2:∀a:List D,Ac 2 [some d,some (.ref 1),some (.ref 0)] [some a,some left]=some (.ref 0,[some a,some left]):=fun a=>rfl
   have hL:eCB Eh (Aa (Ac 1) Ae) [some d,some (.ref 1),some (.ref 0)] [some [.int x',.int y,.int z'],some left]=some (.int left.length,[some [.int x',.int y,.int z'],some left]):=by
    rw[Df,Ak,v1]
    simp[BK,Eh,Bx,VS.listOf]
   have ht:Az Aj (Aa (Ac 2) (Aa (eCB Eh (Aa (Ac 1) Ae)) Ae)) [some d,some (.ref 1),some (.ref 0)] [some [.int x',.int y,.int z'],some left]=some (.int r,[some [.int x2,.int y,.int z2],some left]) :=
    Hx (ns:=[x',y,z']) (rest:=[.int left.length]) (es:=[.int left.length]) (i:=0) (S':=[some [.int x',.int y,.int z'],some left]) (by rw[Ak,v2];simp[Ak,BK,hL]) rfl (by simp[Aw,Bd]) (by simp[Bf,age]) e3
   have hpop:Hg Nz (Ac 1) (Aa (Az Aj (Aa (Ac 2) (Aa (eCB Eh (Aa (Ac 1) Ae)) Ae))) Ae) [some d,some (.ref 1),some (.ref 0)] [some [.int x',.int y,.int z'],some left]=some (left[r.toNat],[some [.int x2,.int y,.int z2],some (left.eraseIdx r.toNat)]) :=
    J8 (v1 _) (cs:=left) rfl (ds:=[.int r]) (S2:=[some [.int x2,.int y,.int z2],some left]) (by rw[Ak,ht];rfl) (lU (i:=1) rfl r0 r1 (by omega) hrn)
   refine⟨[some d,some (.ref 1),some (.ref 0)],left[r.toNat],_,by rw[Ce];rfl,hpop,left.eraseIdx r.toNat,x2,z2,rfl,by simp;omega,?_⟩
   rw[U58]
   exact((Wh left r.toNat hrn).append_left ys).trans h3)
 subst hS
 have hl:=hp.length_eq
 rw[U0u,hi,U44] at hl
 have:left=[]:=U38.mp (by omega)
 subst this
 rw[U27] at hp
 exact⟨ys,x',z',e2,hp⟩
theorem aK(x y z:Int)(ns:List Int)(hl:ns.length<=1000):∃(ms:List Int)(x' z':Int),Ez [x,y,z] [.lst false (ns.map .int)]=some (.lst true (ms.map .int),[x',y,z'])/\ms.Perm ns:=by
 obtain⟨es,x',z',e,hp⟩:=yr x y z (ns.map .int) (by simpa using hl)
 obtain⟨ms,rfl,hm⟩:=jC hp
 refine⟨ms,x',z',?_,hm⟩
 simp[Ez,QG,Ii,Bw,Cr,Aq,BK,Ak,Ci,nH,nList,VS.listOf,Bx,Kl,intsOf,den,U0r,-U0e,-U0g,e]
end W18
end
section
namespace W18
open PySem L2 VS
def mn(i j:Int):Int:=if j<i then j else i
def mx(i j:Int):Int:=if j>i then j else i
theorem fZ{α β:Type}{f:α->Option β}{g:α->β}:∀{l:List α},(∀a∈l,f a=some (g a))->l.filterMap f=l.map g
 |[],_=>rfl
 |a::r,h=>by rw[U25 (h a U0z),U0s,fZ fun b hb=>h b (U0t _ hb)]
theorem bV(a:Nat)(ms:List Int)(ha:a<=1):HT.half a (ms.map D.int)=(U0n ((ms.length+1-a)/2)).map fun k=>D.int (ms.getD (a+2*k) 0):=by
 unfold HT.half
 rw[U0k]
 refine fZ fun k hk=>?_
 have h:=U1z.mp hk
 have h2:a+2*k<ms.length:=by omega
 rw[U0v,U0d h2,U0h,U0d h2]
 rfl
def M8(ms:List Int)(c:Nat):List St2:=(U0n c).map fun k=>(mn (ms.getD (0+2*k) 0) (ms.getD (1+2*k) 0),mx (ms.getD (0+2*k) 0) (ms.getD (1+2*k) 0))
structure jd(c:Nat)(m:Int)(s:List St2):Prop where
 len:s.length=c
 all:∀p∈s,0<=p.1/\p.1<p.2/\p.2<=m
theorem pU{ms:List Int}{c:Nat}(hp:ms.Perm ((U0n (2*c)).map fun(i:Nat)=>(i:Int))):jd c (2*c-1) (M8 ms c):=by
 have hlen:ms.length=2*c:=by rw[hp.length_eq];simp
 have hn:ms.Nodup:=hp.nodup_iff.mpr (by
  show U6e (·≠·) _
  rw[List.pairwise_map]
  exact List.nodup_range.imp fun h e=>h (by omega))
 refine⟨by unfold M8;simp,fun p hq=>?_⟩
 obtain⟨k,hk,rfl⟩:=U2c.mp hq
 have h:=U1z.mp hk
 have a0:0+2*k<ms.length:=by omega
 have a1:1+2*k<ms.length:=by omega
 rw[U0h,U0d a0,U0h,U0d a1,U42,U42]
 have ne:ms[0+2*k]≠ms[1+2*k]:=fun e=>by
  have:=(List.getElem_inj hn).mp e
  omega
 have b:∀x∈ms,0<=x/\x<=2*c-1:=fun x hx=>by
  obtain⟨i,hi,rfl⟩:=U2c.mp (hp.mem_iff.mp hx)
  have:=U1z.mp hi
  omega
 have b0:=b _ (U1f a0)
 have b1:=b _ (U1f a1)
 unfold mn mx
 simp only
 split<;>split<;>omega
theorem um(n:Nat)(F G:Nat->D):Cu ((U0n n).map F) ((U0n n).map G)=(U0n n).map fun k=>D.tup [F k,G k]:=by
 generalize U0n n=l
 induction l with
 |nil=>rfl
 |cons a r ih=>rw[U0s,U0s,Cu,ih,U0s]
theorem gQ(r:VS.Env)(S:Store)(ms:List Int)(c:Nat)(hc:c<=1000)(h:r[6]?=some (some (.lst true ((U0n c).map fun k=>D.tup [.int (ms.getD (0+2*k) 0),.int (ms.getD (1+2*k) 0)])))):Ml r S=some ((M8 ms c).map Am,S):=by
 have e:DK (Ac 6) r S=some (((U0n c).map fun k=>D.tup [.int (ms.getD (0+2*k) 0),.int (ms.getD (1+2*k) 0)],[]),S):=by simp[Aq,VS.listOf,Bx,VS.idOf,Fy,-U0e,-U0g,h]
 unfold Ml CZ
 rw[e]
 simp only[U0c]
 rw[JB (by simp) (fun k=>D.tup [.int (ms.getD (0+2*k) 0),.int (ms.getD (1+2*k) 0)]) (fun k=>Am (mn (ms.getD (0+2*k) 0) (ms.getD (1+2*k) 0),mx (ms.getD (0+2*k) 0) (ms.getD (1+2*k) 0))) (U0n c) (by simp;omega)]
 .unfold M8;rw[U0e];rfl
 .intro k _
  generalize ms.getD (0+2*k) 0=a
  generalize ms.getD (1+2*k) 0=b
  exact⟨_,by simp[G7,Ce,JR,Gz,G8,U0r,-U0e,-U0g];rfl,by simp[Aq,BK,Ak,Df,Gs,Ft,Ib,-U0e,-U0g,Am,mn,mx]⟩
def Dq(ss:List (List St2)):List D:=ss.map fun s=>.lst true (s.map Am)
theorem range_list{a:BX}{env:VS.Env}{S S':Store}{j:Int}(n:Nat)(h:a env S=some ([.int j],S'))(hn:j.toNat=n)(h0:-1000000<=j)(h1:j<=1000000)(h2:n<=1000):Hu a env S=some (.lst true (upD 0 n),S'):=by
 rw[Qv,h,U0c]
 show(if r62 j/\j.toNat<=1000 then some (D.lst true (upD 0 j.toNat),S') else none)=_
 rw[hn,if_pos ⟨Wf h0 h1,h2⟩]
theorem gR(x y z:Int)(w c:Nat)(hc:c<=20)(ss:List (List St2))(hs:ss.length<=3)(z5 z6:Option D)(k:D):∃(s:List St2)(x' z':Int)(d5 d6:Option D),jd c (2*c-1) s /\
  KD [some (.ref 0),some (.int w),some (.int c),some (.ref 1),some k,z5,z6] [some [.int x,.int y,.int z],some (Dq ss)]=some (.nx,[some (.ref 0),some (.int w),some (.int c),some (.ref 1),some k,d5,d6],[some [.int x',.int y,.int z'],some (Dq (ss++[s]))]):=by
 obtain⟨ms,x',z',e1,hp⟩:=aK x y z ((U0n (2*c)).map fun(i:Nat)=>(i:Int)) (by simp;omega)
 have hlen:ms.length=2*c:=by rw[hp.length_eq];simp
 have hU:upD 0 (2*c)=((U0n (2*c)).map fun(i:Nat)=>(i:Int)).map D.int:=by
  unfold upD
  rw[U0e]
  simp only[Int.zero_add];rfl
 have s1:(Bb 5 (Az Ez (Aa (Ac 0) (Aa (Hu (Aa (eOp Hw (eC (.int 2)) (Ac 2)) Ae)) Ae)))) [some (.ref 0),some (.int w),some (.int c),some (.ref 1),some k,z5,z6] [some [.int x,.int y,.int z],some (Dq ss)]=some (.nx,[some (.ref 0),some (.int w),some (.int c),some (.ref 1),some k,some (.lst true (ms.map .int)),z6],[some [.int x',.int y,.int z'],some (Dq ss)]):=by
  have l1:=range_list (a:=Aa (eOp Hw (eC (.int 2)) (Ac 2)) Ae) (env:=[some (.ref 0),some (.int w),some (.int c),some (.ref 1),some k,z5,z6]) (S:=[some [.int x,.int y,.int z],some (Dq ss)]) (S':=[some [.int x,.int y,.int z],some (Dq ss)]) (j:=2*(c:Int)) (2*c) (by simp[Aq,CJ,BJ,BK,Ak,R0,Hw,VS.listOf,-U0e,-U0g]) (by omega) (by omega) (by omega) (by omega)
  rw[hU] at l1
  have v0:Ac 0 [some (.ref 0),some (.int w),some (.int c),some (.ref 1),some k,z5,z6] [some [.int x,.int y,.int z],some (Dq ss)]=some (.ref 0,[some [.int x,.int y,.int z],some (Dq ss)]):=rfl
  rw[Bw,Hx (ns:=[x,y,z]) (rest:=[.lst true (((U0n (2*c)).map fun(i:Nat)=>(i:Int)).map D.int)]) (es:=[.lst false (((U0n (2*c)).map fun(i:Nat)=>(i:Int)).map D.int)]) (i:=0) (S':=[some [.int x,.int y,.int z],some (Dq ss)]) (by rw[Ak,v0,U0c,Ak,l1];rfl) rfl (by rw[Aw,Bd,Ht,Aw];rfl) (by rw[Bf,age,Mf,Bf]) e1]
  rfl
 have s2:(Bb 6 (Oa (Aa (eUn (Oj 0) (Ac 5)) (Aa (eUn (Oj 1) (Ac 5)) Ae)))) [some (.ref 0),some (.int w),some (.int c),some (.ref 1),some k,some (.lst true (ms.map .int)),z6] [some [.int x',.int y,.int z'],some (Dq ss)]=some (.nx,[some (.ref 0),some (.int w),some (.int c),some (.ref 1),some k,some (.lst true (ms.map .int)),some (.lst true ((U0n c).map fun k=>D.tup [.int (ms.getD (0+2*k) 0),.int (ms.getD (1+2*k) 0)]))],[some [.int x',.int y,.int z'],some (Dq ss)]):=by
  have u0:∀a:Nat,eUn (Oj a) (Ac 5) [some (.ref 0),some (.int w),some (.int c),some (.ref 1),some k,some (.lst true (ms.map .int)),z6] [some [.int x',.int y,.int z'],some (Dq ss)]=some (.lst true (HT.half a (ms.map .int)),[some [.int x',.int y,.int z'],some (Dq ss)]):=fun a=>rfl
  have c0:(ms.length+1-0)/2=c:=by omega
  have c1:(ms.length+1-1)/2=c:=by omega
  rw[Bw,T6,Ak,u0,U0c,Ak,u0,bV 0 ms (by decide),bV 1 ms (by decide),c0,c1]
  show((if (Cu ((U0n c).map fun k=>D.int (ms.getD (0+2*k) 0)) ((U0n c).map fun k=>D.int (ms.getD (1+2*k) 0))).length<=1000000 then some (D.lst true (Cu ((U0n c).map fun k=>D.int (ms.getD (0+2*k) 0)) ((U0n c).map fun k=>D.int (ms.getD (1+2*k) 0))),_) else none):Option (D×Store)).bind _=_
  rw[um,if_pos (by rw[U0k,U2z];omega)]
  rfl
 have c1:=gQ [some (.ref 0),some (.int w),some (.int c),some (.ref 1),some k,some (.lst true (ms.map .int)),some (.lst true ((U0n c).map fun k=>D.tup [.int (ms.getD (0+2*k) 0),.int (ms.getD (1+2*k) 0)]))] [some [.int x',.int y,.int z'],some (Dq ss)] ms c (by omega) rfl
 refine⟨M8 ms c,x',z',some (.lst true (ms.map .int)),some (.lst true ((U0n c).map fun k=>D.tup [.int (ms.getD (0+2*k) 0),.int (ms.getD (1+2*k) 0)])),pU hp,?_⟩
 unfold KD
 rw[BZ s1,BZ s2,HW,J8 (d:=.ref 1) (cs:=Dq ss) (ds:=[.lst true ((M8 ms c).map Am)]) (r:=.non) (S1:=[some [.int x',.int y,.int z'],some (Dq ss)]) (S2:=[some [.int x',.int y,.int z'],some (Dq ss)]) (S3:=[some [.int x',.int y,.int z'],some (Dq (ss++[M8 ms c]))]) rfl rfl (by rw[Ak,Ci,c1];rfl) (by
  show(if (Dq ss).length<1000000 then some (D.non,[some [.int x',.int y,.int z'],some (Dq ss++[.lst true ((M8 ms c).map Am)])]) else none)=_
  rw[if_pos (by unfold Dq;rw[U0k];omega)]
  unfold Dq
  rw[U1u];rfl)]
 rfl
theorem gP(ss:List (List St2))(k c:Nat)(hk:k<c)(hs:ss.length<=3)(hS:∀s∈ss,s.length=c)(S:Store)(hSt:S[1]?=some (some (Dq ss))):KC [some (.int k),some (.ref 1)] S=some ((ss.map fun s=>s.getD k (0,0)).map Am,S):=by
 have e:DK (Ac 1) [some (.int k),some (.ref 1)] S=some ((Dq ss,[(1,Dq ss)]),S):=by
  simp[Aq,VS.listOf,Bx,VS.idOf,Fy,-U0e,-U0g,hSt]
 unfold KC CZ
 rw[e]
 simp only[U0c]
 rw[show Dq ss=ss.map fun s=>.lst true (s.map Am) from rfl,JB (by intro p hp;rw[U04.mp hp];exact hSt) (fun s=>.lst true (s.map Am)) (fun s=>Am (s.getD k (0,0))) ss (by omega)]
 .rw[U0e];rfl
 .intro s hs
  have hl:=hS s hs
  have ha:atI (s.map Am) (k:Int)=some (Am (s.getD k (0,0))):=Nm (by
   rw[U0v,U0h,U0d (show k<s.length by omega)];rfl)
  exact⟨_,by rw[Ce],by simp[Aq,BJ,G7,oIx,VS.listOf,Bx,U0r,-U0e,-U0g,ha]⟩
end W18
end
section
namespace W18
open PySem L2 VS
structure Sm(n:Nat)(m:Int)(b:List St2):Prop where
 len:b.length=n
 all:∀p∈b,0<=p.1/\p.1<p.2/\p.2<=m
theorem gO(x y z:Int)(n c:Nat)(hn:n<=3)(hc:c<=20):∃(bs:List (List St2))(x' z':Int),G3 [x,y,z] [.int n,.int c]=some (.lst true (bs.map Af),[x',y,z'])/\bs.length=c/\∀b∈bs,Sm n (2*c-1) b:=by
 have s1:(Bb 3 (Gd Ae)) [some (.ref 0),some (.int n),some (.int c),none,none,none,none] [some [.int x,.int y,.int z]]=some (.nx,[some (.ref 0),some (.int n),some (.int c),some (.ref 1),none,none,none],[some [.int x,.int y,.int z],some (Dq [])]):=by simp[Bw,BK,Nj,-U0e,-U0g,Dq]
 have e:Dn (Aa (Ac 1) Ae) [some (.ref 0),some (.int n),some (.int c),some (.ref 1),none,none,none] [some [.int x,.int y,.int z],some (Dq [])]=some ((upD 0 n,[]),[some [.int x,.int y,.int z],some (Dq [])]):=Jz _ (by simp[Aq,BK,Ak,-U0e,-U0g];rfl) (by simp) (by omega) (by omega)
 obtain⟨env',S',e2,ss,x',z',z4,z5,z6,he,hS,hl,hs⟩:=Dw (w:=[]) (g:=Pat.sem (.nm 4)) (b:=KD) (ds:=upD 0 n) (env:=[some (.ref 0),some (.int n),some (.int c),some (.ref 1),none,none,none]) (S:=[some [.int x,.int y,.int z],some (Dq [])])
  (fun i env S=>∃(ss:List (List St2))(x' z':Int)(z4 z5 z6:Option D),env=[some (.ref 0),some (.int n),some (.int c),some (.ref 1),z4,z5,z6]/\S=[some [.int x',.int y,.int z'],some (Dq ss)]/\ss.length=min i n/\∀s∈ss,jd c (2*c-1) s)
  ⟨[],x,z,none,none,none,rfl,rfl,by simp,fun s h=>by cases h⟩ (fun i env S _=>by simp) (fun i d env S hd q=>by
   obtain⟨ss,x',z',z4,z5,z6,he,hS,hl,hs⟩:=q
   obtain⟨hi,rfl⟩:=Nh hd
   subst he hS
   obtain⟨s,x2,z2,d5,d6,hs1,e3⟩:=gR x' y z' n c hc ss (by omega) z5 z6 (.int (0+i))
   refine⟨_,Ce _ _ _,_,_,e3,ss++[s],x2,z2,_,_,_,rfl,rfl,by simp;omega,fun t ht=>?_⟩
   rcases U12.mp ht with q|q
   .exact hs t q
   .rw[U04.mp q];exact hs1)
 rw[Lk,U44] at hl
 subst he hS
 have l1:Mi [some (.ref 0),some (.int n),some (.int c),some (.ref 1),none,none,none] [some [.int x,.int y,.int z],some (Dq [])]=some (.nx,[some (.ref 0),some (.int n),some (.int c),some (.ref 1),z4,z5,z6],[some [.int x',.int y,.int z'],some (Dq ss)]):=by
  unfold Mi
  rw[Ej,e]
  exact e2
 have c3:Mj [some (.ref 0),some (.int n),some (.int c),some (.ref 1),z4,z5,z6] [some [.int x',.int y,.int z'],some (Dq ss)]=some ((U0n c).map (fun k=>Af (ss.map fun s=>s.getD k (0,0))),[some [.int x',.int y,.int z'],some (Dq ss)]):=by
  have e:Dn (Aa (Ac 2) Ae) [some (.ref 0),some (.int n),some (.int c),some (.ref 1),z4,z5,z6] [some [.int x',.int y,.int z'],some (Dq ss)]=some ((upD 0 c,[]),[some [.int x',.int y,.int z'],some (Dq ss)]):=Jz _ (by simp[Aq,BK,Ak,-U0e,-U0g];rfl) (by simp) (by omega) (by omega)
  unfold Mj CZ
  rw[e]
  simp only[U0c]
  exact cG (by simp) c _ (by omega) fun k hk=>⟨_,Ce _ _ _,by
   have:=gP ss k c hk (by omega) (fun s h=>(hs s h).len) [some [.int x',.int y,.int z'],some (Dq ss)] rfl
   rw[Df,Ak,Ci]
   show(((KC [some (.int k),some (.ref 1)] [some [.int x',.int y,.int z'],some (Dq ss)]).bind _).bind _).bind _=_
   rw[this]
   simp[BK,G7,Nv,VS.listOf,Bx,U0r,-U0e,-U0g,Af]⟩
 refine⟨(U0n c).map (fun k=>ss.map fun s=>s.getD k (0,0)),x',z',?_,by simp,fun b hb=>?_⟩
 .unfold G3
  rw[Kl]
  simp only[U0j,U1o,U0s,U1m,U2k,U2l,U0r,U1s,U2f,U1x,if_true]
  unfold Rk
  rw[BZ s1,BZ l1,Cr,Ci,c3]
  have hf:Aw ((U0n c).map fun k=>Af (ss.map fun s=>s.getD k (0,0)))=true:=Cg (Je _ fun k _=>Im _)
  simp only[U0c,List.getElem?_cons_zero]
  rw[show([D.int x',.int y,.int z']:List D)=([x',y,z'].map D.int) from rfl,Iv]
  show U2x _ (den 1 _ (.lst true _))=_
  rw[den,Cw 1 _ hf,U0e];rfl
 .obtain⟨k,hk,rfl⟩:=U2c.mp hb
  have hk':=U1z.mp hk
  refine⟨by simpa using hl,fun p hp=>?_⟩
  obtain⟨s,h1,rfl⟩:=U2c.mp hp
  have hs1:=hs s h1
  have hlt:k<s.length:=by rw[hs1.len];exact hk'
  rw[U0h,U0d hlt]
  exact hs1.all _ (U1f hlt)
end W18
end
section
namespace W18
open PySem L2 VS
structure Mk(m:Nat)(ms:List Int):Prop where
 rise:ms.Pairwise (·<·)
 len:ms.length=m+1
 near:∀x∈ms,-1000000000<=x/\x<=1000000000
theorem Tn{n:Nat}:ixN (n+1) (-1)=some n:=by
 unfold ixN
 rw[if_neg (by omega),if_pos (by omega)]
 congr 1
 omega
theorem ZM{α:Type}(l:List α)(a:α):atI (l++[a]) (-1)=some a:=by
 unfold atI
 rw[U0u,U0j,U1o,Tn,U0c]
 simp
theorem mH(x y z:Int)(m:Nat)(st hr:Int)(hm:m<=40)(h0:0<st)(h1:st<=1000000000)(pre:List Int)(l:Int)(i:Nat)(hi:pre.length=i)(hl2:i<=100)(hl:l<=1000000000-200-m+i-1):∃(v x' z':Int),l<v/\v<=1000000000-200-m+i /\
  Le [some (.ref 0),some (.int m),some (.int st),some (.int hr),some (.ref 1),some (.int i)] [some [.int x,.int y,.int z],some ((pre++[l]).map .int)]=some (.nx,[some (.ref 0),some (.int m),some (.int st),some (.int hr),some (.ref 1),some (.int i)],[some [.int x',.int y,.int z'],some ((pre++[l]++[v]).map .int)]):=by
 obtain⟨t,x',z',e1,t0,t1⟩:=Du x y z st h0 (by omega)
 obtain⟨v,hv⟩:∃v:Int,v=(if (1000000000:Int)-200-m+i<l+1+t then (1000000000:Int)-200-m+i else l+1+t):=⟨_,rfl⟩
 refine⟨v,x',z',by rw[hv];split<;>omega,by rw[hv];split<;>omega,?_⟩
 have ha:atI ((pre++[l]).map D.int) (-1)=some (.int l):=by
  rw[U1u];exact ZM _ _
 have i1:eOp oIx (Ac 4) (eUn Nr (eC (.int 1))) [some (.ref 0),some (.int m),some (.int st),some (.int hr),some (.ref 1),some (.int i)] [some [.int x,.int y,.int z],some ((pre++[l]).map .int)]=some (.int l,[some [.int x,.int y,.int z],some ((pre++[l]).map .int)]):=by
  have v4:Ac 4 [some (.ref 0),some (.int m),some (.int st),some (.int hr),some (.ref 1),some (.int i)] [some [.int x,.int y,.int z],some ((pre++[l]).map .int)]=some (.ref 1,[some [.int x,.int y,.int z],some ((pre++[l]).map .int)]):=rfl
  rw[BJ,v4,U0c]
  show((some (oIx [some [.int x,.int y,.int z],some ((pre++[l]).map .int)] (.ref 1) (.int (-1)))).bind _)=_
  show U2x _ (atI ((pre++[l]).map D.int) (-1))=_
  rw[ha];rfl
 have t2:Az Aj (Aa (Ac 0) (Aa (Ac 2) Ae)) [some (.ref 0),some (.int m),some (.int st),some (.int hr),some (.ref 1),some (.int i)] [some [.int x,.int y,.int z],some ((pre++[l]).map .int)]=some (.int t,[some [.int x',.int y,.int z'],some ((pre++[l]).map .int)]) :=
  Hx (ns:=[x,y,z]) (rest:=[.int st]) (es:=[.int st]) (i:=0) (S':=[some [.int x,.int y,.int z],some ((pre++[l]).map .int)]) rfl rfl (by simp[Aw,Bd]) (by simp[Bf,age]) e1
 have k1:eOp Cm (eOp Dk (eOp Dk (eOp Ea (eC (.int 10)) (eC (.int 9))) (eC (.int 200))) (Ac 1)) (Ac 5) [some (.ref 0),some (.int m),some (.int st),some (.int hr),some (.ref 1),some (.int i)] [some [.int x',.int y,.int z'],some ((pre++[l]).map .int)]=some (.int (1000000000-200-m+i),[some [.int x',.int y,.int z'],some ((pre++[l]).map .int)]):=by simp[Aq,CJ,BJ,oI,HN,Li,Cm,Dk,Ea,VS.listOf,-U0e,-U0g]
 unfold Le
 rw[HW,J8 (d:=.ref 1) (cs:=(pre++[l]).map .int) (ds:=[.int v]) (r:=.non) (S1:=[some [.int x,.int y,.int z],some ((pre++[l]).map .int)]) (S2:=[some [.int x',.int y,.int z'],some ((pre++[l]).map .int)]) (S3:=[some [.int x',.int y,.int z'],some ((pre++[l]++[v]).map .int)]) rfl rfl (by
  rw[Ak,Df,Ak,BJ,BJ,i1,U0c,CJ,U0c]
  show((((some (D.int (l+1),_):Option (D×Store)).bind _).bind _).bind _).bind _=_
  rw[U0c,t2,U0c]
  show(((some (D.int (l+1+t),_):Option (D×Store)).bind _).bind _).bind _=_
  rw[U0c,Ak,k1,hv]
  rfl) (by
  show(if ((pre++[l]).map D.int).length<1000000 then some (D.non,[some [.int x',.int y,.int z'],some ((pre++[l]).map D.int++[D.int v])]) else none)=_
  rw[if_pos (by simp;omega),U1u (l₁:=pre++[l])]
  rfl)]
 rfl
end W18
end
section
namespace W18
open PySem L2 VS
theorem qx(x y z:Int)(m:Nat)(st hr:Int)(hm:m<=40)(h0:0<st)(h1:st<=1000000000)(hr0:-1000000000<=hr)(hr1:hr<=0):∃(pre:List Int)(l x' z':Int)(z5:Option D),
  Oe [some (.ref 0),some (.int m),some (.int st),some (.int hr),some (.ref 1),none] [some [.int x,.int y,.int z],some [.int hr]]=some (.nx,[some (.ref 0),some (.int m),some (.int st),some (.int hr),some (.ref 1),z5],[some [.int x',.int y,.int z'],some ((pre++[l]).map .int)]) /\
  pre.length=m/\(pre++[l]).Pairwise (·<·)/\(∀e∈pre++[l],-1000000000<=e)/\l<=1000000000-201:=by
 have e:Dn (Aa (Ac 1) Ae) [some (.ref 0),some (.int m),some (.int st),some (.int hr),some (.ref 1),none] [some [.int x,.int y,.int z],some [.int hr]]=some ((upD 0 m,[]),[some [.int x,.int y,.int z],some [.int hr]]):=Jz _ (by simp[Aq,BK,Ak,-U0e,-U0g];rfl) (by simp) (by omega) (by omega)
 obtain⟨env',S',e2,pre,l,x',z',z5,he,hS,hl,hp,hb,hq⟩:=Dw (w:=[]) (g:=Pat.sem (.nm 5)) (b:=Le) (ds:=upD 0 m) (env:=[some (.ref 0),some (.int m),some (.int st),some (.int hr),some (.ref 1),none]) (S:=[some [.int x,.int y,.int z],some [.int hr]])
  (fun i env S=>∃(pre:List Int)(l x' z':Int)(z5:Option D),env=[some (.ref 0),some (.int m),some (.int st),some (.int hr),some (.ref 1),z5]/\S=[some [.int x',.int y,.int z'],some ((pre++[l]).map .int)]/\pre.length=min i m/\(pre++[l]).Pairwise (·<·)/\(∀e∈pre++[l],-1000000000<=e)/\l<=1000000000-200-m+(min i m:Nat)-1)
  ⟨[],hr,x,z,none,rfl,rfl,by simp,by simp,by simpa using hr0,by simp;omega⟩ (fun i env S _=>by simp) (fun i d env S hd q=>by
   obtain⟨pre,l,x',z',z5,he,hS,hl,hp,hb,hq⟩:=q
   obtain⟨hi,rfl⟩:=Nh hd
   subst he hS
   have hi':min i m=i:=by omega
   rw[hi'] at hl hq
   obtain⟨v,x2,z2,v1,v2,e3⟩:=mH x' y z' m st hr hm h0 h1 pre l i hl (by omega) hq
   rw[Int.zero_add]
   refine⟨_,Ce _ _ _,_,_,e3,pre++[l],v,x2,z2,_,rfl,rfl,by simp;omega,?_,?_,?_⟩
   .refine U32.mpr ⟨hp,by simp,fun a ha b hb'=>?_⟩
    rw[U04.mp hb']
    rcases U12.mp ha with q|q
    .have:=(U32.mp hp).2.2 a q l (by simp);omega
    .rw[U04.mp q];exact v1
   .intro e he
    rcases U12.mp he with q|q
    .exact hb e q
    .rw[U04.mp q]
     have:=hb l (by simp);omega
   .have:min (i+1) m=i+1:=by omega
    rw[this];omega)
 rw[Lk,U44] at hl hq
 subst he hS
 refine⟨pre,l,x',z',z5,?_,hl,hp,hb,by omega⟩
 unfold Oe
 rw[Ej,e]
 exact e2
theorem mG(x y z:Int)(m:Nat)(h1:8<=m)(h2:m<=40):∃(ms:List Int)(x' z':Int),Gg [x,y,z] [.int m]=some (.lst true (ms.map .int),[x',y,z'])/\Mk m ms:=by
 obtain⟨r1,x1,z1,e1,p1,p2⟩:=Du x y z 3 (by decide) (by decide)
 obtain⟨st,f1,st0,st1⟩:∃st:Int,atI [D.int 1,D.int 3,D.int (1000000000/(m:Int))] r1=some (.int st)/\0<st/\st<=1000000000:=by
  have:r1=0∨r1=1∨r1=2:=by omega
  rcases this with rfl|rfl|rfl
  .exact⟨1,by simp,by decide,by decide⟩
  .exact⟨3,by simp,by decide,by decide⟩
  .refine⟨1000000000/(m:Int),by simp,?_,Int.ediv_le_self _ (by decide)⟩
   have:(1:Int)<=1000000000/(m:Int):=(Int.le_ediv_iff_mul_le (by omega)).mpr (by omega)
   omega
 obtain⟨r2,x2,z2,e2,q1,q2⟩:=Du x1 y z1 10 (by decide) (by decide)
 obtain⟨r3,x3,z3,e3,q3,q4⟩:=Du x2 y z2 3 (by decide) (by decide)
 obtain⟨hr,f2,hr0,hr1⟩:∃hr:Int,atI [D.int 0,D.int (0-r2),D.int (-1000000000)] r3=some (.int hr)/\-1000000000<=hr/\hr<=0:=by
  have:r3=0∨r3=1∨r3=2:=by omega
  rcases this with rfl|rfl|rfl
  .exact⟨0,by simp,by decide,by decide⟩
  .exact⟨0-r2,by simp,by omega,by omega⟩
  .exact⟨-1000000000,by simp,by decide,by decide⟩
 obtain⟨pre,l,x4,z4,z5,e4,hl,hp,hb,hq⟩:=qx x3 y z3 m st hr h2 st0 st1 hr0 hr1
 obtain⟨r5,x5,z5',e5,_,_⟩:=Du x4 y z4 3 (by decide) (by decide)
 have hm0:(0:Int)<m:=by omega
 have hm1:(m:Int)<18446744073709551616:=by omega
 have hmN:0<m:=by omega
 have s1:(Bb 2 (eOp oIx (Bl (Aa (eC (.int 1)) (Aa (eC (.int 3)) (Aa (eOp oDiv (eOp Ea (eC (.int 10)) (eC (.int 9))) (Ac 1)) Ae)))) (Az Aj (Aa (Ac 0) (Aa (eC (.int 3)) Ae))))) [some (.ref 0),some (.int m),none,none,none,none] [some [.int x,.int y,.int z]]=some (.nx,[some (.ref 0),some (.int m),some (.int st),none,none,none],[some [.int x1,.int y,.int z1]]):=by
  simp[Bw,Aq,CJ,BJ,BK,Ak,Ci,MP,oI,Te,Li,oDiv,Ea,oIx,VS.listOf,Bx,intsOf,den,Cy,age,Bf,Bd,Aw,-U0e,-U0g,e1,f1,hmN,hm1]
 have s2:(Bb 3 (eOp oIx (Bl (Aa (eC (.int 0)) (Aa (eOp Dk (eC (.int 0)) (Az Aj (Aa (Ac 0) (Aa (eC (.int 10)) Ae)))) (Aa (eOp Dk (eC (.int 0)) (eOp Ea (eC (.int 10)) (eC (.int 9)))) Ae)))) (Az Aj (Aa (Ac 0) (Aa (eC (.int 3)) Ae))))) [some (.ref 0),some (.int m),some (.int st),none,none,none] [some [.int x1,.int y,.int z1]]=some (.nx,[some (.ref 0),some (.int m),some (.int st),some (.int hr),none,none],[some [.int x3,.int y,.int z3]]):=by
  rw[Int.zero_sub] at f2
  simp[Bw,Aq,CJ,BJ,BK,Ak,Ci,MP,oI,HN,Li,Dk,Ea,oIx,VS.listOf,Bx,intsOf,den,Cy,age,Bf,Bd,Aw,-U0e,-U0g,e2,e3,f2]
 have s3:(Bb 4 (Gd (Aa (Ac 3) Ae))) [some (.ref 0),some (.int m),some (.int st),some (.int hr),none,none] [some [.int x3,.int y,.int z3]]=some (.nx,[some (.ref 0),some (.int m),some (.int st),some (.int hr),some (.ref 1),none],[some [.int x3,.int y,.int z3],some [.int hr]]):=by simp[Bw,Aq,BK,Ak,Nj,-U0e,-U0g]
 have t5:∀(a:List D)(c:Int)(x y z x' z' r:Int),Aj [x,y,z] [.int c]=some (.int r,[x',y,z'])->Br (eOp (oEq false) (Az Aj (Aa (Ac 0) (Aa (eC (.int c)) Ae))) (eC (.int 0))) [some (.ref 0),some (.int m),some (.int st),some (.int hr),some (.ref 1),z5] [some [.int x,.int y,.int z],some a]=some (decide (r=0),[some [.int x',.int y,.int z'],some a]):=fun a c x y z x' z' r h=>by
  have t2:Az Aj (Aa (Ac 0) (Aa (eC (.int c)) Ae)) [some (.ref 0),some (.int m),some (.int st),some (.int hr),some (.ref 1),z5] [some [.int x,.int y,.int z],some a]=some (.int r,[some [.int x',.int y,.int z'],some a]) :=
   Hx (ns:=[x,y,z]) (rest:=[.int c]) (es:=[.int c]) (i:=0) (S':=[some [.int x,.int y,.int z],some a]) rfl rfl (by simp[Aw,Bd]) (by simp[Bf,age]) h
  rw[EY,BJ,t2,U0c]
  simp[CJ,oEq,-U0e,-U0g]
 obtain⟨l',hl',s4⟩:∃l':Int,(l'=l∨l'=1000000000)/\(sIf (Br (eOp (oEq false) (Az Aj (Aa (Ac 0) (Aa (eC (.int 3)) Ae))) (eC (.int 0)))) (Jy (eOp Ea (eC (.int 10)) (eC (.int 9))) (Ac 4) (eUn Nr (eC (.int 1)))) Eu) [some (.ref 0),some (.int m),some (.int st),some (.int hr),some (.ref 1),z5] [some [.int x4,.int y,.int z4],some ((pre++[l]).map .int)]=some (.nx,[some (.ref 0),some (.int m),some (.int st),some (.int hr),some (.ref 1),z5],[some [.int x5,.int y,.int z5'],some ((pre++[l']).map .int)]):=by
  have ts:=t5 ((pre++[l]).map .int) 3 x4 y z4 x5 z5' r5 e5
  by_cases h:r5=0
  .rw[decide_eq_true h] at ts
   refine⟨1000000000,.inr rfl,?_⟩
   rw[MF ts,MK]
   have p9:=pow10 9 (by decide) [some (.ref 0),some (.int m),some (.int st),some (.int hr),some (.ref 1),z5] [some [.int x5,.int y,.int z5'],some ((pre++[l]).map .int)]
   have hx:ixN ((pre++[l]).map D.int).length (-1)=some pre.length:=by
    rw[U0k,U0u];exact Tn
   refine(congrArg (fun z=>Option.bind z _) p9).trans ?_
   show(ixN ((pre++[l]).map D.int).length (-1)).bind _=_
   rw[hx]
   show some (Fl.nx,_,[some [.int x5,.int y,.int z5'],some (((pre++[l]).map D.int).set pre.length (.int (10^9)))])=_
   rw[U1u,U1u,List.set_append_right _ _ (by simp)]
   simp
  .rw[decide_eq_false h] at ts
   exact⟨l,.inl rfl,by rw[Lx ts];rfl⟩
 have hp':(pre++[l']).Pairwise (·<·):=by
  obtain⟨a1,_,a3⟩:=U32.mp hp
  refine U32.mpr ⟨a1,by simp,fun a ha b hb'=>?_⟩
  rw[U04.mp hb']
  have:=a3 a ha l (by simp)
  rcases hl' with h|h<;>omega
 have hn':∀e∈pre++[l'],-1000000000<=e/\e<=1000000000:=fun e he=>by
  rcases U12.mp he with q|q
  .have:=hb e (U3z _ q)
   have:=(U32.mp hp).2.2 e q l (by simp)
   omega
  .rw[U04.mp q]
   have:=hb l (by simp)
   rcases hl' with h|h<;>omega
 have len':(pre++[l']).length=m+1:=by simp[hl]
 generalize pre++[l']=ms at *
 obtain⟨r6,x6,z6,e6,_,_⟩:=Du x5 y z5' 6 (by decide) (by decide)
 obtain⟨ns,hns,s5⟩:∃ns:List Int,Mk m ns/\(sIf (Br (eOp (oEq false) (Az Aj (Aa (Ac 0) (Aa (eC (.int 6)) Ae))) (eC (.int 0)))) (Jy (eOp Dk (eC (.int 0)) (eOp Ea (eC (.int 10)) (eC (.int 9)))) (Ac 4) (eC (.int 0))) Eu) [some (.ref 0),some (.int m),some (.int st),some (.int hr),some (.ref 1),z5] [some [.int x5,.int y,.int z5'],some (ms.map .int)]=some (.nx,[some (.ref 0),some (.int m),some (.int st),some (.int hr),some (.ref 1),z5],[some [.int x6,.int y,.int z6],some (ns.map .int)]):=by
  have ts:=t5 (ms.map .int) 6 x5 y z5' x6 z6 r6 e6
  by_cases h:r6=0
  .rw[decide_eq_true h] at ts
   cases ms with
   |nil=>simp at len'
   |cons a r =>
    refine⟨-1000000000::r,⟨?_,by simpa using len',fun e he=>?_⟩,?_⟩
    .obtain⟨a1,a2⟩:=U13.mp hp'
     refine U13.mpr ⟨fun b hb'=>?_,a2⟩
     have:=a1 b hb'
     have:=hn' a U0z
     omega
    .rcases U0o.mp he with q|q
     .omega
     .exact hn' e (U0t _ q)
    .have w1:eOp Dk (eC (.int 0)) (eOp Ea (eC (.int 10)) (eC (.int 9))) [some (.ref 0),some (.int m),some (.int st),some (.int hr),some (.ref 1),z5] [some [.int x6,.int y,.int z6],some ((a::r).map .int)]=some (.int (-1000000000),[some [.int x6,.int y,.int z6],some ((a::r).map .int)]):=by simp[CJ,BJ,oI,HN,Li,Dk,Ea,-U0e,-U0g]
     rw[MF ts,MK,w1]
     show(ixN ((a::r).map D.int).length 0).bind _=_
     rw[U0s,U0j,oM]
     rfl
  .rw[decide_eq_false h] at ts
   exact⟨ms,⟨hp',len',hn'⟩,by rw[Lx ts];rfl⟩
 refine⟨ns,x6,z6,?_,hns⟩
 unfold Gg
 rw[Kl]
 simp only[U0j,U1o,U0s,U1m,U2k,U2l,U0r,U1s,U2f,U1x,if_true]
 unfold T5
 rw[BZ s1,BZ s2,BZ s3,BZ e4,BZ s4,BZ s5]
 simp[Cr,Aq,intsOf,den,-U0e,-U0g]
end W18
end
section
namespace W18
open PySem L2 VS
theorem at2(a b c:Option (List D))(R:Store):(a::b::(R++[c]))[R.length+2]?=some c:=by
 show(R++[c])[R.length]?=some c
 exact Vt R c []
theorem put2(a b c d:Option (List D))(R:Store):(a::b::(R++[c])).set (R.length+2) d=a::b::(R++[d]):=by
 show a::b::(R++[c]).set R.length d=_
 rw[uJ R c d []]
theorem Ih{x y z c r x' z':Int}{a:Ba}{env:VS.Env}{S:Store}(h:Aj [x,y,z] [.int c]=some (.int r,[x',y,z']))(h0:env[0]?=some (some (.ref 0)))(ha:a env (some [.int x,.int y,.int z]::S)=some (.int c,some [.int x,.int y,.int z]::S)):Az Aj (Aa (Ac 0) (Aa a Ae)) env (some [.int x,.int y,.int z]::S)=some (.int r,some [.int x',.int y,.int z']::S):=by
 have v0:Ac 0 env (some [.int x,.int y,.int z]::S)=some (.ref 0,some [.int x,.int y,.int z]::S):=by rw[Aq,h0];rfl
 exact Hx (ns:=[x,y,z]) (rest:=[.int c]) (es:=[.int c]) (i:=0) (S':=some [.int x,.int y,.int z]::S) (by rw[Ak,v0,U0c,Ak,ha];rfl) rfl (by simp[Aw,Bd]) (by simp[Bf,age]) h
theorem lC(x y z:Int)(e1 e2 e3 e4 z7 z9 z10 z11 z12:Option D)(wd:Int)(h0:0<wd)(h1:wd<=40)(f:List D)(R:Store)(bx:List St2)(hb:bx.length<=3):∃(p:St2)(x' z':Int),(0<=p.1/\p.1<p.2/\p.2<=wd) /\
  Ld [some (.ref 0),e1,e2,e3,e4,some (.int wd),some (.ref 1),z7,some (.ref (R.length+2)),z9,z10,z11,z12] (some [.int x,.int y,.int z]::some f::(R++[some (bx.map Am)]))=some (.nx,[some (.ref 0),e1,e2,e3,e4,some (.int wd),some (.ref 1),z7,some (.ref (R.length+2)),z9,some (.int p.1),z11,z12],some [.int x',.int y,.int z']::some f::(R++[some ((bx++[p]).map Am)])):=by
 obtain⟨lo,x1,z1,t1,l0,l1⟩:=Du x y z wd h0 (by omega)
 obtain⟨u,x2,z2,t2,u0,u1⟩:=Du x1 y z1 (wd-lo) (by omega) (by omega)
 obtain⟨r,x3,z3,t3,r0,r1⟩:=Du x2 y z2 2 (by decide) (by decide)
 obtain⟨k,f1,k0,k1⟩:∃k:Int,atI [D.int 0,D.int u] r=some (.int k)/\0<=k/\k<wd-lo:=by
  have:r=0∨r=1:=by omega
  rcases this with rfl|rfl
  .exact⟨0,by simp,by decide,by omega⟩
  .exact⟨u,by simp,u0,u1⟩
 refine⟨(lo,lo+1+k),x3,z3,⟨l0,by show lo<lo+1+k;omega,by show lo+1+k<=wd;omega⟩,?_⟩
 have s1:(Bb 10 (Az Aj (Aa (Ac 0) (Aa (Ac 5) Ae)))) [some (.ref 0),e1,e2,e3,e4,some (.int wd),some (.ref 1),z7,some (.ref (R.length+2)),z9,z10,z11,z12] (some [.int x,.int y,.int z]::some f::(R++[some (bx.map Am)]))=some (.nx,[some (.ref 0),e1,e2,e3,e4,some (.int wd),some (.ref 1),z7,some (.ref (R.length+2)),z9,some (.int lo),z11,z12],some [.int x1,.int y,.int z1]::some f::(R++[some (bx.map Am)])):=by
  rw[Bw,Ih t1 rfl rfl];rfl
 have q2:Az Aj (Aa (Ac 0) (Aa (eOp Dk (Ac 5) (Ac 10)) Ae)) [some (.ref 0),e1,e2,e3,e4,some (.int wd),some (.ref 1),z7,some (.ref (R.length+2)),z9,some (.int lo),z11,z12] (some [.int x1,.int y,.int z1]::some f::(R++[some (bx.map Am)]))=some (.int u,some [.int x2,.int y,.int z2]::some f::(R++[some (bx.map Am)])):=Ih t2 rfl rfl
 have q3:Az Aj (Aa (Ac 0) (Aa (eC (.int 2)) Ae)) [some (.ref 0),e1,e2,e3,e4,some (.int wd),some (.ref 1),z7,some (.ref (R.length+2)),z9,some (.int lo),z11,z12] (some [.int x2,.int y,.int z2]::some f::(R++[some (bx.map Am)]))=some (.int r,some [.int x3,.int y,.int z3]::some f::(R++[some (bx.map Am)])):=Ih t3 rfl rfl
 have q4:eOp oIx (Bl (Aa (eC (.int 0)) (Aa (Az Aj (Aa (Ac 0) (Aa (eOp Dk (Ac 5) (Ac 10)) Ae))) Ae))) (Az Aj (Aa (Ac 0) (Aa (eC (.int 2)) Ae))) [some (.ref 0),e1,e2,e3,e4,some (.int wd),some (.ref 1),z7,some (.ref (R.length+2)),z9,some (.int lo),z11,z12] (some [.int x1,.int y,.int z1]::some f::(R++[some (bx.map Am)]))=some (.int k,some [.int x3,.int y,.int z3]::some f::(R++[some (bx.map Am)])):=by
  rw[BJ,Ci,Ak,CJ,U0c,Ak,q2,U0c,BK,U0c]
  simp only[U0c]
  rw[q3,U0c]
  show U2x _ (atI [D.int 0,D.int u] r)=_
  rw[f1];rfl
 have v10:∀S:Store,Ac 10 [some (.ref 0),e1,e2,e3,e4,some (.int wd),some (.ref 1),z7,some (.ref (R.length+2)),z9,some (.int lo),z11,z12] S=some (.int lo,S):=fun S=>rfl
 unfold Ld
 rw[BZ s1,HW,J8 (d:=.ref (R.length+2)) (cs:=bx.map Am) (ds:=[Am (lo,lo+1+k)]) (r:=.non) (S1:=some [.int x1,.int y,.int z1]::some f::(R++[some (bx.map Am)])) (S2:=some [.int x3,.int y,.int z3]::some f::(R++[some (bx.map Am)])) (S3:=some [.int x3,.int y,.int z3]::some f::(R++[some ((bx++[(lo,lo+1+k)]).map Am)])) (by rw[Aq];simp[at2]) (by rw[VS.listOf,at2];rfl) (by
  rw[Ak,Gs,Ak,v10,U0c,Ak,BJ,BJ,v10,U0c,CJ,U0c]
  show(((((some (D.int (lo+1),_):Option (D×Store)).bind _).bind _).bind _).bind _).bind _=_
  rw[U0c,q4]
  rfl) (by
  unfold Gb
  simp only[at2]
  rw[if_pos (by rw[U0k];omega),put2,U1u]
  rfl)]
 rfl
end W18
end
section
namespace W18
open PySem L2 VS
theorem lB(x y z:Int)(n:Nat)(hn:n<=3)(e2 e3 e4 z7 z8 z9 z10 z11 z12:Option D)(wd:Int)(h0:0<wd)(h1:wd<=40)(bs:List (List St2))(hbs:bs.length<=100)(R:Store):∃(b:List St2)(x' z':Int)(R':Store)(y8 y9 y10:Option D),Sm n wd b /\
  Lb [some (.ref 0),some (.int n),e2,e3,e4,some (.int wd),some (.ref 1),z7,z8,z9,z10,z11,z12] (some [.int x,.int y,.int z]::some (bs.map Af)::R)=some (.nx,[some (.ref 0),some (.int n),e2,e3,e4,some (.int wd),some (.ref 1),z7,y8,y9,y10,z11,z12],some [.int x',.int y,.int z']::some ((bs++[b]).map Af)::R'):=by
 have s1:(Bb 8 (Gd Ae)) [some (.ref 0),some (.int n),e2,e3,e4,some (.int wd),some (.ref 1),z7,z8,z9,z10,z11,z12] (some [.int x,.int y,.int z]::some (bs.map Af)::R)=some (.nx,[some (.ref 0),some (.int n),e2,e3,e4,some (.int wd),some (.ref 1),z7,some (.ref (R.length+2)),z9,z10,z11,z12],some [.int x,.int y,.int z]::some (bs.map Af)::(R++[some (([]:List St2).map Am)])):=rfl
 have e:Dn (Aa (Ac 1) Ae) [some (.ref 0),some (.int n),e2,e3,e4,some (.int wd),some (.ref 1),z7,some (.ref (R.length+2)),z9,z10,z11,z12] (some [.int x,.int y,.int z]::some (bs.map Af)::(R++[some (([]:List St2).map Am)]))=some ((upD 0 n,[]),some [.int x,.int y,.int z]::some (bs.map Af)::(R++[some (([]:List St2).map Am)])):=Jz _ rfl (by simp) (by omega) (by omega)
 obtain⟨env',S',e5,bx,x',z',y9,y10,he,hS,hl,hb⟩:=Dw (w:=[]) (g:=Pat.sem (.nm 9)) (b:=Ld) (ds:=upD 0 n) (env:=[some (.ref 0),some (.int n),e2,e3,e4,some (.int wd),some (.ref 1),z7,some (.ref (R.length+2)),z9,z10,z11,z12]) (S:=some [.int x,.int y,.int z]::some (bs.map Af)::(R++[some (([]:List St2).map Am)]))
  (fun i env S=>∃(bx:List St2)(x' z':Int)(y9 y10:Option D),env=[some (.ref 0),some (.int n),e2,e3,e4,some (.int wd),some (.ref 1),z7,some (.ref (R.length+2)),y9,y10,z11,z12]/\S=some [.int x',.int y,.int z']::some (bs.map Af)::(R++[some (bx.map Am)])/\bx.length=min i n/\∀p∈bx,0<=p.1/\p.1<p.2/\p.2<=wd)
  ⟨[],x,z,z9,z10,rfl,rfl,by simp,fun p h=>by cases h⟩ (fun i env S _=>by simp) (fun i d env S hd q=>by
   obtain⟨bx,x',z',y9,y10,he,hS,hl,hb⟩:=q
   obtain⟨hi,rfl⟩:=Nh hd
   subst he hS
   obtain⟨p,x2,z2,hp,e6⟩:=lC x' y z' (some (.int n)) e2 e3 e4 z7 (some (.int (0+i))) y10 z11 z12 wd h0 h1 (bs.map Af) R bx (by omega)
   refine⟨_,Ce _ _ _,_,_,e6,bx++[p],x2,z2,_,_,rfl,rfl,by simp;omega,fun q hq=>?_⟩
   rcases U12.mp hq with h|h
   .exact hb q h
   .rw[U04.mp h];exact hp)
 rw[Lk,U44] at hl
 subst he hS
 have l1:Od [some (.ref 0),some (.int n),e2,e3,e4,some (.int wd),some (.ref 1),z7,some (.ref (R.length+2)),z9,z10,z11,z12] (some [.int x,.int y,.int z]::some (bs.map Af)::(R++[some (([]:List St2).map Am)]))=some (.nx,[some (.ref 0),some (.int n),e2,e3,e4,some (.int wd),some (.ref 1),z7,some (.ref (R.length+2)),y9,y10,z11,z12],some [.int x',.int y,.int z']::some (bs.map Af)::(R++[some (bx.map Am)])):=by
  unfold Od
  rw[Ej,e]
  exact e5
 refine⟨bx,x',z',R++[some (bx.map Am)],some (.ref (R.length+2)),y9,y10,⟨hl,hb⟩,?_⟩
 unfold Lb
 rw[BZ s1,BZ l1,HW,J8 (d:=.ref 1) (cs:=bs.map Af) (ds:=[Af bx]) (r:=.non) (S1:=some [.int x',.int y,.int z']::some (bs.map Af)::(R++[some (bx.map Am)])) (S2:=some [.int x',.int y,.int z']::some (bs.map Af)::(R++[some (bx.map Am)])) (S3:=some [.int x',.int y,.int z']::some ((bs++[bx]).map Af)::(R++[some (bx.map Am)])) rfl rfl (by
  have v8:Ac 8 [some (.ref 0),some (.int n),e2,e3,e4,some (.int wd),some (.ref 1),z7,some (.ref (R.length+2)),y9,y10,z11,z12] (some [.int x',.int y,.int z']::some (bs.map Af)::(R++[some (bx.map Am)]))=some (.ref (R.length+2),some [.int x',.int y,.int z']::some (bs.map Af)::(R++[some (bx.map Am)])):=by rw[Aq];simp[at2]
  rw[Ak,Df,Ak,v8]
  simp[BK,Nv,Bx,VS.listOf,at2,Af]) (by
  show(if (bs.map Af).length<1000000 then some (D.non,some [.int x',.int y,.int z']::some (bs.map Af++[Af bx])::(R++[some (bx.map Am)])) else none)=_
  rw[if_pos (by rw[U0k];omega),U1u]
  rfl)]
 rfl
theorem kj(x y z:Int)(n c:Nat)(hn:n<=3)(hc:c<=20)(e2 e3:Option D)(wd:Int)(h0:0<wd)(h1:wd<=40):∃(bs:List (List St2))(x' z':Int)(R':Store)(y7 y8 y9 y10:Option D),bs.length=c/\(∀b∈bs,Sm n wd b) /\
  Oc [some (.ref 0),some (.int n),e2,e3,some (.int c),some (.int wd),some (.ref 1),none,none,none,none,none,none] [some [.int x,.int y,.int z],some []]=some (.nx,[some (.ref 0),some (.int n),e2,e3,some (.int c),some (.int wd),some (.ref 1),y7,y8,y9,y10,none,none],some [.int x',.int y,.int z']::some (bs.map Af)::R'):=by
 have e:Dn (Aa (Ac 4) Ae) [some (.ref 0),some (.int n),e2,e3,some (.int c),some (.int wd),some (.ref 1),none,none,none,none,none,none] [some [.int x,.int y,.int z],some []]=some ((upD 0 c,[]),[some [.int x,.int y,.int z],some []]):=Jz _ rfl (by simp) (by omega) (by omega)
 obtain⟨env',S',e5,bs,x',z',R',y7,y8,y9,y10,he,hS,hl,hb⟩:=Dw (w:=[]) (g:=Pat.sem (.nm 7)) (b:=Lb) (ds:=upD 0 c) (env:=[some (.ref 0),some (.int n),e2,e3,some (.int c),some (.int wd),some (.ref 1),none,none,none,none,none,none]) (S:=[some [.int x,.int y,.int z],some []])
  (fun i env S=>∃(bs:List (List St2))(x' z':Int)(R':Store)(y7 y8 y9 y10:Option D),env=[some (.ref 0),some (.int n),e2,e3,some (.int c),some (.int wd),some (.ref 1),y7,y8,y9,y10,none,none]/\S=some [.int x',.int y,.int z']::some (bs.map Af)::R'/\bs.length=min i c/\∀b∈bs,Sm n wd b)
  ⟨[],x,z,[],none,none,none,none,rfl,rfl,by simp,fun p h=>by cases h⟩ (fun i env S _=>by simp) (fun i d env S hd q=>by
   obtain⟨bs,x',z',R',y7,y8,y9,y10,he,hS,hl,hb⟩:=q
   obtain⟨hi,rfl⟩:=Nh hd
   subst he hS
   obtain⟨b,x2,z2,R2,w8,w9,w10,hb2,e6⟩:=lB x' y z' n hn e2 e3 (some (.int c)) (some (.int (0+i))) y8 y9 y10 none none wd h0 h1 bs (by omega) R'
   refine⟨_,Ce _ _ _,_,_,e6,bs++[b],x2,z2,R2,_,_,_,_,rfl,rfl,by simp;omega,fun q hq=>?_⟩
   rcases U12.mp hq with h|h
   .exact hb q h
   .rw[U04.mp h];exact hb2)
 rw[Lk,U44] at hl
 subst he hS
 refine⟨bs,x',z',R',y7,y8,y9,y10,hl,hb,?_⟩
 unfold Oc
 rw[Ej,e]
 exact e5
end W18
end
section
namespace W18
open PySem L2 VS
theorem sZ{α:Type}{F:α->D}(bs:List α){r:Int}(h0:0<=r):∃cs:List α,cut (bs.map F) none (some r)=cs.map F/\(cs.length:Int)<=r/\∀c∈cs,c∈bs:=by
 unfold cut
 rw[←List.map_drop,←List.map_take]
 refine⟨_,rfl,?_,fun c hc=>List.mem_of_mem_drop (List.mem_of_mem_take hc)⟩
 rw[U2t,U0k]
 have h1:HT.sIx bs.length 0 none=0:=rfl
 have h2:HT.sIx bs.length bs.length (some r)<=r.toNat:=by
  unfold HT.sIx
  simp only
  split<;>omega
 omega
def Hold(F:D)(T:Store)(bs:List (List St2)):Prop:=F=.lst true (bs.map Af)∨∃j,F=.ref (j+1)/\T[j]?=some (some (bs.map Af))
theorem QM{a b:Ew}{env:VS.Env}{S:Store}{p q:Prop}[Decidable p][Decidable q](h1:a env S=some (decide p,S))(h2:b env S=some (decide q,S)):Ku a b env S=some (decide (p/\q),S):=by
 rw[pO,h1,U0c]
 by_cases h:p
 .simp[h,h2]
 .simp[h]
theorem kZ(x y z:Int)(n:Nat)(e2 e3 y7 y8 y9 y10 y12:Option D)(c:Nat)(hc:c<=20)(wd kind:Int)(bs:List (List St2))(hl:bs.length=c)(R:Store)(P:List St2->Prop)(hP:∀b∈bs,P b):∃(bs':List (List St2))(x' z':Int),bs'.length=c/\(∀b∈bs',P b) /\
  (sIf (Ku (Br (eOp (oEq false) (Ac 11) (eC (.int 1)))) (Br (eOp oGt (Ac 4) (eC (.int 1))))) (Jy (eOp oIx (Ac 6) (Az Aj (Aa (Ac 0) (Aa (eOp Dk (Ac 4) (eC (.int 1))) Ae)))) (Ac 6) (eUn Nr (eC (.int 1)))) Eu) [some (.ref 0),some (.int n),e2,e3,some (.int c),some (.int wd),some (.ref 1),y7,y8,y9,y10,some (.int kind),y12] (some [.int x,.int y,.int z]::some (bs.map Af)::R) =
  some (.nx,[some (.ref 0),some (.int n),e2,e3,some (.int c),some (.int wd),some (.ref 1),y7,y8,y9,y10,some (.int kind),y12],some [.int x',.int y,.int z']::some (bs'.map Af)::R):=by
 have k1:Br (eOp (oEq false) (Ac 11) (eC (.int 1))) [some (.ref 0),some (.int n),e2,e3,some (.int c),some (.int wd),some (.ref 1),y7,y8,y9,y10,some (.int kind),y12] (some [.int x,.int y,.int z]::some (bs.map Af)::R)=some (decide (kind=1),some [.int x,.int y,.int z]::some (bs.map Af)::R):=by simp[Aq,CJ,BJ,EY,oEq,-U0e,-U0g]
 have k2:Br (eOp oGt (Ac 4) (eC (.int 1))) [some (.ref 0),some (.int n),e2,e3,some (.int c),some (.int wd),some (.ref 1),y7,y8,y9,y10,some (.int kind),y12] (some [.int x,.int y,.int z]::some (bs.map Af)::R)=some (decide (1<(c:Int)),some [.int x,.int y,.int z]::some (bs.map Af)::R):=rfl
 have ts:Ku (Br (eOp (oEq false) (Ac 11) (eC (.int 1)))) (Br (eOp oGt (Ac 4) (eC (.int 1)))) [some (.ref 0),some (.int n),e2,e3,some (.int c),some (.int wd),some (.ref 1),y7,y8,y9,y10,some (.int kind),y12] (some [.int x,.int y,.int z]::some (bs.map Af)::R)=some (decide (kind=1/\1<(c:Int)),some [.int x,.int y,.int z]::some (bs.map Af)::R):=QM k1 k2
 by_cases h:kind=1/\1<(c:Int)
 .rw[decide_eq_true h] at ts
  obtain⟨r,x',z',t1,r0,r1⟩:=Du x y z ((c:Int)-1) (by omega) (by omega)
  have hr:r.toNat<bs.length:=by omega
  refine⟨bs.set (c-1) bs[r.toNat],x',z',by rw[U31];exact hl,fun b hb=>?_,?_⟩
  .rcases List.mem_or_eq_of_mem_set hb with q|q
   .exact hP b q
   .rw[q];exact hP _ (U1f hr)
  .have q1:eOp oIx (Ac 6) (Az Aj (Aa (Ac 0) (Aa (eOp Dk (Ac 4) (eC (.int 1))) Ae))) [some (.ref 0),some (.int n),e2,e3,some (.int c),some (.int wd),some (.ref 1),y7,y8,y9,y10,some (.int kind),y12] (some [.int x,.int y,.int z]::some (bs.map Af)::R)=some (Af bs[r.toNat],some [.int x',.int y,.int z']::some (bs.map Af)::R):=by
    have v6:Ac 6 [some (.ref 0),some (.int n),e2,e3,some (.int c),some (.int wd),some (.ref 1),y7,y8,y9,y10,some (.int kind),y12] (some [.int x,.int y,.int z]::some (bs.map Af)::R)=some (.ref 1,some [.int x,.int y,.int z]::some (bs.map Af)::R):=rfl
    rw[BJ,v6,U0c,Ih t1 rfl rfl,U0c]
    show U2x _ (atI (bs.map Af) r)=_
    rw[gG (j:=r.toNat) (by omega) (by simpa using hr)]
    simp
   rw[MF ts,MK,q1]
   show(ixN (bs.map Af).length (-1)).bind _=_
   have hx:ixN (bs.map Af).length (-1)=some (c-1):=by
    rw[U0k,hl,show c=(c-1)+1 by omega];exact Tn
   rw[hx]
   show some (Fl.nx,_,some [.int x',.int y,.int z']::some ((bs.map Af).set (c-1) (Af bs[r.toNat]))::R)=_
   rw[←List.map_set]
 .rw[decide_eq_false h] at ts
  exact⟨bs,x,z,hl,hP,by rw[Lx ts];rfl⟩
theorem qF:∀b∈[[((0:Int),(3:Int)),(0,1)],[(0,3),(2,3)],[(0,1),(0,3)],[(2,3),(0,3)]],Sm 2 3 b:=by
 intro b hb
 simp only[U0o,U02,or_false] at hb
 rcases hb with rfl|rfl|rfl|rfl<;>exact⟨rfl,by decide⟩
theorem kY(x y z:Int)(n most:Nat)(h4:4<=most)(h20:most<=20)(e3 y7 y8 y9 y10 y12:Option D)(c:Nat)(wd kind:Int)(bs:List (List St2))(hl:bs.length<=most)(R:Store)(m:Int)(hm:3<=m)(hP:∀b∈bs,Sm n m b):∃(bs':List (List St2))(x' z':Int)(F:D)(w12:Option D),Hold F (some (bs.map Af)::R) bs'/\bs'.length<=most/\(∀b∈bs',Sm n m b) /\
  (sIf (Ku (Br (eOp (oEq false) (Ac 1) (eC (.int 2)))) (Br (eOp (oEq false) (Ac 11) (eC (.int 2)))))
  (Bh (Bb 12 (Bl (Aa (BW (Aa (BW (Aa (eC (.int 0)) (Aa (eC (.int 3)) Ae))) (Aa (BW (Aa (eC (.int 0)) (Aa (eC (.int 1)) Ae))) Ae))) (Aa (BW (Aa (BW (Aa (eC (.int 0)) (Aa (eC (.int 3)) Ae))) (Aa (BW (Aa (eC (.int 2)) (Aa (eC (.int 3)) Ae))) Ae))) (Aa (BW (Aa (BW (Aa (eC (.int 0)) (Aa (eC (.int 1)) Ae))) (Aa (BW (Aa (eC (.int 0)) (Aa (eC (.int 3)) Ae))) Ae))) (Aa (BW (Aa (BW (Aa (eC (.int 2)) (Aa (eC (.int 3)) Ae))) (Aa (BW (Aa (eC (.int 0)) (Aa (eC (.int 3)) Ae))) Ae))) Ae))))))
  (Bb 6 (eOp Cm (Ac 12) (eSl oSl (Ac 6) N7 (N6 (Az Aj (Aa (Ac 0) (Aa (eOp Dk (Ac 2) (eC (.int 3))) Ae))))))))
  Eu) [some (.ref 0),some (.int n),some (.int most),e3,some (.int c),some (.int wd),some (.ref 1),y7,y8,y9,y10,some (.int kind),y12] (some [.int x,.int y,.int z]::some (bs.map Af)::R) =
  some (.nx,[some (.ref 0),some (.int n),some (.int most),e3,some (.int c),some (.int wd),some F,y7,y8,y9,y10,some (.int kind),w12],some [.int x',.int y,.int z']::some (bs.map Af)::R):=by
 have k1:Br (eOp (oEq false) (Ac 1) (eC (.int 2))) [some (.ref 0),some (.int n),some (.int most),e3,some (.int c),some (.int wd),some (.ref 1),y7,y8,y9,y10,some (.int kind),y12] (some [.int x,.int y,.int z]::some (bs.map Af)::R)=some (decide ((n:Int)=2),some [.int x,.int y,.int z]::some (bs.map Af)::R):=by simp[Aq,CJ,BJ,EY,oEq,-U0e,-U0g]
 have k2:Br (eOp (oEq false) (Ac 11) (eC (.int 2))) [some (.ref 0),some (.int n),some (.int most),e3,some (.int c),some (.int wd),some (.ref 1),y7,y8,y9,y10,some (.int kind),y12] (some [.int x,.int y,.int z]::some (bs.map Af)::R)=some (decide (kind=2),some [.int x,.int y,.int z]::some (bs.map Af)::R):=by simp[Aq,CJ,BJ,EY,oEq,-U0e,-U0g]
 have ts:=QM k1 k2
 by_cases h:(n:Int)=2/\kind=2
 .rw[decide_eq_true h] at ts
  have hn:n=2:=by omega
  obtain⟨r,x',z',t1,r0,r1⟩:=Du x y z ((most:Int)-3) (by omega) (by omega)
  obtain⟨cs,c1,c2,c3⟩:=sZ (F:=Af) bs r0
  refine⟨[[((0:Int),(3:Int)),(0,1)],[(0,3),(2,3)],[(0,1),(0,3)],[(2,3),(0,3)]]++cs,x',z',.lst true (([[((0:Int),(3:Int)),(0,1)],[(0,3),(2,3)],[(0,1),(0,3)],[(2,3),(0,3)]]++cs).map Af),some (.lst true ([[((0:Int),(3:Int)),(0,1)],[(0,3),(2,3)],[(0,1),(0,3)],[(2,3),(0,3)]].map Af)),.inl rfl,by simp;omega,fun b hb=>?_,?_⟩
  .rcases U12.mp hb with q|q
   .have:=qF b q
    exact⟨by rw[hn];exact this.len,fun p hp=>by have:=this.all p hp;omega⟩
   .exact hP b (c3 b q)
  .rw[MF ts]
   have s1:∀a:BX,(a=(Aa (BW (Aa (BW (Aa (eC (.int 0)) (Aa (eC (.int 3)) Ae))) (Aa (BW (Aa (eC (.int 0)) (Aa (eC (.int 1)) Ae))) Ae))) (Aa (BW (Aa (BW (Aa (eC (.int 0)) (Aa (eC (.int 3)) Ae))) (Aa (BW (Aa (eC (.int 2)) (Aa (eC (.int 3)) Ae))) Ae))) (Aa (BW (Aa (BW (Aa (eC (.int 0)) (Aa (eC (.int 1)) Ae))) (Aa (BW (Aa (eC (.int 0)) (Aa (eC (.int 3)) Ae))) Ae))) (Aa (BW (Aa (BW (Aa (eC (.int 2)) (Aa (eC (.int 3)) Ae))) (Aa (BW (Aa (eC (.int 0)) (Aa (eC (.int 3)) Ae))) Ae))) Ae)))))->(Bb 12 (Bl a)) [some (.ref 0),some (.int n),some (.int most),e3,some (.int c),some (.int wd),some (.ref 1),y7,y8,y9,y10,some (.int kind),y12] (some [.int x,.int y,.int z]::some (bs.map Af)::R)=some (.nx,[some (.ref 0),some (.int n),some (.int most),e3,some (.int c),some (.int wd),some (.ref 1),y7,y8,y9,y10,some (.int kind),some (.lst true ([[((0:Int),(3:Int)),(0,1)],[(0,3),(2,3)],[(0,1),(0,3)],[(2,3),(0,3)]].map Af))],some [.int x,.int y,.int z]::some (bs.map Af)::R):=fun a ha=>by rw[ha];rfl
   rw[BZ (s1 _ rfl),Bw,BJ]
   have v12:∀(g:Option D)(S:Store),Ac 12 [some (.ref 0),some (.int n),some (.int most),e3,some (.int c),some (.int wd),some (.ref 1),y7,y8,y9,y10,some (.int kind),some (.lst true ([[((0:Int),(3:Int)),(0,1)],[(0,3),(2,3)],[(0,1),(0,3)],[(2,3),(0,3)]].map Af))] S=some (.lst true ([[((0:Int),(3:Int)),(0,1)],[(0,3),(2,3)],[(0,1),(0,3)],[(2,3),(0,3)]].map Af),S):=fun _ S=>rfl
   have v6:∀(S:Store),S[1]?=some (some (bs.map Af))->Ac 6 [some (.ref 0),some (.int n),some (.int most),e3,some (.int c),some (.int wd),some (.ref 1),y7,y8,y9,y10,some (.int kind),some (.lst true ([[((0:Int),(3:Int)),(0,1)],[(0,3),(2,3)],[(0,1),(0,3)],[(2,3),(0,3)]].map Af))] S=some (.ref 1,S):=fun S _=>rfl
   have q1:eSl oSl (Ac 6) N7 (N6 (Az Aj (Aa (Ac 0) (Aa (eOp Dk (Ac 2) (eC (.int 3))) Ae)))) [some (.ref 0),some (.int n),some (.int most),e3,some (.int c),some (.int wd),some (.ref 1),y7,y8,y9,y10,some (.int kind),some (.lst true ([[((0:Int),(3:Int)),(0,1)],[(0,3),(2,3)],[(0,1),(0,3)],[(2,3),(0,3)]].map Af))] (some [.int x,.int y,.int z]::some (bs.map Af)::R)=some (.lst true (cs.map Af),some [.int x',.int y,.int z']::some (bs.map Af)::R):=by
    rw[fu,v6 _ rfl,U0c,Yv,U0c,Yu,Ih t1 rfl rfl]
    show(some (D.lst true (cut (bs.map Af) none (some r)),some [.int x',.int y,.int z']::some (bs.map Af)::R):Option (D×Store))=_
    rw[c1]
   rw[v12 none,U0c,q1,U0c]
   show(U2x _ (if ([[((0:Int),(3:Int)),(0,1)],[(0,3),(2,3)],[(0,1),(0,3)],[(2,3),(0,3)]].map Af).length+(cs.map Af).length<=1000000 then some (D.lst true ([[((0:Int),(3:Int)),(0,1)],[(0,3),(2,3)],[(0,1),(0,3)],[(2,3),(0,3)]].map Af++cs.map Af)) else none)).bind _=_
   rw[if_pos (by simp;omega),←U1u]
   rfl
 .rw[decide_eq_false h] at ts
  exact⟨bs,x,z,.ref 1,y12,.inr ⟨0,rfl,rfl⟩,hl,hP,by rw[Lx ts];rfl⟩
end W18
end
section
namespace W18
open PySem L2 VS
def lat(i:Nat):List St2:=[(((i:Int)*2)%3,((i:Int)*2)%3+1),(((i:Int)*2)/3,((i:Int)*2)/3+1)]
theorem wH{i:Nat}{m:Int}(hi:i<10)(hm:8<=m):Sm 2 m (lat i):=by
 refine⟨rfl,fun p hp=>?_⟩
 unfold lat at hp
 simp only[U0o,U02,or_false] at hp
 rcases hp with rfl|rfl
 .simp only;omega
 .simp only;omega
theorem lA(r:VS.Env)(S:Store)(most:Nat)(hm:most<=20)(h:r[2]?=some (some (.int most))):La r S=some ((U0n most).map (fun i=>Af (lat i)),S):=by
 have e:SN (Aa (eC (.int 0)) (Aa (eOp Hw (eC (.int 2)) (Ac 2)) (Aa (eC (.int 2)) Ae))) r S=some ((upW 0 most,[]),S):=by
  have a1:Aa (eC (.int 0)) (Aa (eOp Hw (eC (.int 2)) (Ac 2)) (Aa (eC (.int 2)) Ae)) r S=some ([.int 0,.int (2*most),.int 2],S):=by simp[Aq,CJ,BJ,BK,Ak,R0,Hw,VS.listOf,-U0e,-U0g,h]
  have e2:Ls 0 (2*(most:Int))=most:=by unfold Ls;omega
  rw[eY,a1,U0c]
  show(if (-1000000<=(0:Int)/\(0:Int)<=1000000)/\-1000000<=2*(most:Int)/\2*(most:Int)<=1000000 then some ((upW 0 (Ls 0 (2*(most:Int))),([]:List (Nat×List D))),S) else none)=_
  rw[if_pos ⟨⟨by decide,by decide⟩,by omega,by omega⟩,e2]
 unfold La CZ
 rw[e]
 simp only[U0c]
 unfold upW
 rw[JB (by simp) (fun i:Nat=>D.int (0+(i:Nat)*2)) (fun i=>Af (lat i)) (U0n most) (by simp;omega)]
 intro i _
 exact⟨_,Ce _ _ _,by simp[Aq,CJ,BJ,BK,Ak,Gs,G7,oI,Te,R6,Cm,oDiv,oMod,VS.listOf,U0r,-U0e,-U0g,Af,Am,lat]⟩
theorem kW(p:List D)(n most:Nat)(h20:most<=20)(h2:n=2->most<=10)(e3 y7 y8 y9 y10 y12:Option D)(c:Nat)(wd kind:Int)(F:D)(T:Store)(bs:List (List St2))(hF:Hold F T bs)(hl:bs.length<=most)(m:Int)(hm:8<=m)(hP:∀b∈bs,Sm n m b):∃(bs':List (List St2))(F':D)(T':Store),Hold F' T' bs'/\bs'.length<=most/\(∀b∈bs',Sm n m b) /\
  (sIf (Ku (Br (eOp (oEq false) (Ac 1) (eC (.int 2)))) (Br (eOp (oEq false) (Ac 11) (eC (.int 3))))) (Bb 6 (Gd La)) Eu) [some (.ref 0),some (.int n),some (.int most),e3,some (.int c),some (.int wd),some F,y7,y8,y9,y10,some (.int kind),y12] (some p::T) =
  some (.nx,[some (.ref 0),some (.int n),some (.int most),e3,some (.int c),some (.int wd),some F',y7,y8,y9,y10,some (.int kind),y12],some p::T'):=by
 have k1:Br (eOp (oEq false) (Ac 1) (eC (.int 2))) [some (.ref 0),some (.int n),some (.int most),e3,some (.int c),some (.int wd),some F,y7,y8,y9,y10,some (.int kind),y12] (some p::T)=some (decide ((n:Int)=2),some p::T):=by simp[Aq,CJ,BJ,EY,oEq,-U0e,-U0g]
 have k2:Br (eOp (oEq false) (Ac 11) (eC (.int 3))) [some (.ref 0),some (.int n),some (.int most),e3,some (.int c),some (.int wd),some F,y7,y8,y9,y10,some (.int kind),y12] (some p::T)=some (decide (kind=3),some p::T):=by simp[Aq,CJ,BJ,EY,oEq,-U0e,-U0g]
 have ts:=QM k1 k2
 by_cases h:(n:Int)=2/\kind=3
 .rw[decide_eq_true h] at ts
  have hn:n=2:=by omega
  have c1:=lA [some (.ref 0),some (.int n),some (.int most),e3,some (.int c),some (.int wd),some F,y7,y8,y9,y10,some (.int kind),y12] (some p::T) most h20 rfl
  refine⟨(U0n most).map lat,.ref (T.length+1),T++[some (((U0n most).map lat).map Af)],.inr ⟨T.length,rfl,Vt T _ []⟩,by simp,fun b hb=>?_,?_⟩
  .obtain⟨i,hi,rfl⟩:=U2c.mp hb
   have:=U1z.mp hi
   have:=h2 hn
   rw[hn]
   exact wH (by omega) hm
  .rw[MF ts,Bw,Nj,c1,U0e]
   rfl
 .rw[decide_eq_false h] at ts
  exact⟨bs,F,T,hF,hl,hP,by rw[Lx ts];rfl⟩
theorem kO(x y z:Int)(n most many:Nat)(hn:n<=3)(h20:most<=20)(hM:8<many->2*most<=many)(y7 y8 y9 y10 y12:Option D)(c:Nat)(hc:c<=most)(wd kind:Int)(F:D)(T:Store)(bs:List (List St2))(hF:Hold F T bs)(hl:bs.length<=most)(hP:∀b∈bs,Sm n many b):∃(bs':List (List St2))(F':D)(T':Store)(x' z':Int),Hold F' T' bs'/\bs'.length<=most/\(∀b∈bs',Sm n many b) /\
  (sIf (Ku (Br (eOp oGt (Ac 11) (eC (.int 5)))) (Br (eOp oGt (Ac 3) (eC (.int 8))))) (Bb 6 (RK G3 (Aa (Ac 0) (Aa (Ac 1) (Aa (Ac 4) Ae))))) Eu) [some (.ref 0),some (.int n),some (.int most),some (.int many),some (.int c),some (.int wd),some F,y7,y8,y9,y10,some (.int kind),y12] (some [.int x,.int y,.int z]::T) =
  some (.nx,[some (.ref 0),some (.int n),some (.int most),some (.int many),some (.int c),some (.int wd),some F',y7,y8,y9,y10,some (.int kind),y12],some [.int x',.int y,.int z']::T'):=by
 have k1:Br (eOp oGt (Ac 11) (eC (.int 5))) [some (.ref 0),some (.int n),some (.int most),some (.int many),some (.int c),some (.int wd),some F,y7,y8,y9,y10,some (.int kind),y12] (some [.int x,.int y,.int z]::T)=some (decide (5<kind),some [.int x,.int y,.int z]::T):=rfl
 have k2:Br (eOp oGt (Ac 3) (eC (.int 8))) [some (.ref 0),some (.int n),some (.int most),some (.int many),some (.int c),some (.int wd),some F,y7,y8,y9,y10,some (.int kind),y12] (some [.int x,.int y,.int z]::T)=some (decide (8<(many:Int)),some [.int x,.int y,.int z]::T):=rfl
 have ts:=QM k1 k2
 by_cases h:5<kind/\8<(many:Int)
 .rw[decide_eq_true h] at ts
  have hm:=hM (by omega)
  obtain⟨bs',x',z',u1,u2,u3⟩:=gO x y z n c hn (by omega)
  refine⟨bs',.ref (T.length+1),T++[some (bs'.map Af)],x',z',.inr ⟨T.length,rfl,Vt T _ []⟩,by omega,fun b hb=>?_,?_⟩
  .have:=u3 b hb
   exact⟨this.len,fun p hp=>by have:=this.all p hp;omega⟩
  .have v0:Ac 0 [some (.ref 0),some (.int n),some (.int most),some (.int many),some (.int c),some (.int wd),some F,y7,y8,y9,y10,some (.int kind),y12] (some [.int x,.int y,.int z]::T)=some (.ref 0,some [.int x,.int y,.int z]::T):=rfl
   rw[MF ts,Bw,jx (d':=.ref (T.length+1)) (cs:=bs'.map Af) (Hx (ns:=[x,y,z]) (rest:=[.int n,.int c]) (es:=[.int n,.int c]) (i:=0) (S':=some [.int x,.int y,.int z]::T) (by rw[Ak,v0];rfl) rfl (by simp[Aw,Bd]) (by simp[Bf,age]) u1) (by
    show(if Ei (bs'.map Af)=true then some (D.ref (T.length+1),bs'.map Af) else none)=_
    rw[if_pos (CV bs')])]
   rfl
 .rw[decide_eq_false h] at ts
  exact⟨bs,F,T,x,z,hF,hl,hP,by rw[Lx ts];rfl⟩
end W18
end
section
namespace W18
open PySem L2 VS
theorem Z9{F:D}{T:Store}{bs:List (List St2)}(h:Hold F T bs)(p:Option (List D)):den 1 (p::T) F=some (.lst true (bs.map Af)):=by
 have hp:Aw (bs.map Af)=true:=Cg (CV bs)
 rcases h with rfl|⟨j,rfl,h⟩
 .rw[den,Cw 1 _ hp];rfl
 .rw[den,if_neg (by omega)]
  show(match T[j]? with|some (some ds)=>if Aw ds=true then some (D.lst true ds) else none|_=>none)=_
  rw[h]
  show(if Aw (bs.map Af)=true then _ else _)=_
  rw[if_pos hp]
theorem kh(x y z:Int)(n most many:Nat)(hn:n<=3)(h4:4<=most)(h20:most<=20)(h2:n=2->most<=10)(hm8:8<=many)(hm40:many<=40)(hM:8<many->2*most<=many):∃(bs:List (List St2))(x' z':Int),Gf [x,y,z] [.int n,.int most,.int many]=some (.lst true (bs.map Af),[x',y,z'])/\bs.length<=most/\∀b∈bs,Sm n many b:=by
 obtain⟨r1,x1,z1,e1,p1,p2⟩:=Du x y z ((most:Int)+1) (by omega) (by omega)
 obtain⟨r2,x2,z2,e2,p3,p4⟩:=Du x1 y z1 most (by omega) (by omega)
 obtain⟨r3,x3,z3,e3,p5,p6⟩:=Du x2 y z2 3 (by decide) (by decide)
 obtain⟨c,f1,hc⟩:∃c:Nat,atI [D.int r1,D.int most,D.int (1+r2)] r3=some (.int c)/\c<=most:=by
  have:r3=0∨r3=1∨r3=2:=by omega
  rcases this with rfl|rfl|rfl
  .exact⟨r1.toNat,by rw[zL,U6v p1],by omega⟩
  .exact⟨most,by simp,U0q _⟩
  .exact⟨(1+r2).toNat,by rw[zK,U6v (by omega)],by omega⟩
 obtain⟨r4,x4,z4,e4,p7,p8⟩:=Du x3 y z3 4 (by decide) (by decide)
 obtain⟨wd,f2,w0,w1⟩:∃wd:Int,atI [D.int 2,D.int 3,D.int 5,D.int many] r4=some (.int wd)/\0<wd/\wd<=many:=by
  have:r4=0∨r4=1∨r4=2∨r4=3:=by omega
  rcases this with rfl|rfl|rfl|rfl
  .exact⟨2,by simp,by decide,by omega⟩
  .exact⟨3,by simp,by decide,by omega⟩
  .exact⟨5,by simp,by decide,by omega⟩
  .exact⟨many,by simp,by omega,by omega⟩
 obtain⟨bs,x5,z5,R5,y7,y8,y9,y10,b1,b2,l2⟩:=kj x4 y z4 n c hn (by omega) (some (.int most)) (some (.int many)) wd w0 (by omega)
 obtain⟨kind,x6,z6,e6,_,_⟩:=Du x5 y z5 8 (by decide) (by decide)
 have b2':∀b∈bs,Sm n many b:=fun b hb=>⟨(b2 b hb).len,fun p hp=>by have:=(b2 b hb).all p hp;omega⟩
 obtain⟨bs5,x7,z7,c1,c2,s5⟩:=kZ x6 y z6 n (some (.int most)) (some (.int many)) y7 y8 y9 y10 none c (by omega) wd kind bs b1 R5 (Sm n many) b2'
 obtain⟨bs6,x8,z8,F6,w12,d0,d1,d2,s6⟩:=kY x7 y z7 n most h4 h20 (some (.int many)) y7 y8 y9 y10 none c wd kind bs5 (by omega) R5 many (by omega) c2
 obtain⟨bs7,F7,T7,g0,g1,g2,s7⟩:=kW [.int x8,.int y,.int z8] n most h20 h2 (some (.int many)) y7 y8 y9 y10 w12 c wd kind F6 _ bs6 d0 d1 many (by omega) d2
 obtain⟨bs8,F8,T8,x9,z9,i0,i1,i2,s8⟩:=kO x8 y z8 n most many hn h20 hM y7 y8 y9 y10 w12 c hc wd kind F7 T7 bs7 g0 g1 g2
 refine⟨bs8,x9,z9,?_,i1,i2⟩
 have s1:(Bb 4 (eOp oIx (Bl (Aa (Az Aj (Aa (Ac 0) (Aa (eOp Cm (Ac 2) (eC (.int 1))) Ae))) (Aa (Ac 2) (Aa (eOp Cm (eC (.int 1)) (Az Aj (Aa (Ac 0) (Aa (Ac 2) Ae)))) Ae)))) (Az Aj (Aa (Ac 0) (Aa (eC (.int 3)) Ae))))) [some (.ref 0),some (.int n),some (.int most),some (.int many),none,none,none,none,none,none,none,none,none] [some [.int x,.int y,.int z]]=some (.nx,[some (.ref 0),some (.int n),some (.int most),some (.int many),some (.int c),none,none,none,none,none,none,none,none],[some [.int x3,.int y,.int z3]]):=by
  simp[Bw,Aq,CJ,BJ,BK,Ak,Ci,MP,Cm,oIx,VS.listOf,Bx,intsOf,den,Cy,age,Bf,Bd,Aw,-U0e,-U0g,e1,e2,e3,f1]
 have s2:(Bb 5 (eOp oIx (Bl (Aa (eC (.int 2)) (Aa (eC (.int 3)) (Aa (eC (.int 5)) (Aa (Ac 3) Ae))))) (Az Aj (Aa (Ac 0) (Aa (eC (.int 4)) Ae))))) [some (.ref 0),some (.int n),some (.int most),some (.int many),some (.int c),none,none,none,none,none,none,none,none] [some [.int x3,.int y,.int z3]]=some (.nx,[some (.ref 0),some (.int n),some (.int most),some (.int many),some (.int c),some (.int wd),none,none,none,none,none,none,none],[some [.int x4,.int y,.int z4]]):=by
  simp[Bw,Aq,CJ,BJ,BK,Ak,Ci,MP,oIx,VS.listOf,Bx,intsOf,den,Cy,age,Bf,Bd,Aw,-U0e,-U0g,e4,f2]
 have s3:(Bb 6 (Gd Ae)) [some (.ref 0),some (.int n),some (.int most),some (.int many),some (.int c),some (.int wd),none,none,none,none,none,none,none] [some [.int x4,.int y,.int z4]]=some (.nx,[some (.ref 0),some (.int n),some (.int most),some (.int many),some (.int c),some (.int wd),some (.ref 1),none,none,none,none,none,none],[some [.int x4,.int y,.int z4],some []]):=rfl
 have s4:(Bb 11 (Az Aj (Aa (Ac 0) (Aa (eC (.int 8)) Ae)))) [some (.ref 0),some (.int n),some (.int most),some (.int many),some (.int c),some (.int wd),some (.ref 1),y7,y8,y9,y10,none,none] (some [.int x5,.int y,.int z5]::some (bs.map Af)::R5)=some (.nx,[some (.ref 0),some (.int n),some (.int most),some (.int many),some (.int c),some (.int wd),some (.ref 1),y7,y8,y9,y10,some (.int kind),none],some [.int x6,.int y,.int z6]::some (bs.map Af)::R5):=by
  rw[Bw,Ih e6 rfl rfl];rfl
 unfold Gf
 rw[Kl]
 simp only[U0j,U1o,U0s,U1m,U2k,U2l,U0r,U1s,U2f,U1x,if_true]
 unfold Sy
 rw[BZ s1,BZ s2,BZ s3,BZ l2,BZ s4,BZ s5,BZ s6,BZ s7,BZ s8,Cr]
 have v6:Ac 6 [some (.ref 0),some (.int n),some (.int most),some (.int many),some (.int c),some (.int wd),some F8,y7,y8,y9,y10,some (.int kind),w12] (some [.int x9,.int y,.int z9]::T8)=some (F8,some [.int x9,.int y,.int z9]::T8):=rfl
 rw[v6,U0c]
 show((intsOf ([x9,y,z9].map D.int)).bind fun ms=>(den 1 (some [.int x9,.int y,.int z9]::T8) F8).map fun r=>(r,ms))=_
 rw[Iv,Z9 i0];rfl
end W18
end
section
namespace W18
open PySem L2 VS
def Cq(ms:List Int):D:=.lst true (ms.map .int)
def placed(mss:List (List Int))(b:List St2):List St2:=(mss.zip b).map fun q=>(q.1.getD q.2.1.toNat 0,q.1.getD q.2.2.toNat 0)
theorem Vv{α β:Type}{F:α->D}{G:β->D}:∀(as:List α)(bs:List β),Cu (as.map F) (bs.map G)=(as.zip bs).map fun q=>.tup [F q.1,G q.2]
 |[],_=>rfl
 |_::_,[]=>rfl
 |a::r,b::s=>by rw[U0s,U0s,Cu,Vv r s];rfl
theorem sG(x y z:Int)(n many:Nat)(most sm:D)(hn:n<=3)(h0:8<=many)(h1:many<=40):∃(mss:List (List Int))(x' z':Int),M5 [some (.ref 0),some (.int n),some most,some (.int many),some sm,none,none,none] [some [.int x,.int y,.int z]]=some (mss.map Cq,[some [.int x',.int y,.int z']])/\mss.length=n/\∀ms∈mss,Mk many ms:=by
 have e:Dn (Aa (Ac 1) Ae) [some (.ref 0),some (.int n),some most,some (.int many),some sm,none,none,none] [some [.int x,.int y,.int z]]=some ((upD 0 n,[]),[some [.int x,.int y,.int z]]):=Jz _ rfl (by simp) (by omega) (by omega)
 unfold M5 CZ
 rw[e]
 simp only[U0c]
 obtain⟨ys,S',e2,mss,x',z',hy,hS,hl,hb⟩:=ZC (w:=[]) (e0:=G7 1 [0,3] [some (.ref 0),some (.int n),some most,some (.int many),some sm,none,none,none]) (g:=Pat.sem (.nm 0)) (ds:=upD 0 n) (S:=[some [.int x,.int y,.int z]])
  (f:=(Az Gg (Aa (Ac 1) (Aa (Ac 2) Ae))))
  (fun i ys S=>∃(mss:List (List Int))(x' z':Int),ys=mss.map Cq/\S=[some [.int x',.int y,.int z']]/\mss.length=min i n/\∀ms∈mss,Mk many ms)
  ⟨[],x,z,rfl,rfl,by simp,fun n hn=>by simp at hn⟩ (fun i ys S q=>by obtain⟨ns,x',z',h1,h2,h3,h4⟩:=q;exact⟨by simp,by rw[h1,U0k,h3];omega⟩)
  (fun i d ys S hd q=>by
   obtain⟨mss,x',z',h1,h2,h3,h4⟩:=q
   obtain⟨hi,rfl⟩:=Nh hd
   obtain⟨ms,x2,z2,e3,M⟩:=mG x' y z' many h0 (by assumption)
   subst h1 h2
   refine⟨[some (.int (0+i)),some (.ref 0),some (.int many)],Cq ms,[some [.int x2,.int y,.int z2]],by rw[Ce];rfl,?_,mss++[ms],x2,z2,by simp,rfl,by simp;omega,fun n hn=>?_⟩
   .exact Hx (ns:=[x',y,z']) (rest:=[.int many]) (es:=[.int many]) (i:=0) (S':=[some [.int x',.int y,.int z']]) rfl rfl (by simp[Aw,Bd]) (by simp[Bf,age]) e3
   .rcases U12.mp hn with z|z
    .exact h4 n z
    .rw[U04.mp z];exact M)
 subst hy hS
 rw[Lk,U44] at hl
 exact⟨mss,x',z',e2,hl,hb⟩
theorem cL{ms:List Int}{m:Nat}{v:Int}(hm:Mk m ms)(h0:0<=v)(h1:v<=m):atI (ms.map D.int) v=some (.int (ms.getD v.toNat 0)):=by
 have hl:v.toNat<ms.length:=by rw[hm.len];omega
 rw[gG (j:=v.toNat) (by omega) (by simpa using hl),U0h,U0d hl]
 simp
theorem sE(r:VS.Env)(S:Store)(mss:List (List Int))(b:List St2)(m n:Nat)(hn:n<=3)(hl:mss.length=n)(hM:∀ms∈mss,Mk m ms)(hb:Sm n m b)(h5:r[5]?=some (some (.lst true (mss.map Cq))))(h7:r[7]?=some (some (Af b))):Pn r S=some ((placed mss b).map Am,S):=by
 have e:Ot (Aa (Ac 5) (Aa (Ac 7) Ae)) r S=some (((mss.zip b).map fun q=>D.tup [Cq q.1,Am q.2],[]),S):=by
  have v5:Ac 5 r S=some (.lst true (mss.map Cq),S):=by rw[Aq,h5];rfl
  have v7:Ac 7 r S=some (Af b,S):=by rw[Aq,h7];rfl
  rw[Tq,Ak,v5,U0c,Ak,v7]
  show(some ((Cu (mss.map Cq) (b.map Am),([]:List (Nat×List D))),S))=_
  rw[Vv]
 unfold Pn CZ
 rw[e]
 simp only[U0c]
 rw[JB (by simp) (fun q:List Int×St2=>D.tup [Cq q.1,Am q.2]) (fun q=>Am (q.1.getD q.2.1.toNat 0,q.1.getD q.2.2.toNat 0)) (mss.zip b) (by rw[U3e];omega)]
 .unfold placed;rw[U0e];rfl
 .intro q hq
  obtain⟨ms,p⟩:=q
  have hm:=hM ms (U30 hq).1
  have hp:=hb.all p (U30 hq).2
  have a1:=cL hm hp.1 (by omega)
  have a2:=cL hm (v:=p.2) (by omega) hp.2.2
  exact⟨[some (Cq ms),some (.int p.1),some (.int p.2)],by simp[G7,Ce,JR,Gz,G8,U0r,-U0e,-U0g,Am],by simp[Aq,BJ,BK,Ak,Gs,oIx,VS.listOf,Bx,-U0e,-U0g,Cq,a1,a2,Am]⟩
theorem Wj{mss:List (List Int)}{b:List St2}{m n:Nat}(hl:mss.length=n)(hM:∀ms∈mss,Mk m ms)(hb:Sm n m b):(placed mss b).length=n/\∀p∈placed mss b,p.1<p.2/\-1000000000<=p.1/\p.2<=1000000000:=by
 have h1:=hb.len
 refine⟨by unfold placed;rw[U0k,U3e];omega,fun p hp=>?_⟩
 obtain⟨q,hq,rfl⟩:=U2c.mp hp
 obtain⟨ms,p⟩:=q
 have hm:=hM ms (U30 hq).1
 have hp:=hb.all p (U30 hq).2
 have l1:p.1.toNat<ms.length:=by rw[hm.len];omega
 have l2:p.2.toNat<ms.length:=by rw[hm.len];omega
 simp only[U0h,U0d l1,U0d l2,U42]
 exact⟨(U5w.mp hm.rise) _ _ l1 l2 (by omega),(hm.near _ (U1f l1)).1,(hm.near _ (U1f l2)).2⟩
end W18
end
section
namespace W18
open PySem L2 VS
structure Made(n m:Nat)(sm:List (List St2))(mss:List (List Int)):Prop where
 few:sm.length<=[0,20,10,6].getD n 0
 box:∀b∈sm,Sm n m b
 len:mss.length=n
 mks:∀ms∈mss,Mk m ms
 big:m<=40
theorem Made.good{n m:Nat}{sm:List (List St2)}{mss:List (List Int)}(h:Made n m sm mss)(hn:n=1∨n=2∨n=3):Good n (sm.map (placed mss)) :=
 ⟨hn,by rw[U0k];exact h.few,fun b hb=>by
  obtain⟨c,hc,rfl⟩:=U2c.mp hb
  exact Wj h.len h.mks (h.box c hc)⟩
theorem rZ(p:List D)(n m:Nat)(hn:n<=3)(most mn':D)(sm:List (List St2))(hsm:sm.length<=20)(hb:∀b∈sm,Sm n m b)(mss:List (List Int))(hl:mss.length=n)(hM:∀ms∈mss,Mk m ms):∃z7:Option D,
  Pk [some (.ref 0),some (.int n),some most,some mn',some (.lst true (sm.map Af)),some (.lst true (mss.map Cq)),some (.ref 1),none] [some p,some []]=some (.nx,[some (.ref 0),some (.int n),some most,some mn',some (.lst true (sm.map Af)),some (.lst true (mss.map Cq)),some (.ref 1),z7],[some p,some ((sm.map (placed mss)).map Af)]):=by
 have e:DK (Ac 4) [some (.ref 0),some (.int n),some most,some mn',some (.lst true (sm.map Af)),some (.lst true (mss.map Cq)),some (.ref 1),none] [some p,some []]=some ((sm.map Af,[]),[some p,some []]):=rfl
 obtain⟨env',S',e2,z7,he,hS⟩:=Dw (w:=[]) (g:=Pat.sem (.nm 7)) (b:=Pq) (ds:=sm.map Af) (env:=[some (.ref 0),some (.int n),some most,some mn',some (.lst true (sm.map Af)),some (.lst true (mss.map Cq)),some (.ref 1),none]) (S:=[some p,some []])
  (fun i env S=>∃z7:Option D,env=[some (.ref 0),some (.int n),some most,some mn',some (.lst true (sm.map Af)),some (.lst true (mss.map Cq)),some (.ref 1),z7]/\S=[some p,some (((sm.take i).map (placed mss)).map Af)])
  ⟨none,rfl,rfl⟩ (fun i env S _=>by simp) (fun i d env S hd q=>by
   obtain⟨z7,he,hS⟩:=q
   subst he hS
   rw[U0v] at hd
   obtain⟨b,hb',rfl⟩:=U16.mp hd
   have hi:i<sm.length:=(U0i.mp hb').1
   refine⟨[some (.ref 0),some (.int n),some most,some mn',some (.lst true (sm.map Af)),some (.lst true (mss.map Cq)),some (.ref 1),some (Af b)],by rw[Ce];rfl,[some (.ref 0),some (.int n),some most,some mn',some (.lst true (sm.map Af)),some (.lst true (mss.map Cq)),some (.ref 1),some (Af b)],[some p,some (((sm.take (i+1)).map (placed mss)).map Af)],?_,_,rfl,rfl⟩
   have c2:=sE [some (.ref 0),some (.int n),some most,some mn',some (.lst true (sm.map Af)),some (.lst true (mss.map Cq)),some (.ref 1),some (Af b)] [some p,some (((sm.take i).map (placed mss)).map Af)] mss b m n hn hl hM (hb b (U1h hb')) rfl rfl
   unfold Pq
   rw[HW,J8 (d:=.ref 1) (cs:=((sm.take i).map (placed mss)).map Af) (ds:=[Af (placed mss b)]) (r:=.non) (S1:=[some p,some (((sm.take i).map (placed mss)).map Af)]) (S2:=[some p,some (((sm.take i).map (placed mss)).map Af)]) (S3:=[some p,some (((sm.take (i+1)).map (placed mss)).map Af)]) rfl rfl (by
    rw[Ak,Df,Ak,Ci,c2];rfl) (by
    show(if (((sm.take i).map (placed mss)).map Af).length<1000000 then some (D.non,[some p,some (((sm.take i).map (placed mss)).map Af++[Af (placed mss b)])]) else none)=_
    rw[if_pos (by rw[U0k,U0k,U2t];omega),U3x,hb',U4c,U1u,U1u]
    rfl)]
   rfl)
 subst he hS
 have:(sm.map Af).length=sm.length:=by simp
 rw[this,U29] at e2
 refine⟨z7,?_⟩
 unfold Pk
 rw[Ej,e]
 exact e2
theorem NP:∀mss:List (List Int),Aw (mss.map Cq)=true
 |[]=>rfl
 |m::r=>by rw[U0s,Aw,Cq,Bd,Ht,NP r];rfl
theorem rY(x y z:Int)(n most:Nat)(h1:n=1∨n=2∨n=3)(h4:4<=most)(hm:most<=[0,20,10,6].getD n 0):∃(m:Nat)(sm:List (List St2))(mss:List (List Int))(x' z':Int),GC [x,y,z] [.int n,.int most]=some (.tup [.lst true (sm.map Af),.lst true (mss.map Cq),Ax true n (sm.map (placed mss))],[x',y,z'])/\Made n m sm mss:=by
 obtain⟨r1,x1,z1,e1,_,_⟩:=Du x y z 3 (by decide) (by decide)
 obtain⟨m,f1,m8,m40,hM⟩:∃m:Nat,atI [D.int 8,D.int ([0,40,20,12].getD n 0:Nat)] (if r1=0 then 1 else 0)=some (.int m)/\8<=m/\m<=40/\(8<m->2*most<=m):=by
  by_cases h:r1=0
  .rw[if_pos h]
   refine⟨[0,40,20,12].getD n 0,by simp,?_⟩
   rcases h1 with rfl|rfl|rfl<;>simp at hm ⊢<;>omega
  .rw[if_neg h]
   exact⟨8,by simp,by decide,by decide,by omega⟩
 have hn3:n<=3:=by omega
 have h20:most<=20:=by rcases h1 with rfl|rfl|rfl<;>simp at hm<;>omega
 have h10:n=2->most<=10:=fun h=>by rw[h] at hm;simpa using hm
 obtain⟨sm,x2,z2,e2,s1,s2⟩:=kh x1 y z1 n most m hn3 h4 h20 h10 m8 m40 hM
 obtain⟨mss,x3,z3,e3,hl,hk⟩:=sG x2 y z2 n m (.int most) (.lst true (sm.map Af)) hn3 m8 m40
 obtain⟨z7,l1⟩:=rZ [.int x3,.int y,.int z3] n m hn3 (.int most) (.int m) sm (by omega) s2 mss hl hk
 refine⟨m,sm,mss,x3,z3,?_,⟨by omega,s2,hl,hk,m40⟩⟩
 have f0:atI [D.int 0,D.int 40,D.int 20,D.int 12] (n:Int)=some (.int ([0,40,20,12].getD n 0:Nat)):=by
  rcases h1 with rfl|rfl|rfl<;>rfl
 have t1:(Bb 3 (eOp oIx (Bl (Aa (eC (.int 8)) (Aa (eOp oIx (Bl (Aa (eC (.int 0)) (Aa (eC (.int 40)) (Aa (eC (.int 20)) (Aa (eC (.int 12)) Ae))))) (Ac 1)) Ae))) (eCB Pg (Aa (eOp (oEq false) (Az Aj (Aa (Ac 0) (Aa (eC (.int 3)) Ae))) (eC (.int 0))) Ae)))) [some (.ref 0),some (.int n),some (.int most),none,none,none,none,none] [some [.int x,.int y,.int z]]=some (.nx,[some (.ref 0),some (.int n),some (.int most),some (.int m),none,none,none,none],[some [.int x1,.int y,.int z1]]):=by
  have a1:Bl (Aa (eC (.int 8)) (Aa (eOp oIx (Bl (Aa (eC (.int 0)) (Aa (eC (.int 40)) (Aa (eC (.int 20)) (Aa (eC (.int 12)) Ae))))) (Ac 1)) Ae)) [some (.ref 0),some (.int n),some (.int most),none,none,none,none,none] [some [.int x,.int y,.int z]]=some (.lst true [.int 8,.int ([0,40,20,12].getD n 0:Nat)],[some [.int x,.int y,.int z]]):=by
   have a2:eOp oIx (Bl (Aa (eC (.int 0)) (Aa (eC (.int 40)) (Aa (eC (.int 20)) (Aa (eC (.int 12)) Ae))))) (Ac 1) [some (.ref 0),some (.int n),some (.int most),none,none,none,none,none] [some [.int x,.int y,.int z]]=some (.int ([0,40,20,12].getD n 0:Nat),[some [.int x,.int y,.int z]]):=by
    show U2x _ (atI [D.int 0,D.int 40,D.int 20,D.int 12] (n:Int))=_
    rw[f0];rfl
   rw[Ci,Ak,CJ,U0c,Ak,a2];rfl
  have a3:eCB Pg (Aa (eOp (oEq false) (Az Aj (Aa (Ac 0) (Aa (eC (.int 3)) Ae))) (eC (.int 0))) Ae) [some (.ref 0),some (.int n),some (.int most),none,none,none,none,none] [some [.int x,.int y,.int z]]=some (.int (if r1=0 then 1 else 0),[some [.int x1,.int y,.int z1]]):=by
   rw[Df,Ak,BJ,Ih e1 rfl rfl]
   by_cases h:r1=0<;>simp[CJ,BK,oEq,Pg,-U0e,-U0g,h]
  rw[Bw,BJ,a1,U0c,a3,U0c]
  show(U2x _ (atI [D.int 8,D.int ([0,40,20,12].getD n 0:Nat)] (if r1=0 then 1 else 0))).bind _=_
  rw[f1];rfl
 have t2:(Bb 4 (Az Gf (Aa (Ac 0) (Aa (Ac 1) (Aa (Ac 2) (Aa (Ac 3) Ae)))))) [some (.ref 0),some (.int n),some (.int most),some (.int m),none,none,none,none] [some [.int x1,.int y,.int z1]]=some (.nx,[some (.ref 0),some (.int n),some (.int most),some (.int m),some (.lst true (sm.map Af)),none,none,none],[some [.int x2,.int y,.int z2]]):=by
  rw[Bw,Hx (ns:=[x1,y,z1]) (rest:=[.int n,.int most,.int m]) (es:=[.int n,.int most,.int m]) (i:=0) (S':=[some [.int x1,.int y,.int z1]]) rfl rfl (by simp[Aw,Bd]) (by simp[Bf,age]) e2];rfl
 have t3:(Bb 5 (Bl M5)) [some (.ref 0),some (.int n),some (.int most),some (.int m),some (.lst true (sm.map Af)),none,none,none] [some [.int x2,.int y,.int z2]]=some (.nx,[some (.ref 0),some (.int n),some (.int most),some (.int m),some (.lst true (sm.map Af)),some (.lst true (mss.map Cq)),none,none],[some [.int x3,.int y,.int z3]]):=by
  rw[Bw,Ci,e3];rfl
 have t4:(Bb 6 (Gd Ae)) [some (.ref 0),some (.int n),some (.int most),some (.int m),some (.lst true (sm.map Af)),some (.lst true (mss.map Cq)),none,none] [some [.int x3,.int y,.int z3]]=some (.nx,[some (.ref 0),some (.int n),some (.int most),some (.int m),some (.lst true (sm.map Af)),some (.lst true (mss.map Cq)),some (.ref 1),none],[some [.int x3,.int y,.int z3],some []]):=rfl
 unfold GC
 rw[Kl]
 simp only[U0j,U1o,U0s,U1m,U2k,U2l,U0r,U1s,U2f,U1x,if_true]
 unfold VN
 rw[BZ t1,BZ t2,BZ t3,BZ t4,BZ l1]
 show((intsOf ([x3,y,z3].map D.int)).bind fun ms=>(den 1 [some [.int x3,.int y,.int z3],some ((sm.map (placed mss)).map Af)] (.tup [.lst true (sm.map Af),.lst true (mss.map Cq),.tup [.int n,.ref 1]])).map fun r=>(r,ms))=_
 have d1:=Cw 1 [some [.int x3,.int y,.int z3],some ((sm.map (placed mss)).map Af)] (Cg (CV sm))
 have d2:=Cw 1 [some [.int x3,.int y,.int z3],some ((sm.map (placed mss)).map Af)] (NP mss)
 have d3:=Z9 (F:=.ref 1) (T:=[some ((sm.map (placed mss)).map Af)]) (bs:=sm.map (placed mss)) (.inr ⟨0,rfl,rfl⟩) (some [.int x3,.int y,.int z3])
 generalize [some [D.int x3,D.int y,D.int z3],some ((sm.map (placed mss)).map Af)]=S at *
 have q1:den 1 S (.lst true (sm.map Af))=some (.lst true (sm.map Af)):=by rw[den,d1];rfl
 have q2:den 1 S (.lst true (mss.map Cq))=some (.lst true (mss.map Cq)):=by rw[den,d2];rfl
 have q0:den 1 S (.int n)=some (.int n):=by rw[den]
 have q3:den 1 S (.tup [.int n,.ref 1])=some (Ax true n (sm.map (placed mss))):=by
  rw[den]
  simp only[Cy,q0,d3,U6t,U0c,Ax]
 rw[Iv,U0c,den]
 simp only[Cy,q1,q2,q3,U6t,U0c]
end W18
end
section
namespace W18
open PySem L2 VS
theorem Ra{n:Nat}{bs:List (List St2)}(g:Good n bs):Wide bs (-1000000000) 2000000000 0 n (U0n bs.length):=fun i hi v _ hv=>by
 have h:=U1z.mp hi
 have hb:=g.box bs[i] (U1f h)
 have h2:v<bs[i].length:=by rw[hb.1];omega
 have e0:bs.getD i []=bs[i]:=by rw[U0h,U0d h];rfl
 have e:at1 bs i v=bs[i][v]:=by
  rw[at1,e0,U0h,U0d h2];rfl
 have:=hb.2 bs[i][v] (U1f h2)
 rw[e]
 omega
theorem ZG{bs:List (List St2)}{A:Int}{N:Nat}:∀(k w:Nat)(ns:List Nat),Wide bs A N w k ns->∀c∈Ck bs k w ns,(∀p∈c.1,p.1<p.2/\A<=p.1/\p.2<=A+N)/\1<=c.2.length/\c.2.length<=ns.length
 |0,w,ns,_,c,h=>by
  rw[Ck] at h
  split at h
  .simp at h
  .rename_i hn
   have:c=([],ns):=by simpa using h
   rw[this]
   exact⟨fun p hp=>by simp at hp,U5o.mpr hn,U0q _⟩
 |k+1,w,ns,hw,c,h=>by
  rw[Ck] at h
  split at h
  .simp at h
  .obtain⟨p,h1,h2⟩:=U6j.mp h
   obtain⟨d,h3,rfl⟩:=U2c.mp h2
   obtain⟨q1,q2,q3⟩:=ZG k (w+1) _ (hw.sub fun i hi=>(U3n.mp hi).1) d h3
   obtain⟨s1,s2,s3,_⟩:=Ow (V3 _) p h1
   refine⟨fun p' hp=>?_,q2,U1a q3 (U3w ..)⟩
   rcases U0o.mp hp with z|z
   .rw[z];exact⟨s1,(Pr hw _ s2).1,(Pr hw _ s3).2⟩
   .exact q1 p' z
def cZ(k:Nat)(cs:List (List St2×List Nat)):Prop:=∀c∈cs,(∀p∈c.1,p.1<p.2/\-1000000000<=p.1/\p.2<=1000000000)/\1<=c.2.length/\c.2.length<=k
theorem Ql{n:Nat}{bs:List (List St2)}(g:Good n bs):cZ bs.length (Ck bs n 0 (U0n bs.length)):=fun c hc=>by
 obtain⟨h1,h2,h3⟩:=ZG n 0 _ (Ra g) c hc
 exact⟨fun p hp=>by have:=h1 p hp;omega,h2,by simpa using h3⟩
end W18
end
section
namespace W18
open PySem L2 VS
theorem Zk(cs:List (List St2×List Nat))(k:Nat)(hl:cs.length<=100000)(hf:cZ k cs)(S:Store):Kg [some (.lst false (cs.map encC))] S=some ((cs.map fun c=>HJ c.1).map .int,S):=by
 have e:DK (Ac 0) [some (.lst false (cs.map encC))] S=some ((cs.map encC,[]),S):=rfl
 unfold Kg CZ
 rw[e]
 simp only[U0c]
 rw[JB (by simp) encC (fun c=>.int (HJ c.1)) cs (by omega),U0e]
 .rfl
 .intro c hc
  have h1:=aV c.1 (hf c hc).1
  rw[pR] at h1
  refine⟨[some (Af c.1),some (DN false c.2)],by simp[G7,Ce,JR,Gz,G8,U0r,-U0e,-U0g,encC],?_⟩
  exact Dy (ds:=[Af c.1]) (es:=[Af c.1]) rfl (by simp[Aw,Jb]) (by simp[Bf]) h1
theorem Zj(cs:List (List St2×List Nat))(k:Nat)(hl:cs.length<=100000)(hf:cZ k cs):En [.lst false (cs.map encC)]=some (.int (cs.map fun c=>HJ c.1).sum):=by
 have c1:=Zk cs k hl hf []
 unfold En
 rw[Dh]
 simp only[U0j,U1o,U0s,U1m,U2k,U2l,U1s,U27,if_true]
 unfold Pa
 rw[Cr,Df,Ak,Ci,c1]
 generalize (cs.map fun c=>HJ c.1)=l
 simp[BK,VS.listOf,den,-U0e,-U0g,cX]
theorem W7{acc:List Int}{i:Nat}(hi:i<acc.length):atI (acc.map D.int) (i:Int)=some (.int (acc.getD i 0)):=by
 refine Nm ?_
 rw[U0v,U0d hi,U0h,U0d hi];rfl
end W18
end
section
namespace W18
open PySem L2 VS
def encJ(ms:List Int):D:=.lst false (ms.map .int)
def Bo(s:List Nat):D:=.tup (s.map fun(k:Nat)=>D.int k)
def Dr(acc:List (List Nat))(ms:List Int):List (List Nat):=acc.flatMap fun s=>(U0n (ms.length-1)).map fun k=>s++[k]
def oR(F:D)(S:Store)(ds:List D):Prop:=F=.lst true ds∨∃j,F=.ref j/\S[j]?=some (some ds)
theorem iW(r:VS.Env)(S:Store)(ms:List Int)(s:List Nat)(h1:1<=ms.length)(h2:ms.length<=1000)(hs:s.length<=10)(r2:r[2]?=some (some (encJ ms)))(r4:r[4]?=some (some (Bo s))):Mq r S=some (((U0n (ms.length-1)).map fun k=>s++[k]).map Bo,S):=by
 have v2:Ac 2 r S=some (encJ ms,S):=by rw[Aq,r2];rfl
 have e1:((ms.length:Int)-1)=((ms.length-1:Nat):Int):=by omega
 have e:Dn (Aa (eOp Dk (eCB Eh (Aa (Ac 2) Ae)) (eC (.int 1))) Ae) r S=some ((upD 0 (ms.length-1),[]),S):=Jz (j:=((ms.length-1:Nat):Int)) _ (by
  rw[Ak,BJ,Df,Ak,v2,←e1]
  show(some ([D.int (((ms.map D.int).length:Nat)-1)],S):Option (List D×Store))=_
  rw[U0k]) (by simp) (by omega) (by omega)
 have ec:G7 1 [4] r=[none,some (Bo s)]:=by simp[G7,r4]
 unfold Mq CZ
 rw[e,ec]
 simp only[U0c]
 rw[cG (by simp) (ms.length-1) (fun k=>Bo (s++[k])) (by omega) fun k hk=>⟨[some (.int k),some (Bo s)],by rw[Ce];rfl,?_⟩,U0e]
 .rfl
 .show(U2x _ (if (s.map fun(k:Nat)=>D.int k).length+1<=1000000 then some (D.tup ((s.map fun(k:Nat)=>D.int k)++[D.int k])) else none))=_
  rw[if_pos (by rw[U0k];omega)]
  unfold Bo
  rw[U1u];rfl
theorem iV(M:D)(ms:List Int)(h1:1<=ms.length)(h2:ms.length<=41)(acc:List (List Nat))(hacc:acc.length<=1600)(hs:∀s∈acc,s.length<=3)(F:D)(S:Store)(hF:oR F S (acc.map Bo))(z4:Option D):∃y4,
  KH [some M,some F,some (encJ ms),some (.ref S.length),z4] (S++[some []])=some (.nx,[some M,some F,some (encJ ms),some (.ref S.length),y4],S++[some ((Dr acc ms).map Bo)]):=by
 have key:∀w:List (Nat×List D),(∀a:List D,calm w (S++[some a]))->DK (Ac 1) [some M,some F,some (encJ ms),some (.ref S.length),z4] (S++[some []])=some ((acc.map Bo,w),S++[some []])->∃y4,KH [some M,some F,some (encJ ms),some (.ref S.length),z4] (S++[some []])=some (.nx,[some M,some F,some (encJ ms),some (.ref S.length),y4],S++[some ((Dr acc ms).map Bo)]):=fun w hw e=>by
  unfold KH
  rw[Ej,e]
  obtain⟨env',S',e2,y4,he,hS⟩:=Dw (w:=w) (g:=Pat.sem (.nm 4)) (b:=Ms) (ds:=acc.map Bo) (env:=[some M,some F,some (encJ ms),some (.ref S.length),z4]) (S:=S++[some []])
   (fun i env T=>∃y4,env=[some M,some F,some (encJ ms),some (.ref S.length),y4]/\T=S++[some ((Dr (acc.take i) ms).map Bo)])
   ⟨z4,rfl,rfl⟩ (fun i env T q=>by obtain⟨_,_,hT⟩:=q;rw[hT];exact hw _) (fun i d env T hd q=>by
    obtain⟨y4,he,hT⟩:=q
    subst he hT
    rw[U0v] at hd
    obtain⟨s,hs',rfl⟩:=U16.mp hd
    have hi:i<acc.length:=(U0i.mp hs').1
    refine⟨[some M,some F,some (encJ ms),some (.ref S.length),some (Bo s)],by rw[Ce];rfl,[some M,some F,some (encJ ms),some (.ref S.length),some (Bo s)],S++[some ((Dr (acc.take (i+1)) ms).map Bo)],?_,_,rfl,rfl⟩
    have c1:=iW [some M,some F,some (encJ ms),some (.ref S.length),some (Bo s)] (S++[some ((Dr (acc.take i) ms).map Bo)]) ms s h1 (by omega) (by have:=hs s (U1h hs');omega) rfl rfl
    have hlen:∀l:List (List Nat),(Dr l ms).length=l.length*(ms.length-1):=fun l=>by
     unfold Dr
     induction l with
     |nil=>simp
     |cons a r ih=>rw[U4m,U0u,ih,U0k,U2z,U0j,U70];omega
    have hL:=Vt S (some ((Dr (acc.take i) ms).map Bo)) []
    have b1:(acc.take i).length*(ms.length-1)<=1600*40:=Nat.mul_le_mul (by rw[U2t];omega) (by omega)
    unfold Ms
    rw[HW,J8 (d:=.ref S.length) (cs:=(Dr (acc.take i) ms).map Bo) (ds:=[.lst true (((U0n (ms.length-1)).map fun k=>s++[k]).map Bo)]) (r:=.non) (S1:=S++[some ((Dr (acc.take i) ms).map Bo)]) (S2:=S++[some ((Dr (acc.take i) ms).map Bo)]) (S3:=S++[some ((Dr (acc.take (i+1)) ms).map Bo)]) rfl (by rw[VS.listOf,hL];rfl) (by
     rw[Ak,Ci,c1];rfl) (by
     unfold S9
     simp only[hL,VS.listOf]
     rw[if_pos (by rw[U0k,U0k,U0k,U2z,hlen];omega),uJ,←U1u]
     congr 5
     unfold Dr
     rw[U3x,hs',U4c,List.flatMap_append]
     simp)]
    rfl)
  subst he hS
  refine⟨y4,e2.trans ?_⟩
  have:(acc.map Bo).length=acc.length:=by simp
  rw[this,U29]
 rcases hF with rfl|⟨j,rfl,hj⟩
 .exact key [] (fun a=>by simp) rfl
 .have hjl:j<S.length:=(U0i.mp hj).1
  have hg:∀a:List D,(S++[some a])[j]?=some (some (acc.map Bo)):=fun a=>by rw[U1d hjl];exact hj
  refine key [(j,acc.map Bo)] (fun a p hp=>by rw[U04.mp hp];exact hg a) ?_
  have v1:Ac 1 [some M,some (.ref j),some (encJ ms),some (.ref S.length),z4] (S++[some []])=some (.ref j,S++[some []]):=rfl
  rw[Fy,v1,U0c]
  show U2x _ (((S++[some []])[j]?).join)=_
  rw[hg];rfl
end W18
end
section
namespace W18
open PySem L2 VS
def Dv(mss:List (List Int)):List (List Nat):=Td (mss.map fun ms=>U0n (ms.length-1))
theorem aN(mss:List (List Int)):mss.foldl Dr [[]]=Dv mss:=by
 have:=XF (fun ms:List Int=>U0n (ms.length-1)) mss [[]]
 unfold Dv
 rw[show mss.foldl Dr [[]]=mss.foldl (fun acc E=>acc.flatMap fun s=>(U0n (E.length-1)).map fun x=>s++[x]) [[]] from rfl,this]
 simp
theorem Wg(s:List Nat):Bd (Bo s)=true:=by
 have:=Ht (s.map fun(i:Nat)=>(i:Int))
 rw[U0e] at this
 unfold Bo
 rw[Bd];exact this
theorem Qa:∀l:List (List Nat),Aw (l.map Bo)=true
 |[]=>rfl
 |s::r=>by rw[U0s,Aw,Wg,Qa r];rfl
theorem dW(ms:List Int)(l:List (List Nat)):(Dr l ms).length=l.length*(ms.length-1):=by
 unfold Dr
 induction l with
 |nil=>simp
 |cons a r ih=>rw[U4m,U0u,ih,U0k,U2z,U0j,U70];omega
theorem iU(mss:List (List Int))(hn:mss.length<=3)(hm:∀ms∈mss,1<=ms.length/\ms.length<=41):FP [.lst false (mss.map encJ)]=some (.lst true ((Dv mss).map Bo)):=by
 have s1:(Bb 1 (Bl (Aa (BW Ae) Ae))) [some (.lst false (mss.map encJ)),none,none,none,none] []=some (.nx,[some (.lst false (mss.map encJ)),some (.lst true ([[]].map Bo)),none,none,none],[]):=rfl
 have e:DK (Ac 0) [some (.lst false (mss.map encJ)),some (.lst true ([[]].map Bo)),none,none,none] []=some ((mss.map encJ,[]),[]):=rfl
 obtain⟨env',S',e2,F,z2,z3,z4,he,hF,_,_⟩:=Dw (w:=[]) (g:=Pat.sem (.nm 2)) (b:=Mr) (ds:=mss.map encJ) (env:=[some (.lst false (mss.map encJ)),some (.lst true ([[]].map Bo)),none,none,none]) (S:=[])
  (fun i env S=>∃(F:D)(z2 z3 z4:Option D),env=[some (.lst false (mss.map encJ)),some F,z2,z3,z4]/\oR F S (((mss.take i).foldl Dr [[]]).map Bo)/\((mss.take i).foldl Dr [[]]).length<=40^i/\∀s∈(mss.take i).foldl Dr [[]],s.length<=i)
  ⟨_,_,_,_,rfl,.inl rfl,by simp,by simp⟩ (fun i env S _=>by simp) (fun i d env S hd q=>by
   obtain⟨F,z2,z3,z4,he,hF,hl,hs⟩:=q
   subst he
   rw[U0v] at hd
   obtain⟨ms,hms,rfl⟩:=U16.mp hd
   have hi:i<mss.length:=(U0i.mp hms).1
   obtain⟨m1,m2⟩:=hm ms (U1h hms)
   have h16:40^i<=40^2:=U5j (by decide) (by omega)
   obtain⟨y4,l1⟩:=iV (.lst false (mss.map encJ)) ms m1 m2 ((mss.take i).foldl Dr [[]]) (by omega) (fun s h=>by have:=hs s h;omega) F S hF z4
   have et:(mss.take (i+1)).foldl Dr [[]]=Dr ((mss.take i).foldl Dr [[]]) ms:=by
    rw[U3x,hms,U4c,U59];rfl
   have a1:(Bb 3 (Gd Ae)) [some (.lst false (mss.map encJ)),some F,some (encJ ms),z3,z4] S=some (.nx,[some (.lst false (mss.map encJ)),some F,some (encJ ms),some (.ref S.length),z4],S++[some []]):=rfl
   refine⟨[some (.lst false (mss.map encJ)),some F,some (encJ ms),z3,z4],by rw[Ce];rfl,[some (.lst false (mss.map encJ)),some (.ref S.length),some (encJ ms),some (.ref S.length),y4],S++[some ((Dr ((mss.take i).foldl Dr [[]]) ms).map Bo)],?_,_,_,_,_,rfl,?_,?_,?_⟩
   .unfold Mr
    rw[BZ a1,BZ l1];rfl
   .rw[et];exact .inr ⟨S.length,rfl,Vt S _ []⟩
   .rw[et,dW,Nat.pow_succ]
    exact Nat.mul_le_mul hl (by omega)
   .intro s h
    rw[et] at h
    obtain⟨t,h1,h2⟩:=U6j.mp h
    obtain⟨k,_,rfl⟩:=U2c.mp h2
    have:=hs t h1
    simp;omega)
 have:(mss.map encJ).length=mss.length:=by simp
 rw[this,U29,aN] at hF
 subst he
 have l2:Mp [some (.lst false (mss.map encJ)),some (.lst true ([[]].map Bo)),none,none,none] []=some (.nx,[some (.lst false (mss.map encJ)),some F,z2,z3,z4],S'):=by
  unfold Mp
  rw[Ej,e]
  exact e2
 unfold FP
 rw[Dh]
 simp only[U0j,U1o,U0s,U1m,U2k,U2l,U0r,U1s,U2f,U1x,if_true]
 unfold Rm
 rw[BZ s1,BZ l2]
 show den 0 S' F=_
 rcases hF with rfl|⟨j,rfl,hj⟩
 .rw[den,Cw 0 _ (Qa _)];rfl
 .rw[den,if_neg (by omega),hj]
  show(if Aw ((Dv mss).map Bo)=true then _ else _)=_
  rw[if_pos (Qa _)]
def cellOf:List (List Int)->List Nat->List St2
 |ms::r,k::s=>(ms.getD k 0,ms.getD (k+1) 0)::cellOf r s
 |_,_=>[]
theorem kE:∀ms:List Int,steps ms=(U0n (ms.length-1)).map fun k=>(ms.getD k 0,ms.getD (k+1) 0):=fun ms=>by
 unfold steps
 refine U6i (by simp) fun k h1 h2=>?_
 have hk:k<ms.length-1:=by simpa using h2
 rw[U7g,List.getElem_map,List.getElem_range,List.getElem_tail,U0h,U0h,U0d (show k<ms.length by omega),U0d (show k+1<ms.length by omega)]
 rfl
theorem Sw:∀mss:List (List Int),Ou mss=(Dv mss).map (cellOf mss)
 |[]=>rfl
 |ms::r=>by
  rw[Ou,Sw r,kE,List.flatMap_map]
  unfold Dv
  rw[U0s,Td,List.map_flatMap]
  refine congrArg (fun g=>U75 g (U0n (ms.length-1))) (funext fun k=>?_)
  rw[U0e,U0e];rfl
theorem RX:∀(mss:List (List Int))(s:List Nat),s∈Dv mss->s.length=mss.length/\∀q∈mss.zip s,q.2<q.1.length-1
 |[],s,h=>by
  have:s=[]:=by simpa [Dv,Td] using h
  subst this
  exact⟨rfl,by simp⟩
 |ms::r,s,h=>by
  unfold Dv at h
  rw[U0s,Td] at h
  obtain⟨k,h1,h2⟩:=U6j.mp h
  obtain⟨t,h3,rfl⟩:=U2c.mp h2
  obtain⟨a,b⟩:=RX r t h3
  refine⟨by rw[U0j,U0j,a],fun q hq=>?_⟩
  rw[U4b] at hq
  rcases U0o.mp hq with z|z
  .rw[z];exact U1z.mp h1
  .exact b q z
end W18
end
section
namespace W18
open PySem L2 VS
def ok1(q:St2×Nat):Bool:=decide (q.1.1<=q.2)&&decide ((q.2:Int)<q.1.2)
def JN(b:List St2)(s:List Nat):Bool:=(b.zip s).all ok1
def GX(sm:List (List St2))(s:List Nat):List Nat:=((sm.zipIdx).filter fun q=>JN q.1 s).map fun q=>q.2
theorem Z6:∀(bs:List (List St2))(k:Nat),Ky k (bs.map Af)=(bs.zipIdx k).map fun q=>.tup [.int q.2,Af q.1]
 |[],k=>by simp[Ky]
 |b::r,k=>by simp[Ky,Z6 r (k+1)]
theorem WX:∀is:List Int,Js (is.map .int)=some (is.map .int)
 |[]=>by rw[U1m,Js];rfl
 |i::r=>by rw[U0s,Js,WX r,toP];rfl
theorem Wd(S:Store)(m:Bool)(is:List Int):Dj S (.lst m (is.map .int))=some (.list (is.map .int)):=by
 rw[Dj,den,Cw 0 S (Ht is)]
 show toP (.lst m (is.map .int))=_
 rw[toP,WX];rfl
theorem Yz(is:List Int):lev 1 (.list (is.map .int))=true:=by
 rw[lev,U6s,U3g]
 exact fun _ _=>rfl
theorem rW(r:VS.Env)(S:Store)(b:List St2)(s:List Nat)(hb:b.length<=3)(r1:r[1]?=some (some (Bo s)))(r4:r[4]?=some (some (Af b))):M4 r S=some ((((b.zip s).filter fun q=>!ok1 q).map fun _=>(1:Int)).map .int,S):=by
 have v1:Ac 1 r S=some (Bo s,S):=by rw[Aq,r1];rfl
 have v4:Ac 4 r S=some (Af b,S):=by rw[Aq,r4];rfl
 have e:Ot (Aa (Ac 4) (Aa (Ac 1) Ae)) r S=some (((b.zip s).map fun q=>D.tup [Am q.1,.int q.2],[]),S):=by
  rw[Tq,Ak,v4,U0c,Ak,v1]
  show(some ((Cu (b.map Am) (s.map fun(k:Nat)=>D.int k),([]:List (Nat×List D))),S))=_
  rw[Vv]
 unfold M4 CZ
 rw[e]
 simp only[U0c]
 rw[Nk (by simp) (fun q:St2×Nat=>D.tup [Am q.1,.int q.2]) (fun q=>!ok1 q) (fun _=>.int 1) _ _ (by rw[U3e];simp;omega),U0e]
 .rfl
 .intro q _
  obtain⟨p,k⟩:=q
  refine⟨[some (.int k),some (.int p.1),some (.int p.2)],by simp[G7,Ce,JR,Gz,G8,U0r,-U0e,-U0g,Am],?_,fun _=>rfl⟩
  have k1:Br (eOp oLt (Ac 0) (Ac 1)) [some (.int k),some (.int p.1),some (.int p.2)] S=some (decide ((k:Int)<p.1),S):=rfl
  have k2:Br (eOp oGe (Ac 0) (Ac 2)) [some (.int k),some (.int p.1),some (.int p.2)] S=some (decide (p.2<=(k:Int)),S):=rfl
  rw[YF,k1,U0c]
  unfold ok1
  by_cases h1:(k:Int)<p.1
  .have:¬(p.1<=(k:Int)):=by omega
   simp[h1,this]
  .have h2:p.1<=(k:Int):=by omega
   simp only[h1,decide_false,U2b,if_false,k2]
   by_cases h3:p.2<=(k:Int)
   .have:¬((k:Int)<p.2):=by omega
    simp[h2,h3,this]
   .have:(k:Int)<p.2:=by omega
    simp[h2,h3,this]
theorem rR(sm:List (List St2))(hl:sm.length<=20)(hb:∀b∈sm,b.length<=3)(s:List Nat):G9 [.lst false (sm.map Af),Bo s]=some (.lst true ((GX sm s).map fun(i:Nat)=>D.int i)):=by
 have s1:(Bb 2 (Gd Ae)) [some (.lst false (sm.map Af)),some (Bo s),none,none,none] []=some (.nx,[some (.lst false (sm.map Af)),some (Bo s),some (.ref 0),none,none],[some []]):=rfl
 have e:YZ (Aa (Ac 0) Ae) [some (.lst false (sm.map Af)),some (Bo s),some (.ref 0),none,none] [some []]=some (((sm.zipIdx).map fun q=>D.tup [.int q.2,Af q.1],[]),[some []]):=by
  rw[←Z6 sm 0];rfl
 obtain⟨env',S',e2,z3,z4,he,hS⟩:=Dw (w:=[]) (g:=Pat.sem (.tp [(.nm 3),(.nm 4)])) (b:=Pj) (ds:=(sm.zipIdx).map fun q=>D.tup [.int q.2,Af q.1]) (env:=[some (.lst false (sm.map Af)),some (Bo s),some (.ref 0),none,none]) (S:=[some []])
  (fun i env S=>∃z3 z4:Option D,env=[some (.lst false (sm.map Af)),some (Bo s),some (.ref 0),z3,z4]/\S=[some (((((sm.zipIdx).take i).filter fun q=>JN q.1 s).map fun q=>q.2).map fun(i:Nat)=>D.int i)])
  ⟨none,none,rfl,rfl⟩ (fun i env S _=>by simp) (fun i d env S hd q=>by
   obtain⟨z3,z4,he,hS⟩:=q
   subst he hS
   rw[U0v] at hd
   obtain⟨q,hq,rfl⟩:=U16.mp hd
   have hi:i<(sm.zipIdx).length:=(U0i.mp hq).1
   rw[List.length_zipIdx] at hi
   have ht:(sm.zipIdx).take (i+1)=(sm.zipIdx).take i++[q]:=by rw[U3x,hq];rfl
   have hbq:q.1.length<=3:=hb _ (by
    have:=List.fst_mem_of_mem_zipIdx (U1h hq)
    exact this)
   have hL:∀l:List (List St2×Nat),((l.filter fun q=>JN q.1 s).map fun q=>q.2).length<=l.length:=fun l=>by rw[U0k];exact U3w ..
   have hL2:=hL ((sm.zipIdx).take i)
   rw[U2t,List.length_zipIdx] at hL2
   generalize ha:(((sm.zipIdx).take i).filter fun q=>JN q.1 s).map (fun q=>q.2)=acc at *
   have c1:=rW [some (.lst false (sm.map Af)),some (Bo s),some (.ref 0),some (.int q.2),some (Af q.1)] [some (acc.map fun(i:Nat)=>D.int i)] q.1 s hbq rfl rfl
   have ts:Br (eOp (oEq false) (Bl M4) (Bl Ae)) [some (.lst false (sm.map Af)),some (Bo s),some (.ref 0),some (.int q.2),some (Af q.1)] [some (acc.map fun(i:Nat)=>D.int i)]=some (JN q.1 s,[some (acc.map fun(i:Nat)=>D.int i)]):=by
    have q1:=bZ (neg:=false) (S:=[some (acc.map fun(i:Nat)=>D.int i)]) (m:=true) 1 (Wd [some (acc.map fun(i:Nat)=>D.int i)] true (((q.1.zip s).filter fun q=>!ok1 q).map fun _=>(1:Int))) (Yz _) (by decide)
    rw[EY,BJ,Ci,c1]
    show(U2x _ (eqP false [some (acc.map fun(i:Nat)=>D.int i)] (.lst true ((((q.1.zip s).filter fun q=>!ok1 q).map fun _=>(1:Int)).map .int)) (.lst true []))).bind _=_
    rw[q1]
    show some ((false ^^ ((((q.1.zip s).filter fun q=>!ok1 q).map fun _=>(1:Int)).map PyData.int).isEmpty),_)=_
    congr 2
    unfold JN
    rw[Bool.false_xor,U22,List.isEmpty_iff,List.map_eq_nil_iff,List.map_eq_nil_iff,U5e,U3g]
    simp
   refine⟨[some (.lst false (sm.map Af)),some (Bo s),some (.ref 0),some (.int q.2),some (Af q.1)],by simp[Ce,JR,Gz,G8,-U0e,-U0g],[some (.lst false (sm.map Af)),some (Bo s),some (.ref 0),some (.int q.2),some (Af q.1)],[some (((((sm.zipIdx).take (i+1)).filter fun q=>JN q.1 s).map fun q=>q.2).map fun(i:Nat)=>D.int i)],?_,_,_,rfl,rfl⟩
   rw[ht,List.filter_append,U1u,ha]
   unfold Pj
   cases h:JN q.1 s with
   |true =>
    rw[h] at ts
    have hfp:List.filter (fun q:List St2×Nat=>JN q.1 s) [q]=[q]:=by simp[h]
    rw[MF ts,HW,hfp,J8 (d:=.ref 0) (cs:=acc.map fun(i:Nat)=>D.int i) (ds:=[.int q.2]) (r:=.non) (S1:=[some (acc.map fun(i:Nat)=>D.int i)]) (S2:=[some (acc.map fun(i:Nat)=>D.int i)]) (S3:=[some ((acc++[q.2]).map fun(i:Nat)=>D.int i)]) rfl rfl rfl (by
     show(if (acc.map fun(i:Nat)=>D.int i).length<1000000 then some (D.non,[some ((acc.map fun(i:Nat)=>D.int i)++[.int q.2])]) else none)=_
     rw[if_pos (by rw[U0k];omega),U1u];rfl)]
    rfl
   |false =>
    rw[h] at ts
    have hfn:List.filter (fun q:List St2×Nat=>JN q.1 s) [q]=[]:=by simp[h]
    rw[Lx ts,hfn,U1m,U27];rfl)
 subst he hS
 have:((sm.zipIdx).map fun q=>D.tup [.int q.2,Af q.1]).length=(sm.zipIdx).length:=by simp
 rw[this,U29] at e2
 have l1:Ph [some (.lst false (sm.map Af)),some (Bo s),some (.ref 0),none,none] [some []]=some (.nx,[some (.lst false (sm.map Af)),some (Bo s),some (.ref 0),z3,z4],[some ((GX sm s).map fun(i:Nat)=>D.int i)]):=by
  unfold Ph
  rw[Ej,e]
  exact e2
 unfold G9
 rw[Dh]
 simp only[U0j,U1o,U0s,U1m,U2k,U2l,U0r,U1s,U2f,U1x,if_true]
 unfold VL
 rw[BZ s1,BZ l1]
 show den 0 [some ((GX sm s).map fun(i:Nat)=>D.int i)] (.ref 0)=_
 have hp:Aw ((GX sm s).map fun(i:Nat)=>D.int i)=true:=by
  have:=Ht ((GX sm s).map fun(i:Nat)=>(i:Int))
  rw[U0e] at this
  exact this
 rw[den,if_neg (by omega)]
 show(if Aw ((GX sm s).map fun(i:Nat)=>D.int i)=true then _ else _)=_
 rw[if_pos hp]
end W18
end
section
namespace W18
open PySem L2 VS
theorem Wu{bs:List (List St2)}:∀(xs:List Int)(w:Nat)(ns:List Nat),Ov bs w xs ns=ns.filter fun i=>xs.zipIdx.all fun q=>inS (at1 bs i (w+q.2)) q.1
 |[],w,ns=>by
  rw[Ov]
  exact(U5s.mpr fun _ _=>rfl).symm
 |x::xs,w,ns=>by
  rw[Ov,Wu xs (w+1),Gi,U63]
  refine U5h fun i _=>?_
  rw[U41,U5l,Nat.add_zero,Bool.and_comm,U7e]
  congr 1
  rw[show xs.zipIdx 1=(xs.zipIdx 0).map fun q=>(q.1,q.2+1) by rw[List.zipIdx_eq_map_add];simp;intros;omega,U6s]
  refine congrArg (fun f=>List.all (xs.zipIdx 0) f) (funext fun q=>?_)
  simp only[Function.comp]
  rw[show w+(q.2+1)=w+1+q.2 by omega]
def Q0(b:List St2)(xs:List Int):Bool:=(b.zip xs).all fun q=>inS q.1 q.2
theorem VG(b:List St2):∀(xs:List Int)(k:Nat),k+xs.length=b.length->Q0 (b.drop k) xs=(xs.zipIdx k).all fun q=>inS (b.getD q.2 (0,0)) q.1
 |[],k,_=>by simp[Q0]
 |x::xs,k,h=>by
  have hk:k<b.length:=by simp at h;omega
  rw[U2i hk,U41,U5l,←VG b xs (k+1) (by simp at h ⊢;omega)]
  unfold Q0
  rw[U4b,U5l]
  congr 1
  rw[U0h,U0d hk];rfl
theorem bR{ms:List Int}{m i j:Nat}(h:Mk m ms)(hi:i<=m)(hj:j<=m):(ms.getD i 0<ms.getD j 0↔i<j)/\(ms.getD i 0<=ms.getD j 0↔i<=j):=by
 have l1:i<ms.length:=by rw[h.len];omega
 have l2:j<ms.length:=by rw[h.len];omega
 have r:=U5w.mp h.rise
 rw[U0h,U0h,U0d l1,U0d l2,U42,U42]
 rcases Nat.lt_trichotomy i j with q|q|q
 .have:=r i j l1 l2 q
  constructor<;>omega
 .subst q
  constructor<;>omega
 .have:=r j i l2 l1 q
  constructor<;>omega
theorem Wt{m:Nat}:∀(mss:List (List Int))(b:List St2)(s:List Nat),(∀ms∈mss,Mk m ms)->b.length=mss.length->s.length=mss.length->(∀p∈b,0<=p.1/\p.1<p.2/\p.2<=m)->(∀q∈mss.zip s,q.2<q.1.length-1)->Q0 (placed mss b) (lows (cellOf mss s))=JN b s
 |[],[],[],_,_,_,_,_=>rfl
 |[],_::_,_,_,h,_,_,_=>by simp at h
 |[],_,_::_,_,_,h,_,_=>by simp at h
 |_::_,[],_,_,h,_,_,_=>by simp at h
 |_::_,_,[],_,_,h,_,_=>by simp at h
 |ms::r,p::b,k::s,hM,h1,h2,hp,hq=>by
  have ih:=Wt r b s (fun x hx=>hM x (U0t _ hx)) (by simpa using h1) (by simpa using h2) (fun x hx=>hp x (U0t _ hx)) (fun x hx=>hq x (by rw[U4b];exact U0t _ hx))
  have hm:=hM ms U0z
  have hpp:=hp p U0z
  have hk:=hq (ms,k) (by rw[U4b];exact U0z)
  simp only[hm.len] at hk
  have e1:Q0 (placed (ms::r) (p::b)) (lows (cellOf (ms::r) (k::s)))=(inS (ms.getD p.1.toNat 0,ms.getD p.2.toNat 0) (ms.getD k 0)&&Q0 (placed r b) (lows (cellOf r s))):=rfl
  have e2:JN (p::b) (k::s)=(ok1 (p,k)&&JN b s):=rfl
  rw[e1,e2,ih]
  congr 1
  rw[U22,Gq]
  have a:=(bR hm (i:=p.1.toNat) (j:=k) (by omega) (by omega)).2
  have c:=(bR hm (i:=k) (j:=p.2.toNat) (by omega) (by omega)).1
  simp only[a,c,ok1,U1e,decide_eq_true_eq]
  omega
theorem Vf:∀(mss:List (List Int))(s:List Nat),s.length=mss.length->(cellOf mss s).length=mss.length
 |[],[],_=>rfl
 |[],_::_,h=>by simp at h
 |_::_,[],h=>by simp at h
 |_::r,_::s,h=>by rw[cellOf,U0j,U0j,Vf r s (by simpa using h)]
theorem rT{n m:Nat}{sm:List (List St2)}{mss:List (List Int)}(md:Made n m sm mss)(s:List Nat)(hs:s∈Dv mss):GX sm s=Ov (sm.map (placed mss)) 0 (lows (cellOf mss s)) (U0n sm.length):=by
 obtain⟨pl,pq⟩:=RX mss s hs
 rw[Wu]
 unfold GX
 have e:sm.zipIdx=(U0n sm.length).map fun i=>(sm.getD i [],i):=by
  refine U6i (by simp) fun i h1 h2=>?_
  have hi:i<sm.length:=by simpa using h1
  simp[U0d hi]
 rw[e,U7o,U0e]
 have:((fun q:List St2×Nat=>q.2)∘fun i=>(sm.getD i [],i))=id:=rfl
 rw[this,List.map_id]
 refine U5h fun i hi=>?_
 have hi':=U1z.mp hi
 have hb:=md.box (sm.getD i []) (by rw[U0h,U0d hi'];exact U1f hi')
 have hl:(placed mss (sm.getD i [])).length=n:=(Wj md.len md.mks hb).1
 have eb:(sm.map (placed mss)).getD i []=placed mss (sm.getD i []):=by
  rw[U0h,U0v,U0h,U0d hi'];rfl
 have hx:=VG (placed mss (sm.getD i [])) (lows (cellOf mss s)) 0 (by
  rw[hl,lows,U0k,Vf mss s pl,md.len];omega)
 rw[U56,Wt mss (sm.getD i []) s md.mks (by rw[hb.len,md.len]) pl hb.all pq] at hx
 show JN (sm.getD i []) s=_
 rw[hx]
 refine congrArg (fun f=>List.all ((lows (cellOf mss s)).zipIdx 0) f) (funext fun q=>?_)
 rw[U7e]
 unfold at1
 rw[eb]
theorem X8{n m:Nat}{sm:List (List St2)}{mss:List (List Int)}(md:Made n m sm mss):∀(k w:Nat),w+k=n->Cov (sm.map (placed mss)) (-1000000000) 2000000000 w (mss.drop w) (U0n sm.length)
 |0,w,h=>by
  rw[List.drop_of_length_le (by rw[md.len];omega)]
  trivial
 |k+1,w,h=>by
  have hw:w<mss.length:=by rw[md.len];omega
  rw[U2i hw]
  have hk:=md.mks mss[w] (U1f hw)
  refine⟨⟨hk.rise,fun i hi=>?_,fun e he=>by have:=hk.near e he;omega⟩,X8 md k (w+1) (by omega)⟩
  have hi':=U1z.mp hi
  have hb:=md.box sm[i] (U1f hi')
  have hwb:w<sm[i].length:=by rw[hb.len];omega
  have hp:=hb.all sm[i][w] (U1f hwb)
  have e:at1 (sm.map (placed mss)) i w=(mss[w].getD sm[i][w].1.toNat 0,mss[w].getD sm[i][w].2.toNat 0):=by
   have eb:(sm.map (placed mss)).getD i []=placed mss sm[i]:=by
    rw[U0h,U0v,U0d hi'];rfl
   unfold at1
   rw[eb]
   unfold placed
   rw[U0h,U0v,U0d (show w<(mss.zip sm[i]).length by rw[U3e];omega),U7g]
   rfl
  rw[e]
  have l1:sm[i][w].1.toNat<mss[w].length:=by rw[hk.len];omega
  have l2:sm[i][w].2.toNat<mss[w].length:=by rw[hk.len];omega
  constructor
  .show mss[w].getD _ 0∈_
   rw[U0h,U0d l1];exact U1f l1
  .show mss[w].getD _ 0∈_
   rw[U0h,U0d l2];exact U1f l2
end W18
end
section
namespace W18
open PySem L2 VS
def HS:List St2->List St2->List St2
 |p::a,q::b=>(mx p.1 q.1,mn p.2 q.2)::HS a b
 |_,_=>[]
def okL(l:List St2):Bool:=l.all fun p=>decide (p.1<p.2)
def Ju:Option (List St2)->D
 |none=>.non
 |some b=>Af b
def JQ(a b:List St2):Option (List St2):=if okL (HS a b)=true then some (HS a b) else none
theorem ZD:∀a b:List St2,(HS a b).length<=a.length
 |[],_=>by simp[HS]
 |_::_,[]=>by simp[HS]
 |_::a,_::b=>by simp[HS];exact ZD a b
theorem Yg:∀a b:List St2,Cu (a.map Am) (b.map Am)=(a.zip b).map fun p=>.tup [Am p.1,Am p.2]
 |[],_=>by simp[Cu]
 |_::_,[]=>by simp[Cu]
 |p::a,q::b=>by simp[Cu,Yg a b]
theorem Tz:∀a b:List St2,HS a b=(a.zip b).map fun p=>(mx p.1.1 p.2.1,mn p.1.2 p.2.2)
 |[],_=>by simp[HS]
 |_::_,[]=>by simp[HS]
 |p::a,q::b=>by simp[HS,Tz a b]
theorem iD(a b:List St2)(d:Option D)(ha:a.length<=3):Mh [some (Af a),some (Af b),d] []=some ((HS a b).map Am,[]):=by
 have e:Ot (Aa (Ac 0) (Aa (Ac 1) Ae)) [some (Af a),some (Af b),d] []=some (((a.zip b).map fun p=>.tup [Am p.1,Am p.2],[]),[]):=by
  rw[←Yg];simp[Aq,BK,Ak,VS.listOf,VS.idOf,Tq,-U0e,-U0g,Af]
 unfold Mh CZ
 rw[e]
 simp only[U0c]
 have:=QX (w:=[]) (e0:=G7 2 [] [some (Af a),some (Af b),d]) (g:=Pat.sem (.tp [.nm 0,.nm 1])) (S:=[]) (f:=BW (Aa (eCB Ft (Aa (eOp oIx (Ac 0) (eC (.int 0))) (Aa (eOp oIx (Ac 1) (eC (.int 0))) Ae))) (Aa (eCB Ib (Aa (eOp oIx (Ac 0) (eC (.int 1))) (Aa (eOp oIx (Ac 1) (eC (.int 1))) Ae))) Ae)))
  (by simp) (fun d=>match d with|.tup [.tup [.int l,.int h],.tup [.int l',.int h']]=>Am (mx l l',mn h h')|_=>.non) ((a.zip b).map fun p=>.tup [Am p.1,Am p.2]) (by simp;omega) (fun d hd=>by
   obtain⟨p,hp,rfl⟩:=U2c.mp hd
   exact⟨_,rfl,by simp[Aq,CJ,BJ,BK,Ak,Df,Gs,G7,oIx,Ft,Ib,VS.listOf,Bx,U0r,-U0e,-U0g,Am,mx,mn]⟩)
 rw[this,Tz]
 simp[Am]
theorem iC(l:List St2)(x y:Option D)(hl:l.length<=3):Mg [x,y,some (.lst true (l.map Am))] []=some (l.map (fun p=>D.bl (decide (p.1<p.2))),[]):=by
 have e:DK (Ac 2) [x,y,some (.lst true (l.map Am))] []=some ((l.map Am,[]),[]):=by simp[Aq,VS.listOf,Bx,VS.idOf,Fy,-U0e,-U0g]
 unfold Mg CZ
 rw[e]
 simp only[U0c]
 have:=QX (w:=[]) (e0:=G7 1 [] [x,y,some (.lst true (l.map Am))]) (g:=Pat.sem (.nm 0)) (S:=[]) (f:=Bg El (Aa (Ac 0) Ae))
  (by simp) (fun d=>match d with|.tup [.int l,.int h]=>.bl (decide (l<h))|_=>.non) (l.map Am) (by simp;omega) (fun d hd=>by
   obtain⟨p,hp,rfl⟩:=U2c.mp hd
   refine⟨_,rfl,?_⟩
   have h1:=Qs p
   simp[Aq,BK,Ak,G7,Gn,Cy,Bf,Aw,U0r,-U0e,-U0g,h1]
   rfl)
 rw[this,U0e]
 rfl
theorem nZ(l:List St2):Ka.boolsOf (l.map fun p=>D.bl (decide (p.1<p.2)))=some (l.map fun p=>decide (p.1<p.2)):=by
 have:=TJ (l.map fun p=>decide (p.1<p.2))
 rw[U0e] at this
 exact this
theorem iB(a b:List St2)(ha:a.length<=3):Fz [Af a,Af b]=some (Ju (JQ a b)):=by
 have c1:=iD a b none ha
 have hl:=ZD a b
 have c2:=iC (HS a b) (some (Af a)) (some (Af b)) (by omega)
 have hb:∀S:Store,Ka S [.lst true ((HS a b).map fun p=>D.bl (decide (p.1<p.2)))]=some (.bl (okL (HS a b))):=fun S=>by
  unfold Ka
  simp only[VS.listOf,U0c,nZ,U6t]
  unfold okL
  rw[U6s]
  rfl
 by_cases h:okL (HS a b)=true
 .simp only[JQ,h,if_true,Ju]
  rw[h] at hb
  have hd:∀S:Store,Cy 0 S ((HS a b).map Am)=some ((HS a b).map Am):=fun S=>Cw 0 S (Cg (Je _ fun p _=>Hq p))
  simp[Fz,Og,Ii,Bw,Ci,c1,c2,Iw,Cr,J7,EY,Df,Ak,BK,Aq,Dh,hb,Nv,VS.Bx,VS.listOf,den,hd]
  rfl
 .have h':okL (HS a b)=false:=by simpa using h
  simp only[JQ,h',Ju]
  rw[h'] at hb
  simp[Fz,Og,Ii,Bw,Ci,c1,c2,Iw,Cr,J7,EY,Df,Ak,BK,Aq,CJ,Dh,hb,den,Ju]
end W18
end
section
namespace W18
open PySem L2 VS
theorem ZF(b B:List St2):HS b B=cap B b:=Tz b B
theorem qj{n:Nat}{B b:List St2}(hB:B.length=n)(hb:b.length=n):okL (HS b B)=Kw 0 n B b:=by
 rw[ZF,U22,MN]
 unfold okL
 rw[U3g]
 have hl:(cap B b).length=n:=by unfold cap;rw[U0k,U3e];omega
 constructor
 .intro h v _ hv
  have:=of_decide_eq_true (h ((cap B b)[v]'(by omega)) (U1f _))
  have e:=RL hB hb hv
  rw[U0h,U0d (by omega)] at e
  rw[←e];exact this
 .intro h p hp
  obtain⟨v,hv,rfl⟩:=U45 hp
  have e:=RL hB hb (w:=v) (by omega)
  rw[U0h,U0d hv] at e
  have e':(cap B b)[v]=Eo (b.getD v (0,0)) (B.getD v (0,0)):=e
  rw[e']
  exact decide_eq_true (h v (U3i _) (by omega))
def LC(n:Nat)(B:List St2):Prop:=B.length=n/\∀p∈B,p.1<p.2/\-1000000000<=p.1/\p.2<=1000000000
def caps(n:Nat)(bs:List (List St2))(B:List St2):List (List St2):=(bs.filter (Kw 0 n B)).map (cap B)
theorem XH{n:Nat}{bs:List (List St2)}(g:Good n bs){B:List St2}(hB:LC n B):Good n (caps n bs B):=by
 refine⟨g.ways,U1a (by unfold caps;rw[U0k];exact U3w ..) g.most,fun c hc=>?_⟩
 obtain⟨b,hb,rfl⟩:=U2c.mp hc
 obtain⟨hb1,hb2⟩:=U3n.mp hb
 have gb:=g.box b hb1
 have hl:(cap B b).length=n:=by unfold cap;rw[U0k,U3e,gb.1,hB.1];omega
 refine⟨hl,fun p hp=>?_⟩
 have hgd:=MN.mp hb2
 obtain⟨v,hv,rfl⟩:=U45 hp
 have e:=RL hB.1 gb.1 (w:=v) (by omega)
 rw[U0h,U0d hv] at e
 have e':(cap B b)[v]=Eo (b.getD v (0,0)) (B.getD v (0,0)):=e
 have h1:=hgd v (U3i _) (by omega)
 have hvb:v<b.length:=by omega
 have hvB:v<B.length:=by rw[hB.1];omega
 have h2:=gb.2 b[v] (U1f hvb)
 have h3:=hB.2 B[v] (U1f hvB)
 rw[U0h,U0d hvb,U0h,U0d hvB] at e' h1
 have e2:(cap B b)[v]=Eo b[v] B[v]:=e'
 have h1':(Eo b[v] B[v]).1<(Eo b[v] B[v]).2:=h1
 rw[e2]
 refine⟨h1',?_⟩
 unfold VS.Eo VS.mx VS.mn
 simp only
 constructor<;>split<;>omega
theorem gM{n:Nat}{bs:List (List St2)}(g:Good n bs)(B:List St2)(z:Option D):Jr [some (Ax false n bs),some (Af B),z] []=some (bs.map fun b=>Ju (JQ b B),[]):=by
 have few:=g.few
 have n3:=g.n3
 have e:DK (eOp oIx (Ac 0) (eC (.int 1))) [some (Ax false n bs),some (Af B),z] []=some ((bs.map Af,[]),[]):=rfl
 have ec:G7 1 [1] [some (Ax false n bs),some (Af B),z]=[none,some (Af B)]:=rfl
 unfold Jr CZ
 rw[e,ec]
 simp only[U0c]
 rw[JB (by simp) Af (fun b=>Ju (JQ b B)) bs (by omega)]
 intro b hb
 refine⟨[some (Af b),some (Af B)],by rw[Ce];rfl,?_⟩
 exact Dy (ds:=[Af b,Af B]) (es:=[Af b,Af B]) rfl (by simp[Aw,Jb]) (by simp[Bf]) (iB b B (by rw[(g.box b hb).1];omega))
theorem gK{n:Nat}{bs:List (List St2)}(g:Good n bs){B:List St2}(hB:LC n B)(H:Option D)(y:Option D):Gu [H,y,some (.lst true (bs.map fun b=>Ju (JQ b B)))] []=some ((caps n bs B).map Af,[]):=by
 have few:=g.few
 have e:DK (Ac 2) [H,y,some (.lst true (bs.map fun b=>Ju (JQ b B)))] []=some ((bs.map fun b=>Ju (JQ b B),[]),[]):=rfl
 unfold Gu CZ
 rw[e]
 simp only[U0c]
 rw[Nk (by simp) (fun b=>Ju (JQ b B)) (Kw 0 n B) (fun b=>Af (cap B b)) bs [] (by simp;omega)]
 .rw[U1x]
  unfold caps
  rw[U0e];rfl
 .intro b hb
  have hk:=qj hB.1 (g.box b hb).1
  refine⟨[some (Ju (JQ b B))],by rw[Ce];rfl,?_,fun h=>?_⟩
  .unfold JQ
   rw[hk]
   cases Kw 0 n B b
   .rfl
   .rfl
  .unfold JQ
   rw[hk,h,ZF];rfl
theorem aJ{n:Nat}{B:List St2}(hn:n=1∨n=2∨n=3)(hB:LC n B):HD [.int n,Af B]=some .non:=by
 have h:=Ws hn (fun p hp=>(hB.2 p hp).1) hB.1
 have c1:Bg Gk (Aa (Ac 0) (Aa (Ac 1) Ae)) [some (.int n),some (Af B)] []=some (.bl true,[]) :=
  Dy (ds:=[.int n,Af B]) (es:=[.int n,Af B]) (S':=[]) rfl (by simp[Aw,Bd,Jb]) (by simp[Bf,age]) h
 unfold HD
 rw[Dh]
 simp only[U0j,U1o,U0s,U1m,U2k,U2l,U1s,U27,if_true]
 unfold VJ
 rw[Lx (by rw[Rw,EY,c1];rfl)];rfl
theorem Xb:∀cs:List (List St2×List Nat),Bf (cs.map encC)=cs.map encC
 |[]=>by rw[U1m,Bf]
 |c::r=>by rw[U0s,Bf,nj,Xb r]
theorem gH{cs:List (List St2×List Nat)}{k:Nat}(h:cZ k cs):(cs.map fun c=>HJ c.1).sum=csum F1 cs:=by
 unfold csum
 refine congrArg List.sum (U5t fun c hc=>?_)
 have:=(h c hc).2.1
 unfold F1
 rw[if_neg (by intro z;rw[z] at this;simp at this),Int.mul_one]
theorem Sh(bs:List (List St2)):(U0n bs.length).map (fun i=>bs.getD i [])=bs:=by
 refine List.ext_getElem? fun i=>?_
 rw[U0v]
 by_cases h:i<bs.length
 .rw[U5p h]
  simp[h]
 .rw[U4g (by simp;omega),U4g (by omega)];rfl
theorem RM{n:Nat}{bs:List (List St2)}(g:Good n bs){B:List St2}(hB:LC n B):DG [Ax false n bs,Af B]=some (.int (cvB (-1000000000) 2000000000 B n 0 bs)):=by
 have gc:=XH g hB
 have few:=gc.few
 have n3:=gc.n3
 have hl:=Qn (bs:=caps n bs B) n 0 (U0n (caps n bs B).length) (by simpa using few)
 have hp:40^n<=40^3:=U5j (by decide) n3.2
 have h1:=Zc (m:=false) g
 have h2:=nQ gc
 have h3:=Zj _ _ (by omega) (Ql gc)
 rw[gH (Ql gc),Qm rfl n 0 _ (Ra gc),U8,Sh] at h3
 have h4:cv (-1000000000) 2000000000 n 0 (caps n bs B)=cvB (-1000000000) 2000000000 B n 0 bs:=Yc hB.1 n 0 bs (by omega) fun b hb=>(g.box b hb).1
 rw[h4] at h3
 have s1:(Jt (Bg Ge (Aa (Ac 0) Ae))) [some (Ax false n bs),some (Af B),none] []=some (.nx,[some (Ax false n bs),some (Af B),none],[]):=by
  rw[HW,Dy (ds:=[Ax false n bs]) (es:=[Ax false n bs]) (S':=[]) rfl (by simp[Aw,Bd,Ax]) (by simp[Bf,age,Ax]) h1];rfl
 have s2:(Jt (Bg HD (Aa (eOp oIx (Ac 0) (eC (.int 0))) (Aa (Ac 1) Ae)))) [some (Ax false n bs),some (Af B),none] []=some (.nx,[some (Ax false n bs),some (Af B),none],[]):=by
  rw[HW,Dy (ds:=[.int n,Af B]) (es:=[.int n,Af B]) (S':=[]) rfl (by simp[Aw,Bd,Jb]) (by simp[Bf,age]) (aJ g.ways hB)];rfl
 have s3:(Bb 2 (Bl Jr)) [some (Ax false n bs),some (Af B),none] []=some (.nx,[some (Ax false n bs),some (Af B),some (.lst true (bs.map fun b=>Ju (JQ b B)))],[]):=by
  rw[Bw,Ci,gM g];rfl
 have c0:BW (Aa (eOp oIx (Ac 0) (eC (.int 0))) (Aa (Bl Gu) Ae)) [some (Ax false n bs),some (Af B),some (.lst true (bs.map fun b=>Ju (JQ b B)))] []=some (Ax true n (caps n bs B),[]):=by
  have o1:eOp oIx (Ac 0) (eC (.int 0)) [some (Ax false n bs),some (Af B),some (.lst true (bs.map fun b=>Ju (JQ b B)))] []=some (.int n,[]):=rfl
  rw[Gs,Ak,o1,U0c,Ak,Ci,gK g hB];rfl
 have c2:Bg GD (Aa (BW (Aa (eOp oIx (Ac 0) (eC (.int 0))) (Aa (Bl Gu) Ae))) Ae) [some (Ax false n bs),some (Af B),some (.lst true (bs.map fun b=>Ju (JQ b B)))] []=some (.lst true ((Ck (caps n bs B) n 0 (U0n (caps n bs B).length)).map encC),[]) :=
  Dy (ds:=[Ax true n (caps n bs B)]) (es:=[Ax false n (caps n bs B)]) (S':=[]) (by rw[Ak,c0];rfl) (by simp[Aw,Bd,Ax,Cg (CV _)]) (by simp[Bf,age,Ax]) h2
 generalize Ck (caps n bs B) n 0 (U0n (caps n bs B).length)=cs at *
 have c3:Bg En (Aa (Bg GD (Aa (BW (Aa (eOp oIx (Ac 0) (eC (.int 0))) (Aa (Bl Gu) Ae))) Ae)) Ae) [some (Ax false n bs),some (Af B),some (.lst true (bs.map fun b=>Ju (JQ b B)))] []=some (.int (cvB (-1000000000) 2000000000 B n 0 bs),[]) :=
  Dy (ds:=[.lst true (cs.map encC)]) (es:=[.lst false (cs.map encC)]) (S':=[]) (by rw[Ak,c2];rfl) (by rw[Aw,Bd,LR,Aw];rfl) (by rw[Bf,age,Xb,Bf]) h3
 unfold DG
 rw[Dh]
 simp only[U0j,U1o,U0s,U1m,U2k,U2l,U0r,U1s,U2f,U1x,if_true]
 unfold Qu
 rw[BZ s1,BZ s2,BZ s3,Cr,c3]
 rfl
end W18
end
section
namespace W18
open PySem L2 VS
theorem nP{e:VS.Env}{S:Store}{z lo hi:Int}{ms:List Int}{j:Nat}(hm:∀x∈ms,-1000000000<=x/\x<=1000000000)(hb:-1000000000<=lo/\hi<=1000000000)(hj:j+1<ms.length)(e5:e[5]?=some (some (.int z)))(e6:e[6]?=some (some (encJ ms)))(e7:e[7]?=some (some (.int j)))(e8:e[8]?=some (some (.int lo)))(e9:e[9]?=some (some (.int hi))) :
  eOp Hw (Ac 5) (eCB Ft (Aa (eC (.int 0)) (Aa (eOp Dk (eCB Ib (Aa (Ac 9) (Aa (eOp oIx (Ac 6) (eOp Cm (Ac 7) (eC (.int 1)))) Ae))) (eCB Ft (Aa (Ac 8) (Aa (eOp oIx (Ac 6) (Ac 7)) Ae)))) Ae))) e S=some (.int (z*clip (lo,hi) (ms.getD j 0,ms.getD (j+1) 0)),S):=by
 have v5:Ac 5 e S=some (.int z,S):=by simp[Aq,e5]
 have v6:Ac 6 e S=some (encJ ms,S):=by simp[Aq,e6]
 have v7:Ac 7 e S=some (.int j,S):=by simp[Aq,e7]
 have v8:Ac 8 e S=some (.int lo,S):=by simp[Aq,e8]
 have v9:Ac 9 e S=some (.int hi,S):=by simp[Aq,e9]
 have i1:eOp oIx (Ac 6) (eOp Cm (Ac 7) (eC (.int 1))) e S=some (.int (ms.getD (j+1) 0),S):=by
  rw[BJ,v6,U0c,BJ,v7]
  show U2x _ (atI (ms.map D.int) ((j+1:Nat):Int))=_
  rw[W7 hj];rfl
 have i2:eOp oIx (Ac 6) (Ac 7) e S=some (.int (ms.getD j 0),S):=by
  rw[BJ,v6,U0c,v7]
  show U2x _ (atI (ms.map D.int) (j:Int))=_
  rw[W7 (by omega)];rfl
 have b1:=hm _ (show ms.getD j 0∈ms by rw[U0h,U0d (by omega)];exact U1f _)
 have b2:=hm _ (show ms.getD (j+1) 0∈ms by rw[U0h,U0d hj];exact U1f _)
 generalize ms.getD j 0=a at *
 generalize ms.getD (j+1) 0=b at *
 have m1:eCB Ib (Aa (Ac 9) (Aa (eOp oIx (Ac 6) (eOp Cm (Ac 7) (eC (.int 1)))) Ae)) e S=some (.int (VS.mn hi b),S):=by
  rw[Df,Ak,v9,U0c,Ak,i1]
  simp[BK,Ib,VS.mn]
 have m2:eCB Ft (Aa (Ac 8) (Aa (eOp oIx (Ac 6) (Ac 7)) Ae)) e S=some (.int (VS.mx lo a),S):=by
  rw[Df,Ak,v8,U0c,Ak,i2]
  simp[BK,Ft,VS.mx]
 have m3:eOp Dk (eCB Ib (Aa (Ac 9) (Aa (eOp oIx (Ac 6) (eOp Cm (Ac 7) (eC (.int 1)))) Ae))) (eCB Ft (Aa (Ac 8) (Aa (eOp oIx (Ac 6) (Ac 7)) Ae))) e S=some (.int (VS.mn hi b-VS.mx lo a),S):=by
  rw[BJ,m1,U0c,m2];rfl
 have m4:eCB Ft (Aa (eC (.int 0)) (Aa (eOp Dk (eCB Ib (Aa (Ac 9) (Aa (eOp oIx (Ac 6) (eOp Cm (Ac 7) (eC (.int 1)))) Ae))) (eCB Ft (Aa (Ac 8) (Aa (eOp oIx (Ac 6) (Ac 7)) Ae)))) Ae)) e S=some (.int (clip (lo,hi) (a,b)),S):=by
  rw[Df,Ak,CJ,U0c,Ak,m3]
  simp[BK,Ft,clip,VS.mx]
 have hc:-18446744073709551616<clip (lo,hi) (a,b)/\clip (lo,hi) (a,b)<18446744073709551616:=by
  unfold clip VS.mx VS.mn
  simp only
  constructor<;>repeat (first|split|skip)<;>omega
 generalize clip (lo,hi) (a,b)=c at *
 rw[BJ,v5,U0c,m4]
 simp[R0,Hw,VS.listOf,-U0e,-U0g,hc]
end W18
end
section
namespace W18
open PySem L2 VS
def trip:List (List Int)->List Nat->List St2->List (List Int×Nat×St2)
 |m::r,k::s,p::B=>(m,k,p)::trip r s B
 |_,_,_=>[]
def Uj(q:List Int×Nat×St2):Int:=clip q.2.2 (q.1.getD q.2.1 0,q.1.getD (q.2.1+1) 0)
theorem Yk:∀(mss:List (List Int))(s:List Nat)(B:List St2),Ia (mss.map encJ) (s.map fun(k:Nat)=>D.int k) (B.map Am)=(trip mss s B).map fun q=>D.tup [encJ q.1,.int q.2.1,Am q.2.2]
 |[],_,_=>by simp[Ia,trip]
 |_::_,[],_=>by simp[Ia,trip]
 |_::_,_::_,[]=>by simp[Ia,trip]
 |m::r,k::s,p::B=>by simp[Ia,trip,Yk r s B]
theorem au:∀{mss:List (List Int)} {s:List Nat} {B:List St2} {q:List Int×Nat×St2},q∈trip mss s B->(q.1,q.2.1)∈mss.zip s/\q.2.2∈B
 |[],_,_,q,h=>by simp[trip] at h
 |_::_,[],_,q,h=>by simp[trip] at h
 |_::_,_::_,[],q,h=>by simp[trip] at h
 |m::r,k::s,p::B,q,h=>by
  rw[trip] at h
  rw[U4b]
  rcases U0o.mp h with rfl|h
  .exact⟨U0z,U0z⟩
  .obtain⟨a,b⟩:=au h
   exact⟨U0t _ a,U0t _ b⟩
theorem Wi(B0:List St2):∀(mss:List (List Int))(s:List Nat)(B:List St2)(w:Nat)(z:Int),s.length=mss.length->B.length=mss.length->B=B0.drop w->(trip mss s B).foldl (fun z q=>z*Uj q) z=z*K7 B0 w (cellOf mss s)
 |[],[],_,w,z,_,_,_=>by simp[trip,cellOf,K7]
 |[],_::_,_,_,_,h,_,_=>by simp at h
 |_::_,[],_,_,_,h,_,_=>by simp at h
 |_::_,_::_,[],_,_,_,h,_=>by simp at h
 |m::r,k::s,p::B,w,z,h1,h2,h3=>by
  have hw:w<B0.length:=by
   have:=congrArg U5 h3
   simp at this;omega
  rw[U2i hw] at h3
  obtain⟨hp,hB⟩:=U6g h3
  rw[trip,U3d,Wi B0 r s B (w+1) _ (by simpa using h1) (by simpa using h2) hB,cellOf,K7,U66]
  have:B0.getD w (0,0)=p:=by rw[U0h,U0d hw,hp];rfl
  rw[this];rfl
theorem wX(mss:List (List Int))(s:List Nat)(B:List St2)(hm:∀ms∈mss,∀x∈ms,-1000000000<=x/\x<=1000000000)(hs:s.length=mss.length)(hq:∀q∈mss.zip s,q.2<q.1.length-1)(hB:B.length=mss.length)(hb:∀p∈B,-1000000000<=p.1/\p.2<=1000000000)(e0 e3 z6 z7 z8 z9:Option D):∃y6 y7 y8 y9:Option D,
  Qd [e0,some (.lst false (mss.map encJ)),some (Af B),e3,some (Bo s),some (.int 1),z6,z7,z8,z9] []=some (.nx,[e0,some (.lst false (mss.map encJ)),some (Af B),e3,some (Bo s),some (.int (K7 B 0 (cellOf mss s))),y6,y7,y8,y9],[]):=by
 have e:YX (Aa (Ac 1) (Aa (Ac 4) (Aa (Ac 2) Ae))) [e0,some (.lst false (mss.map encJ)),some (Af B),e3,some (Bo s),some (.int 1),z6,z7,z8,z9] []=some (((trip mss s B).map fun q=>D.tup [encJ q.1,.int q.2.1,Am q.2.2],[]),[]):=by
  rw[←Yk]
  show(if (mss.map encJ).length=(s.map fun(k:Nat)=>D.int k).length/\(mss.map encJ).length=(B.map Am).length then _ else _)=_
  rw[if_pos (by simp[hs,hB])]
  rfl
 obtain⟨env',S',e2,hS,y6,y7,y8,y9,he⟩:=Dw (w:=[]) (g:=Pat.sem (.tp [(.nm 6),(.nm 7),(.tp [(.nm 8),(.nm 9)])])) (b:=Qf) (ds:=(trip mss s B).map fun q=>D.tup [encJ q.1,.int q.2.1,Am q.2.2]) (env:=[e0,some (.lst false (mss.map encJ)),some (Af B),e3,some (Bo s),some (.int 1),z6,z7,z8,z9]) (S:=[])
  (fun i env S=>S=[]/\∃y6 y7 y8 y9:Option D,env=[e0,some (.lst false (mss.map encJ)),some (Af B),e3,some (Bo s),some (.int (((trip mss s B).take i).foldl (fun z q=>z*Uj q) 1)),y6,y7,y8,y9])
  ⟨rfl,z6,z7,z8,z9,rfl⟩ (fun i env S _=>by simp) (fun i d env S hd q=>by
   obtain⟨hS,y6,y7,y8,y9,he⟩:=q
   subst hS he
   rw[U0v] at hd
   obtain⟨q,hq',rfl⟩:=U16.mp hd
   obtain⟨t1,t2⟩:=au (U1h hq')
   have hk:=hq _ t1
   have hms:=hm q.1 (U30 t1).1
   have hbb:=hb _ t2
   obtain⟨ms,k,lo,hi⟩:=q
   simp only at hk hms hbb
   refine⟨[e0,some (.lst false (mss.map encJ)),some (Af B),e3,some (Bo s),some (.int (((trip mss s B).take i).foldl (fun z q=>z*Uj q) 1)),some (encJ ms),some (.int k),some (.int lo),some (.int hi)],by simp[Ce,JR,Gz,G8,-U0e,-U0g,Am],[e0,some (.lst false (mss.map encJ)),some (Af B),e3,some (Bo s),some (.int (((trip mss s B).take (i+1)).foldl (fun z q=>z*Uj q) 1)),some (encJ ms),some (.int k),some (.int lo),some (.int hi)],[],?_,rfl,_,_,_,_,rfl⟩
   rw[U3x,hq',U4c,U59]
   generalize ((trip mss s B).take i).foldl (fun z q=>z*Uj q) 1=z
   unfold Qf
   rw[Bw,nP (z:=z) (lo:=lo) (hi:=hi) (ms:=ms) (j:=k) hms hbb (by omega) rfl rfl rfl rfl rfl]
   rfl)
 subst hS he
 have:((trip mss s B).map fun q=>D.tup [encJ q.1,.int q.2.1,Am q.2.2]).length=(trip mss s B).length:=by simp
 rw[this,U29,Wi B mss s B 0 1 hs hB rfl,U7r] at e2
 refine⟨y6,y7,y8,y9,?_⟩
 unfold Qd
 rw[Ej,e]
 exact e2
def Nu(sm:List (List St2))(mss:List (List Int))(B:List St2)(s:List Nat):Int:=if GX sm s=[] then 0 else K7 B 0 (cellOf mss s)
end W18
end
section
namespace W18
open PySem L2 VS
theorem Xa:∀mss:List (List Int),Bf (mss.map encJ)=mss.map encJ
 |[]=>by rw[U1m,Bf]
 |m::r=>by rw[U0s,Bf,encJ,age,Mf,Xa r]
theorem V7:∀mss:List (List Int),Aw (mss.map encJ)=true
 |[]=>rfl
 |m::r=>by rw[U0s,Aw,encJ,Bd,Ht,V7 r];rfl
theorem ni(s:List Nat):age (Bo s)=Bo s:=by
 have:=Mf (s.map fun(i:Nat)=>(i:Int))
 rw[U0e] at this
 unfold Bo
 rw[age]
 exact congrArg D.tup this
theorem wY{n m:Nat}{sm:List (List St2)}{mss:List (List Int)}(md:Made n m sm mss)(hn:n<=3)(h20:sm.length<=20){B:List St2}(hB:LC n B)(f:Int)(s:List Nat)(hs:s∈Dv mss)(z5 z6 z7 z8 z9:Option D):∃y5 y6 y7 y8 y9:Option D,
  NT [some (.lst false (sm.map Af)),some (.lst false (mss.map encJ)),some (Af B),some (.int f),some (Bo s),z5,z6,z7,z8,z9] []=some (.nx,[some (.lst false (sm.map Af)),some (.lst false (mss.map encJ)),some (Af B),some (.int (f+Nu sm mss B s)),some (Bo s),y5,y6,y7,y8,y9],[]):=by
 have h1:=rR sm h20 (fun b hb=>by rw[(md.box b hb).len];exact hn) s
 obtain⟨pl,pq⟩:=RX mss s hs
 obtain⟨y6,y7,y8,y9,l1⟩:=wX mss s B (fun ms hm x hx=>(md.mks ms hm).near x hx) pl pq (by rw[hB.1,md.len]) (fun p hp=>(hB.2 p hp).2) (some (.lst false (sm.map Af))) (some (.int f)) z6 z7 z8 z9
 have pB:=Cg (CV sm)
 have aB:Bf (sm.map Af)=sm.map Af:=Io (CV sm)
 have c1:Bg G9 (Aa (Ac 0) (Aa (Ac 4) Ae)) [some (.lst false (sm.map Af)),some (.lst false (mss.map encJ)),some (Af B),some (.int f),some (Bo s),z5,z6,z7,z8,z9] []=some (.lst true ((GX sm s).map fun(i:Nat)=>D.int i),[]) :=
  Dy (ds:=[.lst false (sm.map Af),Bo s]) (es:=[.lst false (sm.map Af),Bo s]) rfl (by rw[Aw,Bd,pB,Aw,Wg,Aw];rfl) (by rw[Bf,age,aB,Bf,ni,Bf]) h1
 have ts:Br (eOp (oEq true) (Bg G9 (Aa (Ac 0) (Aa (Ac 4) Ae))) (Bl Ae)) [some (.lst false (sm.map Af)),some (.lst false (mss.map encJ)),some (Af B),some (.int f),some (Bo s),z5,z6,z7,z8,z9] []=some (!(GX sm s).isEmpty,[]):=by
  have q1:=bZ (neg:=true) (S:=[]) (m:=true) 1 (Wd [] true ((GX sm s).map fun(i:Nat)=>(i:Int))) (Yz _) (by decide)
  rw[U0e,U0e] at q1
  rw[EY,BJ,c1]
  show(U2x _ (eqP true [] (.lst true ((GX sm s).map fun(i:Nat)=>D.int i)) (.lst true []))).bind _=_
  rw[show((GX sm s).map fun(i:Nat)=>D.int i)=(GX sm s).map (D.int∘fun(i:Nat)=>(i:Int)) from rfl,q1]
  cases GX sm s<;>rfl
 unfold NT
 by_cases h:GX sm s=[]
 .have hd:Nu sm mss B s=0:=if_pos h
  rw[h] at ts
  rw[Lx ts,hd,U76]
  exact⟨z5,z6,z7,z8,z9,rfl⟩
 .have hd:Nu sm mss B s=K7 B 0 (cellOf mss s):=if_neg h
  have:(GX sm s).isEmpty=false:=by
   cases e:GX sm s with
   |nil=>exact absurd e h
   |cons _ _=>rfl
  rw[this] at ts
  rw[MF ts,hd]
  have s1:(Bb 5 (eC (.int 1))) [some (.lst false (sm.map Af)),some (.lst false (mss.map encJ)),some (Af B),some (.int f),some (Bo s),z5,z6,z7,z8,z9] []=some (.nx,[some (.lst false (sm.map Af)),some (.lst false (mss.map encJ)),some (Af B),some (.int f),some (Bo s),some (.int 1),z6,z7,z8,z9],[]):=rfl
  refine⟨some (.int (K7 B 0 (cellOf mss s))),y6,y7,y8,y9,?_⟩
  rw[BZ s1,BZ l1]
  rfl
theorem wW{n m:Nat}{sm:List (List St2)}{mss:List (List Int)}(md:Made n m sm mss)(hn:n<=3)(h20:sm.length<=20){B:List St2}(hB:LC n B):IK [.lst false (sm.map Af),.lst false (mss.map encJ),Af B]=some (.int ((Dv mss).map (Nu sm mss B)).sum):=by
 have hm:=md.big
 have hp:=iU mss (by rw[md.len];exact hn) (fun ms h=>by rw[(md.mks ms h).len];omega)
 have s1:(Bb 3 (eC (.int 0))) [some (.lst false (sm.map Af)),some (.lst false (mss.map encJ)),some (Af B),none,none,none,none,none,none,none] []=some (.nx,[some (.lst false (sm.map Af)),some (.lst false (mss.map encJ)),some (Af B),some (.int 0),none,none,none,none,none,none],[]):=rfl
 have c1:Bg FP (Aa (Ac 1) Ae) [some (.lst false (sm.map Af)),some (.lst false (mss.map encJ)),some (Af B),some (.int 0),none,none,none,none,none,none] []=some (.lst true ((Dv mss).map Bo),[]) :=
  Dy (ds:=[.lst false (mss.map encJ)]) (es:=[.lst false (mss.map encJ)]) rfl (by rw[Aw,Bd,V7,Aw];rfl) (by rw[Bf,age,Xa,Bf]) hp
 have e:DK (Bg FP (Aa (Ac 1) Ae)) [some (.lst false (sm.map Af)),some (.lst false (mss.map encJ)),some (Af B),some (.int 0),none,none,none,none,none,none] []=some (((Dv mss).map Bo,[]),[]):=by
  rw[Fy,c1];rfl
 obtain⟨env',S',e2,hS,z4,z5,z6,z7,z8,z9,he⟩:=Dw (w:=[]) (g:=Pat.sem (.nm 4)) (b:=NT) (ds:=(Dv mss).map Bo) (env:=[some (.lst false (sm.map Af)),some (.lst false (mss.map encJ)),some (Af B),some (.int 0),none,none,none,none,none,none]) (S:=[])
  (fun i env S=>S=[]/\∃z4 z5 z6 z7 z8 z9:Option D,env=[some (.lst false (sm.map Af)),some (.lst false (mss.map encJ)),some (Af B),some (.int (((Dv mss).take i).map (Nu sm mss B)).sum),z4,z5,z6,z7,z8,z9])
  ⟨rfl,none,none,none,none,none,none,rfl⟩ (fun i env S _=>by simp) (fun i d env S hd q=>by
   obtain⟨hS,z4,z5,z6,z7,z8,z9,he⟩:=q
   subst he hS
   rw[U0v] at hd
   obtain⟨s,hs,rfl⟩:=U16.mp hd
   obtain⟨y5,y6,y7,y8,y9,b1⟩:=wY md hn h20 hB (((Dv mss).take i).map (Nu sm mss B)).sum s (U1h hs) z5 z6 z7 z8 z9
   refine⟨[some (.lst false (sm.map Af)),some (.lst false (mss.map encJ)),some (Af B),some (.int (((Dv mss).take i).map (Nu sm mss B)).sum),some (Bo s),z5,z6,z7,z8,z9],by rw[Ce];rfl,_,_,b1,rfl,some (Bo s),y5,y6,y7,y8,y9,?_⟩
   rw[U3x,hs,U4c,U1u,List.sum_append]
   simp only[U0s,U1m,U47,List.sum_nil,U76])
 subst he hS
 have:((Dv mss).map Bo).length=(Dv mss).length:=by simp
 rw[this,U29] at e2
 have l1:Qc [some (.lst false (sm.map Af)),some (.lst false (mss.map encJ)),some (Af B),some (.int 0),none,none,none,none,none,none] []=some (.nx,[some (.lst false (sm.map Af)),some (.lst false (mss.map encJ)),some (Af B),some (.int ((Dv mss).map (Nu sm mss B)).sum),z4,z5,z6,z7,z8,z9],[]):=by
  unfold Qc
  rw[Ej,e]
  exact e2
 unfold IK
 rw[Dh]
 simp only[U0j,U1o,U0s,U1m,U2k,U2l,U0r,U1s,U2f,U1x,if_true]
 unfold Wx
 rw[BZ s1,BZ l1]
 rfl
theorem uf{n m:Nat}{sm:List (List St2)}{mss:List (List Int)}(md:Made n m sm mss):∀(Es:List (List Int))(w:Nat),Cov (sm.map (placed mss)) (-1000000000) 2000000000 w Es (U0n sm.length)->Vu (-1000000000) 2000000000 w Es (sm.map (placed mss))
 |[],_,_=>trivial
 |E::r,w,⟨⟨h1,h2,h3⟩,h4⟩=>by
  refine⟨⟨h1,fun b hb=>?_,h3⟩,uf md r (w+1) h4⟩
  obtain⟨i,hi,rfl⟩:=U45 hb
  have:=h2 i (U1z.mpr (by simpa using hi))
  have e0:(sm.map (placed mss)).getD i []=(sm.map (placed mss))[i]:=by rw[U0h,U0d hi];rfl
  rw[at1,e0] at this
  exact this
theorem nM{n m:Nat}{sm:List (List St2)}{mss:List (List Int)}(md:Made n m sm mss)(B:List St2):((Dv mss).map (Nu sm mss B)).sum=cvB (-1000000000) 2000000000 B n 0 (sm.map (placed mss)):=by
 have hc:=X8 md n 0 (by omega)
 rw[U56] at hc
 have hg:=bW (B:=B) mss 0 (sm.map (placed mss)) (uf md mss 0 hc)
 rw[md.len] at hg
 rw[←hg,Sw,U0e]
 congr 1
 refine U5t fun s hs=>?_
 have e:(U0n sm.length).map (fun i=>(sm.map (placed mss)).getD i [])=sm.map (placed mss):=by
  refine U6i (by simp) fun i h1 h2=>?_
  have hi:i<sm.length:=by simpa using h1
  simp[U0d hi]
 have hh:=rT md s hs
 have hf:=VH (sm.map (placed mss)) (lows (cellOf mss s)) 0 (U0n sm.length)
 rw[e,←hh] at hf
 show Nu sm mss B s=K7 B 0 (cellOf mss s)*one (Qy 0 (lows (cellOf mss s)) (sm.map (placed mss)))
 rw[hf]
 unfold Nu one
 cases GX sm s<;>simp
end W18
end
section
namespace W18
open PySem L2 VS
theorem xG(x y z:Int)(e1 e5 z6 e7 e8 e9:Option D)(f:List D)(R:Store)(ms two:List Int)(h1:1<=ms.length)(h2:ms.length<=1000)(ht:two.length<=10):∃(v x' z':Int)(y6:Option D),(-1000000000<=v/\v<=999999999) /\
  Nb [some (.ref 0),e1,some (.ref 1),some (encJ ms),some (.ref (R.length+2)),e5,z6,e7,e8,e9] (some [.int x,.int y,.int z]::some f::(R++[some (two.map .int)]))=some (.nx,[some (.ref 0),e1,some (.ref 1),some (encJ ms),some (.ref (R.length+2)),e5,y6,e7,e8,e9],some [.int x',.int y,.int z']::some f::(R++[some ((two++[v]).map .int)])):=by
 obtain⟨t,x1,z1,t1,l0,l1⟩:=Du x y z ms.length (by omega) (by omega)
 obtain⟨u,x2,z2,t2,u0,u1⟩:=Du x1 y z1 5 (by omega) (by omega)
 obtain⟨r,x3,z3,t3,r0,r1⟩:=Du x2 y z2 2 (by decide) (by decide)
 obtain⟨k,f1⟩:∃k:Int,atI [D.int 0,D.int (u-2)] r=some (.int k):=by
  have:r=0∨r=1:=by omega
  rcases this with rfl|rfl
  .exact⟨0,by simp⟩
  .exact⟨u-2,by simp⟩
 have f2:atI (ms.map D.int) t=some (.int (ms.getD t.toNat 0)):=by
  have:=W7 (acc:=ms) (i:=t.toNat) (by omega)
  rw[show((t.toNat:Nat):Int)=t by omega] at this
  exact this
 have v3:∀S:Store,Ac 3 [some (.ref 0),e1,some (.ref 1),some (encJ ms),some (.ref (R.length+2)),e5,z6,e7,e8,e9] S=some (encJ ms,S):=fun S=>rfl
 have q1:Az Aj (Aa (Ac 0) (Aa (eCB Eh (Aa (Ac 3) Ae)) Ae)) [some (.ref 0),e1,some (.ref 1),some (encJ ms),some (.ref (R.length+2)),e5,z6,e7,e8,e9] (some [.int x,.int y,.int z]::some f::(R++[some (two.map .int)]))=some (.int t,some [.int x1,.int y,.int z1]::some f::(R++[some (two.map .int)])):=Ih t1 rfl (by
  rw[Df,Ak,v3]
  show(some (D.int (((ms.map D.int).length:Nat)),_):Option (D×Store))=_
  rw[U0k])
 have q2:Az Aj (Aa (Ac 0) (Aa (eC (.int 5)) Ae)) [some (.ref 0),e1,some (.ref 1),some (encJ ms),some (.ref (R.length+2)),e5,z6,e7,e8,e9] (some [.int x1,.int y,.int z1]::some f::(R++[some (two.map .int)]))=some (.int u,some [.int x2,.int y,.int z2]::some f::(R++[some (two.map .int)])):=Ih t2 rfl rfl
 have q3:Az Aj (Aa (Ac 0) (Aa (eC (.int 2)) Ae)) [some (.ref 0),e1,some (.ref 1),some (encJ ms),some (.ref (R.length+2)),e5,z6,e7,e8,e9] (some [.int x2,.int y,.int z2]::some f::(R++[some (two.map .int)]))=some (.int r,some [.int x3,.int y,.int z3]::some f::(R++[some (two.map .int)])):=Ih t3 rfl rfl
 have q0:eOp oIx (Ac 3) (Az Aj (Aa (Ac 0) (Aa (eCB Eh (Aa (Ac 3) Ae)) Ae))) [some (.ref 0),e1,some (.ref 1),some (encJ ms),some (.ref (R.length+2)),e5,z6,e7,e8,e9] (some [.int x,.int y,.int z]::some f::(R++[some (two.map .int)]))=some (.int (ms.getD t.toNat 0),some [.int x1,.int y,.int z1]::some f::(R++[some (two.map .int)])):=by
  rw[BJ,v3,U0c,q1,U0c]
  show U2x _ (atI (ms.map D.int) t)=_
  rw[f2];rfl
 have q4:eOp oIx (Bl (Aa (eC (.int 0)) (Aa (eOp Dk (Az Aj (Aa (Ac 0) (Aa (eC (.int 5)) Ae))) (eC (.int 2))) Ae))) (Az Aj (Aa (Ac 0) (Aa (eC (.int 2)) Ae))) [some (.ref 0),e1,some (.ref 1),some (encJ ms),some (.ref (R.length+2)),e5,z6,e7,e8,e9] (some [.int x1,.int y,.int z1]::some f::(R++[some (two.map .int)]))=some (.int k,some [.int x3,.int y,.int z3]::some f::(R++[some (two.map .int)])):=by
  have o:eOp Dk (Az Aj (Aa (Ac 0) (Aa (eC (.int 5)) Ae))) (eC (.int 2)) [some (.ref 0),e1,some (.ref 1),some (encJ ms),some (.ref (R.length+2)),e5,z6,e7,e8,e9] (some [.int x1,.int y,.int z1]::some f::(R++[some (two.map .int)]))=some (.int (u-2),some [.int x2,.int y,.int z2]::some f::(R++[some (two.map .int)])):=by rw[BJ,q2];rfl
  rw[BJ,Ci,Ak,CJ,U0c,Ak,o]
  simp only[U0c,BK,q3]
  show U2x _ (atI [D.int 0,D.int (u-2)] r)=_
  rw[f1];rfl
 have s1:(Bb 6 (eOp Cm (eOp oIx (Ac 3) (Az Aj (Aa (Ac 0) (Aa (eCB Eh (Aa (Ac 3) Ae)) Ae)))) (eOp oIx (Bl (Aa (eC (.int 0)) (Aa (eOp Dk (Az Aj (Aa (Ac 0) (Aa (eC (.int 5)) Ae))) (eC (.int 2))) Ae))) (Az Aj (Aa (Ac 0) (Aa (eC (.int 2)) Ae)))))) [some (.ref 0),e1,some (.ref 1),some (encJ ms),some (.ref (R.length+2)),e5,z6,e7,e8,e9] (some [.int x,.int y,.int z]::some f::(R++[some (two.map .int)]))=some (.nx,[some (.ref 0),e1,some (.ref 1),some (encJ ms),some (.ref (R.length+2)),e5,some (.int (ms.getD t.toNat 0+k)),e7,e8,e9],some [.int x3,.int y,.int z3]::some f::(R++[some (two.map .int)])):=by
  rw[Bw,BJ,q0,U0c,q4];rfl
 generalize ms.getD t.toNat 0+k=w at *
 obtain⟨v,hv⟩:∃v:Int,v=(if (-1000000000:Int)<(if (999999999:Int)<w then 999999999 else w) then (if (999999999:Int)<w then 999999999 else w) else -1000000000):=⟨_,rfl⟩
 refine⟨v,x3,z3,some (.int w),by rw[hv];constructor<;>split<;>(try split)<;>omega,?_⟩
 unfold Nb
 rw[BZ s1,HW,J8 (d:=.ref (R.length+2)) (cs:=two.map .int) (ds:=[.int v]) (r:=.non) (S1:=some [.int x3,.int y,.int z3]::some f::(R++[some (two.map .int)])) (S2:=some [.int x3,.int y,.int z3]::some f::(R++[some (two.map .int)])) (S3:=some [.int x3,.int y,.int z3]::some f::(R++[some ((two++[v]).map .int)])) (by rw[Aq];simp[at2]) (by rw[VS.listOf,at2];rfl) (by
  rw[hv];simp[Aq,CJ,BJ,BK,Ak,Df,oI,HN,Li,Dk,Ea,Ft,Ib,-U0e,-U0g]) (by
  unfold Gb
  simp only[at2]
  rw[if_pos (by rw[U0k];omega),put2,U1u]
  rfl)]
 rfl
theorem wu(x y z:Int)(e1 e7 e8 e9 z5 z6:Option D)(f:List D)(R:Store)(ms:List Int)(h1:1<=ms.length)(h2:ms.length<=1000):∃(v w x' z':Int)(y5 y6:Option D),(-1000000000<=v/\v<=999999999)/\(-1000000000<=w/\w<=999999999) /\
  Qh [some (.ref 0),e1,some (.ref 1),some (encJ ms),some (.ref (R.length+2)),z5,z6,e7,e8,e9] (some [.int x,.int y,.int z]::some f::(R++[some []]))=some (.nx,[some (.ref 0),e1,some (.ref 1),some (encJ ms),some (.ref (R.length+2)),y5,y6,e7,e8,e9],some [.int x',.int y,.int z']::some f::(R++[some [.int v,.int w]])):=by
 have e:Dn (Aa (eC (.int 2)) Ae) [some (.ref 0),e1,some (.ref 1),some (encJ ms),some (.ref (R.length+2)),z5,z6,e7,e8,e9] (some [.int x,.int y,.int z]::some f::(R++[some []]))=some ((upD 0 2,[]),some [.int x,.int y,.int z]::some f::(R++[some []])):=Jz (j:=2) 2 rfl (by decide) (by decide) (by decide)
 obtain⟨env',S',e2,two,x',z',y5,y6,he,hS,hl,hb⟩:=Dw (w:=[]) (g:=Pat.sem (.nm 5)) (b:=Nb) (ds:=upD 0 2) (env:=[some (.ref 0),e1,some (.ref 1),some (encJ ms),some (.ref (R.length+2)),z5,z6,e7,e8,e9]) (S:=some [.int x,.int y,.int z]::some f::(R++[some []]))
  (fun i env S=>∃(two:List Int)(x' z':Int)(y5 y6:Option D),env=[some (.ref 0),e1,some (.ref 1),some (encJ ms),some (.ref (R.length+2)),y5,y6,e7,e8,e9]/\S=some [.int x',.int y,.int z']::some f::(R++[some (two.map .int)])/\two.length=min i 2/\∀v∈two,-1000000000<=v/\v<=999999999)
  ⟨[],x,z,z5,z6,rfl,rfl,by simp,fun p h=>by cases h⟩ (fun i env S _=>by simp) (fun i d env S hd q=>by
   obtain⟨two,x',z',y5,y6,he,hS,hl,hb⟩:=q
   obtain⟨hi,rfl⟩:=Nh hd
   subst he hS
   obtain⟨v,x2,z2,w6,hv,e6⟩:=xG x' y z' e1 (some (.int (0+i))) y6 e7 e8 e9 f R ms two h1 h2 (by omega)
   refine⟨_,Ce _ _ _,_,_,e6,two++[v],x2,z2,_,_,rfl,rfl,by simp;omega,fun q hq=>?_⟩
   rcases U12.mp hq with h|h
   .exact hb q h
   .rw[U04.mp h];exact hv)
 rw[Lk,U44] at hl
 subst he hS
 match two,hl with
 |[v,w],_ =>
  refine⟨v,w,x',z',y5,y6,hb v (by simp),hb w (by simp),?_⟩
  unfold Qh
  rw[Ej,e]
  exact e2
theorem wz(x y z:Int)(e1 z4 z5 z6 z7 z8 z9:Option D)(bx:List St2)(hx:bx.length<=10)(R:Store)(ms:List Int)(h1:1<=ms.length)(h2:ms.length<=1000):∃(p:St2)(x' z':Int)(R':Store)(y4 y5 y6 y7 y8 y9:Option D),(p.1<p.2/\-1000000000<=p.1/\p.2<=1000000000) /\
  NZ [some (.ref 0),e1,some (.ref 1),some (encJ ms),z4,z5,z6,z7,z8,z9] (some [.int x,.int y,.int z]::some (bx.map Am)::R)=some (.nx,[some (.ref 0),e1,some (.ref 1),some (encJ ms),y4,y5,y6,y7,y8,y9],some [.int x',.int y,.int z']::some ((bx++[p]).map Am)::R'):=by
 have s1:(Bb 4 (Gd Ae)) [some (.ref 0),e1,some (.ref 1),some (encJ ms),z4,z5,z6,z7,z8,z9] (some [.int x,.int y,.int z]::some (bx.map Am)::R)=some (.nx,[some (.ref 0),e1,some (.ref 1),some (encJ ms),some (.ref (R.length+2)),z5,z6,z7,z8,z9],some [.int x,.int y,.int z]::some (bx.map Am)::(R++[some []])):=rfl
 obtain⟨v,w,x1,z1,y5,y6,hv,hw,l1⟩:=wu x y z e1 z7 z8 z9 z5 z6 (bx.map Am) R ms h1 h2
 obtain⟨t,x2,z2,t2,t0,t1⟩:=Du x1 y z1 6 (by decide) (by decide)
 obtain⟨k,f1,hk⟩:∃k:Int,atI [D.int 0,D.int 0,D.int 0,D.int 0,D.int 1,D.int 2] t=some (.int k)/\(k=0∨k=1∨k=2):=by
  have:t=0∨t=1∨t=2∨t=3∨t=4∨t=5:=by omega
  rcases this with rfl|rfl|rfl|rfl|rfl|rfl
  .exact⟨0,by simp,.inl rfl⟩
  .exact⟨0,by simp,.inl rfl⟩
  .exact⟨0,by simp,.inl rfl⟩
  .exact⟨0,by simp,.inl rfl⟩
  .exact⟨1,rfl,.inr (.inl rfl)⟩
  .exact⟨2,rfl,.inr (.inr rfl)⟩
 obtain⟨lo,e3,i1⟩:∃lo:Int,Ru (some [.int x1,.int y,.int z1]::some (bx.map Am)::(R++[some [.int v,.int w]])) [.ref (R.length+2)]=some (.int lo)/\(lo=v∨lo=w):=by
  rw[Ru,VS.listOf,at2]
  show ∃lo,((intsOf ([v,w].map D.int)).bind fun ns=>(Y5 ns).map D.int)=_/\_
  rw[Iv]
  by_cases h:w<v
  .exact⟨w,by simp[Y5,h],.inr rfl⟩
  .exact⟨v,by simp[Y5,h],.inl rfl⟩
 obtain⟨hi,e4,i2⟩:∃hi:Int,Rv (some [.int x1,.int y,.int z1]::some (bx.map Am)::(R++[some [.int v,.int w]])) [.ref (R.length+2)]=some (.int hi)/\(hi=v∨hi=w):=by
  rw[Rv,VS.listOf,at2]
  show ∃hi,((intsOf ([v,w].map D.int)).bind fun ns=>(Y6 ns).map D.int)=_/\_
  rw[Iv]
  by_cases h:v<w
  .exact⟨w,by simp[Y6,h],.inr rfl⟩
  .exact⟨v,by simp[Y6,h],.inl rfl⟩
 have bl:-1000000000<=lo/\lo<=999999999:=by omega
 have bh:-1000000000<=hi/\hi<=999999999:=by omega
 have v4:Ac 4 [some (.ref 0),e1,some (.ref 1),some (encJ ms),some (.ref (R.length+2)),y5,y6,z7,z8,z9] (some [.int x1,.int y,.int z1]::some (bx.map Am)::(R++[some [.int v,.int w]]))=some (.ref (R.length+2),some [.int x1,.int y,.int z1]::some (bx.map Am)::(R++[some [.int v,.int w]])):=by rw[Aq];simp[at2]
 have s2:(cP 7 8 (Aa (eCB Ru (Aa (Ac 4) Ae)) (Aa (eCB Rv (Aa (Ac 4) Ae)) Ae))) [some (.ref 0),e1,some (.ref 1),some (encJ ms),some (.ref (R.length+2)),y5,y6,z7,z8,z9] (some [.int x1,.int y,.int z1]::some (bx.map Am)::(R++[some [.int v,.int w]]))=some (.nx,[some (.ref 0),e1,some (.ref 1),some (encJ ms),some (.ref (R.length+2)),y5,y6,some (.int lo),some (.int hi),z9],some [.int x1,.int y,.int z1]::some (bx.map Am)::(R++[some [.int v,.int w]])):=by
  rw[pZ,Ak,Df,Ak,v4]
  simp only[U0c,BK,e3,e4,U6t,Ak,Df,v4]
  rfl
 have s3:(Bb 9 (eOp oIx (Bl (Aa (eC (.int 0)) (Aa (eC (.int 0)) (Aa (eC (.int 0)) (Aa (eC (.int 0)) (Aa (eC (.int 1)) (Aa (eC (.int 2)) Ae))))))) (Az Aj (Aa (Ac 0) (Aa (eC (.int 6)) Ae))))) [some (.ref 0),e1,some (.ref 1),some (encJ ms),some (.ref (R.length+2)),y5,y6,some (.int lo),some (.int hi),z9] (some [.int x1,.int y,.int z1]::some (bx.map Am)::(R++[some [.int v,.int w]]))=some (.nx,[some (.ref 0),e1,some (.ref 1),some (encJ ms),some (.ref (R.length+2)),y5,y6,some (.int lo),some (.int hi),some (.int k)],some [.int x2,.int y,.int z2]::some (bx.map Am)::(R++[some [.int v,.int w]])):=by
  have q:Az Aj (Aa (Ac 0) (Aa (eC (.int 6)) Ae)) [some (.ref 0),e1,some (.ref 1),some (encJ ms),some (.ref (R.length+2)),y5,y6,some (.int lo),some (.int hi),z9] (some [.int x1,.int y,.int z1]::some (bx.map Am)::(R++[some [.int v,.int w]]))=some (.int t,some [.int x2,.int y,.int z2]::some (bx.map Am)::(R++[some [.int v,.int w]])):=Ih t2 rfl rfl
  have q0:(Bl (Aa (eC (.int 0)) (Aa (eC (.int 0)) (Aa (eC (.int 0)) (Aa (eC (.int 0)) (Aa (eC (.int 1)) (Aa (eC (.int 2)) Ae))))))) [some (.ref 0),e1,some (.ref 1),some (encJ ms),some (.ref (R.length+2)),y5,y6,some (.int lo),some (.int hi),z9] (some [.int x1,.int y,.int z1]::some (bx.map Am)::(R++[some [.int v,.int w]]))=some (.lst true [.int 0,.int 0,.int 0,.int 0,.int 1,.int 2],some [.int x1,.int y,.int z1]::some (bx.map Am)::(R++[some [.int v,.int w]])):=rfl
  rw[Bw,BJ,q0,U0c,q,U0c]
  show(U2x _ (atI [D.int 0,D.int 0,D.int 0,D.int 0,D.int 1,D.int 2] t)).bind _=_
  rw[f1];rfl
 obtain⟨p,hp,hpp⟩:∃p:St2,(p.1<p.2/\-1000000000<=p.1/\p.2<=1000000000)/\atI [Am (lo,if lo+1>hi then lo+1 else hi),Am (lo,lo+1),Am (-1000000000,1000000000)] k=some (Am p):=by
  rcases hk with rfl|rfl|rfl
  .refine⟨_,?_,rfl⟩
   simp only
   split<;>omega
  .refine⟨_,?_,rfl⟩
   simp only
   omega
  .exact⟨_,by decide,rfl⟩
 refine⟨p,x2,z2,R++[some [.int v,.int w]],some (.ref (R.length+2)),y5,y6,some (.int lo),some (.int hi),some (.int k),hp,?_⟩
 unfold NZ
 rw[BZ s1,BZ l1,BZ s2,BZ s3,HW,J8 (d:=.ref 1) (cs:=bx.map Am) (ds:=[Am p]) (r:=.non) (S1:=some [.int x2,.int y,.int z2]::some (bx.map Am)::(R++[some [.int v,.int w]])) (S2:=some [.int x2,.int y,.int z2]::some (bx.map Am)::(R++[some [.int v,.int w]])) (S3:=some [.int x2,.int y,.int z2]::some ((bx++[p]).map Am)::(R++[some [.int v,.int w]])) rfl rfl (by
  rw[Ak,BJ]
  have q0:(Bl (Aa (BW (Aa (Ac 7) (Aa (eCB Ft (Aa (Ac 8) (Aa (eOp Cm (Ac 7) (eC (.int 1))) Ae))) Ae))) (Aa (BW (Aa (Ac 7) (Aa (eOp Cm (Ac 7) (eC (.int 1))) Ae))) (Aa (BW (Aa (eOp Dk (eC (.int 0)) (eOp Ea (eC (.int 10)) (eC (.int 9)))) (Aa (eOp Ea (eC (.int 10)) (eC (.int 9))) Ae))) Ae)))) [some (.ref 0),e1,some (.ref 1),some (encJ ms),some (.ref (R.length+2)),y5,y6,some (.int lo),some (.int hi),some (.int k)] (some [.int x2,.int y,.int z2]::some (bx.map Am)::(R++[some [.int v,.int w]]))=some (.lst true [Am (lo,if lo+1>hi then lo+1 else hi),Am (lo,lo+1),Am (-1000000000,1000000000)],some [.int x2,.int y,.int z2]::some (bx.map Am)::(R++[some [.int v,.int w]])):=by simp[Aq,CJ,BJ,BK,Ak,Df,Ci,Gs,oI,HN,Li,Cm,Dk,Ea,Ft,VS.listOf,-U0e,-U0g,Am]
  rw[q0]
  show((U2x _ (atI [Am (lo,if lo+1>hi then lo+1 else hi),Am (lo,lo+1),Am (-1000000000,1000000000)] k)).bind _)=_
  rw[hpp];rfl) (by
  show(if (bx.map Am).length<1000000 then some (D.non,some [.int x2,.int y,.int z2]::some (bx.map Am++[Am p])::(R++[some [.int v,.int w]])) else none)=_
  rw[if_pos (by rw[U0k];omega),U1u]
  rfl)]
 rfl
theorem wj(x y z:Int){m:Nat}(hm:m<=40)(mss:List (List Int))(hn:mss.length<=3)(hM:∀ms∈mss,Mk m ms):∃(B:List St2)(x' z':Int),IV [x,y,z] [.lst false (mss.map encJ)]=some (Af B,[x',y,z'])/\LC mss.length B:=by
 have e:DK (Ac 1) [some (.ref 0),some (.lst false (mss.map encJ)),some (.ref 1),none,none,none,none,none,none,none] [some [.int x,.int y,.int z],some []]=some ((mss.map encJ,[]),[some [.int x,.int y,.int z],some []]):=rfl
 obtain⟨env',S',e2,bx,x',z',R',y3,y4,y5,y6,y7,y8,y9,he,hS,hl,hb⟩:=Dw (w:=[]) (g:=Pat.sem (.nm 3)) (b:=NZ) (ds:=mss.map encJ) (env:=[some (.ref 0),some (.lst false (mss.map encJ)),some (.ref 1),none,none,none,none,none,none,none]) (S:=[some [.int x,.int y,.int z],some []])
  (fun i env S=>∃(bx:List St2)(x' z':Int)(R':Store)(y3 y4 y5 y6 y7 y8 y9:Option D),env=[some (.ref 0),some (.lst false (mss.map encJ)),some (.ref 1),y3,y4,y5,y6,y7,y8,y9]/\S=some [.int x',.int y,.int z']::some (bx.map Am)::R'/\bx.length=min i mss.length/\∀p∈bx,p.1<p.2/\-1000000000<=p.1/\p.2<=1000000000)
  ⟨[],x,z,[],none,none,none,none,none,none,none,rfl,rfl,by simp,fun p h=>by cases h⟩ (fun i env S _=>by simp) (fun i d env S hd q=>by
   obtain⟨bx,x',z',R',y3,y4,y5,y6,y7,y8,y9,he,hS,hl,hb⟩:=q
   rw[U0v] at hd
   obtain⟨ms,hms,rfl⟩:=U16.mp hd
   have hi:i<mss.length:=(U0i.mp hms).1
   have hk:=(hM ms (U1h hms)).len
   subst he hS
   obtain⟨p,x2,z2,R2,w4,w5,w6,w7,w8,w9,hp,e6⟩:=wz x' y z' (some (.lst false (mss.map encJ))) y4 y5 y6 y7 y8 y9 bx (by omega) R' ms (by omega) (by omega)
   refine⟨_,Ce _ _ _,_,_,e6,bx++[p],x2,z2,R2,_,_,_,_,_,_,_,rfl,rfl,by simp;omega,fun q hq=>?_⟩
   rcases U12.mp hq with h|h
   .exact hb q h
   .rw[U04.mp h];exact hp)
 have hlm:(mss.map encJ).length=mss.length:=by simp
 rw[hlm,U44] at hl
 subst he hS
 have s1:(Bb 2 (Gd Ae)) [some (.ref 0),some (.lst false (mss.map encJ)),none,none,none,none,none,none,none,none] [some [.int x,.int y,.int z]]=some (.nx,[some (.ref 0),some (.lst false (mss.map encJ)),some (.ref 1),none,none,none,none,none,none,none],[some [.int x,.int y,.int z],some []]):=rfl
 have l2:Qg [some (.ref 0),some (.lst false (mss.map encJ)),some (.ref 1),none,none,none,none,none,none,none] [some [.int x,.int y,.int z],some []]=some (.nx,[some (.ref 0),some (.lst false (mss.map encJ)),some (.ref 1),y3,y4,y5,y6,y7,y8,y9],some [.int x',.int y,.int z']::some (bx.map Am)::R'):=by
  unfold Qg
  rw[Ej,e]
  exact e2
 refine⟨bx,x',z',?_,hl,hb⟩
 unfold IV
 rw[Kl]
 simp only[U0j,U1o,U0s,U1m,U2k,U2l,U0r,U1s,U2f,U1x,if_true]
 unfold Wy
 rw[BZ s1,BZ l2]
 have hp:=Cg (Je bx fun p _=>Hq p)
 have hd:∀S:Store,Cy 1 S (bx.map Am)=some (bx.map Am):=fun S=>Cw 1 S hp
 simp[Cr,Aq,BK,Ak,Df,Nv,VS.listOf,Bx,intsOf,den,-U0e,-U0g,Af,hd]
end W18
end
section
namespace W18
open PySem L2 VS
theorem Xm(v:Int):FJ [.int v,.int v]=some (.bl true):=by
 simp[FJ,QH,Cr,Aq,CJ,BJ,BK,Ak,Df,QC,bf,oEq,Dh,den,-U0e,-U0g,noDict,isSeq]
theorem rm{n:Nat}{bs:List (List St2)}(m m':Bool)(S:Store):eqP true S (Ax m n bs) (Ax m' n bs)=some (.bl false):=nG 4 (RT S m n bs) (RT S m' n bs) (mO 0 n bs) (by decide)
theorem qI(n:Nat)(bs:List (List St2)):Aw [Ax true n bs]=true:=by simp[Aw,Bd,Ax,Cg (CV bs)]
theorem xH(n:Nat)(bs:List (List St2)):Bf [Ax true n bs]=[Ax false n bs]:=by simp[Bf,age,Ax]
theorem iu{n:Nat}{bs:List (List St2)}:Hz [Ax false n bs]=some (Ax true n bs):=by
 simp[Hz,Ww,Cr,Aq,CJ,BJ,BK,Ak,Gs,nJ,oIx,nList,VS.listOf,Bx,Dh,den,Cy,-U0e,-U0g,Ax,Cg (CV bs)]
theorem Rc:∀mss:List (List Int),Bf (mss.map Cq)=mss.map encJ
 |[]=>by rw[U1m,Bf];rfl
 |m::r=>by rw[U0s,Bf,Cq,age,Mf,Rc r];rfl
theorem pL{n:Nat}{bs:List (List St2)}(g:Good n bs){B:List St2}(hB:LC n B)(v:Int)(hv:v=cvB (-1000000000) 2000000000 B n 0 bs)(e0 e1 e2 e3 e4 e5 e6 e9 z12:Option D)(S:Store) :
  Ux [e0,e1,e2,e3,e4,e5,e6,some (Ax true n bs),some (Ax true n bs),e9,some (Af B),some (.int v),z12] S=some (.nx,[e0,e1,e2,e3,e4,e5,e6,some (Ax true n bs),some (Ax true n bs),e9,some (Af B),some (.int v),z12],S):=by
 have h1:=RM g hB
 rw[←hv] at h1
 have h4:=Xm v
 have c1:Bg DG (Aa (Ac 8) (Aa (Ac 10) Ae)) [e0,e1,e2,e3,e4,e5,e6,some (Ax true n bs),some (Ax true n bs),e9,some (Af B),some (.int v),z12] S=some (.int v,S) :=
  Dy (ds:=[Ax true n bs,Af B]) (es:=[Ax false n bs,Af B]) rfl (by simp[Aw,Bd,Ax,Cg (CV bs),Jb]) (by simp[Bf,age,Ax]) h1
 have c2:Bg FJ (Aa (Bg DG (Aa (Ac 8) (Aa (Ac 10) Ae))) (Aa (Ac 11) Ae)) [e0,e1,e2,e3,e4,e5,e6,some (Ax true n bs),some (Ax true n bs),e9,some (Af B),some (.int v),z12] S=some (.bl true,S) :=
  Dy (ds:=[.int v,.int v]) (es:=[.int v,.int v]) (by rw[Ak,c1];rfl) (by simp[Aw,Bd]) (by simp[Bf,age]) h4
 have k2:Br (eOp (oEq true) (Ac 8) (Ac 7)) [e0,e1,e2,e3,e4,e5,e6,some (Ax true n bs),some (Ax true n bs),e9,some (Af B),some (.int v),z12] S=some (false,S):=by
  have he':oEq true S (Ax true n bs) (Ax true n bs)=some (.bl false):=rm true true _
  show(U2x _ (oEq true S (Ax true n bs) (Ax true n bs))).bind _=_
  rw[he'];rfl
 unfold Ux
 rw[Lx (by
  rw[YF,Rw,EY,c2]
  simp only[U0c,U5k,U2b,if_false]
  exact k2)]
 rfl
theorem pK{n m:Nat}(hn:n=1∨n=2∨n=3){sm:List (List St2)}{mss:List (List Int)}(md:Made n m sm mss)(h20:sm.length<=20)(e0 e1:Option D)(e3 e4:Option D)(x y z:Int)(i:Nat)(S:Store)(hS:S[i]?=some (some [.int x,.int y,.int z]))(e9 z10 z11 z12:Option D):∃(x' z':Int)(S':Store)(y10 y11 y12:Option D),S'[i]?=some (some [.int x',.int y,.int z']) /\
  Uw [e0,e1,some (.ref i),e3,e4,some (.lst true (sm.map Af)),some (.lst true (mss.map Cq)),some (Ax true n (sm.map (placed mss))),some (Ax true n (sm.map (placed mss))),e9,z10,z11,z12] S=some (.nx,[e0,e1,some (.ref i),e3,e4,some (.lst true (sm.map Af)),some (.lst true (mss.map Cq)),some (Ax true n (sm.map (placed mss))),some (Ax true n (sm.map (placed mss))),e9,y10,y11,y12],S'):=by
 have hn3:n<=3:=by omega
 obtain⟨B,x',z',h1,hB⟩:=wj x y z md.big mss (by rw[md.len];exact hn3) md.mks
 rw[md.len] at hB
 have hd:=wW md hn3 h20 hB
 have g:=md.good hn
 rw[nM md] at hd
 obtain⟨v,hv⟩:∃v:Int,v=cvB (-1000000000) 2000000000 B n 0 (sm.map (placed mss)):=⟨_,rfl⟩
 rw[←hv] at hd
 have hil:i<S.length:=(U0i.mp hS).1
 have hS1:(S.set i (some [.int x',.int y,.int z']))[i]?=some (some [.int x',.int y,.int z']):=by rw[U2m hil]
 generalize hT:S.set i (some [.int x',.int y,.int z'])=T at *
 generalize hbs:sm.map (placed mss)=bs at *
 have s1:(Bb 10 (Az IV (Aa (Ac 2) (Aa (Ac 6) Ae)))) [e0,e1,some (.ref i),e3,e4,some (.lst true (sm.map Af)),some (.lst true (mss.map Cq)),some (Ax true n bs),some (Ax true n bs),e9,z10,z11,z12] S=some (.nx,[e0,e1,some (.ref i),e3,e4,some (.lst true (sm.map Af)),some (.lst true (mss.map Cq)),some (Ax true n bs),some (Ax true n bs),e9,some (Af B),z11,z12],T):=by
  rw[Bw,Hx (ns:=[x,y,z]) (rest:=[.lst true (mss.map Cq)]) (es:=[.lst false (mss.map encJ)]) (i:=i) (S':=S) rfl hS (by rw[Aw,Bd,NP,Aw];rfl) (by rw[Bf,age,Rc,Bf]) h1,←hT]
  rfl
 have pB:=Cg (CV sm)
 have aB:Bf (sm.map Af)=sm.map Af:=Io (CV sm)
 have aX:age (Af B)=Af B:=by
  have:=Io (CV [B])
  simpa [Bf] using this
 have s2:(Bb 11 (Bg IK (Aa (Ac 5) (Aa (Ac 6) (Aa (Ac 10) Ae))))) [e0,e1,some (.ref i),e3,e4,some (.lst true (sm.map Af)),some (.lst true (mss.map Cq)),some (Ax true n bs),some (Ax true n bs),e9,some (Af B),z11,z12] T=some (.nx,[e0,e1,some (.ref i),e3,e4,some (.lst true (sm.map Af)),some (.lst true (mss.map Cq)),some (Ax true n bs),some (Ax true n bs),e9,some (Af B),some (.int v),z12],T):=by
  rw[Bw,Dy (ds:=[.lst true (sm.map Af),.lst true (mss.map Cq),Af B]) (es:=[.lst false (sm.map Af),.lst false (mss.map encJ),Af B]) (S':=T) rfl (by rw[Aw,Bd,pB,Aw,Bd,NP,Aw,Jb,Aw];rfl) (by rw[Bf,age,aB,Bf,age,Rc,Bf,aX,Bf]) hd]
  rfl
 have l1:∃y12:Option D,YS [e0,e1,some (.ref i),e3,e4,some (.lst true (sm.map Af)),some (.lst true (mss.map Cq)),some (Ax true n bs),some (Ax true n bs),e9,some (Af B),some (.int v),z12] T=some (.nx,[e0,e1,some (.ref i),e3,e4,some (.lst true (sm.map Af)),some (.lst true (mss.map Cq)),some (Ax true n bs),some (Ax true n bs),e9,some (Af B),some (.int v),y12],T):=by
  have e:Dn (Aa (eC (.int 2)) Ae) [e0,e1,some (.ref i),e3,e4,some (.lst true (sm.map Af)),some (.lst true (mss.map Cq)),some (Ax true n bs),some (Ax true n bs),e9,some (Af B),some (.int v),z12] T=some ((upD 0 2,[]),T):=Jz (j:=2) 2 rfl (by decide) (by decide) (by decide)
  unfold YS
  rw[Ej,e]
  obtain⟨env',S',e2,hS',y12,he⟩:=Dw (w:=[]) (g:=Pat.sem (.nm 12)) (b:=Ux) (ds:=upD 0 2) (env:=[e0,e1,some (.ref i),e3,e4,some (.lst true (sm.map Af)),some (.lst true (mss.map Cq)),some (Ax true n bs),some (Ax true n bs),e9,some (Af B),some (.int v),z12]) (S:=T)
   (fun _ env S'=>S'=T/\∃y12:Option D,env=[e0,e1,some (.ref i),e3,e4,some (.lst true (sm.map Af)),some (.lst true (mss.map Cq)),some (Ax true n bs),some (Ax true n bs),e9,some (Af B),some (.int v),y12]) ⟨rfl,z12,rfl⟩ (fun i env S _=>by simp) (fun j d env S' hd q=>by
    obtain⟨hS',y12,he⟩:=q
    subst he hS'
    exact⟨_,Ce _ _ _,_,_,pL g hB v hv _ _ _ _ _ _ _ _ _ _,rfl,_,rfl⟩)
  subst he hS'
  exact⟨y12,e2⟩
 obtain⟨y12,l1⟩:=l1
 refine⟨x',z',T,some (Af B),some (.int v),y12,hS1,?_⟩
 unfold Uw
 rw[BZ s1,BZ s2]
 exact l1
theorem pJ{n most:Nat}(hn:n=1∨n=2∨n=3)(h4:4<=most)(hm:most<=[0,20,10,6].getD n 0)(e0 e1:Option D)(x y z:Int)(i:Nat)(S:Store)(hS:S[i]?=some (some [.int x,.int y,.int z]))(z5 z6 z7 z8 z9 z10 z11 z12:Option D):∃(x' z':Int)(S':Store)(y5 y6 y7 y8 y9 y10 y11 y12:Option D),S'[i]?=some (some [.int x',.int y,.int z']) /\
  Uv [e0,e1,some (.ref i),some (.int n),some (.int most),z5,z6,z7,z8,z9,z10,z11,z12] S=some (.nx,[e0,e1,some (.ref i),some (.int n),some (.int most),y5,y6,y7,y8,y9,y10,y11,y12],S'):=by
 obtain⟨m,sm,mss,x',z',h1,md⟩:=rY x y z n most hn h4 hm
 have h20:sm.length<=20:=by have:=md.few;rcases hn with rfl|rfl|rfl<;>simp at this<;>omega
 have hil:i<S.length:=(U0i.mp hS).1
 have hS1:(S.set i (some [.int x',.int y,.int z']))[i]?=some (some [.int x',.int y,.int z']):=by rw[U2m hil]
 generalize hT:S.set i (some [.int x',.int y,.int z'])=T at *
 have hc:Az GC (Aa (Ac 2) (Aa (Ac 3) (Aa (Ac 4) Ae))) [e0,e1,some (.ref i),some (.int n),some (.int most),z5,z6,z7,z8,z9,z10,z11,z12] S=some (.tup [.lst true (sm.map Af),.lst true (mss.map Cq),Ax true n (sm.map (placed mss))],T):=by
  rw[Hx (ns:=[x,y,z]) (rest:=[.int n,.int most]) (es:=[.int n,.int most]) (i:=i) (S':=S) rfl hS (by simp[Aw,Bd]) (by simp[Bf,age]) h1,←hT]
  rfl
 have s1:(cQ (Az GC (Aa (Ac 2) (Aa (Ac 3) (Aa (Ac 4) Ae)))) (Pat.sem (.tp [(.nm 5),(.nm 6),(.nm 7)]))) [e0,e1,some (.ref i),some (.int n),some (.int most),z5,z6,z7,z8,z9,z10,z11,z12] S=some (.nx,[e0,e1,some (.ref i),some (.int n),some (.int most),some (.lst true (sm.map Af)),some (.lst true (mss.map Cq)),some (Ax true n (sm.map (placed mss))),z8,z9,z10,z11,z12],T):=by
  rw[qC,hc]
  simp[Ce,JR,Gz,G8,-U0e,-U0g]
 have s2:(Bb 8 (Bg Hz (Aa (Ac 7) Ae))) [e0,e1,some (.ref i),some (.int n),some (.int most),some (.lst true (sm.map Af)),some (.lst true (mss.map Cq)),some (Ax true n (sm.map (placed mss))),z8,z9,z10,z11,z12] T=some (.nx,[e0,e1,some (.ref i),some (.int n),some (.int most),some (.lst true (sm.map Af)),some (.lst true (mss.map Cq)),some (Ax true n (sm.map (placed mss))),some (Ax true n (sm.map (placed mss))),z9,z10,z11,z12],T):=by
  rw[Bw,Dy (ds:=[Ax true n (sm.map (placed mss))]) (es:=[Ax false n (sm.map (placed mss))]) (S':=T) rfl (qI ..) (xH ..) iu];rfl
 have e:Dn (Aa (eC (.int 4)) Ae) [e0,e1,some (.ref i),some (.int n),some (.int most),some (.lst true (sm.map Af)),some (.lst true (mss.map Cq)),some (Ax true n (sm.map (placed mss))),some (Ax true n (sm.map (placed mss))),z9,z10,z11,z12] T=some ((upD 0 4,[]),T):=Jz (j:=4) 4 rfl (by decide) (by decide) (by decide)
 obtain⟨env',S',e2,x2,z2,y9,y10,y11,y12,he,hS'⟩:=Dw (w:=[]) (g:=Pat.sem (.nm 9)) (b:=Uw) (ds:=upD 0 4) (env:=[e0,e1,some (.ref i),some (.int n),some (.int most),some (.lst true (sm.map Af)),some (.lst true (mss.map Cq)),some (Ax true n (sm.map (placed mss))),some (Ax true n (sm.map (placed mss))),z9,z10,z11,z12]) (S:=T)
  (fun _ env S'=>∃(x2 z2:Int)(y9 y10 y11 y12:Option D),env=[e0,e1,some (.ref i),some (.int n),some (.int most),some (.lst true (sm.map Af)),some (.lst true (mss.map Cq)),some (Ax true n (sm.map (placed mss))),some (Ax true n (sm.map (placed mss))),y9,y10,y11,y12]/\S'[i]?=some (some [.int x2,.int y,.int z2])) ⟨x',z',z9,z10,z11,z12,rfl,hS1⟩ (fun i env S _=>by simp) (fun j d env S' hd q=>by
   obtain⟨x2,z2,y9,y10,y11,y12,he,hS'⟩:=q
   subst he
   obtain⟨x3,z3,S3,w10,w11,w12,hS3,b⟩:=pK hn md h20 e0 e1 (some (.int n)) (some (.int most)) x2 y z2 i S' hS' (some d) y10 y11 y12
   exact⟨_,Ce _ _ _,_,_,b,x3,z3,_,_,_,_,rfl,hS3⟩)
 subst he
 refine⟨x2,z2,S',some (.lst true (sm.map Af)),some (.lst true (mss.map Cq)),some (Ax true n (sm.map (placed mss))),some (Ax true n (sm.map (placed mss))),y9,y10,y11,y12,hS',?_⟩
 unfold Uv
 rw[BZ s1,BZ s2]
 unfold fU
 rw[Ej,e]
 exact e2
end W18
end
section
namespace W18
open PySem L2 VS
def ins(x:Int):List Int->List Int
 |[]=>[x]
 |y::r=>if x<=y then x::y::r else y::ins x r
def Ui:List Int->List Int
 |[]=>[]
 |x::r=>ins x (Ui r)
theorem Tp(x:Int):∀l:List Int,(ins x l).Perm (x::l)
 |[]=>.refl _
 |y::r=>by
  rw[ins]
  split
  .exact .refl _
  .exact((Tp x r).cons y).trans (.swap ..)
theorem VF:∀l:List Int,(Ui l).Perm l
 |[]=>.refl _
 |x::r=>(Tp x _).trans ((VF r).cons x)
theorem Z1(x:Int):∀{l:List Int},l.Pairwise (·<=·)->(ins x l).Pairwise (·<=·)
 |[],_=>by simp[ins]
 |y::r,h=>by
  obtain⟨h1,h2⟩:=U13.mp h
  rw[ins]
  split
  .rename_i q
   refine U13.mpr ⟨fun z hz=>?_,h⟩
   rcases U0o.mp hz with e|e
   .omega
   .have:=h1 z e;omega
  .refine U13.mpr ⟨fun z hz=>?_,Z1 x h2⟩
   rcases U0o.mp ((Tp x r).mem_iff.mp hz) with e|e
   .omega
   .exact h1 z e
theorem VD:∀l:List Int,(Ui l).Pairwise (·<=·)
 |[]=>.nil
 |x::r=>Z1 x (VD r)
theorem kJ(ns:List Int):GQ ns=Ui (SetP.once ns):=(V2 (VF _) (VD _)).symm
def Q6(bs:List (List St2)):Nat->Nat->List Nat->List (List St2×List Nat)
 |0,_,ns=>if ns=[] then [] else [([],ns)]
 |k+1,w,ns=>if ns=[] then [] else (steps (Ui (SetP.once (ns.map (fun i=>(at1 bs i w).1)++ns.map (fun i=>(at1 bs i w).2))))).flatMap fun p=>(Q6 bs k (w+1) (Gi bs w p.1 ns)).map fun c=>(p::c.1,c.2)
theorem XD(bs:List (List St2)):∀(k w:Nat)(ns:List Nat),Ck bs k w ns=Q6 bs k w ns
 |0,_,_=>rfl
 |k+1,w,ns=>by
  rw[Ck,Q6,Ds,kJ]
  simp only[XD bs k]
theorem X6{n:Nat}{bs:List (List St2)}(g:Good n bs){B:List St2}(hB:LC n B):cvB (-1000000000) 2000000000 B n 0 bs=((Q6 (caps n bs B) n 0 (U0n (caps n bs B).length)).map fun c=>HJ c.1).sum:=by
 have gc:=XH g hB
 have h4:cv (-1000000000) 2000000000 n 0 (caps n bs B)=cvB (-1000000000) 2000000000 B n 0 bs:=Yc hB.1 n 0 bs (by omega) fun b hb=>(g.box b hb).1
 rw[←XD,gH (Ql gc),Qm rfl n 0 _ (Ra gc),U8,Sh,h4]
theorem j7(e0 e1:Option D)(x y z:Int)(i:Nat)(S:Store)(hS:S[i]?=some (some [.int x,.int y,.int z]))(z3 z4 z5 z6 z7 z8 z9 z10 z11 z12:Option D):∃(S':Store)(y3 y4 y5 y6 y7 y8 y9 y10 y11 y12:Option D),
  YQ [e0,e1,some (.ref i),z3,z4,z5,z6,z7,z8,z9,z10,z11,z12] S=some (.nx,[e0,e1,some (.ref i),y3,y4,y5,y6,y7,y8,y9,y10,y11,y12],S'):=by
 have e:DK (BW (Aa (BW (Aa (eC (.int 1)) (Aa (eC (.int 20)) Ae))) (Aa (BW (Aa (eC (.int 2)) (Aa (eC (.int 10)) Ae))) (Aa (BW (Aa (eC (.int 3)) (Aa (eC (.int 6)) Ae))) Ae)))) [e0,e1,some (.ref i),z3,z4,z5,z6,z7,z8,z9,z10,z11,z12] S=some (([(1,20),(2,10),(3,6)].map (fun q:Nat×Nat=>D.tup [.int q.1,.int q.2]),[]),S):=rfl
 unfold YQ
 rw[Ej,e]
 obtain⟨env',S',e2,y3,y4,y5,y6,y7,y8,y9,y10,y11,y12,he,_⟩:=Dw (w:=[]) (g:=Pat.sem (.tp [(.nm 3),(.nm 4)])) (b:=Uv) (ds:=[(1,20),(2,10),(3,6)].map (fun q:Nat×Nat=>D.tup [.int q.1,.int q.2])) (env:=[e0,e1,some (.ref i),z3,z4,z5,z6,z7,z8,z9,z10,z11,z12]) (S:=S)
  (fun _ env T=>∃y3 y4 y5 y6 y7 y8 y9 y10 y11 y12:Option D,env=[e0,e1,some (.ref i),y3,y4,y5,y6,y7,y8,y9,y10,y11,y12]/\∃x' z':Int,T[i]?=some (some [.int x',.int y,.int z'])) ⟨z3,z4,z5,z6,z7,z8,z9,z10,z11,z12,rfl,x,z,hS⟩ (fun i env S _=>by simp) (fun j d env T hd q=>by
   obtain⟨y3,y4,y5,y6,y7,y8,y9,y10,y11,y12,he,x',z',hT⟩:=q
   subst he
   rw[U0v] at hd
   obtain⟨q,hq,rfl⟩:=U16.mp hd
   have hm:=U1h hq
   have hq2:(q.1=1∨q.1=2∨q.1=3)/\4<=q.2/\q.2<=[0,20,10,6].getD q.1 0:=by
    simp only[U0o,U02,or_false] at hm
    rcases hm with rfl|rfl|rfl<;>decide
   obtain⟨x2,z2,S2,w5,w6,w7,w8,w9,w10,w11,w12,hS2,b2⟩:=pJ hq2.1 hq2.2.1 hq2.2.2 e0 e1 x' y z' i T hT y5 y6 y7 y8 y9 y10 y11 y12
   exact⟨[e0,e1,some (.ref i),some (.int q.1),some (.int q.2),y5,y6,y7,y8,y9,y10,y11,y12],by simp[Ce,JR,Gz,G8,-U0e,-U0g],_,_,b2,_,_,_,_,_,_,_,_,_,_,rfl,x2,z2,hS2⟩)
 subst he
 exact⟨S',y3,y4,y5,y6,y7,y8,y9,y10,y11,y12,e2⟩
theorem pI(ns:List Int)(c:Int)(z2 z3 z4 z5 z6 z7 z8 z9 z10 z11 z12:Option D)(S:Store):∃(S':Store)(y2 y3 y4 y5 y6 y7 y8 y9 y10 y11 y12:Option D),Uu [some (.scr ns),some (.int c),z2,z3,z4,z5,z6,z7,z8,z9,z10,z11,z12] S=some (.nx,[some (.scr ns),some (.int c),y2,y3,y4,y5,y6,y7,y8,y9,y10,y11,y12],S'):=by
 obtain⟨x0,p0⟩:=vP c
 have s1:(Bb 2 (RJ Hy (Aa (Ac 1) Ae))) [some (.scr ns),some (.int c),z2,z3,z4,z5,z6,z7,z8,z9,z10,z11,z12] S=some (.nx,[some (.scr ns),some (.int c),some (.ref S.length),z3,z4,z5,z6,z7,z8,z9,z10,z11,z12],S++[some [.int x0,.int c,.int 0]]):=by
  rw[Bw,jw (d':=.ref S.length) (cs:=[.int x0,.int c,.int 0]) (Dy (ds:=[.int c]) (es:=[.int c]) (S':=S) rfl (by simp[Aw,Bd]) (by simp[Bf,age]) p0) (by simp[Nq,Ei,Dl])]
  rfl
 obtain⟨S',y3,y4,y5,y6,y7,y8,y9,y10,y11,y12,l2⟩:=j7 (some (.scr ns)) (some (.int c)) x0 c 0 S.length (S++[some [.int x0,.int c,.int 0]]) (Vt S _ []) z3 z4 z5 z6 z7 z8 z9 z10 z11 z12
 refine⟨S',some (.ref S.length),y3,y4,y5,y6,y7,y8,y9,y10,y11,y12,?_⟩
 unfold Uu
 rw[BZ s1]
 exact l2
theorem mQ:∀ns:List Int,ns.length<=63->Vx [.scr ns]=some (.bl true):=by
 intro ns hns
 obtain⟨l,e⟩:∃l:List Int,DK (eOp Cm (eSl oSl (Ac 0) N7 (N6 (eC (.int 4)))) (Bl (Aa (eCB Eh (Aa (Ac 0) Ae)) Ae))) [some (.scr ns),none,none,none,none,none,none,none,none,none,none,none,none] []=some ((l.map .int,[]),[]):=by
  obtain⟨cs,hc,hl⟩:∃cs:List Int,cut (ns.map D.int) none (some 4)=cs.map D.int/\cs.length<=63:=by
   unfold cut
   rw[←List.map_drop,←List.map_take]
   exact⟨_,rfl,by rw[U2t,U7b];omega⟩
  have hl2:cs.length+1<=1000000:=by omega
  refine⟨cs++[(ns.length:Int)],?_⟩
  have a1:eSl oSl (Ac 0) N7 (N6 (eC (.int 4))) [some (.scr ns),none,none,none,none,none,none,none,none,none,none,none,none] []=some (.lst true (cs.map .int),[]):=by
   show(some (D.lst true (cut (ns.map D.int) none (some 4)),([]:Store)):Option (D×Store))=_
   rw[hc]
  have a2:Bl (Aa (eCB Eh (Aa (Ac 0) Ae)) Ae) [some (.scr ns),none,none,none,none,none,none,none,none,none,none,none,none] []=some (.lst true ([(ns.length:Int)].map .int),[]):=by
   show(some (D.lst true [.int ((ns.map D.int).length:Nat)],([]:Store)):Option (D×Store))=_
   rw[U0k];rfl
  rw[Fy,BJ,a1,U0c,a2,U0c]
  show(U2x _ (if (cs.map D.int).length+1<=1000000 then some (D.lst true (cs.map D.int++[(ns.length:Int)].map D.int)) else none)).bind _=_
  rw[if_pos (by rw[U0k];exact hl2),←U1u]
  rfl
 have l1:∃env' S',YM [some (.scr ns),none,none,none,none,none,none,none,none,none,none,none,none] []=some (.nx,env',S')/\∃y1 y2 y3 y4 y5 y6 y7 y8 y9 y10 y11 y12,env'=[some (.scr ns),y1,y2,y3,y4,y5,y6,y7,y8,y9,y10,y11,y12]:=by
  unfold YM
  rw[Ej,e]
  exact Dw (w:=[]) (g:=Pat.sem (.nm 1)) (b:=Uu) (ds:=l.map .int) (env:=[some (.scr ns),none,none,none,none,none,none,none,none,none,none,none,none]) (S:=[])
   (fun _ env S=>∃y1 y2 y3 y4 y5 y6 y7 y8 y9 y10 y11 y12,env=[some (.scr ns),y1,y2,y3,y4,y5,y6,y7,y8,y9,y10,y11,y12]) ⟨_,_,_,_,_,_,_,_,_,_,_,_,rfl⟩ (fun i env S _=>by simp) (fun j d env S hd q=>by
    obtain⟨y1,y2,y3,y4,y5,y6,y7,y8,y9,y10,y11,y12,he⟩:=q
    rw[U0v] at hd
    obtain⟨c,hc,rfl⟩:=U16.mp hd
    subst he
    obtain⟨S',w2,w3,w4,w5,w6,w7,w8,w9,w10,w11,w12,e3⟩:=pI ns c y2 y3 y4 y5 y6 y7 y8 y9 y10 y11 y12 S
    exact⟨_,Ce _ _ _,_,_,e3,_,_,_,_,_,_,_,_,_,_,_,_,rfl⟩)
 obtain⟨env',S',l1,y1,y2,y3,y4,y5,y6,y7,y8,y9,y10,y11,y12,he⟩:=l1
 subst he
 have gA:Good 1 []:=⟨.inl rfl,by simp,by simp⟩
 have gB:Good 2 [[((0:Int),(4:Int)),(0,4)]]:=⟨.inr (.inl rfl),by simp,by decide⟩
 have bA:LC 1 [((0:Int),(9:Int))]:=⟨rfl,by decide⟩
 have bB:LC 2 [((3:Int),(9:Int)),(-5,1)]:=⟨rfl,by decide⟩
 have hA:=RM gA bA
 have hB:=RM gB bB
 rw[X6 gA bA] at hA
 rw[X6 gB bB] at hB
 have vA:((Q6 (caps 1 [] [((0:Int),(9:Int))]) 1 0 (U0n (caps 1 [] [((0:Int),(9:Int))]).length)).map fun c=>HJ c.1).sum=0:=rfl
 have vB:((Q6 (caps 2 [[((0:Int),(4:Int)),(0,4)]] [((3:Int),(9:Int)),(-5,1)]) 2 0 (U0n (caps 2 [[((0:Int),(4:Int)),(0,4)]] [((3:Int),(9:Int)),(-5,1)]).length)).map fun c=>HJ c.1).sum=1:=by decide +kernel
 rw[vA] at hA
 rw[vB] at hB
 have pA:Aw [Ax true 1 [],Af [((0:Int),(9:Int))]]=true:=by decide
 have aA:Bf [Ax true 1 [],Af [((0:Int),(9:Int))]]=[Ax false 1 [],Af [((0:Int),(9:Int))]]:=by simp[Bf,age,Ax,Af,Am]
 have pB:Aw [Ax true 2 [[((0:Int),(4:Int)),(0,4)]],Af [((3:Int),(9:Int)),(-5,1)]]=true:=by decide
 have aB:Bf [Ax true 2 [[((0:Int),(4:Int)),(0,4)]],Af [((3:Int),(9:Int)),(-5,1)]]=[Ax false 2 [[((0:Int),(4:Int)),(0,4)]],Af [((3:Int),(9:Int)),(-5,1)]]:=by simp[Bf,age,Ax,Af,Am]
 have cA:(Bg DG (Aa (BW (Aa (eC (.int 1)) (Aa (Bl Ae) Ae))) (Aa (BW (Aa (BW (Aa (eC (.int 0)) (Aa (eC (.int 9)) Ae))) Ae)) Ae))) [some (.scr ns),y1,y2,y3,y4,y5,y6,y7,y8,y9,y10,y11,y12] S'=some (.int 0,S') :=
  Dy (ds:=[Ax true 1 [],Af [((0:Int),(9:Int))]]) (es:=[Ax false 1 [],Af [((0:Int),(9:Int))]]) (S':=S') rfl pA aA hA
 have cB:(Bg DG (Aa (BW (Aa (eC (.int 2)) (Aa (Bl (Aa (BW (Aa (BW (Aa (eC (.int 0)) (Aa (eC (.int 4)) Ae))) (Aa (BW (Aa (eC (.int 0)) (Aa (eC (.int 4)) Ae))) Ae))) Ae)) Ae))) (Aa (BW (Aa (BW (Aa (eC (.int 3)) (Aa (eC (.int 9)) Ae))) (Aa (BW (Aa (eUn Nr (eC (.int 5))) (Aa (eC (.int 1)) Ae))) Ae))) Ae))) [some (.scr ns),y1,y2,y3,y4,y5,y6,y7,y8,y9,y10,y11,y12] S'=some (.int 1,S') :=
  Dy (ds:=[Ax true 2 [[((0:Int),(4:Int)),(0,4)]],Af [((3:Int),(9:Int)),(-5,1)]]) (es:=[Ax false 2 [[((0:Int),(4:Int)),(0,4)]],Af [((3:Int),(9:Int)),(-5,1)]]) (S':=S') (by simp[CJ,fj,BK,Ak,Ci,Gs,Nr,-U0e,-U0g,Ax,Af,Am]) pB aB hB
 unfold Vx
 rw[Dh]
 simp only[U0j,U1o,U0s,U1m,U2k,U2l,U0r,U1s,U2f,U1x,if_true]
 unfold oN
 rw[BZ l1]
 have qA:∀S:Store,oEq false S (.int 0) (.int 0)=some (.bl true):=fun S=>rfl
 have qB:∀S:Store,oEq false S (.int 1) (.int 1)=some (.bl true):=fun S=>rfl
 simp[Cr,QC,BJ,CJ,qA,qB,cA,cB,den]
end W18
end
section
namespace W18
open PySem PySem.Spec L2 VS
theorem Np:∀{us:List Value},us.length=1->∃a0,us=[a0]
 |[a0],_=>⟨a0,rfl⟩
theorem Lh:∀{us:List Value},us.length=2->∃a0 a1,us=[a0,a1]
 |[a0,a1],_=>⟨a0,a1,rfl⟩
theorem jU:∀{us:List Value},us.length=3->∃a0 a1 a2,us=[a0,a1,a2]
 |[a0,a1,a2],_=>⟨a0,a1,a2,rfl⟩
theorem uD:∀{us:List Value},us.length=4->∃a0 a1 a2 a3,us=[a0,a1,a2,a3]
 |[a0,a1,a2,a3],_=>⟨a0,a1,a2,a3,rfl⟩
theorem tops{l:U6m}{w:World}{K:U0b}{h:Heap}{mg:Str->Option Value}{fa dM:Addr}{f1 f2 f3 f4 f5 f6 f7 f8 f9 f10 f11 f12 f13 f14 f15 f16 f17 f18 f19 f20 f21 f22 f23 f24 f25 f26 f27 f28 f29 f30:Addr}(X:K.In h)(G:h.Ns mainGlobals mg)(hfa:mg "law"=some (.ref fa))
  {od1 an1 od2 an2 od3 an3 od4 an4 od5 an5 od6 an6 od7 an7 od8 an8 od9 an9 od10 an10 od11 an11 od12 an12 od13 an13 od14 an14 od15 an15 od16 an16 od17 an17 od18 an18 od19 an19 od20 an20 od21 an21 od22 an22 od23 an23 od24 an24 od25 an25 od26 an26 od27 an27 od28 an28 od29 an29 od30 an30:Option Addr} {sl1 sl2 sl3 sl4 sl5 sl6 sl7 sl8 sl9 sl10 sl11 sl12 sl13 sl14 sl15 sl16 sl17 sl18 sl19 sl20 sl21 sl22 sl23 sl24 sl25 sl26 sl27 sl28 sl29 sl30:Array (Option Value)} {oc1 kV1 dc1 pm1 cd1 ct1 oc2 kV2 dc2 pm2 cd2 ct2 oc3 kV3 dc3 pm3 cd3 ct3 oc4 kV4 dc4 pm4 cd4 ct4 oc5 kV5 dc5 pm5 cd5 ct5 oc6 kV6 dc6 pm6 cd6 ct6 oc7 kV7 dc7 pm7 cd7 ct7 oc8 kV8 dc8 pm8 cd8 ct8 oc9 kV9 dc9 pm9 cd9 ct9 oc10 kV10 dc10 pm10 cd10 ct10 oc11 kV11 dc11 pm11 cd11 ct11 oc12 kV12 dc12 pm12 cd12 ct12 oc13 kV13 dc13 pm13 cd13 ct13 oc14 kV14 dc14 pm14 cd14 ct14 oc15 kV15 dc15 pm15 cd15 ct15 oc16 kV16 dc16 pm16 cd16 ct16 oc17 kV17 dc17 pm17 cd17 ct17 oc18 kV18 dc18 pm18 cd18 ct18 oc19 kV19 dc19 pm19 cd19 ct19 oc20 kV20 dc20 pm20 cd20 ct20 oc21 kV21 dc21 pm21 cd21 ct21 oc22 kV22 dc22 pm22 cd22 ct22 oc23 kV23 dc23 pm23 cd23 ct23 oc24 kV24 dc24 pm24 cd24 ct24 oc25 kV25 dc25 pm25 cd25 ct25 oc26 kV26 dc26 pm26 cd26 ct26 oc27 kV27 dc27 pm27 cd27 ct27 oc28 kV28 dc28 pm28 cd28 ct28 oc29 kV29 dc29 pm29 cd29 ct29 oc30 kV30 dc30 pm30 cd30 ct30:Value}
  (a1:U00 K mainGlobals "is_whole"=some (some (.ref f1))) (l1:K.lookup f1=some ⟨oc1,od1,.func (U1b "is_whole" "is_whole" (CN Jl) (Bt Jl) (Al Jl) .none kV1 dc1 pm1 an1 cd1 ct1),sl1⟩) (c1:U07 K cd1 "is_whole"=true) (k1:U03 K (.ref f1)=true)
  (a2:U00 K mainGlobals "are_ways"=some (some (.ref f2))) (l2:K.lookup f2=some ⟨oc2,od2,.func (U1b "are_ways" "are_ways" (CN Jp) (Bt Jp) (Al Jp) .none kV2 dc2 pm2 an2 cd2 ct2),sl2⟩) (c2:U07 K cd2 "are_ways"=true) (k2:U03 K (.ref f2)=true)
  (a3:U00 K mainGlobals "is_stretch"=some (some (.ref f3))) (l3:K.lookup f3=some ⟨oc3,od3,.func (U1b "is_stretch" "is_stretch" (CN Il) (Bt Il) (Al Il) .none kV3 dc3 pm3 an3 cd3 ct3),sl3⟩) (c3:U07 K cd3 "is_stretch"=true) (k3:U03 K (.ref f3)=true)
  (a4:U00 K mainGlobals "is_box"=some (some (.ref f4))) (l4:K.lookup f4=some ⟨oc4,od4,.func (U1b "is_box" "is_box" (CN Kf) (Bt Kf) (Al Kf) .none kV4 dc4 pm4 an4 cd4 ct4),sl4⟩) (c4:U07 K cd4 "is_box"=true) (k4:U03 K (.ref f4)=true)
  (a5:U00 K mainGlobals "is_heap"=some (some (.ref f5))) (l5:K.lookup f5=some ⟨oc5,od5,.func (U1b "is_heap" "is_heap" (CN Ja) (Bt Ja) (Al Ja) .none kV5 dc5 pm5 an5 cd5 ct5),sl5⟩) (c5:U07 K cd5 "is_heap"=true) (k5:U03 K (.ref f5)=true)
  (a6:U00 K mainGlobals "need_heap"=some (some (.ref f6))) (l6:K.lookup f6=some ⟨oc6,od6,.func (U1b "need_heap" "need_heap" (CN JH) (Bt JH) (Al JH) .none kV6 dc6 pm6 an6 cd6 ct6),sl6⟩) (c6:U07 K cd6 "need_heap"=true) (k6:U03 K (.ref f6)=true)
  (a7:U00 K mainGlobals "need_box"=some (some (.ref f7))) (l7:K.lookup f7=some ⟨oc7,od7,.func (U1b "need_box" "need_box" (CN Jj) (Bt Jj) (Al Jj) .none kV7 dc7 pm7 an7 cd7 ct7),sl7⟩) (c7:U07 K cd7 "need_box"=true) (k7:U03 K (.ref f7)=true)
  (a8:U00 K mainGlobals "box_size"=some (some (.ref f8))) (l8:K.lookup f8=some ⟨oc8,od8,.func (U1b "box_size" "box_size" (CN Jo) (Bt Jo) (Al Jo) .none kV8 dc8 pm8 an8 cd8 ct8),sl8⟩) (c8:U07 K cd8 "box_size"=true) (k8:U03 K (.ref f8)=true)
  (a9:U00 K mainGlobals "shared_box"=some (some (.ref f9))) (l9:K.lookup f9=some ⟨oc9,od9,.func (U1b "shared_box" "shared_box" (CN GF) (Bt GF) (Al GF) .none kV9 dc9 pm9 an9 cd9 ct9),sl9⟩) (c9:U07 K cd9 "shared_box"=true) (k9:U03 K (.ref f9)=true)
  (a10:U00 K mainGlobals "ends_along"=some (some (.ref f10))) (l10:K.lookup f10=some ⟨oc10,od10,.func (U1b "ends_along" "ends_along" (CN GK) (Bt GK) (Al GK) .none kV10 dc10 pm10 an10 cd10 ct10),sl10⟩) (c10:U07 K cd10 "ends_along"=true) (k10:U03 K (.ref f10)=true)
  (a11:U00 K mainGlobals "steps_along"=some (some (.ref f11))) (l11:K.lookup f11=some ⟨oc11,od11,.func (U1b "steps_along" "steps_along" (CN Hf) (Bt Hf) (Al Hf) .none kV11 dc11 pm11 an11 cd11 ct11),sl11⟩) (c11:U07 K cd11 "steps_along"=true) (k11:U03 K (.ref f11)=true)
  (a12:U00 K mainGlobals "cells_from"=some (some (.ref f12))) (l12:K.lookup f12=some ⟨oc12,od12,.func (U1b "cells_from" "cells_from" (CN GP) (Bt GP) (Al GP) .none kV12 dc12 pm12 an12 cd12 ct12),sl12⟩) (c12:U07 K cd12 "cells_from"=true) (k12:U03 K (.ref f12)=true)
  (a13:U00 K mainGlobals "cells_of"=some (some (.ref f13))) (l13:K.lookup f13=some ⟨oc13,od13,.func (U1b "cells_of" "cells_of" (CN Jm) (Bt Jm) (Al Jm) .none kV13 dc13 pm13 an13 cd13 ct13),sl13⟩) (c13:U07 K cd13 "cells_of"=true) (k13:U03 K (.ref f13)=true)
  (a14:U00 K mainGlobals "size_together"=some (some (.ref f14))) (l14:K.lookup f14=some ⟨oc14,od14,.func (U1b "size_together" "size_together" (CN Fj) (Bt Fj) (Al Fj) .none kV14 dc14 pm14 an14 cd14 ct14),sl14⟩) (c14:U07 K cd14 "size_together"=true) (k14:U03 K (.ref f14)=true)
  (a15:U00 K mainGlobals "size_within"=some (some (.ref f15))) (l15:K.lookup f15=some ⟨oc15,od15,.func (U1b "size_within" "size_within" (CN Fo) (Bt Fo) (Al Fo) .none kV15 dc15 pm15 an15 cd15 ct15),sl15⟩) (c15:U07 K cd15 "size_within"=true) (k15:U03 K (.ref f15)=true)
  (a16:U00 K mainGlobals "_law_mixed"=some (some (.ref f16))) (l16:K.lookup f16=some ⟨oc16,od16,.func (U1b "_law_mixed" "_law_mixed" (CN JK) (Bt JK) (Al JK) .none kV16 dc16 pm16 an16 cd16 ct16),sl16⟩) (c16:U07 K cd16 "_law_mixed"=true) (k16:U03 K (.ref f16)=true)
  (a17:U00 K mainGlobals "_law_pot"=some (some (.ref f17))) (l17:K.lookup f17=some ⟨oc17,od17,.func (U1b "_law_pot" "_law_pot" (CN Km) (Bt Km) (Al Km) .none kV17 dc17 pm17 an17 cd17 ct17),sl17⟩) (c17:U07 K cd17 "_law_pot"=true) (k17:U03 K (.ref f17)=true)
  (a18:U00 K mainGlobals "_law_take"=some (some (.ref f18))) (l18:K.lookup f18=some ⟨oc18,od18,.func (U1b "_law_take" "_law_take" (CN Jk) (Bt Jk) (Al Jk) .none kV18 dc18 pm18 an18 cd18 ct18),sl18⟩) (c18:U07 K cd18 "_law_take"=true) (k18:U03 K (.ref f18)=true)
  (a19:U00 K mainGlobals "_law_mixed_up"=some (some (.ref f19))) (l19:K.lookup f19=some ⟨oc19,od19,.func (U1b "_law_mixed_up" "_law_mixed_up" (CN G4) (Bt G4) (Al G4) .none kV19 dc19 pm19 an19 cd19 ct19),sl19⟩) (c19:U07 K cd19 "_law_mixed_up"=true) (k19:U03 K (.ref f19)=true)
  (a20:U00 K mainGlobals "_law_unlike"=some (some (.ref f20))) (l20:K.lookup f20=some ⟨oc20,od20,.func (U1b "_law_unlike" "_law_unlike" (CN GJ) (Bt GJ) (Al GJ) .none kV20 dc20 pm20 an20 cd20 ct20),sl20⟩) (c20:U07 K cd20 "_law_unlike"=true) (k20:U03 K (.ref f20)=true)
  (a21:U00 K mainGlobals "_law_small"=some (some (.ref f21))) (l21:K.lookup f21=some ⟨oc21,od21,.func (U1b "_law_small" "_law_small" (CN IW) (Bt IW) (Al IW) .none kV21 dc21 pm21 an21 cd21 ct21),sl21⟩) (c21:U07 K cd21 "_law_small"=true) (k21:U03 K (.ref f21)=true)
  (a22:U00 K mainGlobals "_law_marks"=some (some (.ref f22))) (l22:K.lookup f22=some ⟨oc22,od22,.func (U1b "_law_marks" "_law_marks" (CN JL) (Bt JL) (Al JL) .none kV22 dc22 pm22 an22 cd22 ct22),sl22⟩) (c22:U07 K cd22 "_law_marks"=true) (k22:U03 K (.ref f22)=true)
  (a23:U00 K mainGlobals "_law_heap"=some (some (.ref f23))) (l23:K.lookup f23=some ⟨oc23,od23,.func (U1b "_law_heap" "_law_heap" (CN Hs) (Bt Hs) (Al Hs) .none kV23 dc23 pm23 an23 cd23 ct23),sl23⟩) (c23:U07 K cd23 "_law_heap"=true) (k23:U03 K (.ref f23)=true)
  (a24:U00 K mainGlobals "_law_own"=some (some (.ref f24))) (l24:K.lookup f24=some ⟨oc24,od24,.func (U1b "_law_own" "_law_own" (CN Ko) (Bt Ko) (Al Ko) .none kV24 dc24 pm24 an24 cd24 ct24),sl24⟩) (c24:U07 K cd24 "_law_own"=true) (k24:U03 K (.ref f24)=true)
  (a25:U00 K mainGlobals "_law_places"=some (some (.ref f25))) (l25:K.lookup f25=some ⟨oc25,od25,.func (U1b "_law_places" "_law_places" (CN HF) (Bt HF) (Al HF) .none kV25 dc25 pm25 an25 cd25 ct25),sl25⟩) (c25:U07 K cd25 "_law_places"=true) (k25:U03 K (.ref f25)=true)
  (a26:U00 K mainGlobals "_law_held"=some (some (.ref f26))) (l26:K.lookup f26=some ⟨oc26,od26,.func (U1b "_law_held" "_law_held" (CN Iu) (Bt Iu) (Al Iu) .none kV26 dc26 pm26 an26 cd26 ct26),sl26⟩) (c26:U07 K cd26 "_law_held"=true) (k26:U03 K (.ref f26)=true)
  (a27:U00 K mainGlobals "_law_is_whole"=some (some (.ref f27))) (l27:K.lookup f27=some ⟨oc27,od27,.func (U1b "_law_is_whole" "_law_is_whole" (CN Gw) (Bt Gw) (Al Gw) .none kV27 dc27 pm27 an27 cd27 ct27),sl27⟩) (c27:U07 K cd27 "_law_is_whole"=true) (k27:U03 K (.ref f27)=true)
  (a28:U00 K mainGlobals "_law_box"=some (some (.ref f28))) (l28:K.lookup f28=some ⟨oc28,od28,.func (U1b "_law_box" "_law_box" (CN Kq) (Bt Kq) (Al Kq) .none kV28 dc28 pm28 an28 cd28 ct28),sl28⟩) (c28:U07 K cd28 "_law_box"=true) (k28:U03 K (.ref f28)=true)
  (a29:U00 K mainGlobals "_law_due"=some (some (.ref f29))) (l29:K.lookup f29=some ⟨oc29,od29,.func (U1b "_law_due" "_law_due" (CN Kp) (Bt Kp) (Al Kp) .none kV29 dc29 pm29 an29 cd29 ct29),sl29⟩) (c29:U07 K cd29 "_law_due"=true) (k29:U03 K (.ref f29)=true)
  (a30:U00 K mainGlobals "law"=some (some (.ref f30))) (l30:K.lookup f30=some ⟨oc30,od30,.func (U1b "law" "law" (CN N5) (Bt N5) (Al N5) .none kV30 dc30 pm30 an30 cd30 ct30),sl30⟩) (c30:U07 K cd30 "law"=true) (k30:U03 K (.ref f30)=true)
  (z1:U00 K mainGlobals "len"=some none)
  (z2:U00 K mainGlobals "isinstance"=some none)
  (z3:U00 K mainGlobals "all"=some none)
  (z4:U00 K mainGlobals "sorted"=some none)
  (z5:U00 K mainGlobals "min"=some none)
  (z6:U00 K mainGlobals "max"=some none)
  (z7:U00 K mainGlobals "abs"=some none)
  (z8:U00 K mainGlobals "repr"=some none)
  (z9:U00 K mainGlobals "set"=some none)
  (z10:U00 K mainGlobals "list"=some none)
  (z11:U00 K mainGlobals "tuple"=some none)
  (z12:U00 K mainGlobals "range"=some none)
  (z13:U00 K mainGlobals "int"=some none)
  (z14:U00 K mainGlobals "bool"=some none)
  (z15:U00 K mainGlobals "str"=some none)
  (zBz:U00 K mainGlobals "zip"=some none)
  (zBe:U00 K mainGlobals "enumerate"=some none)
  (zBs:U00 K mainGlobals "sum"=some none)
  {ep:Nat} {h1 h2 h3:Int} {t1 t2 t3 u1 u2 u3:Tok} (aM:U00 K mainGlobals "MOST_BOXES"=some (some (.ref dM))) (hM:(dM==sysModules)=false)
  (lM:K.lookup dM=some { cls:=.type "dict",data:=.dict #[⟨h1,.int 1 t1,.int 20 u1⟩,⟨h2,.int 2 t2,.int 10 u2⟩,⟨h3,.int 3 t3,.int 6 u3⟩] ep }) (e1:h1=hashInt 1) (e2:h2=hashInt 2) (e3:h3=hashInt 3)
  : ∃fd:FuncData,(∀(s:Shared)(v:Value),BindsTo s fd ⟨[v],[]⟩ [("script",v)])/\∀base:Heap,K.In base->base.Ns mainGlobals mg->Cv l.prog w K mg base CX0 9 fa fd ["script"] (Ul K):=by
 have e:=hfa.symm.trans (U08 X G a30)
 cases e
 have F1:=DR (st:=Jl) l1 c1 k1
 have b1:=F1.binds (ps:=["thing"]) fun _ _ _ _ _ _ us hl=>by obtain⟨_,rfl⟩:=Np hl;rfl
 have F2:=DR (st:=Jp) l2 c2 k2
 have b2:=F2.binds (ps:=["thing"]) fun _ _ _ _ _ _ us hl=>by obtain⟨_,rfl⟩:=Np hl;rfl
 have F3:=DR (st:=Il) l3 c3 k3
 have b3:=F3.binds (ps:=["thing"]) fun _ _ _ _ _ _ us hl=>by obtain⟨_,rfl⟩:=Np hl;rfl
 have F4:=DR (st:=Kf) l4 c4 k4
 have b4:=F4.binds (ps:=["ways","thing"]) fun _ _ _ _ _ _ us hl=>by obtain⟨_,_,rfl⟩:=Lh hl;rfl
 have F5:=DR (st:=Ja) l5 c5 k5
 have b5:=F5.binds (ps:=["thing"]) fun _ _ _ _ _ _ us hl=>by obtain⟨_,rfl⟩:=Np hl;rfl
 have F6:=DR (st:=JH) l6 c6 k6
 have b6:=F6.binds (ps:=["heap"]) fun _ _ _ _ _ _ us hl=>by obtain⟨_,rfl⟩:=Np hl;rfl
 have F7:=DR (st:=Jj) l7 c7 k7
 have b7:=F7.binds (ps:=["ways","box"]) fun _ _ _ _ _ _ us hl=>by obtain⟨_,_,rfl⟩:=Lh hl;rfl
 have F8:=DR (st:=Jo) l8 c8 k8
 have b8:=F8.binds (ps:=["box"]) fun _ _ _ _ _ _ us hl=>by obtain⟨_,rfl⟩:=Np hl;rfl
 have F9:=DR (st:=GF) l9 c9 k9
 have b9:=F9.binds (ps:=["one","other"]) fun _ _ _ _ _ _ us hl=>by obtain⟨_,_,rfl⟩:=Lh hl;rfl
 have F10:=DR (st:=GK) l10 c10 k10
 have b10:=F10.binds (ps:=["boxes","way"]) fun _ _ _ _ _ _ us hl=>by obtain⟨_,_,rfl⟩:=Lh hl;rfl
 have F11:=DR (st:=Hf) l11 c11 k11
 have b11:=F11.binds (ps:=["boxes","way"]) fun _ _ _ _ _ _ us hl=>by obtain⟨_,_,rfl⟩:=Lh hl;rfl
 have F12:=DR (st:=GP) l12 c12 k12
 have b12:=F12.binds (ps:=["boxes","numbers","way","ways"]) fun _ _ _ _ _ _ us hl=>by obtain⟨_,_,_,_,rfl⟩:=uD hl;rfl
 have F13:=DR (st:=Jm) l13 c13 k13
 have b13:=F13.binds (ps:=["heap"]) fun _ _ _ _ _ _ us hl=>by obtain⟨_,rfl⟩:=Np hl;rfl
 have F14:=DR (st:=Fj) l14 c14 k14
 have b14:=F14.binds (ps:=["cells"]) fun _ _ _ _ _ _ us hl=>by obtain⟨_,rfl⟩:=Np hl;rfl
 have F15:=DR (st:=Fo) l15 c15 k15
 have b15:=F15.binds (ps:=["heap","box"]) fun _ _ _ _ _ _ us hl=>by obtain⟨_,_,rfl⟩:=Lh hl;rfl
 have F16:=DR (st:=JK) l16 c16 k16
 have b16:=F16.binds (ps:=["cell","k"]) fun _ _ _ _ _ _ us hl=>by obtain⟨_,_,rfl⟩:=Lh hl;rfl
 have F17:=DR (st:=Km) l17 c17 k17
 have b17:=F17.binds (ps:=["cell"]) fun _ _ _ _ _ _ us hl=>by obtain⟨_,rfl⟩:=Np hl;rfl
 have F18:=DR (st:=Jk) l18 c18 k18
 have b18:=F18.binds (ps:=["pot","many"]) fun _ _ _ _ _ _ us hl=>by obtain⟨_,_,rfl⟩:=Lh hl;rfl
 have F19:=DR (st:=G4) l19 c19 k19
 have b19:=F19.binds (ps:=["pot","things"]) fun _ _ _ _ _ _ us hl=>by obtain⟨_,_,rfl⟩:=Lh hl;rfl
 have F20:=DR (st:=GJ) l20 c20 k20
 have b20:=F20.binds (ps:=["pot","ways","count"]) fun _ _ _ _ _ _ us hl=>by obtain⟨_,_,_,rfl⟩:=jU hl;rfl
 have F21:=DR (st:=IW) l21 c21 k21
 have b21:=F21.binds (ps:=["pot","ways","most","many"]) fun _ _ _ _ _ _ us hl=>by obtain⟨_,_,_,_,rfl⟩:=uD hl;rfl
 have F22:=DR (st:=JL) l22 c22 k22
 have b22:=F22.binds (ps:=["pot","many"]) fun _ _ _ _ _ _ us hl=>by obtain⟨_,_,rfl⟩:=Lh hl;rfl
 have F23:=DR (st:=Hs) l23 c23 k23
 have b23:=F23.binds (ps:=["pot","ways","most"]) fun _ _ _ _ _ _ us hl=>by obtain⟨_,_,_,rfl⟩:=jU hl;rfl
 have F24:=DR (st:=Ko) l24 c24 k24
 have b24:=F24.binds (ps:=["heap"]) fun _ _ _ _ _ _ us hl=>by obtain⟨_,rfl⟩:=Np hl;rfl
 have F25:=DR (st:=HF) l25 c25 k25
 have b25:=F25.binds (ps:=["marks"]) fun _ _ _ _ _ _ us hl=>by obtain⟨_,rfl⟩:=Np hl;rfl
 have F26:=DR (st:=Iu) l26 c26 k26
 have b26:=F26.binds (ps:=["small","spot"]) fun _ _ _ _ _ _ us hl=>by obtain⟨_,_,rfl⟩:=Lh hl;rfl
 have F27:=DR (st:=Gw) l27 c27 k27
 have b27:=F27.binds (ps:=["found","due"]) fun _ _ _ _ _ _ us hl=>by obtain⟨_,_,rfl⟩:=Lh hl;rfl
 have F28:=DR (st:=Kq) l28 c28 k28
 have b28:=F28.binds (ps:=["pot","marks"]) fun _ _ _ _ _ _ us hl=>by obtain⟨_,_,rfl⟩:=Lh hl;rfl
 have F29:=DR (st:=Kp) l29 c29 k29
 have b29:=F29.binds (ps:=["small","marks","box"]) fun _ _ _ _ _ _ us hl=>by obtain⟨_,_,_,rfl⟩:=jU hl;rfl
 have F30:=DR (st:=N5) l30 c30 k30
 have mM:=U08 X G aM
 have B:Blt mg:=fun x hx=>by
  simp only[UG,U0o,U02,or_false] at hx
  rcases hx with rfl|rfl|rfl|rfl|rfl|rfl|rfl|rfl|rfl|rfl|rfl|rfl|rfl|rfl|rfl
  .exact U1q X G z1
  .exact U1q X G z2
  .exact U1q X G z3
  .exact U1q X G z4
  .exact U1q X G z5
  .exact U1q X G z6
  .exact U1q X G z7
  .exact U1q X G z8
  .exact U1q X G z9
  .exact U1q X G z10
  .exact U1q X G z11
  .exact U1q X G z12
  .exact U1q X G z13
  .exact U1q X G z14
  .exact U1q X G z15
 have Bz:mg "zip"=none:=U1q X G zBz
 have Be:mg "enumerate"=none:=U1q X G zBe
 have Bs:mg "sum"=none:=U1q X G zBs
 refine⟨U1b "law" "law" (CN N5) (Bt N5) (Al N5) .none kV30 dc30 pm30 an30 cd30 ct30,fun s v=>.of_eq rfl,fun base _ _=>?_⟩
 have C_is_whole:Ca l.prog w K mg base "is_whole" 1 Fe:=⟨⟨["thing"],⟨_,_,aC F1 B,b1,k1,U08 X G a1⟩,fun ds r h=>DX h⟩⟩
 have C_are_ways:Ca l.prog w K mg base "are_ways" 2 Ep:=⟨⟨["thing"],⟨_,_,aG F2 B mM (uE hM lM e1 e2 e3 (by decide)) C_is_whole,b2,k2,U08 X G a2⟩,fun ds r h=>DX h⟩⟩
 have C_is_stretch:Ca l.prog w K mg base "is_stretch" 2 El:=⟨⟨["thing"],⟨_,_,Xj F3 B C_is_whole,b3,k3,U08 X G a3⟩,fun ds r h=>DX h⟩⟩
 have C_is_box:Ca l.prog w K mg base "is_box" 3 Gk:=⟨⟨["ways","thing"],⟨_,_,iy F4 B C_are_ways C_is_stretch,b4,k4,U08 X G a4⟩,fun ds r h=>DX h⟩⟩
 have C_is_heap:Ca l.prog w K mg base "is_heap" 4 JD:=⟨⟨["thing"],⟨_,_,dz F5 B mM (uE hM lM e1 e2 e3 (by decide)) C_are_ways C_is_box,b5,k5,U08 X G a5⟩,fun ds r h=>DX h⟩⟩
 have C_need_heap:Ca l.prog w K mg base "need_heap" 5 Ge:=⟨⟨["heap"],⟨_,_,ZW F6 B C_is_heap,b6,k6,U08 X G a6⟩,fun ds r h=>DX h⟩⟩
 have C_need_box:Ca l.prog w K mg base "need_box" 4 HD:=⟨⟨["ways","box"],⟨_,_,Zw F7 B C_is_box,b7,k7,U08 X G a7⟩,fun ds r h=>DX h⟩⟩
 have C_box_size:Ca l.prog w K mg base "box_size" 1 Ik:=⟨⟨["box"],⟨_,_,aF F8 B,b8,k8,U08 X G a8⟩,fun ds r h=>DX h⟩⟩
 have C_shared_box:Ca l.prog w K mg base "shared_box" 3 Fz:=⟨⟨["one","other"],⟨_,_,Xg F9 B Bz C_is_stretch,b9,k9,U08 X G a9⟩,fun ds r h=>DX h⟩⟩
 have C_ends_along:Ca l.prog w K mg base "ends_along" 1 Gv:=⟨⟨["boxes","way"],⟨_,_,Xk F10 B,b10,k10,U08 X G a10⟩,fun ds r h=>DX h⟩⟩
 have C_steps_along:Ca l.prog w K mg base "steps_along" 2 Fi:=⟨⟨["boxes","way"],⟨_,_,WD F11 B Bz C_ends_along,b11,k11,U08 X G a11⟩,fun ds r h=>DX h⟩⟩
 have C_cells_from0:Ca l.prog w K mg base "cells_from" 2 (CQ 0):=⟨⟨["boxes","numbers","way","ways"],⟨_,_,sX (f:=f12) rfl,b12,k12,U08 X G a12⟩,fun ds r h=>by cases h⟩⟩
 have C_cells_from1:Ca l.prog w K mg base "cells_from" 3 (CQ 1):=⟨⟨["boxes","numbers","way","ways"],⟨_,_,K9 F12 B C_steps_along (by decide) C_cells_from0,b12,k12,U08 X G a12⟩,fun ds r h=>DX h⟩⟩
 have C_cells_from2:Ca l.prog w K mg base "cells_from" 4 (CQ 2):=⟨⟨["boxes","numbers","way","ways"],⟨_,_,K9 F12 B C_steps_along (by decide) C_cells_from1,b12,k12,U08 X G a12⟩,fun ds r h=>DX h⟩⟩
 have C_cells_from3:Ca l.prog w K mg base "cells_from" 5 (CQ 3):=⟨⟨["boxes","numbers","way","ways"],⟨_,_,K9 F12 B C_steps_along (by decide) C_cells_from2,b12,k12,U08 X G a12⟩,fun ds r h=>DX h⟩⟩
 have C_cells_from4:Ca l.prog w K mg base "cells_from" 6 (CQ 4):=⟨⟨["boxes","numbers","way","ways"],⟨_,_,K9 F12 B C_steps_along (by decide) C_cells_from3,b12,k12,U08 X G a12⟩,fun ds r h=>DX h⟩⟩
 have C_cells_from:=C_cells_from4
 have C_cells_of:Ca l.prog w K mg base "cells_of" 7 GD:=⟨⟨["heap"],⟨_,_,aD F13 B C_cells_from,b13,k13,U08 X G a13⟩,fun ds r h=>DX h⟩⟩
 have C_size_together:Ca l.prog w K mg base "size_together" 2 En:=⟨⟨["cells"],⟨_,_,Uc F14 B Bs C_box_size,b14,k14,U08 X G a14⟩,fun ds r h=>DX h⟩⟩
 have C_size_within:Ca l.prog w K mg base "size_within" 8 DG:=⟨⟨["heap","box"],⟨_,_,WK F15 B C_need_heap C_need_box C_shared_box C_size_together C_cells_of,b15,k15,U08 X G a15⟩,fun ds r h=>DX h⟩⟩
 have C_law_mixed:Ca l.prog w K mg base "_law_mixed" 1 HX:=⟨⟨["cell","k"],⟨_,_,Za F16 B,b16,k16,U08 X G a16⟩,fun ds r h=>DX h⟩⟩
 have C_law_pot:Ca l.prog w K mg base "_law_pot" 1 Hy:=⟨⟨["cell"],⟨_,_,dg F17 B,b17,k17,U08 X G a17⟩,fun ds r h=>DX h⟩⟩
 have C_law_take:Ie l.prog w K mg base "_law_take" 2 Aj:=⟨⟨["pot","many"],⟨_,_,Zx F18 B C_law_mixed,b18,k18,U08 X G a18⟩,fun ns ds r h=>Ln h⟩⟩
 have C_law_mixed_up:Ie l.prog w K mg base "_law_mixed_up" 3 Ez:=⟨⟨["pot","things"],⟨_,_,Vn F19 B C_law_take,b19,k19,U08 X G a19⟩,fun ns ds r h=>Ln h⟩⟩
 have C_law_unlike:Ie l.prog w K mg base "_law_unlike" 4 G3:=⟨⟨["pot","ways","count"],⟨_,_,Xh F20 B Bz C_law_mixed_up,b20,k20,U08 X G a20⟩,fun ns ds r h=>Ln h⟩⟩
 have C_law_small:Ie l.prog w K mg base "_law_small" 5 Gf:=⟨⟨["pot","ways","most","many"],⟨_,_,ZX F21 B C_law_take C_law_unlike,b21,k21,U08 X G a21⟩,fun ns ds r h=>Ln h⟩⟩
 have C_law_marks:Ie l.prog w K mg base "_law_marks" 3 Gg:=⟨⟨["pot","many"],⟨_,_,Zb F22 B C_law_take,b22,k22,U08 X G a22⟩,fun ns ds r h=>Ln h⟩⟩
 have C_law_heap:Ie l.prog w K mg base "_law_heap" 6 GC:=⟨⟨["pot","ways","most"],⟨_,_,Zz F23 B Bz C_law_take C_law_small C_law_marks,b23,k23,U08 X G a23⟩,fun ns ds r h=>Ln h⟩⟩
 have C_law_own:Ca l.prog w K mg base "_law_own" 1 Hz:=⟨⟨["heap"],⟨_,_,dh F24 B,b24,k24,U08 X G a24⟩,fun ds r h=>DX h⟩⟩
 have C_law_places:Ca l.prog w K mg base "_law_places" 1 FP:=⟨⟨["marks"],⟨_,_,Xi F25 B,b25,k25,U08 X G a25⟩,fun ds r h=>DX h⟩⟩
 have C_law_held:Ca l.prog w K mg base "_law_held" 1 G9:=⟨⟨["small","spot"],⟨_,_,Zy F26 B Bz Be,b26,k26,U08 X G a26⟩,fun ds r h=>DX h⟩⟩
 have C_law_is_whole:Ca l.prog w K mg base "_law_is_whole" 1 FJ:=⟨⟨["found","due"],⟨_,_,Vo F27 B,b27,k27,U08 X G a27⟩,fun ds r h=>DX h⟩⟩
 have C_law_box:Ie l.prog w K mg base "_law_box" 3 IV:=⟨⟨["pot","marks"],⟨_,_,dw F28 B C_law_take,b28,k28,U08 X G a28⟩,fun ns ds r h=>Ln h⟩⟩
 have C_law_due:Ca l.prog w K mg base "_law_due" 2 IK:=⟨⟨["small","marks","box"],⟨_,_,dj F29 B Bz C_law_places C_law_held,b29,k29,U08 X G a29⟩,fun ds r h=>DX h⟩⟩
 exact(vp F30 B C_law_pot C_law_heap C_law_own C_law_box C_law_due C_law_is_whole C_size_within).imp (wG mQ)
theorem walk{l:U6m}{q:Program}{loose:List Str}{XP:(Str->Option Value)->Heap->Prop}{YP:World->Heap->Prop}{d:DefRec}{K:Params->U0b}(hn:l.most=some 63)(hdf:d.params.defaults=[])
  (hY:∀(w:World)(h:Heap),YP w h->(K w.params).In h)
  (F:∀(w:World)(mg:Str->Option Value)(fa:Addr)(h:Heap),(K w.params).In h->h.Ns mainGlobals mg->mg d.name=some (.ref fa) ->
   ∃fd:FuncData,(∀(s:Shared)(u:Value),BindsTo s fd ⟨[u],[]⟩ [("script",u)])/\∀base:Heap,(K w.params).In base->base.Ns mainGlobals mg->Cv l.prog w (K w.params) mg base CX0 9 fa fd ["script"] (Ul (K w.params))) :
  U7y q loose XP YP l.row.toRowW d [] (fun f vs=>U7w f vs) :=
 L2.jm (n:=63) (k:=9) (x:="script") (CX:=CX0) (sp:=Ul) hn (by decide) hdf ⟨rfl,by decide,by decide,rfl⟩ hY F (fun _ _ a ns hl hO hS=>⟨a,ns,rfl,hO,hl,hS,fun _=>rfl⟩) fun _ _ _ _ z=>z
end W18
open PySem PySem.W PyProof.Rows
set_option maxRecDepth 100000 in
set_option maxHeartbeats 0 in
theorem PySem.Challenge.cw_boxcover_k18_sizes_within_holds : PySem.Challenge.rw_boxcover_k18_sizes_within.Holds := by
 w_on;o_law;k_head;(case hw=>w_witness2)
 k_fill
 refine W18.walk (l := PySem.Challenge.rw_boxcover_k18_sizes_within) rfl rfl (fun w h Y => PySem.W.kIn_of Y) ?F
 case F =>
  intro w mg fa h KX G hmg
  refine' W18.tops KX G hmg ?a1 ?l1 ?c1 ?k1 ?a2 ?l2 ?c2 ?k2 ?a3 ?l3 ?c3 ?k3 ?a4 ?l4 ?c4 ?k4 ?a5 ?l5 ?c5 ?k5 ?a6 ?l6 ?c6 ?k6 ?a7 ?l7 ?c7 ?k7 ?a8 ?l8 ?c8 ?k8 ?a9 ?l9 ?c9 ?k9 ?a10 ?l10 ?c10 ?k10 ?a11 ?l11 ?c11 ?k11 ?a12 ?l12 ?c12 ?k12 ?a13 ?l13 ?c13 ?k13 ?a14 ?l14 ?c14 ?k14 ?a15 ?l15 ?c15 ?k15 ?a16 ?l16 ?c16 ?k16 ?a17 ?l17 ?c17 ?k17 ?a18 ?l18 ?c18 ?k18 ?a19 ?l19 ?c19 ?k19 ?a20 ?l20 ?c20 ?k20 ?a21 ?l21 ?c21 ?k21 ?a22 ?l22 ?c22 ?k22 ?a23 ?l23 ?c23 ?k23 ?a24 ?l24 ?c24 ?k24 ?a25 ?l25 ?c25 ?k25 ?a26 ?l26 ?c26 ?k26 ?a27 ?l27 ?c27 ?k27 ?a28 ?l28 ?c28 ?k28 ?a29 ?l29 ?c29 ?k29 ?a30 ?l30 ?c30 ?k30 ?z1 ?z2 ?z3 ?z4 ?z5 ?z6 ?z7 ?z8 ?z9 ?z10 ?z11 ?z12 ?z13 ?z14 ?z15 ?zBz ?zBe ?zBs ?aM ?hM ?lM ?e1 ?e2 ?e3
  (case a1=>k_is);(case l1=>k_is);(case c1=>k_is);(case k1=>k_is)
  (case a2=>k_is);(case l2=>k_is);(case c2=>k_is);(case k2=>k_is)
  (case a3=>k_is);(case l3=>k_is);(case c3=>k_is);(case k3=>k_is)
  (case a4=>k_is);(case l4=>k_is);(case c4=>k_is);(case k4=>k_is)
  (case a5=>k_is);(case l5=>k_is);(case c5=>k_is);(case k5=>k_is)
  (case a6=>k_is);(case l6=>k_is);(case c6=>k_is);(case k6=>k_is)
  (case a7=>k_is);(case l7=>k_is);(case c7=>k_is);(case k7=>k_is)
  (case a8=>k_is);(case l8=>k_is);(case c8=>k_is);(case k8=>k_is)
  (case a9=>k_is);(case l9=>k_is);(case c9=>k_is);(case k9=>k_is)
  (case a10=>k_is);(case l10=>k_is);(case c10=>k_is);(case k10=>k_is)
  (case a11=>k_is);(case l11=>k_is);(case c11=>k_is);(case k11=>k_is)
  (case a12=>k_is);(case l12=>k_is);(case c12=>k_is);(case k12=>k_is)
  (case a13=>k_is);(case l13=>k_is);(case c13=>k_is);(case k13=>k_is)
  (case a14=>k_is);(case l14=>k_is);(case c14=>k_is);(case k14=>k_is)
  (case a15=>k_is);(case l15=>k_is);(case c15=>k_is);(case k15=>k_is)
  (case a16=>k_is);(case l16=>k_is);(case c16=>k_is);(case k16=>k_is)
  (case a17=>k_is);(case l17=>k_is);(case c17=>k_is);(case k17=>k_is)
  (case a18=>k_is);(case l18=>k_is);(case c18=>k_is);(case k18=>k_is)
  (case a19=>k_is);(case l19=>k_is);(case c19=>k_is);(case k19=>k_is)
  (case a20=>k_is);(case l20=>k_is);(case c20=>k_is);(case k20=>k_is)
  (case a21=>k_is);(case l21=>k_is);(case c21=>k_is);(case k21=>k_is)
  (case a22=>k_is);(case l22=>k_is);(case c22=>k_is);(case k22=>k_is)
  (case a23=>k_is);(case l23=>k_is);(case c23=>k_is);(case k23=>k_is)
  (case a24=>k_is);(case l24=>k_is);(case c24=>k_is);(case k24=>k_is)
  (case a25=>k_is);(case l25=>k_is);(case c25=>k_is);(case k25=>k_is)
  (case a26=>k_is);(case l26=>k_is);(case c26=>k_is);(case k26=>k_is)
  (case a27=>k_is);(case l27=>k_is);(case c27=>k_is);(case k27=>k_is)
  (case a28=>k_is);(case l28=>k_is);(case c28=>k_is);(case k28=>k_is)
  (case a29=>k_is);(case l29=>k_is);(case c29=>k_is);(case k29=>k_is)
  (case a30=>k_is);(case l30=>k_is);(case c30=>k_is);(case k30=>k_is)
  (case z1=>k_is);(case z2=>k_is);(case z3=>k_is);(case z4=>k_is);(case z5=>k_is);(case z6=>k_is);(case z7=>k_is);(case z8=>k_is);(case z9=>k_is);(case z10=>k_is);(case z11=>k_is);(case z12=>k_is);(case z13=>k_is);(case z14=>k_is);(case z15=>k_is)
  (case zBz=>k_is)
  (case zBe=>k_is)
  (case zBs=>k_is)
  (case aM=>k_is);(case lM=>k_is)
  (case hM=>rfl);(case e1=>rfl);(case e2=>rfl);(case e3=>rfl)
end
