import PyProof.Rows.All
import Wide.All
import OpenK.AllK
import Wide.FinOn
import Lean
import PyProof.EqAt
import PyProof.EqKinds
import PyProof.TupleCall
import PyProof.SetKind
import PyProof.SetNew
import PyProof.SetRoads
import PyProof.Walks
import PyProof.Rows.SetListFold
import PyProof.Seq
import PyProof.Rows.SortShell
import PyProof.TupleIter
import PyProof.CollectWalk
import PyProof.ReprRoads
import PyProof.EqLayable
import PyProof.ReprLen
import PyProof.WalkInts
import PyProof.SeqI3
import PyProof.ListMulRoad
import PyProof.ZipIter
import PyProof.EnumFor
import PyProof.EnumMake
import PyProof.Draws
import PyProof.Rows.ZipGen
import PyProof.LayNew
import PyProof.WalksMore
import PyProof.IsiTupleAll
import PyProof.Rows.Range3
import PyProof.Rows.SumAny
import PyProof.Rows.CallKwBuiltin
import PyProof.MinMaxWalk
import PySem.Challenge.RW_boxcover_k30_areas_and_both_skylines
open PySem renaming wpAny_bind → U0, wpAny_pure → U0d, wpAny_newObj_type → U2a, wpAny_seqItems → U2p, wpAny_call_entry → U2s, mem_of_lookup → U2u, wpAny_holding → U2x, wpAny_field → U21, wpAny_setField → U28, wpAny_truthy_bool → U29, wpAny_rule → U3i, wpAny_setField_rec → U35, wpAny_setState_of → U4, wpAny_askSetting → U4k, wpAny_pyIter_list → U41, wpAny_mono → U48, wpAny_letGo → U5d, wpAny_passesOwn → U5g, wpAny_updateSeq → U5j, wpAny_Call_Name_kw → U5o, wpAny_pyIter_tuple → U5s, wpAny_tryCatch → U5w, wpAny_attempt → U57, wpAny_onRaise → U58, wpAny_isInstance → U6, wpAny_typeOf → U6f, wpAny_updateSeq_pair → U6k, wpAny_setEntries_of → U6m, wpAny_execs_nil → U7a, wpAny_ite_false → U7b, call → U7j
open Option renaming bind_some → U0a, map_bind → U0l, some → U1j, map → U1z, map_eq_some_iff → U2i, toList_some → U3p, map_some → U5l, isSome_iff_exists → U5p
open PySem.W renaming Frag → U0b, nsIn → U0v, keepIn → U01, codeIn → U07, fnOf → U09, mg_of → U1l, mg_none_of → U1p, kia_one → U20, kitOne → U3h, findIn → U5u, cellsFrom_some → U54, OpenLaw → U6h, methodObj → U6v, instObj → U7, lookIn → U7f, WalkO → U7m
open PySem.Heap renaming get?_push_of_some → U0c, lt_size → U0j, get?_push_size → U0u, get?_update_other → U03, SameBut → U1c, size_push → U2c, get?_update_self → U2l, IsTuple → U6l, ExtBut → U6q
open List renaming length_cons → U0e, length_map → U0f, length_append → U0h, map_map → U0i, getElem?_eq_some_iff → U0k, size_toArray → U0m, mem_cons_of_mem → U0n, mem_cons_self → U0p, mem_cons → U0q, map_cons → U0r, replicate_succ → U0t, replicate → U0w, mem_append_right → U0x, getElem?_map → U0y, append_assoc → U0z, getElem?_eq_getElem → U02, getElem?_append_left → U04, replicate_zero → U05, length_nil → U08, mem_append → U1e, mem_singleton → U1f, pairwise_append → U1g, getElem?_append_right → U1h, length_take → U1i, append_nil → U1k, map_nil → U1n, Nodup → U1q, mem_map → U1r, mem_filter → U1s, take_append_drop → U1t, lookup_cons → U1w, nil_append → U1x, length_drop → U10, length_replicate → U11, pairwise_cons → U12, perm_append_comm → U14, take_of_length_le → U17, cons_append → U18, map_append → U19, mem_of_getElem? → U2e, Perm → U2g, mem_append_left → U2h, mergeSort_perm → U2k, not_mem_nil → U2t, flatten_cons → U2w, length_eq_zero_iff → U23, getD_eq_getElem?_getD → U26, getElem?_set_self → U27, drop_eq_getElem_cons → U3, extract_eq_take_drop → U3a, getElem?_set_ne → U3g, foldl_cons → U3k, length_singleton → U3o, pairwise_iff_getElem → U3q, length → U3r, of_mem_zip → U3s, take_append_of_le_length → U3w, all_eq_true → U3x, mem_iff_getElem? → U36, range → U4b, take_succ → U4g, getElem_mem → U4i, take_length → U4m, getElem_of_mem → U4n, filter_sublist → U4o, getElem?_replicate → U4p, nodup_cons → U4t, length_set → U4u, lookup_append → U4v, foldl_append → U40, mem_range → U42, getElem?_toArray → U44, drop_drop → U46, length_filter_le → U47, sum_cons → U5b, filterMap_cons → U5e, length_pos_iff → U5f, forIn_cons → U5i, length_zip → U5k, drop_zero → U5v, drop_left → U5x, take_sublist → U50, Pairwise → U56, filter_cons → U6a, getElem?_eq_none → U6b, set_append_right → U6c, eq_nil_or_concat → U6d, concat_eq_append → U6e, foldl → U6g, getElem?_drop → U6r, getElem?_take → U6s, drop_sublist → U6x, length_range → U60, reverse_perm → U61, ext_getElem? → U62, pairwise_map → U63, isEmpty_nil → U66, zipIdx_cons → U67, lookup → U7d, forIn_nil → U7h, map_tail → U7q
open Array renaming length_toList → U0g, toList_append → U1y, getElem?_eq_getElem → U15, getElem?_toList → U2m, getD_eq_getD_getElem? → U22, getElem_toList → U3t, toList_extract → U3u, toList_reverse → U5, perm_iff_toList_perm → U5c, toList_push → U6z
open Nat renaming le_refl → U0o, lt_of_lt_of_le → U1a, le_trans → U1d, ne_of_lt → U1m, reduceAdd → U1u, reduceSub → U1v, le_of_lt → U2r, ne_of_gt → U3d, zero_le → U3f, lt_of_le_of_lt → U31, zero_add → U4j, lt_irrefl → U4q, le_succ → U4x, le_add_right → U49, lt_trans → U5n, add_zero → U5t, add_sub_cancel_left → U5z, lt_succ_of_lt → U52, lt_succ_self → U59, not_lt → U7k, add_assoc → U7o, mul_comm → U7r, le_of_eq → U7s
open Bool renaming and_eq_true → U0s, false_eq_true → U06, false_ne_true → U1b, eq_iff_iff → U4s, not_true → U5a, or_eq_true → U6i, false_xor → U7i, true_and → U7n, true_xor → U7p, or_true → U7u
open Option.some renaming inj → U00
open PySem.SetTable renaming below → U1o, grown → U4e, probe → U6p
open List.Perm renaming append_left → U13, refl → U43, cons → U7g
open PySem.Heap.SameBut renaming update → U16
open PySem.Builtin.SmallTypes renaming nextOf → U2b, ownedTupleIsFree → U3j
open PySem.NameKind renaming free → U2d, cell → U3m
open Ne renaming symm → U2f
open PySem.SeqAt renaming shaped → U2j
open Int renaming le_refl → U2n, le_of_lt → U33, toNat_natCast → U4a, emod_lt_of_pos → U6t, le_trans → U68, emod_nonneg → U7c
open PyProof.Rows renaming slot_tuple_getitem → U2o, callWith_type1 → U3z
open PySem.Value renaming none → U2q, ref → U3c, type → U3l, bool → U4r, int → U5m
open PySem.Obj renaming mapSeq → U2v, mapFields → U3v
open PySem.F renaming slot_list_append → U2y, type_list_append → U2z, plainAttrs_list → U24, slot_tuple_iterator_next → U3n, plain_max_loop → U3y, called_set → U4l, slot_tuple_mul → U4y, slot_zip_next → U45, args_tuple_add_2 → U5q, entry_tuple_add → U5y, slot_tuple_add → U55, entry_max_loop → U69
open PySem.Around renaming under_plainId → U25
open PySem.PassesOwn renaming never → U3b
open PySem.PyData renaming depth → U3e, shown → U34, depthAll → U38, canLay0 → U4f, shownAll → U4w, canLayAll0 → U53, showable → U6j, eqv → U7l
open PySem.Str renaming ofString → U30
open PySem.Manifest renaming ParamKind → U32, Receiver → U51
open ForInStep renaming yield → U37
open PySem.Manifest.ParamKind renaming posOnly → U39
open False renaming elim → U4c
open PySem.Builtin.Slice renaming slicePlaces → U4d, sliceAdjust → U5h
open PySem.Builtin.Tuple renaming tupleExact → U4h
open PySem.SetTable.below renaming go → U4z
open PySem.Builtin.List renaming listTooLong → U5r
open Sum renaming inl → U6n, inr → U6o
open PySem.Shared renaming TypeIs → U6u, heap → U7e
open List.Pairwise renaming nil → U6w
open PySem.SetTable.probe renaming go → U6y
open True renaming intro → U64
open Or renaming inr → U65, inl → U7t
noncomputable section
set_option Elab.async false
set_option maxRecDepth 10000
set_option linter.all false
set_option maxHeartbeats 4000000
namespace PySem.W.Fast
def tw18192735465437132266:=0
def tw6327239321275168303:=0
def tw16480413470699032520:=0
def tw12389132323829610607:=0
def tw185540642879275267:=0
def tw10248812307470277054:=0
def tw16876050673091810003:=0
def tw2701944150280973687:=0
def tw2668647217963577626:=0
def tw7820075563181934981:=0
def tw4253713337153537253:=0
def tw16571675712574397601:=0
def tw16407860438267619347:=0
def tw7566740854237106010:=0
def tw7301000346140206165:=0
def tw5759389902227330061:=0
def tw1147988626906539398:=0
def tw8397182227610616666:=0
def tw16455732089360538880:=0
def tw1465524264022280664:=0
def tw10974727271325785081:=0
def tw746284473916772873:=0
def tw9655368354197988831:=0
def tw6873630331165044989:=0
def tw17158039455349614494:=0
def tw12852410557732666035:=0
def tw6670698558084623458:=0
def tw12035522773411315513:=0
def tw17150726800861180037:=0
def tw13186426391882496054:=0
def tw15292167196957792453:=0
def tw14437073288483111014:=0
def tw17172293428748655555:=0
def tw6635775342546199205:=0
def tw13188550702732421426:=0
def tw11744224420549568543:=0
def tw1560831313216557142:=0
def tw16670636403397610303:=0
def tw15114161496230152653:=0
def tw168822197846638023:=0
def tw10008074635828640444:=0
def tw2228501126470149753:=0
def tw8872688805099770748:=0
def tw8608207587281244430:=0
def tw3994085563124755984:=0
def tw1464873695784444462:=0
def tw3088513750708109149:=0
def tw8097170007236680465:=0
def tw8800701931307047057:=0
def tw6935808885660245044:=0
def tw7194177448394363184:=0
def tw9581139116023747086:=0
def tw5575519791685812628:=0
def tw6794487380628357859:=0
def tw10948932788798507299:=0
def tw11432035478512406790:=0
def tw7456755873157521767:=0
def tw6406367695598173696:=0
def tw10131120596583905865:=0
def tw16412243178140988360:=0
def tw3837305010712124565:=0
def tw7665420628410873061:=0
def tw1711654067229308484:=0
def tw15144411280501802419:=0
def tw8862776388317377867:=0
def tw6914525869425422695:=0
def tw17324575263541432524:=0
def tw16045386753953680057:=0
def tw1151760329259833022:=0
def tw11459910787655253170:=0
def tw10137175160093363641:=0
def tw7162751101620262291:=0
def tw14367479668841593891:=0
def tw3718109033217214671:=0
def tw10251626946675849833:=0
def tw16843100653250280465:=0
def tw13447099777512602102:=0
def tw3690134423602136275:=0
def tw11134133090198341182:=0
def tw5563347938548819924:=0
def tw13492564750966068860:=0
def tw11758448372534502776:=0
def tw17297584876341052710:=0
def tw11205787203621271015:=0
def tw2420483633617852377:=0
def tw17319640806690481976:=0
def tw16239690563624748498:=0
def tw2371593861915377481:=0
def tw15439057361324798970:=0
def tw17983104501240686376:=0
def tw15866405222757064393:=0
def tw8746161596226469241:=0
def tw6722756961309994955:=0
def tw5566357215094566919:=0
def tw13803836922594493330:=0
def tw6275989222500583482:=0
def tw12793220686447190183:=0
def tw6483696381642115586:=0
def tw1357385887295084582:=0
def tw12300838248016184113:=0
def tw2454679352947976373:=0
def tw14669978598051462074:=0
def tw4620314792602176989:=0
def tw9190718257695038061:=0
def tw7008078287591827315:=0
def tw13206147762220625517:=0
def tw389598244582207516:=0
def tw15239368550731739433:=0
def tw14756198357211424944:=0
def tw14495358130987474031:=0
end PySem.W.Fast
section
set_option maxRecDepth 100000
namespace L2
open PySem PySem.Spec PyProof.Rows
abbrev Key:=Sum Int Str
def fZ:Key->Value->Bool
 |.inl k,v=>Value.isInt k v
 |.inr x,v=>Value.isStrOf x v
def tD(w:World):Key->Int
 |.inl k=>hashInt k
 |.inr x=>hashStr w x
theorem Fe:∀{k:Key} {v:Value},fZ k v=true->(∃i t,k=U6n i/\v=U5m i t)∨(∃x t,k=U6o x/\v=Value.str x t)
 |.inl i,v,h=>by
  obtain⟨t,e⟩:=Value.isInt_shape (k:=i) (v:=v) h
  exact .inl ⟨i,t,rfl,e⟩
 |.inr x,v,h=>by
  obtain⟨t,e⟩:=Value.isStrOf_shape (x:=x) (v:=v) h
  exact .inr ⟨x,t,rfl,e⟩
theorem oG(a b:Int):decide ((U6n a:Key)=U6n b)=(a==b):=by
 by_cases e:a=b
 .subst e;simp
 .have h:¬(U6n a:Key)=U6n b:=fun q=>e (U6n.inj q)
  rw[decide_eq_false h]
  exact(beq_eq_false_iff_ne.mpr e).symm
theorem oA(a b:Str):decide ((U6o a:Key)=U6o b)=decide (a=b):=by
 by_cases e:a=b
 .subst e;simp
 .have h:¬(U6o a:Key)=U6o b:=fun q=>e (U6o.inj q)
  rw[decide_eq_false h,decide_eq_false e]
theorem oF(a:Int)(b:Str):decide ((U6n a:Key)=U6o b)=false:=decide_eq_false (fun q=>nomatch q)
theorem oE(a:Str)(b:Int):decide ((U6o a:Key)=U6n b)=false:=decide_eq_false (fun q=>nomatch q)
def UL(prog:Program)(w:World):PySem.KeyKind prog w Key where
 is:=fZ
 hash:=tD w
 inj:=fun v a b ha hb=>by
  rcases Fe ha with ⟨i,t,rfl,rfl⟩|⟨x,t,rfl,rfl⟩
  .rcases Fe hb with ⟨j,u,rfl,e⟩|⟨y,u,rfl,e⟩
   .injection e with e1 _;rw[e1]
   .exact nomatch e
  .rcases Fe hb with ⟨j,u,rfl,e⟩|⟨y,u,rfl,e⟩
   .exact nomatch e
   .injection e with e1 _;rw[e1]
 byValue:=fun k v h=>by
  rcases Fe h with ⟨i,t,rfl,rfl⟩|⟨x,t,rfl,rfl⟩<;>rfl
 pyHash:=fun hv h=>by
  rcases Fe hv with ⟨i,t,rfl,rfl⟩|⟨x,t,rfl,rfl⟩
  .exact wpAny_pyHash_int h
  .exact wpAny_pyHash_str h
 eqBool:=fun hu hv h=>by
  rcases Fe hu with ⟨i,t,rfl,rfl⟩|⟨x,t,rfl,rfl⟩
  .rcases Fe hv with ⟨j,u,rfl,rfl⟩|⟨y,u,rfl,rfl⟩
   .rw[oG] at h;exact wpAny_eqBool_int h
   .rw[oF] at h;exact SeqAt.EqAt.int_str i t y u _ _ _ _ h
  .rcases Fe hv with ⟨j,u,rfl,rfl⟩|⟨y,u,rfl,rfl⟩
   .rw[oE] at h;exact SeqAt.EqAt.str_int x t j u _ _ _ _ h
   .rw[oA] at h;exact wpAny_eqBool_str h
 «strs»:=fun k x t v h=>by
  rcases Fe h with ⟨i,u,rfl,e⟩|⟨y,u,rfl,e⟩
  .exact nomatch e
  .injection e with e1 _
   subst e1
   cases v<;>rfl
end L2
namespace L2
open PySem PySem.Spec PyProof.Rows
inductive V where
 |non|bl (b:Bool)|int (i:Int)|str (x:Str)|byt (b:Array UInt8)|flt (b:UInt64)|ref (a:Addr)|ty (n:String)
 deriving DecidableEq
def RelV:V->Value->Prop
 |.non,u=>u=U2q
 |.bl b,u=>u=U4r b
 |.int i,u=>∃t,u=U5m i t
 |.str x,u=>∃t,u=Value.str x t
 |.byt b,u=>∃t,u=Value.bytes b t
 |.flt b,u=>∃t,u=Value.float b t
 |.ref a,u=>u=U3c a
 |.ty n,u=>u=U3l n
abbrev Vals:List V->List Value->Prop:=Paired RelV
theorem Vals.length{xs:List V}{us:List Value}(r:Vals xs us):xs.length=us.length:=Paired.length r
theorem Vals.get:∀{xs:List V} {us:List Value} {i:Nat} {x:V},Vals xs us->xs[i]?=some x->∃u,us[i]?=some u/\RelV x u
 |_,_,_,_,.nil,e=>by simp at e
 |_,_,0,_,.cons r _,e=>by simp at e;subst e;exact⟨_,rfl,r⟩
 |_,_,i+1,x,.cons _ t,e=>by
  obtain⟨u,h1,h2⟩:=Vals.get (i:=i) (x:=x) t (by simpa using e)
  exact⟨u,by simpa using h1,h2⟩
theorem Vals.set{x:V}{u:Value}(r:RelV x u):∀{xs:List V} {us:List Value} (i:Nat),Vals xs us->Vals (xs.set i x) (us.set i u)
 |_,_,_,.nil=>.nil
 |_,_,0,.cons _ t=>.cons r t
 |_,_,i+1,.cons q t=>.cons q (Vals.set r i t)
theorem Vals.append:∀{xs ys:List V} {us ws:List Value},Vals xs us->Vals ys ws->Vals (xs++ys) (us++ws)
 |_,_,_,_,.nil,s=>s
 |_,_,_,_,.cons r t,s=>.cons r (Vals.append t s)
theorem Vals.take:∀{xs:List V} {us:List Value} (n:Nat),Vals xs us->Vals (xs.take n) (us.take n)
 |_,_,0,_=>.nil
 |_,_,_+1,.nil=>.nil
 |_,_,n+1,.cons r t=>.cons r (Vals.take n t)
theorem Vals.drop:∀{xs:List V} {us:List Value} (n:Nat),Vals xs us->Vals (xs.drop n) (us.drop n)
 |_,_,0,r=>r
 |_,_,_+1,.nil=>.nil
 |_,_,n+1,.cons _ t=>Vals.drop n t
def cP:Option V->Option Value->Prop
 |some v,some u=>RelV v u
 |none,none=>True
 |_,_=>False
def KV{κ:Type}:List (κ×V)->List (κ×Value)->Prop:=Paired fun(p:κ×V) (q:κ×Value)=>p.1=q.1/\RelV p.2 q.2
def kV:Key->V
 |.inl i=>.int i
 |.inr x=>.str x
inductive HO where
  /-- a list -/
 |lst (xs:List V)
  /-- a tuple (never changes) -/
 |tup (xs:List V)
  /-- a dict whose keys are ints and texts; one whose keys are tuples of ints and texts (the empty one is both) -/
 |dK (kvs:List (Key×V))|dT (kvs:List (List Key×V))
  /-- a set of ints: its members, its size -/
 |set (S:Int->Bool) (n:Nat)
  /-- an instance of the class at C, its dict at dx, its attributes -/
 |ins (C dx:Addr) (fs:List (Str×V))
  /-- the dict of the instance at x -/
 |own (x:Addr)
  /-- the dict of an exception -/
 |xd (fs:List (Str×V))
  /-- a bound method, f of x -/
 |met (f x:Addr)
  /-- a range object lo, lo + 1, .. below hi -/
 |rng (lo hi:Int)
  /-- a thing that is known to the object (the script; a dict while a loop walks it): read, never written while it is so -/
 |frz (o:Obj) (u:HO)
  /-- a code object's table -/
 |tbl (ps:Array Value)
  /-- any other thing, by what is true of its one object (a def of one's own: SetO a S n := HO.ext fun h => ..) -/
 |ext (φ:Heap->Prop)
abbrev Hp:=Addr->Option HO
def upd(H:Hp)(a:Addr)(o:HO):Hp:=fun b=>if b=a then some o else H b
theorem Cg{H:Hp}{a:Addr}{o:HO}:upd H a o a=some o:=by unfold upd;rw[if_pos rfl]
theorem Bf{H:Hp}{a b:Addr}{o:HO}(h:b≠a):upd H a o b=H b:=by unfold upd;rw[if_neg h]
theorem DP{H:Hp}{a b:Addr}{o:HO}(h:H a=some o)(h':H b=none):a≠b:=by
 intro e;subst e;rw[h] at h';cases h'
section
variable(P:Program)(w:World)
def EY(H:Hp)(h:Heap)(a:Addr):HO->Prop
 |.lst xs=>xs.length<=sizeLine/\∃(its:List Value)(n:Nat),Vals xs its/\h.get? a=some { cls:=.type "list",data:=.seq its.toArray n }
 |.tup xs=>xs.length<=sizeLine/\∃its:List Value,Vals xs its/\IsTup h a its.toArray
 |.dK kvs=>kvs.length<=sizeLine/\(a==sysModules)=false/\∃vs,KV kvs vs/\h.DictOf (UL P w) a vs
 |.dT kvs=>kvs.length<=sizeLine/\(a==sysModules)=false/\∃xs:List (List Key×Addr×Value),
   Paired (fun(p:List Key×V) (q:List Key×Addr×Value)=>p.1=q.1/\H q.2.1=some (.tup (p.1.map kV))/\RelV p.2 q.2.2) kvs xs /\
   ∃o es ep,h.get? a=some o/\o.ExactDict/\o.data=.dict es ep/\es.toList=xs.map (entryOfKey (tupleKind (UL P w)))/\(xs.map (·.1)).Nodup
 |.set S n=>h.SetOf (intKind P w) a S n
 |.ins C dx fs=>H dx=some (.own a)/\fs.length<=1000/\dx≠a/\h.get? a=some (U7 C dx) /\
   ∃mA,h.Ns1 dx mA/\(∀f,cP (fs.lookup f) (mA f))/\PySem.Within mA (fs.map (·.1))
 |.own _=>∃o,h.get? a=some o
 |.xd fs=>∃mA,h.Ns1 a mA/\∀f,cP (fs.lookup f) (mA f)
 |.rng lo hi=>∃t u v,h.get? a=some { cls:=.type "range",data:=.fields #[.int lo t,.int hi u,.int 1 v] }
 |.frz o u=>h.get? a=some o/\EY H h a u
 |.tbl ps=>h.get? a=some { cls:=.none,data:=.fields ps }
 |.met f x=>h.get? a=some (U6v (.ref f) (.ref x))
 |.ext φ=>φ h/\(∃o,h.get? a=some o)/\∀h1 h2:Heap,φ h1->(∀o,h1.get? a=some o->h2.get? a=some o)->φ h2
def HOk(H:Hp)(h:Heap):Prop:=∀a o,H a=some o->EY P w H h a o
end
section
variable{P:Program}{w:World}{H H':Hp}{h h':Heap}{a:Addr}{o:HO}
theorem EY.lt(x:EY P w H h a o):a<h.objs.size:=by
 cases o with
 |lst xs=>obtain⟨_,_,_,_,e⟩:=x;exact U0j e
 |tup xs=>obtain⟨_,_,_,p⟩:=x;exact p.lt
 |dK kvs=>obtain⟨_,_,_,_,o,_,_,e,_⟩:=x;exact U0j e
 |dT kvs=>obtain⟨_,_,_,_,o,_,_,e,_⟩:=x;exact U0j e
 |set S n=>obtain⟨o,_,_,_,e,_⟩:=x;exact U0j e
 |ins C dx fs=>obtain⟨_,_,_,e,_⟩:=x;exact U0j e
 |own y=>obtain⟨_,e⟩:=x;exact U0j e
 |xd fs=>obtain⟨_,⟨_,_,_,e,_⟩,_⟩:=x;exact U0j e
 |rng lo hi=>obtain⟨_,_,_,e⟩:=x;exact U0j e
 |frz ob u=>obtain⟨e,_⟩:=x;exact U0j e
 |tbl ps=>exact U0j (show h.get? a=some _ from x)
 |met f y=>exact U0j (show h.get? a=some _ from x)
 |ext φ=>obtain⟨_,⟨_,e⟩,_⟩:=x;exact U0j e
theorem Paired.lY{α β:Type}{F G:α->β->Prop}:∀{l₁:List α} {l₂:List β},Paired F l₁ l₂->(∀a b,F a b->G a b)->Paired G l₁ l₂
 |_,_,.nil,_=>.nil
 |_,_,.cons r t,f=>.cons (f _ _ r) (Paired.lY t f)
theorem EY.stay(x:EY P w H h a o)(k:∀b u,(b=a∨H b=some (.own a))->h.get? b=some u->h'.get? b=some u)
  (ho:∀b,H b=some (.own a)->H' b=some (.own a)) (ht:∀b xs,H b=some (.tup xs)->H' b=some (.tup xs)):EY P w H' h' a o:=by
 induction o with
 |lst xs=>obtain⟨z,its,n,r,e⟩:=x;exact⟨z,its,n,r,k _ _ (.inl rfl) e⟩
 |tup xs=>obtain⟨z,its,r,ob,e,c⟩:=x;exact⟨z,its,r,ob,k _ _ (.inl rfl) e,c⟩
 |dK kvs=>obtain⟨z,y,vs,r,ob,es,ep,e,c⟩:=x;exact⟨z,y,vs,r,ob,es,ep,k _ _ (.inl rfl) e,c⟩
 |dT kvs =>
  obtain⟨z,y,xs,r,ob,es,ep,e,c⟩:=x
  exact⟨z,y,xs,Paired.lY r fun p q z=>⟨z.1,ht _ _ z.2.1,z.2.2⟩,ob,es,ep,k _ _ (.inl rfl) e,c⟩
 |set S n=>obtain⟨ob,es,ep,t,e,c⟩:=x;exact⟨ob,es,ep,t,k _ _ (.inl rfl) e,c⟩
 |ins C dx fs =>
  obtain⟨d,z,ne,e,mA,⟨od,es,ep,e2,c⟩,r⟩:=x
  exact⟨ho _ d,z,ne,k _ _ (.inl rfl) e,mA,⟨od,es,ep,k _ _ (.inr d) e2,c⟩,r⟩
 |own y=>obtain⟨ob,e⟩:=x;exact⟨ob,k _ _ (.inl rfl) e⟩
 |xd fs=>obtain⟨mA,⟨od,es,ep,e,c⟩,r⟩:=x;exact⟨mA,⟨od,es,ep,k _ _ (.inl rfl) e,c⟩,r⟩
 |rng lo hi=>obtain⟨t,u,v,e⟩:=x;exact⟨t,u,v,k _ _ (.inl rfl) e⟩
 |frz ob u ih=>obtain⟨e,q⟩:=x;exact⟨k _ _ (.inl rfl) e,ih q⟩
 |tbl ps =>
  have e:h.get? a=some { cls:=.none,data:=.fields ps }:=x
  show h'.get? a=some { cls:=.none,data:=.fields ps }
  exact k a _ (.inl rfl) e
 |met f y =>
  have e:h.get? a=some (U6v (.ref f) (.ref y)):=x
  show h'.get? a=some (U6v (.ref f) (.ref y))
  exact k a _ (.inl rfl) e
 |ext φ=>obtain⟨p,⟨o,e⟩,st⟩:=x;exact⟨st _ _ p fun o q=>k _ _ (.inl rfl) q,⟨o,k _ _ (.inl rfl) e⟩,st⟩
theorem HOk.lt(x:HOk P w H h)(e:H a=some o):a<h.objs.size:=(x a o e).lt
theorem HOk.fresh(x:HOk P w H h)(e:h.objs.size<=a):H a=none:=by
 cases q:H a with
 |none=>rfl
 |some u=>exact absurd (U1a (x.lt q) e) (U4q _)
theorem HOk.kept(x:HOk P w H h)(k:∀b u,h.get? b=some u->h'.get? b=some u):HOk P w H h':=fun a o e =>
 (x a o e).stay (fun b u _ q=>k b u q) (fun _ q=>q) fun _ _ q=>q
theorem HOk.laid(x:HOk P w H h)(k:∀b u,h.get? b=some u->h'.get? b=some u)(hp:h.objs.size<=a)(new:EY P w (upd H a o) h' a o):HOk P w (upd H a o) h':=fun b u e=>by
 have hn:=x.fresh hp
 by_cases hb:b=a
 .subst hb;rw[Cg] at e;cases e;exact new
 .rw[Bf hb] at e
  exact(x b u e).stay (fun c v _ q=>k c v q) (fun c q=>by rw[Bf (DP q hn)];exact q) fun c xs q=>by rw[Bf (DP q hn)];exact q
end
def Rd(H:Hp)(a:Addr)(u:HO):Prop:=H a=some u∨∃o,H a=some (.frz o u)
theorem Rd.ok{P:Program}{w:World}{H:Hp}{h:Heap}{a:Addr}{u:HO}(r:Rd H a u)(x:HOk P w H h):EY P w H h a u:=by
 rcases r with r|⟨o,r⟩
 .exact x a u r
 .obtain⟨_,q⟩:=x a _ r
  exact q
def Mut:Option HO->Prop
 |some (.lst _)=>True
 |some (.dK _)=>True
 |some (.dT _)=>True
 |some (.set _ _)=>True
 |some (.ins _ _ _)=>True
 |some (.ext _)=>True
 |_=>False
section
variable{P:Program}{w:World}{H:Hp}{h h':Heap}{x e:Addr}{o':HO}
theorem HOk.write(ok:HOk P w H h)(mu:Mut (H x))(he:e=x∨H e=some (.own x))(k:∀b u,b≠e->h.get? b=some u->h'.get? b=some u)(heo:∃u,h'.get? e=some u)
  (new:EY P w (upd H x o') h' x o'):HOk P w (upd H x o') h':=fun b u q=>by
 have nown:∀c y,H c=some (.own y)->c≠x:=fun c y r z=>by subst z;rw[r] at mu;exact mu
 have ntup:∀c xs,H c=some (.tup xs)->c≠x:=fun c xs r z=>by subst z;rw[r] at mu;exact mu
 by_cases hb:b=x
 .subst hb;rw[Cg] at q;cases q;exact new
 .rw[Bf hb] at q
  by_cases hbe:b=e
  .have q':H b=some (.own x):=by
    rcases he with z|z
    .exact absurd (hbe.trans z) hb
    .rw[hbe];exact z
   rw[q] at q';cases q'
   obtain⟨v,hv⟩:=heo
   exact⟨v,by rw[hbe];exact hv⟩
  .refine(ok b u q).stay (fun c v hc r=>k c v ?_ r) (fun c r=>by rw[Bf (nown c b r)];exact r) fun c xs r=>by rw[Bf (ntup c xs r)];exact r
   rcases hc with rfl|hc
   .exact hbe
   .rintro rfl
    rcases he with z|z
    .exact nown c b hc z
    .rw[hc] at z;cases z;exact hb rfl
end
structure Un(fs ex:List Addr)(H H':Hp)(h h':Heap):Prop where
 keep:∀b o,h.get? b=some o->H b=none->b ∉ fs->b ∉ ex->h'.get? b=some o
 slot:∀b o,h.get? b=some o->H b=none->b∈fs->b ∉ ex->∃sl,h'.get? b=some { o with slots:=sl }
 free:∀b o,h.get? b=some o->H b=none->b ∉ ex->H' b=none
 there:∀b o,h.get? b=some o->b ∉ ex->∃o',h'.get? b=some o'
 tups:∀b xs,H b=some (.tup xs)->H' b=some (.tup xs)
 frzs:∀b o u,H b=some (.frz o u)->H' b=some (.frz o u)
 tbls:∀b ps,H b=some (.tbl ps)->∃more,H' b=some (.tbl (ps++more))
 sy:H sysModules=none->H' sysModules=none
section
variable{fs fs' ex ex':List Addr}{H H1 H2:Hp}{h h1 h2 h':Heap}{a x e:Addr}{o:HO}
theorem Un.any(u:Un fs ex H H1 h h1){b:Addr}{ob:Obj}(q:h.get? b=some ob)(n:H b=none)(hx:b ∉ ex):∃sl,h1.get? b=some { ob with slots:=sl }:=by
 by_cases hb:b∈fs
 .exact u.slot b ob q n hb hx
 .exact⟨ob.slots,u.keep b ob q n hb hx⟩
theorem Un.kept(k:∀b u,h.get? b=some u->h'.get? b=some u):Un fs ex H H h h' :=
 ⟨fun b ob q _ _ _=>k b ob q,fun b ob q _ _ _=>⟨ob.slots,k b ob q⟩,fun _ _ _ n _=>n,fun b ob q _=>⟨ob,k b ob q⟩,fun _ _ q=>q,fun _ _ _ q=>q,fun _ ps q=>⟨#[],by rw[q];simp⟩,id⟩
theorem Un.refl:Un fs ex H H h h:=Un.kept fun _ _ q=>q
theorem Un.laid(k:∀b u,h.get? b=some u->h'.get? b=some u)(hp:h.objs.size<=a)(hn:H a=none)(hsy:sysModules≠a):Un fs ex H (upd H a o) h h' where
 sy:=fun n=>by rw[Bf hsy];exact n
 keep:=fun b u q _ _ _=>k b u q
 slot:=fun b u q _ _ _=>⟨u.slots,k b u q⟩
 free:=fun b u q n _=>by rw[Bf (U1m (U1a (U0j q) hp))];exact n
 there:=fun b u q _=>⟨u,k b u q⟩
 tups:=fun b xs q=>by rw[Bf (DP q hn)];exact q
 frzs:=fun b u xs q=>by rw[Bf (DP q hn)];exact q
 tbls:=fun b ps q=>⟨#[],by rw[Bf (DP q hn),q];simp⟩
theorem Un.write(mu:Mut (H x))(he:e=x∨H e=some (.own x))(k:∀b u,b≠e->h.get? b=some u->h'.get? b=some u)(heo:∃u,h'.get? e=some u):Un fs ex H (upd H x o) h h':=by
 have hx:∀b,H b=none->b≠x:=fun b n z=>by subst z;rw[n] at mu;exact mu
 have hb:∀b,H b=none->b≠e:=fun b n z=>by
  subst z
  rcases he with r|r
  .exact hx b n r
  .rw[n] at r;cases r
 have hm:∀b u,H b=some u->¬Mut (some u)->b≠x:=fun b u q nm z=>by subst z;rw[q] at mu;exact nm mu
 refine⟨fun b u q n _ _=>k b u (hb b n) q,fun b u q n _ _=>⟨u.slots,k b u (hb b n) q⟩,fun b u q n _=>by rw[Bf (hx b n)];exact n,fun b u q _=>?_,
  fun b xs q=>by rw[Bf (hm b _ q fun z=>z)];exact q,fun b u xs q=>by rw[Bf (hm b _ q fun z=>z)];exact q,fun b ps q=>⟨#[],by rw[Bf (hm b _ q fun z=>z),q];simp⟩,fun n=>by rw[Bf (hx _ n)];exact n⟩
 by_cases hbe:b=e
 .subst hbe;exact heo
 .exact⟨u,k b u hbe q⟩
end
def trk(h:Heap)(H:Hp):List Addr:=(U4b h.objs.size).filter fun a=>(H a).isSome
def O9(h:Heap)(H:Hp):Heap:=PySem.W.hideAll h (trk h H)
theorem bH(h:Heap)(H:Hp):(O9 h H).objs.size=h.objs.size:=PySem.W.hideAll_size _ _
theorem eX{h:Heap}{H:Hp}{b:Addr}{o:Obj}(e:h.get? b=some o)(n:H b=none):(O9 h H).get? b=some o :=
 PySem.W.hideAll_get _ e fun hm=>by
  have q:(H b).isSome=true:=(U1s.mp hm).2
  rw[n] at q;simp at q
theorem jC{h:Heap}{H:Hp}{b:Addr}{o:Obj}(e:(O9 h H).get? b=some o):h.get? b=some o/\H b=none:=by
 have e':h.get? b=some o:=PySem.W.of_hideAll (trk h H) e
 refine⟨e',?_⟩
 cases q:H b with
 |none=>rfl
 |some x =>
  have hm:b∈trk h H:=U1s.mpr ⟨U42.mpr (U0j e'),by simp[q]⟩
  have z:(O9 h H).get? b=none:=PySem.W.hideAll_none (trk h H) hm
  rw[z] at e;cases e
def jm(g h:Heap)(L:Addr):List (Addr×Obj):=(U4b h.objs.size).filterMap fun a=>if a=L∨(g.get? a).isSome=true then none else (h.get? a).map fun o=>(a,o)
def rest(g h:Heap)(L d:Addr):List (Addr×Obj):=(jm g h L).filter fun p=>decide (p.1≠d)
end L2
namespace L2
open PySem PySem.Spec PyProof.Rows
structure Mod(K:U0b)(mg:Str->Option Value)(base:Heap):Prop where
 kin:K.In base
 glob:base.Ns mainGlobals mg
 blt:∃mb,base.Ns builtinsNs mb/\∀x:Str,x≠"__name__"->mb x=bootBuiltins x
 nolimit:base.NoLimit
/-- the context: a def's body (or a comprehension's block) running. base: fixed through the whole law; s₀, H₀: the entry; outer: the frames whose slots others may change (a def's callers); stack: all frames that run;
   ex: iterators that were made ahead of the entry and are walked here (a comprehension's); fn: the names whose cells were made at the entry (a def: all; a comprehension's block: its own); calm: not within an except suite; pn: pins that every state bears; xe: what is wanted of an exception that leaves the code -/
structure Cx where
 prog:Program
 w:World
 K:U0b
 mg:Str->Option Value
 base:Heap
 A:Around
 N:List Str
 s₀:Shared
 H₀:Hp
 env:Env
 outer:List Env
 stack:List Env
 ex:List Addr
 fn:Str->Bool
 calm:Bool
 pn:List (Addr×Obj)
 xe:Value->Shared->Prop
def frs(l:List Env):List Addr:=l.filterMap (·.frame)
abbrev Cx.fs(X:Cx):List Addr:=frs X.outer
def Vis(sc:Scope)(x:Str):Prop:=sc.names.lookup x=some .local∨sc.names.lookup x=some .cell∨sc.names.lookup x=some .free
def Loc(sc:Scope)(x:Str):Prop:=sc.names.lookup x=some .local∨sc.names.lookup x=some .cell
def Look(env:Env)(h:Heap)(m:Str->Option Value)(x:Str)(u:Value):Prop :=
 (env.kindOf x=some .local/\m x=some u)∨((env.kindOf x=some .cell∨env.kindOf x=some .free)/\∃c,env.cells.lookup x=some c/\h.IsCell c (some u))
structure Cx.Ok(X:Cx):Prop where
 mod:Mod X.K X.mg X.base
 kind:X.env.scope.kind=.function
 glob:X.env.globals=mainGlobals
 blt:X.env.builtins=builtinsNs
 above:X.s₀.heap.objs.size<=X.env.locals
 inj:∀x y c,X.env.cells.lookup x=some c->X.env.cells.lookup y=some c->x=y
 has:∀x,(X.env.kindOf x=some .cell∨X.env.kindOf x=some .free)->∃c,X.env.cells.lookup x=some c
 cab:∀x c,X.fn x=true->X.env.cells.lookup x=some c->X.s₀.heap.objs.size<=c
 hd:X.calm=true->X.A.handled=none
 frames:X.A.frames=some X.stack
 stk:X.stack=X.outer∨(X.stack=X.env::X.outer/\X.env.frame=some X.env.locals)
 exf:∀b∈X.ex,b≠X.env.locals/\∀x c,X.env.cells.lookup x=some c->c≠b
 bs:∀b o,X.base.get? b=some o->X.s₀.heap.get? b=some o/\X.H₀ b=none
 bsz:X.base.objs.size<=X.s₀.heap.objs.size
 noex:∀b o,X.base.get? b=some o->b ∉ X.ex
 exfs:∀b∈X.ex,b ∉ X.fs
 M6:X.s₀.heap.FunFrames X.base X.outer
 frf:∀b∈X.fs,X.H₀ b=none
 sy:X.H₀ sysModules=none
structure Inv(X:Cx)(pins:List (Addr×Obj))(σ:List (Option V))(H:Hp)(s:Shared):Prop where
 ok:X.Ok
 os:s.os=X.s₀.os
 bare:AllBare s.gens
 base:Un X.fs X.ex X.H₀ H X.s₀.heap s.heap
 loc:∃m,s.heap.Ns X.env.locals m/\∀(i:Nat)(x:Str)(v:V),X.N[i]?=some x->σ[i]?=some (some v)->Vis X.env.scope x->∃u,RelV v u/\Look X.env s.heap m x u
 cell:∀x c,X.env.cells.lookup x=some c->∃v,s.heap.IsCell c v
 free:H X.env.locals=none
 freeC:∀x c,X.env.cells.lookup x=some c->H c=none
 pin:∀p∈X.pn++pins,s.heap.get? p.1=some p.2/\H p.1=none/\p.1≠X.env.locals/\p.1 ∉ X.fs/\∀v,p.2.data≠.cell v
 hok:HOk X.prog X.w H s.heap
 len:σ.length=X.N.length
section
variable{X:Cx}{pins:List (Addr×Obj)}{σ:List (Option V)}{H H':Hp}{s:Shared}{h':Heap}
theorem Cx.Ok.sY(ok:X.Ok){b:Addr}{o:Obj}(e:X.base.get? b=some o):b ∉ X.fs:=fun hb=>by
 have:=(ok.M6.mem hb).1
 rw[e] at this;cases this
theorem Inv.bs(I:Inv X pins σ H s):∀b o,X.base.get? b=some o->s.heap.get? b=some o/\H b=none:=fun b o e =>
 ⟨I.base.keep b o (I.ok.bs b o e).1 (I.ok.bs b o e).2 (I.ok.sY e) (I.ok.noex b o e),I.base.free b o (I.ok.bs b o e).1 (I.ok.bs b o e).2 (I.ok.noex b o e)⟩
theorem Inv.bk(I:Inv X pins σ H s):∀b o,X.base.get? b=some o->s.heap.get? b=some o:=fun b o e=>(I.bs b o e).1
theorem Inv.mod(I:Inv X pins σ H s):Mod X.K X.mg X.base:=I.ok.mod
theorem Inv.kIn(I:Inv X pins σ H s):X.K.In s.heap:=I.ok.mod.kin.keeps I.bk
theorem Inv.fr(I:Inv X pins σ H s):∃m,Fr X.base X.env.locals s.heap m :=
 let ⟨m,hn,_⟩:=I.loc
 ⟨m,hn,I.bk,U1d I.ok.bsz I.ok.above⟩
theorem Inv.lt(I:Inv X pins σ H s):X.env.locals<s.heap.objs.size:=let ⟨_,hn,_⟩:=I.loc;hn.lt
theorem Inv.sz(I:Inv X pins σ H s):X.s₀.heap.objs.size<=s.heap.objs.size:=U1d I.ok.above (U2r I.lt)
theorem Inv.cD(I:Inv X pins σ H s){a:Addr}(h:s.heap.objs.size<=a):a ∉ X.fs:=fun hb=>by
 obtain⟨_,o,ho,_⟩:=I.ok.M6.mem hb
 exact absurd (U1a (U0j ho) (U1d I.sz h)) (U4q _)
theorem Inv.cne(I:Inv X pins σ H s):∀x c,X.env.cells.lookup x=some c->c≠X.env.locals:=fun x c e z=>by
 obtain⟨v,o,ho,hd⟩:=I.cell x c e
 obtain⟨m,⟨o',es,ep,ho',hd',_⟩,_⟩:=I.loc
 rw[z,ho'] at ho;cases ho;rw[hd'] at hd;cases hd
theorem Inv.M6(I:Inv X pins σ H s):s.heap.FunFrames X.base X.outer:=by
 have all:∀(l:List Env),(∀b∈frs l,b∈X.fs)->X.s₀.heap.FunFrames X.base l->s.heap.FunFrames X.base l:=by
  intro l
  induction l with
  |nil=>intro _ _;trivial
  |cons env r ih =>
   intro hs hl
   obtain⟨hk,⟨L,o,hf,hn,ho,hd⟩,hr⟩:=hl
   have hL:L∈X.fs:=hs L (by unfold frs;rw[U5e,hf];exact U0p)
   obtain⟨sl,e⟩:=I.base.slot L o ho (I.ok.frf L hL) hL fun z=>I.ok.exfs L z hL
   exact⟨hk,⟨L,_,hf,hn,e,hd⟩,ih (fun b hb=>hs b (by unfold frs;rw[U5e,hf];exact U0n _ hb)) hr⟩
 exact all X.outer (fun _ hb=>hb) I.ok.M6
theorem Inv.stack(I:Inv X pins σ H s):s.heap.FunFrames X.base X.stack:=by
 rcases I.ok.stk with e|⟨e,hf⟩
 .rw[e];exact I.M6
 .rw[e]
  obtain⟨m,hn,_⟩:=I.loc
  refine .cons (by rw[I.ok.kind];decide) hf hn ?_ I.M6
  exact Heap.get?_none_of_le (U1d I.ok.bsz I.ok.above)
theorem Inv.Pg(I:Inv X pins σ H s):∀b∈frs X.stack,b∈X.env.locals::X.fs:=fun b hb=>by
 rcases I.ok.stk with e|⟨e,hf⟩
 .rw[e] at hb;exact U0n _ hb
 .rw[e] at hb
  unfold frs at hb
  rw[U5e,hf] at hb
  exact hb
theorem Inv.YD(I:Inv X pins σ H s):∀b∈frs X.stack,H b=none:=fun b hb=>by
 rcases U0q.mp (I.Pg b hb) with e|hb
 .rw[e];exact I.free
 .obtain⟨_,o,ho,_⟩:=I.ok.M6.mem hb
  exact I.base.free b o ho (I.ok.frf b hb) fun z=>I.ok.exfs b z hb
theorem Inv.cJ(I:Inv X pins σ H s):sysModules<s.heap.objs.size:=by
 obtain⟨o,_,_,e,_⟩:=I.ok.mod.glob
 exact U5n (by decide:(1:Nat)<3) (U0j (I.bk _ _ e))
theorem Inv.RQ(I:Inv X pins σ H s):H sysModules=none:=I.base.sy I.ok.sy
theorem Inv.step{g':Array GenState}{t':Nat}{d':Drawn}{ch:List Addr}(I:Inv X pins σ H s)
  (hch:∀b∈ch,(b∈X.ex∨X.s₀.heap.objs.size<=b)/\b≠X.env.locals/\(∀x c,X.env.cells.lookup x=some c->c≠b)/\∀p∈X.pn++pins,p.1≠b)
  (keep:∀b o,b≠X.env.locals->b ∉ X.fs->b ∉ ch->s.heap.get? b=some o->H b=none->h'.get? b=some o)
  (slot:∀b o,b≠X.env.locals->b∈X.fs->b ∉ ch->s.heap.get? b=some o->H b=none->∃sl,h'.get? b=some { o with slots:=sl }) (free:∀b o,b ∉ ch->s.heap.get? b=some o->H b=none->H' b=none)
  (there:∀b o,b ∉ ch->s.heap.get? b=some o->∃o',h'.get? b=some o')
  (tups:∀b xs,H b=some (.tup xs)->H' b=some (.tup xs)) (frzs:∀b o u,H b=some (.frz o u)->H' b=some (.frz o u)) (tbls:∀b ps,H b=some (.tbl ps)->∃more,H' b=some (.tbl (ps++more)))
  (ns:∀m,s.heap.Ns X.env.locals m->h'.Ns X.env.locals m) (hok:HOk X.prog X.w H' h') (hg:AllBare g') (sy:H sysModules=none->H' sysModules=none) :
  Inv X pins σ H' { s with heap:=h',gens:=g',drawn:=d',toks:=t' }:=by
 have neL:∀b o,X.s₀.heap.get? b=some o->b≠X.env.locals:=fun b o e=>U1m (U1a (U0j e) I.ok.above)
 have neC:∀b o,X.s₀.heap.get? b=some o->b ∉ X.ex->b ∉ ch:=fun b o e hx hb=>by
  rcases(hch b hb).1 with z|z
  .exact hx z
  .exact absurd (U1a (U0j e) z) (U4q _)
 have cellK:∀x c,X.env.cells.lookup x=some c->∀v,s.heap.IsCell c v->h'.IsCell c v:=fun x c e v ⟨o,ho,hd⟩=>by
  have nch:c ∉ ch:=fun z=>(hch c z).2.2.1 x c e rfl
  by_cases hc:c∈X.fs
  .obtain⟨sl,q⟩:=slot c o (I.cne x c e) hc nch ho (I.freeC x c e)
   exact⟨_,q,hd⟩
  .exact⟨o,keep c o (I.cne x c e) hc nch ho (I.freeC x c e),hd⟩
 refine⟨I.ok,I.os,hg,⟨fun b o e n hb hx=>?_,fun b o e n hb hx=>?_,fun b o e n hx=>?_,fun b o e hx=>?_,fun b xs e=>tups b xs (I.base.tups b xs e),fun b o xs e=>frzs b o xs (I.base.frzs b o xs e),fun b ps e=>?_,fun n=>sy (I.base.sy n)⟩,?_,fun x c e=>?_,?_,fun x c e=>?_,fun p hp=>?_,hok,I.len⟩
 .exact keep b o (neL b o e) hb (neC b o e hx) (I.base.keep b o e n hb hx) (I.base.free b o e n hx)
 .obtain⟨sl,e1⟩:=I.base.slot b o e n hb hx
  obtain⟨sl',e2⟩:=slot b _ (neL b o e) hb (neC b o e hx) e1 (I.base.free b o e n hx)
  exact⟨sl',e2⟩
 .obtain⟨o',e1⟩:=I.base.there b o e hx
  exact free b o' (neC b o e hx) e1 (I.base.free b o e n hx)
 .obtain⟨o',e1⟩:=I.base.there b o e hx
  exact there b o' (neC b o e hx) e1
 .obtain⟨m1,e1⟩:=I.base.tbls b ps e
  obtain⟨m2,e2⟩:=tbls b _ e1
  exact⟨m1++m2,by rw[e2,Array.append_assoc]⟩
 .obtain⟨m,hn,hl⟩:=I.loc
  refine⟨m,ns m hn,fun i x v e1 e2 e3=>?_⟩
  obtain⟨u,r,l⟩:=hl i x v e1 e2 e3
  refine⟨u,r,?_⟩
  rcases l with l|⟨k,c,e,z⟩
  .exact .inl l
  .exact .inr ⟨k,c,e,cellK x c e _ z⟩
 .obtain⟨v,z⟩:=I.cell x c e
  exact⟨v,cellK x c e v z⟩
 .obtain⟨m,⟨o,_,_,ho,_⟩,_⟩:=I.loc
  exact free _ o (fun z=>(hch _ z).2.1 rfl) ho I.free
 .obtain⟨v,o,ho,hd⟩:=I.cell x c e
  exact free c o (fun z=>(hch c z).2.2.1 x c e rfl) ho (I.freeC x c e)
 .obtain⟨e,n,ne,nf,d⟩:=I.pin p hp
  have nch:p.1 ∉ ch:=fun z=>(hch p.1 z).2.2.2 p hp rfl
  exact⟨keep p.1 p.2 ne nf nch e n,free p.1 p.2 nch e n,ne,nf,d⟩
theorem Inv.un{t':Nat}(I:Inv X pins σ H s)(u:Un X.fs [] H H' s.heap h')(hok:HOk X.prog X.w H' h'):Inv X pins σ H' { s with heap:=h',toks:=t' }:=by
 obtain⟨m,⟨o,es,ep,ho,r⟩,_⟩:=id I.loc
 obtain⟨sl,hL⟩:=u.any ho I.free (by simp)
 exact I.step (g':=s.gens) (d':=s.drawn) (ch:=[]) (fun _ z=>nomatch z) (fun b o _ hb _ e n=>u.keep b o e n hb (by simp)) (fun b o _ hb _ e n=>u.slot b o e n hb (by simp)) (fun b o _ e n=>u.free b o e n (by simp)) (fun b o _ e=>u.there b o e (by simp)) u.tups u.frzs u.tbls (fun m' hm=>by
  obtain⟨o',es',ep',ho',r'⟩:=hm
  rw[ho] at ho';cases ho'
  exact⟨_,es',ep',hL,r'⟩) hok I.bare u.sy
theorem Inv.call{g':Array GenState}{t':Nat}{d':Drawn}{ch:List Addr}(I:Inv X pins σ H s)(u:Un (frs X.stack) ch H H' s.heap h')(hok:HOk X.prog X.w H' h')(hg:AllBare g')
  (hch:∀b∈ch,(b∈X.ex∨X.s₀.heap.objs.size<=b)/\b≠X.env.locals/\(∀x c,X.env.cells.lookup x=some c->c≠b)/\∀p∈X.pn++pins,p.1≠b) :
  Inv X pins σ H' { s with heap:=h',gens:=g',drawn:=d',toks:=t' }:=by
 obtain⟨m,⟨o,es,ep,ho,r⟩,_⟩:=id I.loc
 obtain⟨sl,hL⟩:=u.any ho I.free fun z=>(hch _ z).2.1 rfl
 exact I.step (ch:=ch) hch (fun b o hL hb hc e n=>u.keep b o e n (fun z=>(U0q.mp (I.Pg b z)).elim hL hb) hc) (fun b o _ _ hc e n=>u.any e n hc) (fun b o hc e n=>u.free b o e n hc) (fun b o hc e=>u.there b o e hc) u.tups u.frzs u.tbls (fun m' hm=>by
  obtain⟨o',es',ep',ho',r'⟩:=hm
  rw[ho] at ho';cases ho'
  exact⟨_,es',ep',hL,r'⟩) hok hg u.sy
theorem Inv.turned{t':Nat}{it:Addr}(I:Inv X pins σ H s)(k:∀b o,b≠it->s.heap.get? b=some o->h'.get? b=some o)(hn:H it=none)(hL:it≠X.env.locals)
  (h1:it∈X.ex∨X.s₀.heap.objs.size<=it) (h2:∀x c,X.env.cells.lookup x=some c->c≠it) (h3:∀p∈X.pn++pins,p.1≠it):Inv X pins σ H { s with heap:=h',toks:=t' }:=by
 have nit:∀b u,H b=some u->b≠it:=fun b u e z=>by rw[z,hn] at e;cases e
 refine I.step (g':=s.gens) (d':=s.drawn) (ch:=[it]) (fun b hb=>?_) (fun b o _ _ hc e _=>k b o (fun z=>hc (by simp[z])) e) (fun b o _ _ hc e _=>⟨o.slots,k b o (fun z=>hc (by simp[z])) e⟩) (fun _ _ _ _ n=>n)
  (fun b o hc e=>⟨o,k b o (fun z=>hc (by simp[z])) e⟩) (fun _ _ e=>e) (fun _ _ _ e=>e) (fun b ps e=>⟨#[],by rw[e];simp⟩) (fun m hm=>?_) (fun b u e=>?_) I.bare id
 .have e:b=it:=by simpa using hb
  subst e
  exact⟨h1,hL,h2,h3⟩
 .obtain⟨o,es,ep,ho,r⟩:=hm
  exact⟨o,es,ep,k _ o (U2f hL) ho,r⟩
 .refine(I.hok b u e).stay (fun c v hc q=>k c v ?_ q) (fun _ q=>q) fun _ _ q=>q
  rcases hc with z|z
  .rw[z];exact nit b u e
  .exact nit c _ z
theorem Inv.tok(I:Inv X pins σ H s)(t:Nat):Inv X pins σ H { s with toks:=t }:=I.un (h':=s.heap) (t':=t) Un.refl I.hok
theorem Inv.kept{t':Nat}(I:Inv X pins σ H s)(k:∀b u,s.heap.get? b=some u->h'.get? b=some u):Inv X pins σ H { s with heap:=h',toks:=t' }:=I.un (Un.kept k) (I.hok.kept k)
theorem Inv.laid{a:Addr}{o:HO}{t':Nat}(I:Inv X pins σ H s)(k:∀b u,s.heap.get? b=some u->h'.get? b=some u)(hp:s.heap.objs.size<=a)(new:EY X.prog X.w (upd H a o) h' a o) :
  Inv X pins σ (upd H a o) { s with heap:=h',toks:=t' }:=I.un (Un.laid k hp (I.hok.fresh hp) (U1m (U1a I.cJ hp))) (I.hok.laid k hp new)
theorem Inv.write{x e:Addr}{o:HO}{t':Nat}(I:Inv X pins σ H s)(mu:Mut (H x))(he:e=x∨H e=some (.own x))(k:∀b u,b≠e->s.heap.get? b=some u->h'.get? b=some u)(heo:∃u,h'.get? e=some u)
  (new:EY X.prog X.w (upd H x o) h' x o):Inv X pins σ (upd H x o) { s with heap:=h',toks:=t' }:=I.un (Un.write mu he k heo) (I.hok.write mu he k heo new)
theorem Inv.weak{σ':List (Option V)}(I:Inv X pins σ H s)(hl:σ'.length=σ.length)(w:∀(i:Nat) v,σ'[i]?=some (some v)->σ[i]?=some (some v)):Inv X pins σ' H s :=
 ⟨I.ok,I.os,I.bare,I.base,let ⟨m,hn,hl'⟩:=I.loc;⟨m,hn,fun i x v e1 e2 e3=>hl' i x v e1 (w i v e2) e3⟩,I.cell,I.free,I.freeC,I.pin,I.hok,hl.trans I.len⟩
theorem Inv.Qj{pins':List (Addr×Obj)}(I:Inv X pins σ H s)(h:∀p∈pins',s.heap.get? p.1=some p.2/\H p.1=none/\p.1≠X.env.locals/\p.1 ∉ X.fs/\∀v,p.2.data≠.cell v):Inv X pins' σ H s :=
 ⟨I.ok,I.os,I.bare,I.base,I.loc,I.cell,I.free,I.freeC,fun p hp=>(U1e.mp hp).elim (fun z=>I.pin p (U2h _ z)) (h p),I.hok,I.len⟩
theorem WY{N:List Str}(hN:N.Nodup){i j:Nat}{x:Str}(a:N[i]?=some x)(b:N[j]?=some x):i=j:=by
 obtain⟨h1,e1⟩:=U0k.mp a
 obtain⟨h2,e2⟩:=U0k.mp b
 exact(List.getElem_inj hN).mp (e1.trans e2.symm)
theorem Ul{M:Model}{A:Around}{E:Value->Shared->Prop}{i:Nat}{x:Str}{v:V}{u:Value}{Q:Unit->Shared->Prop}(I:Inv X pins σ H s)(hN:X.N.Nodup)(hi:X.N[i]?=some x)(hx:Loc X.env.scope x)(r:RelV v u)
  (h:∀s',Inv X pins (σ.set i (some v)) H s'->(∃a,U1c a s.heap s'.heap/\(a=X.env.locals∨X.env.cells.lookup x=some a))->Q () s') (hf:X.fn x=true∨X.env.scope.names.lookup x=some .local:=by first|exact .inl rfl|exact .inr rfl|assumption):wpAny M A (storeName X.env x u) Q E s:=by
 obtain⟨m,hn,hl⟩:=id I.loc
 have hcls:(X.env.scope.kind==.class||(X.env.scope.kind==.module&&X.env.locals != X.env.globals))=false:=by rw[I.ok.kind];rfl
 have hiσ:i<σ.length:=by rw[I.len];exact(U0k.mp hi).1
 have cne:=I.cne
 have tracked:∀{a:Addr} {h':Heap},(∃o,s.heap.get? a=some o/\H a=none)->U1c a s.heap h'->HOk X.prog X.w H h':=fun {a h'} ha hs b ob e=>by
  obtain⟨_,_,hfree⟩:=ha
  refine(I.hok b ob e).stay (fun c w' hc q=>(hs.2 c ?_).trans q) (fun _ q=>q) fun _ _ q=>q
  rintro rfl
  rcases hc with rfl|hc
  .rw[hfree] at e;cases e
  .rw[hfree] at hc;cases hc
 rcases hx with hk|hk
 .refine wpAny_storeName_local hk hn (fun h' hn' hs=>?_) hcls
  obtain⟨oL,_,_,hoL,_⟩:=id hn
  refine h _ ⟨I.ok,I.os,I.bare,⟨fun b o e n hb hx=>?_,fun b o e n hb hx=>?_,I.base.free,fun b o e hx=>?_,I.base.tups,I.base.frzs,I.base.tbls,I.base.sy⟩,⟨_,hn',fun j y v' e1 e2 e3=>?_⟩,fun y c e=>?_,I.free,I.freeC,fun p hp=>?_,tracked ⟨oL,hoL,I.free⟩ hs,by simpa using I.len⟩ ⟨_,hs,.inl rfl⟩
  .exact(hs.2 b (U1m (U1a (U0j e) I.ok.above))).trans (I.base.keep b o e n hb hx)
  .obtain⟨sl,e1⟩:=I.base.slot b o e n hb hx
   exact⟨sl,(hs.2 b (U1m (U1a (U0j e) I.ok.above))).trans e1⟩
  .obtain⟨o',e1⟩:=I.base.there b o e hx
   exact⟨o',(hs.2 b (U1m (U1a (U0j e) I.ok.above))).trans e1⟩
  .by_cases hj:j=i
   .subst hj
    rw[hi] at e1;cases e1
    rw[U27 hiσ] at e2
    cases e2
    exact⟨u,r,.inl ⟨hk,by simp⟩⟩
   .rw[U3g (U2f hj)] at e2
    obtain⟨u',r',q⟩:=hl j y v' e1 e2 e3
    refine⟨u',r',?_⟩
    rcases q with ⟨k,e⟩|⟨k,c,e,z⟩
    .refine .inl ⟨k,?_⟩
     have:y≠x:=fun e=>hj (WY hN e1 (e ▸ hi))
     simp[this,e]
    .exact .inr ⟨k,c,e,z.sameBut hs (cne y c e)⟩
  .obtain⟨w',z⟩:=I.cell y c e
   exact⟨w',z.sameBut hs (cne y c e)⟩
  .obtain⟨e,n,ne,nf,d⟩:=I.pin p hp
   exact⟨(hs.2 p.1 ne).trans e,n,ne,nf,d⟩
 .have hfn:X.fn x=true:=by
   rcases hf with z|z
   .exact z
   .rw[z] at hk;cases hk
  obtain⟨c,hc⟩:=I.ok.has x (.inl hk)
  obtain⟨w',z⟩:=I.cell x c hc
  refine wpAny_storeName_cell I.ok.kind hk hc z (fun h' hc' hs=>?_)
  obtain⟨oc,hoc,hocd⟩:=id z
  refine h { s with heap:=h' } ⟨I.ok,I.os,I.bare,⟨fun b o e n hb hx=>?_,fun b o e n hb hx=>?_,I.base.free,fun b o e hx=>?_,I.base.tups,I.base.frzs,I.base.tbls,I.base.sy⟩,⟨m,hn.sameBut hs (U2f (cne x c hc)),fun j y v' e1 e2 e3=>?_⟩,fun y c' e=>?_,I.free,I.freeC,fun p hp=>?_,tracked ⟨oc,hoc,I.freeC x c hc⟩ hs,by simpa using I.len⟩ ⟨c,hs,.inr hc⟩
  .exact(hs.2 b (U1m (U1a (U0j e) (I.ok.cab x c hfn hc)))).trans (I.base.keep b o e n hb hx)
  .obtain⟨sl,e1⟩:=I.base.slot b o e n hb hx
   exact⟨sl,(hs.2 b (U1m (U1a (U0j e) (I.ok.cab x c hfn hc)))).trans e1⟩
  .obtain⟨o',e1⟩:=I.base.there b o e hx
   exact⟨o',(hs.2 b (U1m (U1a (U0j e) (I.ok.cab x c hfn hc)))).trans e1⟩
  .by_cases hj:j=i
   .subst hj
    rw[hi] at e1;cases e1
    rw[U27 hiσ] at e2
    cases e2
    exact⟨u,r,.inr ⟨.inl hk,c,hc,hc'⟩⟩
   .rw[U3g (U2f hj)] at e2
    obtain⟨u',r',q⟩:=hl j y v' e1 e2 e3
    refine⟨u',r',?_⟩
    rcases q with q|⟨k,c',e,z'⟩
    .exact .inl q
    .refine .inr ⟨k,c',e,z'.sameBut hs ?_⟩
     rintro rfl
     exact hj (WY hN e1 (I.ok.inj _ _ _ e hc ▸ hi))
  .by_cases hcc:c'=c
   .subst hcc;exact⟨_,hc'⟩
   .obtain⟨w2,z2⟩:=I.cell y c' e
    exact⟨w2,z2.sameBut hs hcc⟩
  .obtain⟨e,n,ne,nf,d⟩:=I.pin p hp
   refine⟨(hs.2 p.1 ?_).trans e,n,ne,nf,d⟩
   intro q
   rw[q,hoc] at e
   have q':oc=p.2:=U00 e
   exact d w' (by rw[←q'];exact hocd)
theorem W9{M:Model}{A:Around}{E:Value->Shared->Prop}{i:Nat}{x:Str}{v:V}{u:Value}{Q:Unit->Shared->Prop}(I:Inv X pins σ H s)(hN:X.N.Nodup)(hi:X.N[i]?=some x)(hx:Loc X.env.scope x)(r:RelV v u)
  (h:∀s',Inv X pins (σ.set i (some v)) H s'->Q () s') (hf:X.fn x=true∨X.env.scope.names.lookup x=some .local:=by first|exact .inl rfl|exact .inr rfl|assumption):wpAny M A (storeName X.env x u) Q E s :=
 Ul I hN hi hx r (fun s' I' _=>h s' I') hf
theorem Inv.call'{s':Shared}{ch:List Addr}(I:Inv X pins σ H s)(ho:s'.os=s.os)(u:Un (frs X.stack) ch H H' s.heap s'.heap)(hok:HOk X.prog X.w H' s'.heap)(hg:AllBare s'.gens)
  (hch:∀b∈ch,(b∈X.ex∨X.s₀.heap.objs.size<=b)/\b≠X.env.locals/\(∀x c,X.env.cells.lookup x=some c->c≠b)/\∀p∈X.pn++pins,p.1≠b):Inv X pins σ H' s':=by
 obtain⟨h',g',d',t',o'⟩:=s'
 have e:o'=s.os:=ho
 subst e
 exact I.call (g':=g') (t':=t') (d':=d') u hok hg hch
end
abbrev XK:=Value->Option Addr->Hp->Prop
abbrev St:=List (Option V)
abbrev VK:=V->Hp->Prop
abbrev TE:=St->Hp->VK->Prop
abbrev TT:=St->Hp->(Bool->Hp->Prop)->Prop
abbrev TA:=St->Hp->(List V->Hp->Prop)->Prop
structure Ends where
 nx:St->Hp->Prop
 rt:VK
 bk:St->Hp->Prop:=fun _ _=>False
 ct:St->Hp->Prop:=fun _ _=>False
abbrev TS:=Ends->St->Hp->Prop
def EP(X:Cx)(pins:List (Addr×Obj))(σ:St)(Q:VK)(u:Value)(s':Shared):Prop:=∃v H',Inv X pins σ H' s'/\RelV v u/\Q v H'
def TP(X:Cx)(pins:List (Addr×Obj))(σ:St)(Q:Bool->Hp->Prop)(b:Bool)(s':Shared):Prop:=∃H',Inv X pins σ H' s'/\Q b H'
def AP(X:Cx)(pins:List (Addr×Obj))(σ:St)(Q:List V->Hp->Prop)(us:List Value)(s':Shared):Prop:=∃vs H',Inv X pins σ H' s'/\Vals vs us/\Q vs H'
def SP(X:Cx)(pins:List (Addr×Obj))(D:Ends)(f:Flow)(s':Shared):Prop :=
 match f with
 |.next=>∃σ' H',Inv X pins σ' H' s'/\D.nx σ' H'
 |.brk=>∃σ' H',Inv X pins σ' H' s'/\D.bk σ' H'
 |.cont=>∃σ' H',Inv X pins σ' H' s'/\D.ct σ' H'
 |.ret u=>∃v σ' H',Inv X pins σ' H' s'/\RelV v u/\D.rt v H'
def PE(X:Cx)(e:Expr)(t:TE):Prop :=
 ∀(pins:List (Addr×Obj))(s:Shared)(σ:St)(H:Hp)(Q:VK),Inv X pins σ H s->t σ H Q->wpAny (model X.prog X.w) X.A (eval e X.env) (EP X pins σ Q) X.xe s
def PT(X:Cx)(e:Expr)(t:TT):Prop :=
 ∀(pins:List (Addr×Obj))(s:Shared)(σ:St)(H:Hp)(Q:Bool->Hp->Prop),Inv X pins σ H s->t σ H Q->wpAny (model X.prog X.w) X.A (isTrue e X.env (eval e X.env)) (TP X pins σ Q) X.xe s
def PW(X:Cx)(e:Expr)(t:TT):Prop :=
 ∀(whole:Sem Value)(pins:List (Addr×Obj))(s:Shared)(σ:St)(H:Hp)(Q:Bool->Hp->Prop),Inv X pins σ H s->t σ H Q->wpAny (model X.prog X.w) X.A (isTrue e X.env whole) (TP X pins σ Q) X.xe s
theorem PW.pt{X:Cx}{e:Expr}{t:TT}(h:PW X e t):PT X e t:=h _
def PA(X:Cx)(es:List Expr)(t:TA):Prop :=
 ∀(pos:Pos)(pins:List (Addr×Obj))(s:Shared)(σ:St)(H:Hp)(Q:List V->Hp->Prop),Inv X pins σ H s->t σ H Q->wpAny (model X.prog X.w) X.A (spliced (backTo pos (starEach es X.env))) (AP X pins σ Q) X.xe s
def PS(X:Cx)(st:Stmt)(t:TS):Prop :=
 ∀(pins:List (Addr×Obj))(s:Shared)(σ:St)(H:Hp)(D:Ends),Inv X pins σ H s->t D σ H->wpAny (model X.prog X.w) X.A (exec st X.env) (SP X pins D) X.xe s
def PSs(X:Cx)(st:List Stmt)(t:TS):Prop :=
 ∀(pins:List (Addr×Obj))(s:Shared)(σ:St)(H:Hp)(D:Ends),Inv X pins σ H s->t D σ H->wpAny (model X.prog X.w) X.A (execs st X.env) (SP X pins D) X.xe s
theorem thn{α:Type}{t:Sem α}{Q Q':α->Shared->Prop}{M:Model}{A:Around}{E:Value->Shared->Prop}{s:Shared}(h:wpAny M A t Q E s)(hQ:∀a s,Q a s->Q' a s):wpAny M A t Q' E s:=U48 h hQ fun _ _ x=>x
end L2
namespace L2
open PySem PySem.Spec PyProof.Rows
section
variable{X:Cx}
theorem bin{a b:Expr}{ta tb:TE}(ha:PE X a ta)(hb:PE X b tb){pins:List (Addr×Obj)}{s:Shared}{σ:St}{H:Hp}{R:V->V->Hp->Prop}(I:Inv X pins σ H s)(h:ta σ H fun x H1=>tb σ H1 fun y H2=>R x y H2)
  {α:Type} {Q:α->Shared->Prop} {f:Value->Value->Sem α}
  (hf:∀v u s2 x y H2,Inv X pins σ H2 s2->RelV x v->RelV y u->R x y H2->wpAny (model X.prog X.w) X.A (f v u) Q X.xe s2) :
  wpAny (model X.prog X.w) X.A (eval a X.env) (fun v s₁=>wpAny (model X.prog X.w) X.A (eval b X.env) (fun u s₂=>wpAny (model X.prog X.w) X.A (f v u) Q X.xe s₂) X.xe s₁) X.xe s:=by
 refine thn (ha pins s σ H _ I h) fun v s1 ⟨x,H1,I1,r1,q1⟩=>?_
 refine thn (hb pins s1 σ H1 _ I1 q1) fun u s2 ⟨y,H2,I2,r2,q2⟩=>?_
 exact hf v u s2 x y H2 I2 r1 r2 q2
def lC(i:Nat):TE:=fun σ H Q=>∃v,σ[i]?=some (some v)/\Q v H
def tC(v:V):TE:=fun _ H Q=>Q v H
theorem Zo{i:Nat}{x:Str}{pos:Pos}(hN:X.N[i]?=some x)(hv:Vis X.env.scope x)(hd:(x==("__debug__":Str))=false:=by decide)(hcd:(x==("__classdict__":Str))=false:=by decide):PE X (.Name x pos) (lC i):=by
 intro pins s σ H Q I h
 obtain⟨v,e,h⟩:=h
 obtain⟨m,hn,hl⟩:=I.loc
 obtain⟨u,r,l⟩:=hl i x v hN e hv
 have fin:EP X pins σ Q u s:=⟨v,H,I,r,h⟩
 rcases l with ⟨hk,hm⟩|⟨hk,c,hc,hcell⟩
 .exact wpAny_Name (wpAny_loadName_local I.ok.kind hk hn hm fin) hd
 .rcases hk with hk|hk
  .exact wpAny_Name (wpAny_loadName_cell I.ok.kind hk hc hcell fin) hd
  .exact wpAny_Name (wpAny_loadName_free I.ok.kind hk hc hcell fin hcd) hd
theorem Zr{i j pos}:PE X (.Constant (.int i) j pos) (tC (.int i)):=fun _ _ _ H _ I h=>wpAny_Constant_int ⟨.int i,H,I.tok _,⟨_,rfl⟩,h⟩
theorem qZ{b j pos}:PE X (.Constant (.bool b) j pos) (tC (.bl b)):=fun _ _ _ H _ I h=>Constant_bool ⟨.bl b,H,I,rfl,h⟩
def Gl(X:Cx)(x:Str):Prop:=X.env.kindOf x=some .globalImplicit
theorem jN{E:Value->Shared->Prop}{pins:List (Addr×Obj)}{s:Shared}{σ:St}{H:Hp}{x:Str}{u:Value}{pos:Pos}{Q:Value->Shared->Prop}(I:Inv X pins σ H s)(hg:Gl X x)(hm:X.mg x=some u)(h:Q u s)
  (hd:(x==("__debug__":Str))=false:=by decide):wpAny (model X.prog X.w) X.A (eval (.Name x pos) X.env) Q E s :=
 Calls.Name_function_global I.ok.kind hg (Calls.loadGlobal_global (by rw[I.ok.glob];exact I.mod.glob.keeps I.bk) hm h) hd
theorem Ma{E:Value->Shared->Prop}{pins:List (Addr×Obj)}{s:Shared}{σ:St}{H:Hp}{x:Str}{u:Value}{pos:Pos}{Q:Value->Shared->Prop}(I:Inv X pins σ H s)(hg:Gl X x)(hm:X.mg x=none)(hv:bootBuiltins x=some u)(h:Q u s)
  (hn:x≠"__name__":=by decide) (hd:(x==("__debug__":Str))=false:=by decide):wpAny (model X.prog X.w) X.A (eval (.Name x pos) X.env) Q E s:=by
 obtain⟨mb,h1,h2⟩:=I.mod.blt
 exact Calls.Name_function_global I.ok.kind hg (Calls.loadGlobal_builtin (by rw[I.ok.glob];exact I.mod.glob.keeps I.bk) hm (by rw[I.ok.blt];exact h1.keeps I.bk) ((h2 x hn).trans hv) h) hd
theorem j7{x:Str}{v:V}{u:Value}{pos:Pos}(hg:Gl X x)(hm:X.mg x=none)(hv:bootBuiltins x=some u)(r:RelV v u)(hn:x≠"__name__":=by decide)(hd:(x==("__debug__":Str))=false:=by decide):PE X (.Name x pos) (tC v) :=
 fun _ _ _ H _ I h=>Ma I hg hm hv ⟨v,H,I,r,h⟩ hn hd
variable{a b:Expr}{ta tb:TE}{pos:Pos}
def PC(X:Cx)(op:CmpOp)(a b:Expr)(t:TE):Prop :=
 ∀(pins:List (Addr×Obj))(s:Shared)(σ:St)(H:Hp)(Q:VK),Inv X pins σ H s->t σ H Q ->
  wpAny (model X.prog X.w) X.A (eval a X.env) (fun v s₁=>wpAny (model X.prog X.w) X.A (eval b X.env) (fun u s₂=>wpAny (model X.prog X.w) X.A (compareOp op v u) (EP X pins σ Q) X.xe s₂) X.xe s₁) X.xe s
theorem dY(b:Expr){op:CmpOp}(h:op≠.In)(h2:op≠.NotIn):behindInMarks op b=false:=by
 have e1:(op==CmpOp.In)=false:=by cases op<;>first|rfl|exact absurd rfl h
 have e2:(op==CmpOp.NotIn)=false:=by cases op<;>first|rfl|exact absurd rfl h2
 cases b<;>simp[behindInMarks,e1,e2]
def tB(t:TE):TT:=fun σ H Q=>t σ H fun x H1=>∃c,x=.bl c/\Q c H1
theorem uH{op:CmpOp}{t:TE}(h:PC X op a b t)(h1:behindInMarks op b=false:=by first|exact dY _ (by decide) (by decide)|rfl):PT X (.Compare a [op] [b] pos) (tB t):=by
 intro pins s σ H Q I hw
 refine wpAny_isTrue_Compare1 (thn (h pins s σ H _ I hw) fun v s1 h1=>thn h1 fun u s2 h2=>thn h2 fun c s3 ⟨x,H1,I1,r1,q1⟩=>?_) h1
 obtain⟨d,rfl,q⟩:=q1
 cases r1
 exact U29 ⟨H1,I1,q⟩
theorem mX{e:Expr}{t:TE}(h:PE X e t)(he:∀whole,isTrue e X.env whole=(do let v ←whole;standAt e.pos;holding [v] (truthy v)):=by intro _;rfl):PT X e (tB t):=by
 intro pins s σ H Q I hw
 refine isTrue_plain (thn (h pins s σ H _ I hw) fun v s1 ⟨x,H1,I1,r1,q1⟩=>?_) (he _)
 obtain⟨d,rfl,q⟩:=q1
 cases r1
 exact U29 ⟨H1,I1,q⟩
variable{tA tB':TT}{rest:List Expr}
def PJ(t u:TT):TT:=fun σ H Q=>t σ H fun c H1=>if c=true then u σ H1 Q else Q false H1
def tOr(t u:TT):TT:=fun σ H Q=>t σ H fun c H1=>if c=true then Q true H1 else u σ H1 Q
def K1(t:TT):TT:=fun σ H Q=>t σ H fun c H1=>Q (!c) H1
theorem iM(ha:PT X a tA):PW X (.BoolOp .And [a] pos) tA:=by
 intro wh pins s σ H Q I h
 refine isTrue_and (thn (ha pins s σ H Q I h) fun c s1 e=>?_)
 cases c with
 |true=>exact isTrue_and_nil e
 |false=>exact e
theorem mV(ha:PT X a tA):PW X (.BoolOp .Or [a] pos) tA:=by
 intro wh pins s σ H Q I h
 refine isTrue_or (thn (ha pins s σ H Q I h) fun c s1 e=>?_)
 cases c with
 |false=>exact isTrue_or_nil e
 |true=>exact e
theorem mW(ha:PT X a tA)(hb:PW X (.BoolOp .And (b::rest) pos) tB'):PW X (.BoolOp .And (a::b::rest) pos) (PJ tA tB'):=by
 intro wh pins s σ H Q I h
 refine isTrue_and (thn (ha pins s σ H _ I h) fun c s1 ⟨H1,I1,q1⟩=>?_)
 cases c with
 |true=>exact hb wh pins s1 σ H1 Q I1 q1
 |false=>exact⟨H1,I1,q1⟩
theorem qR(ha:PT X a tA)(hb:PW X (.BoolOp .Or (b::rest) pos) tB'):PW X (.BoolOp .Or (a::b::rest) pos) (tOr tA tB'):=by
 intro wh pins s σ H Q I h
 refine isTrue_or (thn (ha pins s σ H _ I h) fun c s1 ⟨H1,I1,q1⟩=>?_)
 cases c with
 |true=>exact⟨H1,I1,q1⟩
 |false=>exact hb wh pins s1 σ H1 Q I1 q1
theorem mY(ha:PT X a tA):PT X (.UnaryOp .Not a pos) (K1 tA):=by
 intro pins s σ H Q I h
 exact isTrue_not (ha pins s σ H (fun c H1=>Q (!c) H1) I h)
def qL(ta tb:TE):TE:=fun σ H Q=>ta σ H fun x H1=>∃c,x=.bl c/\if c=true then tb σ H1 Q else Q (.bl false) H1
def qG(ta:TE):TE:=fun σ H Q=>ta σ H fun x H1=>∃c,x=.bl c/\Q (.bl (!c)) H1
theorem nF{op}{t:TE}(h:PE X a t):PE X (.BoolOp op [a] pos) t:=fun pins s σ H Q I hw=>BoolOp_one (h pins s σ H Q I hw)
theorem nJ(ha:PE X a ta)(hb:PE X (.BoolOp .And (b::rest) pos) tb):PE X (.BoolOp .And (a::b::rest) pos) (qL ta tb):=by
 intro pins s σ H Q I h
 refine BoolOp_and (thn (ha pins s σ H _ I h) fun v s1 ⟨x,H1,I1,r1,q1⟩=>?_)
 obtain⟨c,rfl,q1⟩:=q1
 cases r1
 refine U29 ?_
 cases c with
 |true=>exact hb pins s1 σ H1 Q I1 q1
 |false=>exact⟨.bl false,H1,I1,rfl,q1⟩
theorem nG(ha:PE X a ta):PE X (.UnaryOp .Not a pos) (qG ta):=by
 intro pins s σ H Q I h
 refine UnaryOp_ (thn (ha pins s σ H _ I h) fun v s1 ⟨x,H1,I1,r1,q1⟩=>?_)
 obtain⟨c,rfl,q1⟩:=q1
 cases r1
 exact not_of (U29 ⟨.bl (!c),H1,I1,rfl,q1⟩)
end
end L2
namespace L2
open PySem PySem.Spec PyProof.Rows
def SqL(K:U0b)(H:Hp)(a:Addr)(xs:List V):Prop :=
 Rd H a (.lst xs) ∨
  ∃(o:Obj)(its:Array Value)(n:Nat),K.lookup a=some o/\o.cls=.type "list"/\o.dict=none/\o.data=.seq its n/\its.size<=sizeLine/\Vals xs its.toList
def SqT(K:U0b)(H:Hp)(a:Addr)(xs:List V):Prop :=
 Rd H a (.tup xs) ∨
  ∃(o:Obj)(its:Array Value)(n:Nat),K.lookup a=some o/\o.cls=.type "tuple"/\o.data=.seq its n/\its.size<=sizeLine/\Vals xs its.toList
def tK:Value->Option V
 |.none=>some .non
 |.bool b=>some (.bl b)
 |.int i _=>some (.int i)
 |.str x _=>some (.str x)
 |.bytes b _=>some (.byt b)
 |.float b _=>some (.flt b)
 |.ref a=>some (.ref a)
 |.type n=>some (.ty n)
 |_=>none
theorem RelV.abs{x:V}{u:Value}(r:RelV x u):tK u=some x:=by
 cases x with
 |non=>cases r;rfl
 |bl _=>cases r;rfl
 |int _=>obtain⟨t,rfl⟩:=r;rfl
 |str _=>obtain⟨t,rfl⟩:=r;rfl
 |byt _=>obtain⟨t,rfl⟩:=r;rfl
 |flt _=>obtain⟨t,rfl⟩:=r;rfl
 |ref _=>cases r;rfl
 |ty _=>cases r;rfl
theorem RelV.inj{x y:V}{u:Value}(r:RelV x u)(q:RelV y u):x=y:=U00 (r.abs.symm.trans q.abs)
theorem Vals.inj:∀{xs ys:List V} {us:List Value},Vals xs us->Vals ys us->xs=ys
 |_,_,_,.nil,.nil=>rfl
 |_,_,_,.cons r t,.cons r' t'=>by rw[r.inj r',Vals.inj t t']
section
variable{X:Cx}{pins:List (Addr×Obj)}{σ:St}{H:Hp}{s:Shared}{a:Addr}{xs ys:List V}
theorem SqL.of{K:U0b}(h:H a=some (.lst xs)):SqL K H a xs:=.inl (.inl h)
theorem SqT.of{K:U0b}(h:H a=some (.tup xs)):SqT K H a xs:=.inl (.inl h)
theorem Inv.list(I:Inv X pins σ H s)(h:SqL X.K H a xs):∃its:List Value,Vals xs its/\PlainL s.heap a its.toArray/\xs.length<=sizeLine:=by
 rcases h with h|⟨o,its,n,hk,hc,hd,hs,hz,r⟩
 .obtain⟨z,its,n,r,e⟩:=h.ok I.hok
  exact⟨its,r,⟨_,n,e,rfl,rfl,rfl⟩,z⟩
 .refine⟨its.toList,r,⟨o,n,I.kIn a o hk,hc,hd,by simpa using hs⟩,?_⟩
  have e:=r.length
  simp only[U0g] at e
  omega
theorem Inv.tuple(I:Inv X pins σ H s)(h:SqT X.K H a xs):∃its:List Value,Vals xs its/\IsTup s.heap a its.toArray/\xs.length<=sizeLine:=by
 rcases h with h|⟨o,its,n,hk,hc,hs,hz,r⟩
 .obtain⟨z,its,r,p⟩:=h.ok I.hok
  exact⟨its,r,p,z⟩
 .refine⟨its.toList,r,⟨o,I.kIn a o hk,hc,n,by simpa using hs⟩,?_⟩
  have e:=r.length
  simp only[U0g] at e
  omega
theorem Inv.dz(I:Inv X pins σ H s)(h:SqL X.K H a xs)(h':SqL X.K H a ys):xs=ys:=by
 obtain⟨its,r,⟨o,n,e,_,_,d⟩,_⟩:=I.list h
 obtain⟨its',r',⟨o',n',e',_,_,d'⟩,_⟩:=I.list h'
 rw[e] at e';cases e'
 rw[d] at d'
 injection d' with d1 _
 have:its=its':=by simpa using congrArg Array.toList d1
 subst this
 exact r.inj r'
theorem Inv.aG(I:Inv X pins σ H s)(h:SqT X.K H a xs)(h':SqT X.K H a ys):xs=ys:=by
 obtain⟨its,r,⟨o,e,_,n,d⟩,_⟩:=I.tuple h
 obtain⟨its',r',⟨o',e',_,n',d'⟩,_⟩:=I.tuple h'
 rw[e] at e';cases e'
 rw[d] at d'
 injection d' with d1 _
 have:its=its':=by simpa using congrArg Array.toList d1
 subst this
 exact r.inj r'
end
abbrev Cx.wish(X:Cx)(E:Value->Shared->Prop):Cx:={ X with xe:=E }
abbrev Cx.nox(X:Cx):Cx:=X.wish fun _ _=>False
theorem Cx.Ok.wish{X:Cx}(ok:X.Ok)(E:Value->Shared->Prop):(X.wish E).Ok :=
 ⟨ok.mod,ok.kind,ok.glob,ok.blt,ok.above,ok.inj,ok.has,ok.cab,ok.hd,ok.frames,ok.stk,ok.exf,ok.bs,ok.bsz,ok.noex,ok.exfs,ok.M6,ok.frf,ok.sy⟩
theorem Cx.Ok.Kg{X:Cx}{E:Value->Shared->Prop}(ok:(X.wish E).Ok):X.Ok :=
 ⟨ok.mod,ok.kind,ok.glob,ok.blt,ok.above,ok.inj,ok.has,ok.cab,ok.hd,ok.frames,ok.stk,ok.exf,ok.bs,ok.bsz,ok.noex,ok.exfs,ok.M6,ok.frf,ok.sy⟩
section
variable{X:Cx}{pins:List (Addr×Obj)}{σ:St}{H:Hp}{s:Shared}{E:Value->Shared->Prop}
theorem Inv.wish(I:Inv X pins σ H s)(E:Value->Shared->Prop):Inv (X.wish E) pins σ H s:=⟨I.ok.wish E,I.os,I.bare,I.base,I.loc,I.cell,I.free,I.freeC,I.pin,I.hok,I.len⟩
theorem Inv.Kg(I:Inv (X.wish E) pins σ H s):Inv X pins σ H s:=⟨I.ok.Kg,I.os,I.bare,I.base,I.loc,I.cell,I.free,I.freeC,I.pin,I.hok,I.len⟩
theorem SP.Kg{D:Ends}{f:Flow}{s':Shared}(h:SP (X.wish E) pins D f s'):SP X pins D f s':=by
 cases f with
 |next=>obtain⟨σ',H',I,q⟩:=h;exact⟨σ',H',I.Kg,q⟩
 |brk=>obtain⟨σ',H',I,q⟩:=h;exact⟨σ',H',I.Kg,q⟩
 |cont=>obtain⟨σ',H',I,q⟩:=h;exact⟨σ',H',I.Kg,q⟩
 |ret u=>obtain⟨v,σ',H',I,r,q⟩:=h;exact⟨v,σ',H',I.Kg,r,q⟩
theorem PSs.nox{st:List Stmt}{t:TS}(h:PSs X.nox st t):PSs X st t:=fun pins s σ H D I hw =>
 U48 (h pins s σ H D (I.wish _) hw) (fun _ _ q=>q.Kg) fun _ _ z=>U4c z
end
section
variable{X:Cx}{st:Stmt}{rest:List Stmt}{t u:TS}{e:Expr}{te:TE}{pos:Pos}
def qH:TS:=fun D σ H=>D.nx σ H
def rY(t u:TS):TS:=fun D σ H=>t { D with nx:=u D } σ H
theorem iW:PSs X [] qH:=fun _ _ σ H _ I h=>U7a ⟨σ,H,I,h⟩
theorem dJ(h1:PS X st t)(h2:PSs X rest u):PSs X (st::rest) (rY t u):=by
 intro pins s σ H D I h
 refine wpAny_execs_cons (thn (h1 pins s σ H { D with nx:=u D } I h) fun f s1 q=>?_)
 cases f with
 |next =>
  obtain⟨σ',H',I',q⟩:=q
  exact h2 pins s1 σ' H' D I' q
 |ret v=>exact q
 |brk=>exact q
 |cont=>exact q
theorem iV(h1:PS X st t):PSs X [st] t:=by
 intro pins s σ H D I h
 refine wpAny_execs_cons (thn (h1 pins s σ H D I h) fun f s1 q=>?_)
 cases f with
 |next=>exact U7a q
 |ret v=>exact q
 |brk=>exact q
 |cont=>exact q
theorem Inv.quiet{pins:List (Addr×Obj)}{σ:St}{H:Hp}{s:Shared}(I:Inv X pins σ H s):interactive X.env=false:=by simp[interactive,I.ok.kind]
def qJ(te:TE):TS:=fun D σ H=>te σ H fun _ H1=>D.nx σ H1
theorem iZ(he:PE X e te)(hs:swapsWith e none pos.line X.env=pure false:=by rfl):PS X (.Expr e pos) (qJ te):=by
 intro pins s σ H D I h
 exact wpAny_Expr_any (thn (he pins s σ H _ I h) fun v s1 ⟨x,H1,I1,r1,q1⟩=>⟨σ,H1,I1,q1⟩) I.quiet hs
def rZ(te:TE):TS:=fun D σ H=>te σ H D.rt
theorem mj(he:PE X e te):PS X (.Return (some e) pos) (rZ te):=by
 intro pins s σ H D I h
 exact wpAny_Return_some (thn (he pins s σ H _ I h) fun v s1 ⟨x,H1,I1,r1,q1⟩=>⟨x,σ,H1,I1,r1,q1⟩)
def sG(c:TT)(t u:TS):TS:=fun D σ H=>c σ H fun b H1=>if b=true then t D σ H1 else u D σ H1
theorem qT{c:Expr}{a b:List Stmt}{tc:TT}(hc:PT X c tc)(ha:PSs X a t)(hb:PSs X b u):PS X (.If c a b pos) (sG tc t u):=by
 intro pins s σ H D I h
 refine wpAny_If (thn (hc pins s σ H _ I h) fun d s1 ⟨H1,I1,q1⟩=>?_)
 cases d with
 |true=>exact ha pins s1 σ H1 D I1 q1
 |false=>exact hb pins s1 σ H1 D I1 q1
def mJ:TS:=fun _ _ _=>False
theorem dN:PS X st mJ:=fun _ _ _ _ _ _ h=>h.elim
end
abbrev TG:=V->St->Hp->(St->Hp->Prop)->Prop
abbrev TGs:=List V->St->Hp->(St->Hp->Prop)->Prop
def PG(X:Cx)(target:Expr)(t:TG):Prop :=
 ∀(pins:List (Addr×Obj))(s:Shared)(σ:St)(H:Hp)(v:V)(u:Value)(Q:St->Hp->Prop),Inv X pins σ H s->RelV v u->t v σ H Q ->
  wpAny (model X.prog X.w) X.A (assign target X.env u) (fun _ s'=>∃σ' H',Inv X pins σ' H' s'/\Q σ' H') X.xe s
def PGs(X:Cx)(ts:List Expr)(t:TGs):Prop :=
 ∀(pins:List (Addr×Obj))(s:Shared)(σ:St)(H:Hp)(vs:List V)(us:List Value)(Q:St->Hp->Prop),Inv X pins σ H s->Vals vs us->t vs σ H Q ->
  wpAny (model X.prog X.w) X.A (assignInOrder ((assignEach ts X.env).map (·.2)) us) (fun _ s'=>∃σ' H',Inv X pins σ' H' s'/\Q σ' H') X.xe s
abbrev cL:=V->V->V->Hp->(Hp->Prop)->Prop
def mC(X:Cx)(t:cL):Prop :=
 ∀(pins:List (Addr×Obj))(s:Shared)(σ:St)(H:Hp)(o i v:V)(ov iv u:Value)(Q:Hp->Prop),Inv X pins σ H s->RelV o ov->RelV i iv->RelV v u->t o i v H Q ->
  wpAny (model X.prog X.w) X.A (setItem ov iv u) (fun _ s'=>∃H',Inv X pins σ H' s'/\Q H') X.xe s
section
variable{X:Cx}{pos:Pos}
def Vg(i:Nat):TG:=fun v σ H Q=>Q (σ.set i (some v)) H
theorem iy{i:Nat}{x:Str}(hN:X.N.Nodup)(hi:X.N[i]?=some x)(hx:Loc X.env.scope x)(hf:X.fn x=true∨X.env.scope.names.lookup x=some .local:=by first|exact .inl rfl|exact .inr rfl|assumption):PG X (.Name x pos) (Vg i):=by
 intro pins s σ H v u Q I r h
 exact wpAny_assign_Name (W9 I hN hi hx r (fun s' I'=>⟨_,H,I',h⟩) hf)
def cG:TGs:=fun vs σ H Q=>vs=[]/\Q σ H
def Z2(t:TG)(u:TGs):TGs:=fun vs σ H Q=>∃v r,vs=v::r/\t v σ H fun σ' H'=>u r σ' H' Q
theorem iw:PGs X [] cG:=by
 intro pins s σ H vs us Q I r h
 obtain⟨e,h⟩:=h
 subst e
 cases r
 exact assignInOrder_nil ⟨σ,H,I,h⟩
theorem dR{e:Expr}{es:List Expr}{t:TG}{u:TGs}(h1:PG X e t)(h2:PGs X es u)
  (hs:(assignEach (e::es) X.env).map (·.2)=assign e X.env::(assignEach es X.env).map (·.2):=by rfl):PGs X (e::es) (Z2 t u):=by
 intro pins s σ H vs us Q I r h
 obtain⟨v,vr,e1,h⟩:=h
 subst e1
 cases r with
 |cons r rr =>
  rw[hs]
  refine assignInOrder_cons (thn (h1 pins s σ H _ _ _ I r h) fun _ s1 ⟨σ1,H1,I1,q1⟩=>?_)
  exact h2 pins s1 σ1 H1 _ _ Q I1 rr q1
def cF(K:U0b)(n:Nat)(t:TGs):TG:=fun v σ H Q=>∃a xs,v=.ref a/\SqT K H a xs/\xs.length=n/\t xs σ H Q
theorem n6{es:List Expr}{k:Nat}{t:TGs}{n:Nat}(hc:X.calm=true)(h:PGs X es t)
  (hn:(assignEach es X.env).length=n:=by rfl) (hst:(assignEach es X.env).findIdx? (·.1)=none:=by rfl):PG X (.Tuple es k pos) (cF X.K n t):=by
 intro pins s σ H v u Q I r hw
 obtain⟨a,xs,e1,hq,hl,hw⟩:=hw
 subst e1
 cases r
 obtain⟨its,rv,ht,hz⟩:=I.tuple hq
 refine assign_Tuple_tuple (I.ok.hd hc) ht (by simp[hn,←hl,rv.length]) hst fun h' hx=>?_
 have I1:Inv X pins σ H { s with heap:=h' }:=I.kept (t':=s.toks) fun b o e=>hx b o (U1m (U0j e)) e
 exact h pins _ σ H xs _ Q I1 (by simpa using rv) hw
def tG(to ti:TE)(t:cL):TG:=fun v σ H Q=>to σ H fun o H1=>ti σ H1 fun i H2=>t o i v H2 fun H3=>Q σ H3
theorem n8{o i:Expr}{to ti:TE}{t:cL}(ho:PE X o to)(hi:PE X i ti)(hs:mC X t)
  (ha:∀v,assign (.Subscript o i pos) X.env v=(do
   let ov ←holding [v] (eval o X.env)
   let iv ←holding [v,ov] (eval i X.env)
   standAt pos
   holding [v,ov,iv] (setItem ov iv v)
   release [v,ov,iv] []):=by intro _;rfl):PG X (.Subscript o i pos) (tG to ti t):=by
 intro pins s σ H v u Q I r h
 rw[ha]
 refine U0 (U2x (thn (ho pins s σ H _ I h) fun ov s1 ⟨x,H1,I1,r1,q1⟩=>?_))
 refine U0 (U2x (thn (hi pins s1 σ H1 _ I1 q1) fun iv s2 ⟨y,H2,I2,r2,q2⟩=>?_))
 refine U0 (wpAny_standAt (U0 (U2x (thn (hs pins s2 σ H2 x y v ov iv u _ I2 r1 r2 r q2) fun _ s3 ⟨H3,I3,q3⟩=>?_))))
 exact wpAny_release ⟨σ,H3,I3,q3⟩
def lE(te:TE)(g:TG):TS:=fun D σ H=>te σ H fun x H1=>g x σ H1 D.nx
theorem Zn{tg e:Expr}{te:TE}{g:TG}(he:PE X e te)(hg:PG X tg g)(hs:swapsWithSole [tg] e pos.line X.env=pure false:=by rfl)(hw:swappedStores [tg] e X.env=pure none:=by rfl)
  (h1:(assignEach [tg] X.env).map (·.2)=[assign tg X.env]:=by rfl):PS X (.Assign [tg] e pos) (lE te g):=by
 intro pins s σ H D I h
 refine wpAny_Assign_stores (thn (he pins s σ H _ I h) fun v s1 ⟨x,H1,I1,r1,q1⟩=>?_) hs hw
 rw[h1]
 exact thn (hg pins s1 σ H1 x v _ I1 r1 q1) fun _ s2 q=>q
theorem mZ{i:Nat}{x:Str}{e:Expr}{te:TE}{pos':Pos}(hN:X.N.Nodup)(hi:X.N[i]?=some x)(hx:Loc X.env.scope x)(he:PE X e te)(hs:swapsWith e (some (.Name x pos')) pos.line X.env=pure false:=by rfl)(hf:X.fn x=true∨X.env.scope.names.lookup x=some .local:=by first|exact .inl rfl|exact .inr rfl|assumption) :
  PS X (.Assign [.Name x pos'] e pos) (lE te (Vg i)):=by
 intro pins s σ H D I h
 refine wpAny_Assign_Name (thn (he pins s σ H _ I h) fun v s1 ⟨y,H1,I1,r1,q1⟩=>?_) hs
 exact W9 I1 hN hi hx r1 (fun s2 I2=>⟨_,H1,I2,q1⟩) hf
end
section
variable{X:Cx}{pos:Pos}
end
structure It where
 go:Nat->Hp->Prop
 yld:Nat->Hp->V->Hp->Prop
 stop:Nat->Hp->Prop
def Nf(X:Cx)(pins:List (Addr×Obj))(H:Hp)(b:Addr):Prop :=
 H b=none/\b≠X.env.locals/\b ∉ X.fs/\(b∈X.ex∨X.s₀.heap.objs.size<=b)/\(∀x c,X.env.cells.lookup x=some c->c≠b)/\∀p∈X.pn++pins,p.1≠b
theorem Inv.Yr{X:Cx}{pins:List (Addr×Obj)}{σ:St}{H H':Hp}{s:Shared}{b:Addr}(I:Inv X pins σ H s)(hb:s.heap.objs.size<=b)(hn:H' b=none):Nf X pins H' b:=by
 refine⟨hn,U3d (U1a I.lt hb),I.cD hb,.inr (U1d I.sz hb),fun x c e z=>?_,fun p hp z=>?_⟩
 .obtain⟨v,q⟩:=I.cell x c e
  exact absurd (U1a q.lt (by rw[z];exact hb)) (U4q _)
 .exact absurd (U1a (U0j (I.pin p hp).1) (by rw[z];exact hb)) (U4q _)
structure Turn(P:Program)(w:World)(K:U0b)(tg:Expr)(J:It)(fp:List Addr)(it:Addr)(tn:Nat->Heap->Prop):Prop where
 mem:it∈fp
 obj:∀i h,tn i h->∀b∈fp,∃o,h.get? b=some o/\∀v,o.data≠.cell v
 keep:∀i h h',tn i h->(∀b∈fp,∀o,h.get? b=some o->h'.get? b=some o)->tn i h'
 item:∀(X:Cx),X.prog=P->X.w=w->X.K=K->X.calm=true->∀(i:Nat)(pins:List (Addr×Obj))(s:Shared)(σ:St)(H:Hp)(E:Value->Shared->Prop),Inv X pins σ H s->(∀b∈fp,Nf X pins H b)->tn i s.heap->J.go i H ->
  wpAny (model P w) X.A (pyNext (.ref it)) (fun r s1=>∃u,r=some u /\
   wpAny (model P w) X.A (letOwnedTupleGo tg (.ref it) u) (fun _ s2=>∃x H',Inv X pins σ H' s2/\RelV x u/\J.yld i H x H'/\tn (i+1) s2.heap/\∀b∈fp,H' b=none) E s1) E s
 done:∀(X:Cx),X.prog=P->X.w=w->X.K=K->X.calm=true->∀(i:Nat)(pins:List (Addr×Obj))(s:Shared)(σ:St)(H:Hp)(E:Value->Shared->Prop),Inv X pins σ H s->(∀b∈fp,Nf X pins H b)->tn i s.heap->J.stop i H ->
  wpAny (model P w) X.A (pyNext (.ref it)) (fun r s1=>r=none/\Inv X pins σ H s1) E s
 self:∀(A:Around)(i:Nat)(s:Shared)(Q:Value->Shared->Prop)(E:Value->Shared->Prop),tn i s.heap->Q (.ref it) s->wpAny (model P w) A (pyIter (.ref it)) Q E s
abbrev TI:=St->Hp->(It->Hp->Prop)->Prop
def PIE(X:Cx)(pins:List (Addr×Obj))(σ:St)(tg:Expr)(R:It->Hp->Prop)(itv:Value)(s2:Shared):Prop :=
 ∃(it:Addr)(fp:List Addr)(tn:Nat->Heap->Prop)(J:It)(H':Hp),itv=.ref it/\Inv X pins σ H' s2/\Turn X.prog X.w X.K tg J fp it tn/\tn 0 s2.heap/\(∀b∈fp,Nf X pins H' b)/\R J H'
def PI(X:Cx)(tg iter:Expr)(wi:TI):Prop :=
 ∀(pins:List (Addr×Obj))(s:Shared)(σ:St)(H:Hp)(R:It->Hp->Prop),Inv X pins σ H s->wi σ H R ->
  wpAny (model X.prog X.w) X.A (eval iter X.env) (fun v s1=>wpAny (model X.prog X.w) X.A (pyIter v) (PIE X pins σ tg R) X.xe s1) X.xe s
theorem Z1{M:Model}{A:Around}{E:Value->Shared->Prop}{s:Shared}{tg:Expr}{it:Addr}{u:Value}{o:Obj}{n:String}{vs:Array Value}{Q:Unit->Shared->Prop}(ho:s.heap.get? it=some o)(hc:o.cls=.type n)(hd:o.data=.fields vs)
  (hn:["enumerate","zip","dict_itemiterator","dict_reverseitemiterator","odict_iterator","itertools.zip_longest","itertools.pairwise"].contains n=false) (hQ:Q () s):wpAny M A (letOwnedTupleGo tg (.ref it) u) Q E s:=by
 unfold letOwnedTupleGo
 cases tg<;>first
  |exact U0d hQ
  |(cases u<;>first
    |exact U0d hQ
    |(refine U0 (wpAny_load ho ?_)
      rw[hc,hd]
      show wpAny M A (if (["enumerate","zip","dict_itemiterator","dict_reverseitemiterator","odict_iterator","itertools.zip_longest","itertools.pairwise"].contains n&&vs[0]?==some (rawInt _))=true then _ else _) Q E s
      rw[if_neg (by intro h;rw[hn,Bool.false_and] at h;cases h)]
      exact U0d hQ))
def Itl(K:U0b)(a:Addr):It :=
 ⟨fun i H=>∃xs x,SqL K H a xs/\xs[i]?=some x,fun i H x H'=>H'=H/\∀xs,SqL K H a xs->xs[i]?=some x,fun i H=>∃xs,SqL K H a xs/\xs.length<=i⟩
def Itt(K:U0b)(a:Addr):It :=
 ⟨fun i H=>∃xs x,SqT K H a xs/\xs[i]?=some x,fun i H x H'=>H'=H/\∀xs,SqT K H a xs->xs[i]?=some x,fun i H=>∃xs,SqT K H a xs/\xs.length<=i⟩
def Itr(lo:Int)(n:Nat):It:=⟨fun i _=>i<n,fun i H x H'=>H'=H/\x=.int (lo+i),fun i _=>n<=i⟩
theorem aF{P:Program}{w:World}{K:U0b}{tg:Expr}(a it:Addr):Turn P w K tg (Itl K a) [it] it (fun i h=>h.IsListIter it a i) where
 mem:=by simp
 obj:=fun i h st b hb=>by
  have e:b=it:=by simpa using hb
  subst e
  obtain⟨o,e,c,d⟩:=st
  exact⟨o,e,fun v z=>by rw[d] at z;cases z⟩
 keep:=fun i h h' st k=>st.at fun o e=>k it (by simp) o e
 item:=by
  intro X hP hw hK hc i pins s σ H E I hf st hg
  subst hP hw hK
  obtain⟨xs,x,hq,hx⟩:=hg
  obtain⟨its,rv,p,hz⟩:=I.list hq
  obtain⟨u,hu,ru⟩:=rv.get hx
  obtain⟨f0,f1,f2,f3,f4,f5⟩:=hf it (by simp)
  refine wpAny_pyNext_list_item st p.isList (x:=u) (by simpa using hu) fun h' st' sb=>?_
  have I1:Inv X pins σ H { s with heap:=h' }:=I.turned (t':=s.toks) (fun b o hb e=>(sb.2 b hb).trans e) f0 f1 f3 f4 f5
  obtain⟨o,e,c,d⟩:=id st'
  exact⟨u,rfl,Z1 (s:={ s with heap:=h' }) e c d (by decide) ⟨x,H,I1,ru,⟨rfl,fun ys hy=>by rw[I.dz hy hq];exact hx⟩,st',fun b hb=>(hf b hb).1⟩⟩
 done:=by
  intro X hP hw hK hc i pins s σ H E I hf st hg
  subst hP hw hK
  obtain⟨xs,hq,hx⟩:=hg
  obtain⟨its,rv,p,hz⟩:=I.list hq
  obtain⟨f0,f1,f2,f3,f4,f5⟩:=hf it (by simp)
  have hl:=rv.length
  exact wpAny_pyNext_list_end (I.ok.hd hc) st p.isList (by simp;omega) fun h' eb=>⟨rfl,I.turned (t':=s.toks) (fun b o hb e=>eb b o hb e) f0 f1 f3 f4 f5⟩
 self:=fun _ _ _ _ _ st h=>wpAny_pyIter_listiter st h
theorem Z7{P:Program}{w:World}{K:U0b}{tg:Expr}(a it:Addr):Turn P w K tg (Itt K a) [it] it (fun i h=>h.IsTupleIter it a i) where
 mem:=by simp
 obj:=fun i h st b hb=>by
  have e:b=it:=by simpa using hb
  subst e
  obtain⟨o,e,c,d⟩:=st
  exact⟨o,e,fun v z=>by rw[d] at z;cases z⟩
 keep:=fun i h h' st k=>st.at fun o e=>k it (by simp) o e
 item:=by
  intro X hP hw hK hc i pins s σ H E I hf st hg
  subst hP hw hK
  obtain⟨xs,x,hq,hx⟩:=hg
  obtain⟨its,rv,p,hz⟩:=I.tuple hq
  obtain⟨u,hu,ru⟩:=rv.get hx
  obtain⟨f0,f1,f2,f3,f4,f5⟩:=hf it (by simp)
  refine wpAny_pyNext_tuple_item st (show s.heap.IsTuple a its.toArray from p) (x:=u) (by simpa using hu) fun h' st' sb=>?_
  have I1:Inv X pins σ H { s with heap:=h' }:=I.turned (t':=s.toks) (fun b o hb e=>(sb.2 b hb).trans e) f0 f1 f3 f4 f5
  obtain⟨o,e,c,d⟩:=id st'
  exact⟨u,rfl,Z1 (s:={ s with heap:=h' }) e c d (by decide) ⟨x,H,I1,ru,⟨rfl,fun ys hy=>by rw[I.aG hy hq];exact hx⟩,st',fun b hb=>(hf b hb).1⟩⟩
 done:=by
  intro X hP hw hK hc i pins s σ H E I hf st hg
  subst hP hw hK
  obtain⟨xs,hq,hx⟩:=hg
  obtain⟨its,rv,p,hz⟩:=I.tuple hq
  obtain⟨f0,f1,f2,f3,f4,f5⟩:=hf it (by simp)
  have hl:=rv.length
  exact wpAny_pyNext_tuple_end (I.ok.hd hc) st (show s.heap.IsTuple a its.toArray from p) (by simp;omega) fun h' eb=>⟨rfl,I.turned (t':=s.toks) (fun b o hb e=>eb b o hb e) f0 f1 f3 f4 f5⟩
 self:=fun _ _ _ _ _ st h=>wpAny_pyIter_tupleiter st h
theorem Z8{P:Program}{w:World}{K:U0b}{tg:Expr}(it:Addr)(lo:Int)(n:Nat):Turn P w K tg (Itr lo n) [it] it (fun i h=>IsRangeIter h it (lo+(i:Nat)*1) ((n:Int)-(i:Nat)) 1) where
 mem:=by simp
 obj:=fun i h st b hb=>by
  have e:b=it:=by simpa using hb
  subst e
  exact⟨_,st,fun v z=>by
   have z':Data.fields _=Data.cell v:=z
   cases z'⟩
 keep:=fun i h h' st k=>k it (by simp) _ st
 item:=by
  intro X hP hw hK hc i pins s σ H E I hf st hg
  subst hP hw hK
  obtain⟨f0,f1,f2,f3,f4,f5⟩:=hf it (by simp)
  have W:=Walks.range (prog:=X.prog) (w:=X.w) (I.ok.hd hc) it lo 1 n
  refine W.item i s _ _ hg st fun v h' tk hv st' kk=>?_
  obtain⟨t,rfl⟩:=hv
  have I1:Inv X pins σ H { s with heap:=h',toks:=tk }:=I.turned (fun b o hb e=>kk b o (by simpa using hb) e) f0 f1 f3 f4 f5
  refine⟨_,rfl,Z1 (s:={ s with heap:=h',toks:=tk }) (n:="range_iterator") st' rfl rfl (by decide) ⟨.int (lo+i),H,I1,⟨t,?_⟩,⟨rfl,rfl⟩,st',fun b hb=>(hf b hb).1⟩⟩
  rw[Int.mul_one]
 done:=by
  intro X hP hw hK hc i pins s σ H E I hf st hg
  subst hP hw hK
  obtain⟨f0,f1,f2,f3,f4,f5⟩:=hf it (by simp)
  exact wpAny_pyNext_range_end (I.ok.hd hc) st (by have:n<=i:=hg;omega) fun h' eb=>⟨rfl,I.turned (t':=s.toks) (fun b o hb e=>eb b o hb e) f0 f1 f3 f4 f5⟩
 self:=fun _ _ _ _ _ st h=>wpAny_pyIter_rangeiter st h
end L2
namespace L2
open PySem PySem.Spec PyProof.Rows
section
variable{X:Cx}{tg:Expr}
theorem WQ{pins:List (Addr×Obj)}{σ:St}{H:Hp}{s:Shared}{R:It->Hp->Prop}{E:Value->Shared->Prop}{lo hi:Int}{t u v:Tok}{tk:Nat}(I:Inv X pins σ H s)(h1:-(2^62)<=lo)(h2:lo<2^62)(h3:-(2^62)<=hi)(h4:hi<2^62)
  (q:R (Itr lo (hi-lo).toNat) H):wpAny (model X.prog X.w) X.A (pyIter (.ref s.heap.objs.size)) (PIE X pins σ tg R) E { s with heap:=s.heap.push { cls:=.type "range",data:=.fields #[.int lo t,.int hi u,.int 1 v] },toks:=tk }:=by
 refine wpAny_pyIter_range (IsRange.new ..) (small_one h1 h2 h3 h4) ?_
 have I1:Inv X pins σ H { s with heap:=s.heap.push { cls:=.type "range",data:=.fields #[.int lo t,.int hi u,.int 1 v] },toks:=tk }:=I.kept fun b o e=>U0c _ e
 refine⟨(s.heap.push { cls:=.type "range",data:=.fields #[.int lo t,.int hi u,.int 1 v] }).objs.size,[(s.heap.push { cls:=.type "range",data:=.fields #[.int lo t,.int hi u,.int 1 v] }).objs.size],_,_,H,rfl,
  I1.kept (t':=tk) fun b o e=>U0c _ e,Z8 _ lo (hi-lo).toNat,?_,fun b hb=>?_,q⟩
 .have e1:lo+((0:Nat):Int)*1=lo:=by simp
  have e2:(((hi-lo).toNat:Nat):Int)-((0:Nat):Int)=Builtin.Range.rangeSize lo hi 1:=by rw[rangeSize_one];split<;>omega
  show IsRangeIter _ _ (lo+((0:Nat):Int)*1) ((((hi-lo).toNat:Nat):Int)-((0:Nat):Int)) 1
  rw[e1,e2]
  exact U0u _ rfl
 .have e:b=(s.heap.push { cls:=.type "range",data:=.fields #[.int lo t,.int hi u,.int 1 v] }).objs.size:=by simpa using hb
  subst e
  exact I1.Yr (U0o _) (I1.hok.fresh (U0o _))
def qz(ta:TA):TI:=fun σ H R=>ta σ H fun vs H1=>∃j:Int,vs=[.int j]/\-(2^62)<=j/\j<2^62/\R (Itr 0 j.toNat) H1
def qy(ta:TA):TI:=fun σ H R=>ta σ H fun vs H1=>∃i j:Int,vs=[.int i,.int j]/\(-(2^62)<=i/\i<2^62/\-(2^62)<=j/\j<2^62)/\R (Itr i (j-i).toNat) H1
theorem aX{a:Expr}{ta:TA}{p pos:Pos}(hg:Gl X "range")(hm:X.mg "range"=none)(ha:PA X [a] ta)(hs:starEach [a] X.env=[(false,eval a X.env)]:=by rfl):PI X tg (.Call (.Name "range" p) [a] [] pos) (qz ta):=by
 intro pins s σ H R I h
 refine Call_ (Ma I hg hm boot_range (U3z (thn (ha pos pins s σ H _ I h) fun us s1 ⟨vs,H1,I1,r1,q1⟩=>?_) hs rfl))
 obtain⟨j,e,q1,q2,q⟩:=q1
 subst e
 cases r1 with
 |cons r rr =>
  cases rr
  obtain⟨t,rfl⟩:=r
  exact call_range_1 (WQ I1 (by omega) (by omega) q1 q2 (by simpa using q))
theorem aW{a b:Expr}{ta:TA}{p pos:Pos}(hg:Gl X "range")(hm:X.mg "range"=none)(ha:PA X [a,b] ta)(hs:starEach [a,b] X.env=[(false,eval a X.env),(false,eval b X.env)]:=by rfl)(hs2:starEach [b] X.env=[(false,eval b X.env)]:=by rfl) :
  PI X tg (.Call (.Name "range" p) [a,b] [] pos) (qy ta):=by
 intro pins s σ H R I h
 refine Call_ (Ma I hg hm boot_range (U3z (thn (ha pos pins s σ H _ I h) fun us s1 ⟨vs,H1,I1,r1,q1⟩=>?_) (by rw[hs,hs2]) (by rw[hs2];rfl)))
 obtain⟨i,j,e,⟨q1,q2,q3,q4⟩,q⟩:=q1
 subst e
 cases r1 with
 |cons r rr =>
  cases rr with
  |cons r' rr =>
   cases rr
   obtain⟨t,rfl⟩:=r
   obtain⟨t',rfl⟩:=r'
   exact call_range_2 (WQ I1 q1 q2 q3 q4 q)
def sH(wi:TI)(g:TG)(tb:TS):TS:=fun D σ H=>wi σ H fun J H1=>∃W:Nat->Nat->St->Hp->Prop,(∃m,W 0 m σ H1)/\∀i m σ H,W i m σ H ->
 (J.stop i H/\D.nx σ H)∨(J.go i H/\∃N:St->Hp->Prop,(∀σ' H',N σ' H'->∃m',m'<m/\W (i+1) m' σ' H')/\∀x H',J.yld i H x H'->g x σ H' fun σ2 H2=>tb { D with nx:=N,ct:=N,bk:=D.nx } σ2 H2)
def Km(fp:List Addr)(h:Heap):List (Addr×Obj):=fp.filterMap fun b=>(h.get? b).map fun o=>(b,o)
theorem Lg{fp:List Addr}{h:Heap}{b:Addr}{o:Obj}(hb:b∈fp)(e:h.get? b=some o):(b,o)∈Km fp h:=List.mem_filterMap.mpr ⟨b,hb,by rw[e];rfl⟩
theorem Us{fp:List Addr}{h:Heap}{p:Addr×Obj}(hp:p∈Km fp h):p.1∈fp/\h.get? p.1=some p.2:=by
 obtain⟨b,hb,e⟩:=List.mem_filterMap.mp hp
 cases q:h.get? b with
 |none=>rw[q] at e;cases e
 |some o =>
  rw[q] at e
  have e':(b,o)=p:=U00 e
  subst e'
  exact⟨hb,q⟩
theorem Inv.pinned{pins:List (Addr×Obj)}{σ:St}{H:Hp}{s:Shared}{fp:List Addr}(I:Inv X pins σ H s)(hf:∀b∈fp,Nf X pins H b)(ho:∀b∈fp,∃o,s.heap.get? b=some o/\∀v,o.data≠.cell v):Inv X (pins++Km fp s.heap) σ H s :=
 I.Qj fun p hp=>(U1e.mp hp).elim (fun z=>I.pin p (U0x _ z)) fun z=>by
  obtain⟨hb,e⟩:=Us z
  obtain⟨f0,f1,f2,_⟩:=hf p.1 hb
  obtain⟨o,e',d⟩:=ho p.1 hb
  rw[e] at e';cases e'
  exact⟨e,f0,f1,f2,d⟩
theorem Inv.Ob{pins pl:List (Addr×Obj)}{σ:St}{H:Hp}{s:Shared}(I:Inv X (pins++pl) σ H s):Inv X pins σ H s:=I.Qj fun p hp=>I.pin p (U0x _ (U2h _ hp))
theorem mq{iter:Expr}{body:List Stmt}{wi:TI}{g:TG}{tb:TS}{pos:Pos}(hp:PassesOwn (model X.prog X.w) X.A X.env X.xe)(hc:X.calm=true)(hi:PI X tg iter wi)(hg:PG X tg g)(hb:PSs X body tb)
  (hs:∀x,foldedSetIterable iter X.env x=pure x:=by intro _;rfl):PS X (.For tg iter body [] pos) (sH wi g tb):=by
 intro pins s σ H D I h
 refine wpAny_For (thn (hi pins s σ H _ I h) fun v s1 h1=>thn h1 fun itv s2 h2=>?_) hs
 obtain⟨it,fp,tn,J,H2,e,I2,T,st2,f2,W,⟨m0,w0⟩,turn⟩:=h2
 subst e
 -- what stays true of the iterator's objects through the loop
 have stat:∀{H':Hp},(∀b∈fp,H' b=none)->∀b∈fp,Nf X pins H' b:=fun hn b hb=>⟨hn b hb,(f2 b hb).2⟩
 refine codeAny_forLoop_any (fun n s'=>∃i σ' H',Inv X pins σ' H' s'/\tn i s'.heap/\(∀b∈fp,H' b=none)/\W i n σ' H') ?_ m0 ⟨0,σ,H2,I2,st2,fun b hb=>(f2 b hb).1,w0⟩
 rintro n s3 ⟨i,σ3,H3,I3,st3,fr3,w3⟩
 rcases turn i n σ3 H3 w3 with ⟨stop,qn⟩|⟨go,N,hN,step⟩
 .refine U5g hp (thn (T.done X rfl rfl rfl hc i pins s3 σ3 H3 X.xe I3 (stat fr3) st3 stop) fun r s4 ⟨hr,I4⟩=>?_)
  subst hr
  exact U7a ⟨σ3,H3,I4,qn⟩
 .refine U5g hp (thn (T.item X rfl rfl rfl hc i pins s3 σ3 H3 X.xe I3 (stat fr3) st3 go) fun r s4 ⟨u,hr,h4⟩=>?_)
  subst hr
  refine U5g hp (thn h4 fun _ s5 ⟨x,H5,I5,r5,y5,st5,fr5⟩=>?_)
  have I5':=I5.pinned (stat fr5) (T.obj _ _ st5)
  refine U5g hp (thn (hg _ s5 σ3 H5 x u _ I5' r5 (step x H5 y5)) fun _ s6 ⟨σ6,H6,I6,q6⟩=>?_)
  refine U5g hp (thn (hb _ s6 σ6 H6 _ I6 q6) fun f s7 q7=>?_)
  have again:∀{σ7:St} {H7:Hp},Inv X (pins++Km fp s5.heap) σ7 H7 s7->N σ7 H7->∃m,m<n/\∃i σ' H',Inv X pins σ' H' s7/\tn i s7.heap/\(∀b∈fp,H' b=none)/\W i m σ' H':=fun {σ7 H7} I7 n7=>by
   obtain⟨m',hm,w7⟩:=hN σ7 H7 n7
   refine⟨m',hm,i+1,σ7,H7,I7.Ob,T.keep _ _ _ st5 fun b hb o e=>(I7.pin (b,o) (U0x _ (U0x _ (Lg hb e)))).1,fun b hb=>?_,w7⟩
   obtain⟨o,e,d⟩:=T.obj _ _ st5 b hb
   exact(I7.pin (b,o) (U0x _ (U0x _ (Lg hb e)))).2.1
  cases f with
  |next=>obtain⟨σ7,H7,I7,n7⟩:=q7;exact again I7 n7
  |cont=>obtain⟨σ7,H7,I7,n7⟩:=q7;exact again I7 n7
  |brk=>obtain⟨σ7,H7,I7,q7⟩:=q7;exact⟨σ7,H7,I7.Ob,q7⟩
  |ret v=>obtain⟨x7,σ7,H7,I7,r7,q7⟩:=q7;exact⟨x7,σ7,H7,I7.Ob,r7,q7⟩
end
end L2
namespace L2
open PySem PySem.Spec PyProof.Rows
abbrev R2:=V->V->Hp->VK->Prop
def OpR(X:Cx)(f:Value->Value->Sem Value)(r:R2):Prop :=
 ∀(pins:List (Addr×Obj))(s:Shared)(σ:St)(H:Hp)(x y:V)(v u:Value)(Q:VK),Inv X pins σ H s->RelV x v->RelV y u->r x y H Q ->
  wpAny (model X.prog X.w) X.A (f v u) (EP X pins σ Q) X.xe s
def UnR(X:Cx)(f:Value->Sem Value)(r:V->Hp->VK->Prop):Prop :=
 ∀(pins:List (Addr×Obj))(s:Shared)(σ:St)(H:Hp)(x:V)(v:Value)(Q:VK),Inv X pins σ H s->RelV x v->r x H Q ->
  wpAny (model X.prog X.w) X.A (f v) (EP X pins σ Q) X.xe s
def Dv(X:Cx)(f:Value)(r:List V->Hp->VK->Prop):Prop :=
 ∀(pins:List (Addr×Obj))(s:Shared)(σ:St)(H:Hp)(xs:List V)(us:List Value)(Q:VK),Inv X pins σ H s->Vals xs us->r xs H Q ->
  wpAny (model X.prog X.w) X.A (call f us) (EP X pins σ Q) X.xe s
def tOp(r:R2)(ta tb:TE):TE:=fun σ H Q=>ta σ H fun x H1=>tb σ H1 fun y H2=>r x y H2 Q
def tUn(r:V->Hp->VK->Prop)(ta:TE):TE:=fun σ H Q=>ta σ H fun x H1=>r x H1 Q
def rI(C:Int->Int->Prop)(g:Int->Int->V):R2:=fun x y H Q=>∃i j,x=.int i/\y=.int j/\C i j/\Q (g i j) H
def rI0(g:Int->Int->V):R2:=fun x y H Q=>∃i j,x=.int i/\y=.int j/\Q (g i j) H
def rU(g:Int->V):V->Hp->VK->Prop:=fun x H Q=>∃i,x=.int i/\Q (g i) H
section
variable{X:Cx}{a b c:Expr}{ta tb tc:TE}{pos:Pos}
theorem cI(ha:PE X a ta)(hb:PE X b tb){pins:List (Addr×Obj)}{s:Shared}{σ:St}{H:Hp}{R:V->V->Hp->Prop}(I:Inv X pins σ H s)
  (h:ta σ H fun x H1=>tb σ H1 fun y H2=>R x y H2) {Q:Value->Shared->Prop} {f:Value->Value->Sem Value}
  (hf:∀v u s2 x y H2,Inv X pins σ H2 s2->RelV x v->RelV y u->R x y H2->wpAny (model X.prog X.w) X.A (f v u) Q X.xe s2) :
  wpAny (model X.prog X.w) X.A (eval a X.env) (fun v s₁=>wpAny (model X.prog X.w) X.A (eval b X.env) (fun u s₂=>wpAny (model X.prog X.w) X.A (f v u) Q X.xe s₂) X.xe s₁) X.xe s:=by
 refine thn (ha pins s σ H _ I h) fun v s1 ⟨x,H1,I1,r1,q1⟩=>?_
 refine thn (hb pins s1 σ H1 _ I1 q1) fun u s2 ⟨y,H2,I2,r2,q2⟩=>?_
 exact hf v u s2 x y H2 I2 r1 r2 q2
theorem qW{op:Operator}{r:R2}(ho:OpR X (binaryOp op) r)(ha:PE X a ta)(hb:PE X b tb):PE X (.BinOp a op b pos) (tOp r ta tb):=by
 intro pins s σ H Q I h
 exact wpAny_BinOp (cI ha hb I h fun v u s2 x y H2 I2 rx ry q=>ho pins s2 σ H2 x y v u Q I2 rx ry q)
theorem qU{op:UnaryOp}{r:V->Hp->VK->Prop}(ho:UnR X (unaryOp op) r)(ha:PE X a ta):PE X (.UnaryOp op a pos) (tUn r ta):=by
 intro pins s σ H Q I h
 exact UnaryOp_ (thn (ha pins s σ H _ I h) fun v s1 ⟨x,H1,I1,r1,q1⟩=>ho pins s1 σ H1 x v Q I1 r1 q1)
theorem opI{f:Value->Value->Sem Value}{C:Int->Int->Prop}{g:Int->Int->Int}
  (rule:∀(i j:Int)(t u:Tok)(s:Shared)(Q:Value->Shared->Prop)(E:Value->Shared->Prop),C i j->Q (.int (g i j) s.toks) { s with toks:=s.toks+1 }->wpAny (model X.prog X.w) X.A (f (.int i t) (.int j u)) Q E s) :
  OpR X f (rI C fun i j=>.int (g i j)):=by
 intro pins s σ H x y v u Q I rx ry h
 obtain⟨i,j,rfl,rfl,hc,q⟩:=h
 obtain⟨t,rfl⟩:=rx
 obtain⟨t',rfl⟩:=ry
 exact rule i j t t' s _ _ hc ⟨.int (g i j),H,I.tok _,⟨_,rfl⟩,q⟩
theorem lX{f:Value->Value->Sem Value}{g:Int->Int->Int}
  (rule:∀(i j:Int)(t u:Tok)(s:Shared)(Q:Value->Shared->Prop)(E:Value->Shared->Prop),Q (.int (g i j) s.toks) { s with toks:=s.toks+1 }->wpAny (model X.prog X.w) X.A (f (.int i t) (.int j u)) Q E s) :
  OpR X f (rI0 fun i j=>.int (g i j)):=by
 intro pins s σ H x y v u Q I rx ry h
 obtain⟨i,j,rfl,rfl,q⟩:=h
 obtain⟨t,rfl⟩:=rx
 obtain⟨t',rfl⟩:=ry
 exact rule i j t t' s _ _ ⟨.int (g i j),H,I.tok _,⟨_,rfl⟩,q⟩
theorem Yo{f:Value->Value->Sem Value}{g:Int->Int->Bool}
  (rule:∀(i j:Int)(t u:Tok)(s:Shared)(Q:Value->Shared->Prop)(E:Value->Shared->Prop),Q (.bool (g i j)) s->wpAny (model X.prog X.w) X.A (f (.int i t) (.int j u)) Q E s) :
  OpR X f (rI0 fun i j=>.bl (g i j)):=by
 intro pins s σ H x y v u Q I rx ry h
 obtain⟨i,j,rfl,rfl,q⟩:=h
 obtain⟨t,rfl⟩:=rx
 obtain⟨t',rfl⟩:=ry
 exact rule i j t t' s _ _ ⟨.bl (g i j),H,I,rfl,q⟩
def cR(i j:Int):Prop:=0<=j/\j<=1000000/\i.natAbs<2^64
def Vp(i j:Int):Prop:=(-(2^64)<i/\i<2^64)∨(-(2^64)<j/\j<2^64)
theorem Vp.ok{i j:Int}(h:Vp i j):IntMulOk i j:=by
 rcases h with ⟨h1,h2⟩|⟨h1,h2⟩
 .exact .of_left (intBits_le_64 h1 h2)
 .exact .of_right (intBits_le_64 h1 h2)
theorem nT:OpR X (binaryOp .Add) (rI0 fun i j=>.int (i+j)):=lX fun _ _ _ _ _ _ _ q=>add_int q
theorem Pj:OpR X (binaryOp .Sub) (rI0 fun i j=>.int (i-j)):=lX fun _ _ _ _ _ _ _ q=>sub_int q
theorem nP:OpR X (binaryOp .Mult) (rI Vp fun i j=>.int (i*j)):=opI fun _ _ _ _ _ _ _ hc q=>mul_int q hc.ok
theorem Nq:OpR X (binaryOp .Mod) (rI (fun _ j=>0<j) fun i j=>.int (i%j)):=opI fun i j _ _ _ _ _ hc q=>by
 have h1:(0:Int)<j:=hc
 exact mod_int' (by omega) (by rw[Int.fmod_eq_emod_of_nonneg i (by omega)];exact q)
theorem MN:OpR X (binaryOp .Pow) (rI cR fun i j=>.int (i^j.toNat)):=opI fun _ _ _ _ _ _ _ hc q=>pow_int_small hc.1 hc.2.1 hc.2.2 q
theorem unI{f:Value->Sem Value}{g:Int->Int}
  (rule:∀(i:Int)(t:Tok)(s:Shared)(Q:Value->Shared->Prop)(E:Value->Shared->Prop),Q (.int (g i) s.toks) { s with toks:=s.toks+1 }->wpAny (model X.prog X.w) X.A (f (.int i t)) Q E s) :
  UnR X f (rU fun i=>.int (g i)):=by
 intro pins s σ H x v Q I rx h
 obtain⟨i,rfl,q⟩:=h
 obtain⟨t,rfl⟩:=rx
 exact rule i t s _ _ ⟨.int (g i),H,I.tok _,⟨_,rfl⟩,q⟩
theorem Pa:UnR X (unaryOp .USub) (rU fun i=>.int (-i)):=unI fun _ _ _ _ _ q=>neg_int q
end
def lF:V->V->Bool
 |.non,.non=>true|.non,.int _=>true|.int _,.non=>true|.non,.bl _=>true|.bl _,.non=>true|.non,.str _=>true|.str _,.non=>true
 |.int _,.int _=>true|.bl _,.bl _=>true|.str _,.str _=>true|.byt _,.byt _=>true
 |.int _,.str _=>true|.str _,.int _=>true|.bl _,.str _=>true|.str _,.bl _=>true
 |_,_=>false
def rEq:R2:=fun x y H Q=>lF x y=true/\Q (.bl (decide (x=y))) H
def rNe:R2:=fun x y H Q=>lF x y=true/\Q (.bl (!decide (x=y))) H
theorem Yi{i j:Int}:decide (V.int i=V.int j)=(i==j):=by
 rw[U4s]
 simp
theorem aB{i j:Bool}:decide (V.bl i=V.bl j)=(i==j):=by
 rw[U4s]
 simp
theorem Yh{i j:Str}:decide (V.str i=V.str j)=(i==j):=by
 rw[U4s]
 simp
theorem Yj{i j:Array UInt8}:decide (V.byt i=V.byt j)=(i.toList==j.toList):=by
 rw[U4s]
 cases i
 cases j
 simp
section
variable{X:Cx}{a b c:Expr}{ta tb tc:TE}{pos:Pos}
theorem Cu{pins:List (Addr×Obj)}{σ:St}{H:Hp}{s:Shared}{Q:VK}{k k':Bool}(I:Inv X pins σ H s)(q:Q (.bl k) H)(e:k=k'):EP X pins σ Q (.bool k') s:=by
 subst e
 exact⟨.bl k,H,I,rfl,q⟩
theorem qg:OpR X (compareOp .Eq) rEq:=by
 intro pins s σ H x y v u Q I rx ry h
 obtain⟨hs,q⟩:=h
 cases x with
 |non =>
  cases rx
  cases y with
  |non=>cases ry;exact PySem.EqNone.eq_none_none (Cu I q (by simp))
  |bl j=>cases ry;exact PySem.EqNone.eq_none_bool (Cu I q (by simp))
  |int j=>obtain⟨t',rfl⟩:=ry;exact PySem.EqNone.eq_none_int (Cu I q (by simp))
  |str j=>obtain⟨t',rfl⟩:=ry;exact PySem.EqNone.eq_none_str (Cu I q (by simp))
  |_=>exact absurd (show false=true from hs) U1b
 |bl i =>
  cases rx
  cases y with
  |non=>cases ry;exact PySem.EqNone.eq_bool_none (Cu I q (by simp))
  |bl j=>cases ry;exact eq_bool (Cu I q aB)
  |str j=>obtain⟨t',rfl⟩:=ry;exact PySem.EqMixed.eq_bool_str (Cu I q (by simp))
  |_=>exact absurd (show false=true from hs) U1b
 |int i =>
  obtain⟨t,rfl⟩:=rx
  cases y with
  |non=>cases ry;exact PySem.EqNone.eq_int_none (Cu I q (by simp))
  |int j=>obtain⟨t',rfl⟩:=ry;exact eq_int (Cu I q Yi)
  |str j=>obtain⟨t',rfl⟩:=ry;exact PySem.EqMixed.eq_int_str (Cu I q (by simp))
  |_=>exact absurd (show false=true from hs) U1b
 |str i =>
  obtain⟨t,rfl⟩:=rx
  cases y with
  |non=>cases ry;exact PySem.EqNone.eq_str_none (Cu I q (by simp))
  |bl j=>cases ry;exact PySem.EqMixed.eq_str_bool (Cu I q (by simp))
  |int j=>obtain⟨t',rfl⟩:=ry;exact PySem.EqMixed.eq_str_int (Cu I q (by simp))
  |str j=>obtain⟨t',rfl⟩:=ry;exact eq_str (Cu I q Yh)
  |_=>exact absurd (show false=true from hs) U1b
 |byt i =>
  obtain⟨t,rfl⟩:=rx
  cases y with
  |byt j=>obtain⟨t',rfl⟩:=ry;exact PySem.W.eq_bytes (Cu I q Yj)
  |_=>exact absurd (show false=true from hs) U1b
 |_=>cases y<;>exact absurd (show false=true from hs) U1b
theorem qe:OpR X (compareOp .NotEq) rNe:=by
 intro pins s σ H x y v u Q I rx ry h
 obtain⟨hs,q⟩:=h
 cases x with
 |non =>
  cases rx
  cases y with
  |non=>cases ry;exact PySem.EqNone.ne_none_none (Cu I q (by simp))
  |bl j=>cases ry;exact PySem.EqNone.ne_none_bool (Cu I q (by simp))
  |int j=>obtain⟨t',rfl⟩:=ry;exact PySem.EqNone.ne_none_int (Cu I q (by simp))
  |str j=>obtain⟨t',rfl⟩:=ry;exact PySem.EqNone.ne_none_str (Cu I q (by simp))
  |_=>exact absurd (show false=true from hs) U1b
 |bl i =>
  cases rx
  cases y with
  |non=>cases ry;exact PySem.EqNone.ne_bool_none (Cu I q (by simp))
  |bl j=>cases ry;exact ne_bool (Cu I q (congrArg not aB))
  |str j=>obtain⟨t',rfl⟩:=ry;exact PySem.EqMixed.ne_bool_str (Cu I q (by simp))
  |_=>exact absurd (show false=true from hs) U1b
 |int i =>
  obtain⟨t,rfl⟩:=rx
  cases y with
  |non=>cases ry;exact PySem.EqNone.ne_int_none (Cu I q (by simp))
  |int j=>obtain⟨t',rfl⟩:=ry;exact ne_int (Cu I q (congrArg not Yi))
  |str j=>obtain⟨t',rfl⟩:=ry;exact PySem.EqMixed.ne_int_str (Cu I q (by simp))
  |_=>exact absurd (show false=true from hs) U1b
 |str i =>
  obtain⟨t,rfl⟩:=rx
  cases y with
  |non=>cases ry;exact PySem.EqNone.ne_str_none (Cu I q (by simp))
  |bl j=>cases ry;exact PySem.EqMixed.ne_str_bool (Cu I q (by simp))
  |int j=>obtain⟨t',rfl⟩:=ry;exact PySem.EqMixed.ne_str_int (Cu I q (by simp))
  |str j=>obtain⟨t',rfl⟩:=ry;exact ne_str (Cu I q (congrArg not Yh))
  |_=>exact absurd (show false=true from hs) U1b
 |byt i =>
  obtain⟨t,rfl⟩:=rx
  cases y with
  |byt j=>obtain⟨t',rfl⟩:=ry;exact PySem.W.ne_bytes (Cu I q (congrArg not Yj))
  |_=>exact absurd (show false=true from hs) U1b
 |_=>cases y<;>exact absurd (show false=true from hs) U1b
theorem Vd:OpR X (compareOp .Lt) (rI0 fun i j=>.bl (decide (i<j))):=Yo fun _ _ _ _ _ _ _ q=>lt_int q
theorem fY:OpR X (compareOp .LtE) (rI0 fun i j=>.bl (decide (i<=j))):=Yo fun _ _ _ _ _ _ _ q=>le_int q
theorem QW:OpR X (compareOp .Gt) (rI0 fun i j=>.bl (decide (j<i))):=Yo fun _ _ _ _ _ _ _ q=>gt_int q
theorem Yy:OpR X (compareOp .GtE) (rI0 fun i j=>.bl (decide (j<=i))):=Yo fun _ _ _ _ _ _ _ q=>ge_int q
theorem OpR.or{f:Value->Value->Sem Value}{r r':R2}(h:OpR X f r)(h':OpR X f r'):OpR X f (fun x y H Q=>r x y H Q∨r' x y H Q):=by
 intro pins s σ H x y v u Q I rx ry q
 rcases q with q|q
 .exact h pins s σ H x y v u Q I rx ry q
 .exact h' pins s σ H x y v u Q I rx ry q
theorem DG(b:Expr){op:CmpOp}(h:op≠.In:=by decide)(h2:op≠.NotIn:=by decide):behindInMarks op b=false:=by
 have e1:(op==CmpOp.In)=false:=by cases op<;>first|rfl|exact absurd rfl h
 have e2:(op==CmpOp.NotIn)=false:=by cases op<;>first|rfl|exact absurd rfl h2
 cases b<;>simp[behindInMarks,e1,e2]
theorem j5{op:CmpOp}{r:R2}(ho:OpR X (compareOp op) r)(ha:PE X a ta)(hb:PE X b tb)(hm:behindInMarks op b=false):PE X (.Compare a [op] [b] pos) (tOp r ta tb):=by
 intro pins s σ H Q I h
 exact wpAny_Compare1 (cI ha hb I h fun v u s2 x y H2 I2 rx ry q=>ho pins s2 σ H2 x y v u Q I2 rx ry q) hm
def Yu(t:TE):TT:=fun σ H Q=>t σ H fun x H'=>∃k,x=.bl k/\Q k H'
theorem iU{op:CmpOp}{r:R2}(ho:OpR X (compareOp op) r)(ha:PE X a ta)(hb:PE X b tb)(hm:behindInMarks op b=false):PT X (.Compare a [op] [b] pos) (Yu (tOp r ta tb)):=by
 intro pins s σ H Q I h
 refine wpAny_isTrue_Compare1 (thn (ha pins s σ H _ I h) fun v s1 ⟨x,H1,I1,r1,q1⟩=>thn (hb pins s1 σ H1 _ I1 q1) fun u s2 ⟨y,H2,I2,r2,q2⟩ =>
  thn (ho pins s2 σ H2 x y v u _ I2 r1 r2 q2) fun c s3 ⟨z,H3,I3,r3,k,e,q3⟩=>?_) hm
 subst e
 cases r3
 exact U29 ⟨H3,I3,q3⟩
def Zi(r r':R2)(ta tb tc:TE):TE:=fun σ H Q=>ta σ H fun x H1=>tb σ H1 fun y H2=>r x y H2 fun z H3=>∃k,z=.bl k /\
 (if k=true then tc σ H3 fun w' H4=>r' y w' H4 Q else Q (.bl false) H3)
theorem dI{op op':CmpOp}{r r':R2}(ho:OpR X (compareOp op) r)(ho':OpR X (compareOp op') r')(ha:PE X a ta)(hb:PE X b tb)(hc:PE X c tc)
  (hm:lastMarks [op,op'] [b,c]=false:=by with_unfolding_all rfl):PT X (.Compare a [op,op'] [b,c] pos) (Yu (Zi r r' ta tb tc)):=by
 intro pins s σ H Q I h
 refine isTrue_chain (thn (ha pins s σ H _ I h) fun v s1 ⟨x,H1,I1,r1,q1⟩=>test_link (thn (hb pins s1 σ H1 _ I1 q1) fun u s2 ⟨y,H2,I2,r2,q2⟩ =>
  thn (ho pins s2 σ H2 x y v u _ I2 r1 r2 q2) fun d s3 ⟨z,H3,I3,r3,k,e,q3⟩=>?_)) hm
 subst e
 cases r3
 refine U29 ?_
 cases k with
 |false =>
  obtain⟨k',e',q'⟩:=q3
  cases e'
  exact ite_ff ⟨H3,I3,q'⟩
 |true =>
  refine ite_tt (test_last (thn (hc pins s3 σ H3 _ I3 q3) fun w' s4 ⟨z',H4,I4,r4,q4⟩=>thn (ho' pins s4 σ H4 y z' u w' _ I4 r2 r4 q4) fun d' s5 ⟨z2,H5,I5,r5,k2,e2,q5⟩=>?_))
  subst e2
  cases r5
  exact U29 ⟨H5,I5,q5⟩
theorem Pk:(sizeLine:Nat)<2^63:=by rw[sizeLine_eq];decide
theorem ZK:OpR X (binaryOp .Add) (fun x y H Q=>∃i j,x=.str i/\y=.str j/\i.length+j.length<=sizeLine/\Q (.str (i++j)) H):=by
 intro pins s σ H x y v u Q I rx ry h
 obtain⟨i,j,rfl,rfl,hz,q⟩:=h
 obtain⟨t,rfl⟩:=rx
 obtain⟨t',rfl⟩:=ry
 exact add_str (fun t' tk=>⟨.str (i++j),H,I.tok _,⟨_,rfl⟩,q⟩) hz
theorem vals1{x:V}{us:List Value}(r:Vals [x] us):∃u,us=[u]/\RelV x u:=by
 cases r with
 |cons r1 r2=>cases r2;exact⟨_,rfl,r1⟩
theorem vals2{x y:V}{us:List Value}(r:Vals [x,y] us):∃u w',us=[u,w']/\RelV x u/\RelV y w':=by
 cases r with
 |cons r1 r2 =>
  cases r2 with
  |cons r3 r4=>cases r4;exact⟨_,_,rfl,r1,r3⟩
theorem N7(hc:X.calm=true):Dv X (.builtin "max") (fun xs H Q=>∃i j,xs=[.int i,.int j]/\Q (.int (if j>i then j else i)) H):=by
 intro pins s σ H xs us Q I r h
 obtain⟨i,j,rfl,q⟩:=h
 obtain⟨u,w',rfl,⟨t,rfl⟩,⟨t',rfl⟩⟩:=vals2 r
 refine max_two_ints (I.ok.hd hc) fun h' tk k=>⟨_,H,I.kept k,?_,q⟩
 by_cases hj:j>i
 .rw[if_pos hj,if_pos hj];exact⟨_,rfl⟩
 .rw[if_neg hj,if_neg hj];exact⟨_,rfl⟩
theorem Io(hc:X.calm=true):Dv X (.builtin "min") (fun xs H Q=>∃i j,xs=[.int i,.int j]/\Q (.int (if j<i then j else i)) H):=by
 intro pins s σ H xs us Q I r h
 obtain⟨i,j,rfl,q⟩:=h
 obtain⟨u,w',rfl,⟨t,rfl⟩,⟨t',rfl⟩⟩:=vals2 r
 refine min_two_ints (I.ok.hd hc) fun h' tk k=>⟨_,H,I.kept k,?_,q⟩
 by_cases hj:j<i
 .rw[if_pos hj,if_pos hj];exact⟨_,rfl⟩
 .rw[if_neg hj,if_neg hj];exact⟨_,rfl⟩
theorem V2:Dv X (.type "int") (fun xs H Q=>(∃i,xs=[.int i]/\Q (.int i) H)∨∃k,xs=[.bl k]/\Q (.int (if k then 1 else 0)) H):=by
 intro pins s σ H xs us Q I r h
 rcases h with ⟨i,rfl,q⟩|⟨k,rfl,q⟩
 .obtain⟨u,rfl,t,rfl⟩:=vals1 r
  exact call_int_int ⟨.int i,H,I,⟨_,rfl⟩,q⟩
 .obtain⟨u,rfl,r1⟩:=vals1 r
  cases r1
  exact call_int_bool ⟨.int (if k then 1 else 0),H,I.tok _,⟨_,rfl⟩,q⟩
end
end L2
namespace L2
open PySem PySem.Spec PyProof.Rows
structure cQ(h:Heap)(x dx C:Addr)(mA:Str->Option Value):Prop where
 obj:h.get? x=some (U7 C dx)
 ns:h.Ns1 dx mA
 ne:dx≠x
theorem ao{h:Heap}{dx:Addr}{mA:Str->Option Value}(n:h.Ns1 dx mA):∃od,h.get? dx=some od/\∀name,U7f name od=some (mA name):=by
 obtain⟨o,es,ep,ho,hd,hk,_,hm⟩:=n
 refine⟨o,ho,fun name=>?_⟩
 have e:=hm name
 unfold nsFind findBy at e
 rw[←Array.find?_toList] at e
 unfold U7f
 rw[hd]
 dsimp only
 split
 .rename_i y q
  rw[q] at e
  exact congrArg some e
 .rename_i q
  rw[q] at e
  have a:es.toList.any (·.refKey)=false:=by
   rw[List.any_eq_false]
   intro y hy
   obtain⟨z,t,hkey⟩:=hk y (Array.mem_toList_iff.mp hy)
   simp[DictEntry.refKey,hkey]
  have a':¬es.toList.any (·.refKey)=true:=by rw[a];exact U1b
  rw[if_neg a']
  exact congrArg some e
theorem cQ.look{h:Heap}{x dx C:Addr}{mA:Str->Option Value}(I:cQ h x dx C mA):∃od,PySem.W.InstAt h x (U7 C dx) C (some od)/\∀name,U7f name od=some (mA name) :=
 let ⟨od,ho,hl⟩:=ao I.ns
 ⟨od,⟨I.obj,rfl,rfl,ho⟩,hl⟩
section
variable{prog:Program}{w:World}{A:Around}{E:Value->Shared->Prop}{s:Shared}{K:U0b}{x dx C f:Addr}{mA:Str->Option Value}{name:Str}{v:Value}
end
section
variable{P:Program}{w:World}{H H':Hp}{h h':Heap}{a C dx:Addr}{fs fs':List (Str×V)}
theorem jX(hok:HOk P w H h)(e:H a=some (.ins C dx fs)):∃mA,cQ h a dx C mA/\(∀f,cP (fs.lookup f) (mA f))/\PySem.Within mA (fs.map (·.1))/\fs.length<=1000/\H dx=some (.own a):=by
 obtain⟨d,z,ne,ob,mA,n,r,q⟩:=(show EY P w H h a (.ins C dx fs) from hok a _ e)
 exact⟨mA,⟨ob,n,ne⟩,r,q,z,d⟩
end
structure Cls(K:U0b)(C:Addr):Prop where
 pg:PySem.W.plainGet K C Str.empty=true
 hd:PySem.W.hasDictIn K C=true
 po:PySem.W.plainOver K C=true
 sa:U5u K (.ref C) "__setattr__"=some (some (.builtin "object.__setattr__"))
theorem Cls.get{K:U0b}{C:Addr}(c:Cls K C)(f:Str):PySem.W.plainGet K C f=true:=c.pg
structure Con(K:U0b)(C:Addr)(f:Str)(v:V)(u:Value):Prop where
 at_:U5u K (.ref C) f=some (some u)
 rel:RelV v u
 get:PySem.W.specialIn K u "__get__"=some none
 cp:PySem.W.copiedNames.contains f=false
structure Meth(K:U0b)(C:Addr)(m:Str)(f:Addr):Prop where
 at_:U5u K (.ref C) m=some (some (.ref f))
 fn:PySem.W.isFn K (.ref f)=true
 kp:U01 K (.ref f)=true
section
variable{X:Cx}{pins:List (Addr×Obj)}{σ:St}{H:Hp}{s:Shared}{a C dx:Addr}{fs:List (Str×V)}{f:Str}{v:V}{A:Around}{E:Value->Shared->Prop}
end
section
variable{X:Cx}{o e value:Expr}{f:Str}{pos pos' tpos:Pos}{ta tv:TE}
end
section
variable{X:Cx}{pins:List (Addr×Obj)}{σ:St}{H:Hp}{s:Shared}{A:Around}{E:Value->Shared->Prop}{Q:Value->Shared->Prop}{c:Value}{b:Bool}
inductive JZ (K:U0b) (H:Hp):V->Value->Prop where
 |non:JZ K H .non (.type "NoneType")
 |bl (x:Bool):JZ K H (.bl x) (.type "bool")
 |int (i:Int):JZ K H (.int i) (.type "int")
 |str (x:Str):JZ K H (.str x) (.type "str")
 |flt (x:UInt64):JZ K H (.flt x) (.type "float")
 |lst {a:Addr} {xs:List V} (e:H a=some (.lst xs)):JZ K H (.ref a) (.type "list")
 |frz {a:Addr} {o:Obj} {xs:List V} (e:H a=some (.frz o (.lst xs))):JZ K H (.ref a) (.type "list")
 |tup {a:Addr} {xs:List V} (e:H a=some (.tup xs)):JZ K H (.ref a) (.type "tuple")
 |dK {a:Addr} {kvs:List (Key×V)} (e:H a=some (.dK kvs)):JZ K H (.ref a) (.type "dict")
 |dT {a:Addr} {kvs:List (List Key×V)} (e:H a=some (.dT kvs)):JZ K H (.ref a) (.type "dict")
 |ins {a C dx:Addr} {fs:List (Str×V)} (e:H a=some (.ins C dx fs)) (cl:Cls K C) (ha:U5u K (.ref C) "__class__"=some (some (.builtin "object.__class__")))
   (hn:PySem.W.specialIn K (.builtin "object.__class__") "__get__"=some (some (.builtin "getset_descriptor.__get__"))) (htk:PySem.W.takesIn K (.builtin "object.__class__")=some true)
   (hm:PySem.W.mroIn K C (.type "object")=some true):JZ K H (.ref a) (.ref C)
theorem bC{x:V}{u t:Value}(I:Inv X pins σ H s)(rx:RelV x u)(ty:JZ X.K H x t)(e:U3h X.K t c=some b)(h:∀tk,Q (.bool b) { s with toks:=tk }) :
  wpAny (model X.prog X.w) A (call (.builtin "isinstance") [u,c]) Q E s:=by
 cases ty with
 |non=>cases (show u=U2q from rx);exact U20 PySem.W.kitx_none I.kIn U64 e (fun z=>nomatch z) h
 |bl y=>cases (show u=U4r y from rx);exact U20 PySem.W.kitx_bool I.kIn U64 e (fun z=>nomatch z) h
 |int i=>obtain⟨t,q⟩:=(show ∃t,u=U5m i t from rx);cases q;exact U20 PySem.W.kitx_int I.kIn U64 e (fun z=>nomatch z) h
 |str y=>obtain⟨t,q⟩:=(show ∃t,u=Value.str y t from rx);cases q;exact U20 PySem.W.kitx_str I.kIn U64 e (fun z=>nomatch z) h
 |flt y=>obtain⟨t,q⟩:=(show ∃t,u=Value.float y t from rx);cases q;exact U20 PySem.W.kitx_float I.kIn U64 e (fun z=>nomatch z) h
 |@lst a xs ea =>
  cases (show u=U3c a from rx)
  obtain⟨_,_,n,_,h1⟩:=(show EY X.prog X.w H s.heap a (.lst xs) from I.hok a _ ea)
  exact U20 PySem.W.kitx_list I.kIn ⟨_,h1,rfl⟩ e (fun z=>nomatch z) h
 |@frz a ob xs ea =>
  cases (show u=U3c a from rx)
  obtain⟨_,_,_,n,_,h1⟩:=(show EY X.prog X.w H s.heap a (.frz ob (.lst xs)) from I.hok a _ ea)
  exact U20 PySem.W.kitx_list I.kIn ⟨_,h1,rfl⟩ e (fun z=>nomatch z) h
 |@tup a xs ea =>
  cases (show u=U3c a from rx)
  obtain⟨_,_,_,p⟩:=(show EY X.prog X.w H s.heap a (.tup xs) from I.hok a _ ea)
  obtain⟨o,h1,h2,_⟩:=p
  exact U20 PySem.W.kitx_tuple I.kIn ⟨o,h1,h2⟩ e (fun z=>nomatch z) h
 |@dK a kvs ea =>
  cases (show u=U3c a from rx)
  obtain⟨_,_,vs,_,p⟩:=(show EY X.prog X.w H s.heap a (.dK kvs) from I.hok a _ ea)
  obtain⟨o,es,ep,h1,h2,_⟩:=p
  exact U20 PySem.W.kitx_dict I.kIn ⟨o,h1,h2.1⟩ e (fun z=>nomatch z) h
 |@dT a kvs ea =>
  cases (show u=U3c a from rx)
  obtain⟨_,_,xs,_,o,es,ep,h1,h2,_⟩:=(show EY X.prog X.w H s.heap a (.dT kvs) from I.hok a _ ea)
  exact U20 PySem.W.kitx_dict I.kIn ⟨o,h1,h2.1⟩ e (fun z=>nomatch z) h
 |@ins a C dx fs ea cl ha hn htk hm =>
  cases (show u=U3c a from rx)
  obtain⟨mA,O,_⟩:=jX I.hok ea
  obtain⟨od,J,_⟩:=O.look
  exact U20 (PySem.W.kitx_own (cl.get _) cl.hd ha hn htk hm) I.kIn J e (fun z=>nomatch z) h
end
end L2
namespace L2
open PySem PySem.Spec PyProof.Rows
structure Em(k:Nat)(A:Around):Prop where
 hd:A.handled=none
 dp:A.depth+3*k+5<recursionLimit
 un:A.units+16*k+200<cLine
 gd:A.guards=some []
theorem Em.mono{j k:Nat}{A:Around}(r:Em k A)(h:j<=k):Em j A:=⟨r.hd,by have:=r.dp;omega,by have:=r.un;omega,r.gd⟩
theorem Em.deeper{k:Nat}{A:Around}(r:Em (k+1) A)(env:Env):Em k (A.deeper env) :=
 ⟨r.hd,by have:=r.dp;show A.depth+1+3*k+5<_;omega,by have:=r.un;show A.units+3+16*k+200<_;omega,r.gd⟩
theorem Em.depth{k:Nat}{A:Around}(r:Em k A):A.depth<recursionLimit:=by have:=r.dp;omega
theorem Em.units{k:Nat}{A:Around}(r:Em k A):A.units+64<cLine:=by have:=r.un;omega
def rm:TA:=fun _ H Q=>Q [] H
def qK(ta:TE)(tr:TA):TA:=fun σ H Q=>ta σ H fun x H1=>tr σ H1 fun xs H2=>Q (x::xs) H2
section
variable{X:Cx}{e:Expr}{es:List Expr}{te:TE}{t:TA}{pos:Pos}
theorem SX:PA X [] rm:=fun _ _ _ _ H Q I h=>Calls.spliced_nil ⟨[],H,I,.nil,h⟩
theorem Qk(ha:PE X e te)(hr:PA X es t)(hs:starEach (e::es) X.env=(false,eval e X.env)::starEach es X.env:=by rfl):PA X (e::es) (qK te t):=by
 intro pos pins s σ H Q I h
 rw[hs]
 show wpAny _ _ (spliced ((false,eval e X.env)::backTo pos (starEach es X.env))) _ _ s
 refine Calls.spliced_cons (thn (ha pins s σ H _ I h) fun u s1 ⟨x,H1,I1,r1,q1⟩=>?_)
 exact thn (hr pos pins s1 σ H1 _ I1 q1) fun us s2 ⟨xs,H2,I2,r2,q2⟩=>⟨x::xs,H2,I2,.cons r1 r2,q2⟩
def lD(t:TA):TE:=fun σ H Q=>t σ H fun xs H1=>xs.length<=sizeLine/\∀p,H1 p=none->Q (.ref p) (upd H1 p (.tup xs))
def sE(t:TA):TE:=fun σ H Q=>t σ H fun xs H1=>xs.length<=sizeLine/\∀p,H1 p=none->Q (.ref p) (upd H1 p (.lst xs))
theorem nA{x1}(h:PA X es t):PE X (.Tuple es x1 pos) (lD t):=by
 intro pins s σ H Q I hq
 refine wpAny_Tuple_spliced (thn (h pos pins s σ H _ I hq) fun us s1 ⟨xs,H1,I1,r,z,q⟩=>⟨by rw[←r.length];exact z,?_⟩)
 have hf:H1 s1.heap.objs.size=none:=I1.hok.fresh (U0o _)
 refine⟨.ref s1.heap.objs.size,upd H1 s1.heap.objs.size (.tup xs),I1.laid (t':=s1.toks) (fun b u e=>U0c _ e) (U0o _) ?_,rfl,q _ hf⟩
 exact⟨z,us,r,⟨_,U0u _ rfl,rfl,_,rfl⟩⟩
theorem Zq(h:PA X es t):PE X (.List es pos) (sE t):=by
 intro pins s σ H Q I hq
 refine wpAny_List_spliced (thn (h pos pins s σ H _ I hq) fun us s1 ⟨xs,H1,I1,r,z,q⟩=>⟨by rw[←r.length];exact z,?_⟩)
 have hf:H1 s1.heap.objs.size=none:=I1.hok.fresh (U0o _)
 refine⟨.ref s1.heap.objs.size,upd H1 s1.heap.objs.size (.lst xs),I1.laid (t':=s1.toks) (fun b u e=>U0c _ e) (U0o _) ?_,rfl,q _ hf⟩
 exact⟨z,us,0,r,U0u _ rfl⟩
end
abbrev Sp:=List V->Hp->VK->XK->Prop
abbrev CXT:=List Env->Hp->Shared->XK->Value->Shared->Prop
structure Yt(P:Program)(w:World)(K:U0b)(mg:Str->Option Value)(base:Heap)(A:Around)(outer:List Env)(s:Shared)(H:Hp):Prop where
 frames:A.frames=some outer
 mod:Mod K mg base
 bs:∀b o,base.get? b=some o->s.heap.get? b=some o/\H b=none
 bsz:base.objs.size<=s.heap.objs.size
 M6:s.heap.FunFrames base outer
 frf:∀b∈frs outer,H b=none
 hok:HOk P w H s.heap
 bare:AllBare s.gens
 sy:H sysModules=none
def CE(outer:List Env)(P:Program)(w:World)(H:Hp)(s:Shared)(Q:VK)(u:Value)(s':Shared):Prop :=
 ∃v H',s'.os=s.os/\AllBare s'.gens/\Un (frs outer) [] H H' s.heap s'.heap/\HOk P w H' s'.heap/\RelV v u/\Q v H'
def CR(CX:CXT)(outer:List Env)(P:Program)(w:World)(H:Hp)(s:Shared)(Q:VK)(E:XK)(r:Result)(s':Shared):Prop :=
 match r with
 |.ok (.ret u)=>CE outer P w H s Q u s'
 |.ok _=>False
 |.error e=>CX outer H s E e s'
structure Cy(P:Program)(w:World)(K:U0b)(mg:Str->Option Value)(base:Heap)(CX:CXT)(k:Nat)(f:Addr)(fd:FuncData)(ps:List Str)(sp:Sp):Prop where
 len:∀vs H Q E,sp vs H Q E->vs.length=ps.length
 run:∀(A:Around)(outer:List Env)(s:Shared)(H:Hp)(args:Args)(us:List Value)(vs:List V)(Q:VK)(E:XK),Em k A->Yt P w K mg base A outer s H->BindsTo s fd args (ps.zip us)->Vals vs us->sp vs H Q E ->
  codeAny (model P w) A (.call (.ref f) args) (CR CX outer P w H s Q E) s
theorem Cy.mono{P:Program}{w:World}{K:U0b}{mg:Str->Option Value}{base:Heap}{CX:CXT}{j k:Nat}{f:Addr}{fd:FuncData}{ps:List Str}{sp:Sp}(F:Cy P w K mg base CX j f fd ps sp)(h:j<=k) :
  Cy P w K mg base CX k f fd ps sp:=⟨F.len,fun A outer s H args us vs Q E hr=>F.run A outer s H args us vs Q E (hr.mono h)⟩
theorem Cy.imp{P:Program}{w:World}{K:U0b}{mg:Str->Option Value}{base:Heap}{CX:CXT}{k:Nat}{f:Addr}{fd:FuncData}{ps:List Str}{sp sp':Sp}(F:Cy P w K mg base CX k f fd ps sp)
  (h:∀vs H Q E,sp' vs H Q E->sp vs H Q E):Cy P w K mg base CX k f fd ps sp' :=
 ⟨fun vs H Q E q=>F.len vs H Q E (h _ _ _ _ q),fun A outer s H args us vs Q E hr he hb hv hs=>F.run A outer s H args us vs Q E hr he hb hv (h _ _ _ _ hs)⟩
section
variable{X:Cx}{pins:List (Addr×Obj)}{σ:St}{H:Hp}{s s':Shared}
theorem Inv.env0(I:Inv X pins σ H s):Yt X.prog X.w X.K X.mg X.base X.A X.stack s H :=
 ⟨I.ok.frames,I.ok.mod,I.bs,U1d I.ok.bsz I.sz,I.stack,I.YD,I.hok,I.bare,I.RQ⟩
theorem Inv.after{Q:VK}{u:Value}(I:Inv X pins σ H s)(h:CE X.stack X.prog X.w H s Q u s'):EP X pins σ Q u s':=by
 obtain⟨v,H',os,bare,un,hok,r,q⟩:=h
 obtain⟨hh,g,d,t,os'⟩:=s'
 obtain rfl:os'=s.os:=os
 exact⟨v,H',I.call (h':=hh) (g':=g) (d':=d) (t':=t) (ch:=[]) un hok bare (fun b z=>absurd z (by simp)),r,q⟩
end
def fQ(sp:Sp)(dvs:List V)(E:XK)(t:TA):TE:=fun σ H Q=>t σ H fun vs H1=>sp (vs++dvs) H1 Q E
def Binds(K:U0b)(fd:FuncData)(ps:List Str)(ds:List Value):Prop :=
 ∀(s:Shared)(us:List Value),K.In s.heap->(us++ds).length=ps.length->BindsTo s fd ⟨us,[]⟩ (ps.zip (us++ds))
theorem Binds.all{K:U0b}{fd:FuncData}{ps:List Str}(h:∀us:List Value,us.length=ps.length->bindArgs fd ⟨us,[]⟩=pure (ps.zip us)):Binds K fd ps []:=fun s us _ hl=>by
 rw[U1k] at hl ⊢
 exact .of_eq (h us hl)
def Passes(CX:CXT)(X:Cx)(E:XK):Prop:=∀(pins:List (Addr×Obj))(σ:St)(H:Hp)(s:Shared)(e:Value)(s':Shared),Inv X pins σ H s->CX X.stack H s E e s'->X.xe e s'
section
variable{X:Cx}{CX:CXT}{k:Nat}{f C:Addr}{fd:FuncData}{ps:List Str}{sp:Sp}{dvs:List V}{ds:List Value}{E:XK}{x m:Str}{p pos apos:Pos}{e o:Expr}{es:List Expr}{ta:TE}{t:TA}
theorem mR{pins:List (Addr×Obj)}{σ:St}{H:Hp}{s:Shared}{Q:VK}{us:List Value}{vs:List V}(F:Cy X.prog X.w X.K X.mg X.base CX k f fd ps sp)(hr:Em k X.A)(hb:Binds X.K fd ps ds)(hd:Vals dvs ds)(hx:Passes CX X E)
  (I:Inv X pins σ H s) (r:Vals vs us) (h:sp (vs++dvs) H Q E):wpAny (model X.prog X.w) X.A (call (.ref f) us) (EP X pins σ Q) X.xe s:=by
 have r2:Vals (vs++dvs) (us++ds):=r.append hd
 have hl:(us++ds).length=ps.length:=by rw[←r2.length];exact F.len _ _ _ _ h
 refine wpAny_call (codeAny_mono (F.run X.A X.stack s H ⟨us,[]⟩ (us++ds) (vs++dvs) Q E hr I.env0 (hb s us I.kIn hl) r2 h) fun r s' hq=>?_)
 cases r with
 |error e=>exact hx pins σ H s e s' I hq
 |ok fl =>
  cases fl with
  |ret u=>exact I.after hq
  |next=>exact U4c hq
  |brk=>exact U4c hq
  |cont=>exact U4c hq
theorem j6(F:Cy X.prog X.w X.K X.mg X.base CX k f fd ps sp)(hr:Em k X.A)(hg:Gl X x)(hm:X.mg x=some (.ref f))(hk:U01 X.K (.ref f)=true)(hb:Binds X.K fd ps ds)(hd:Vals dvs ds)(hx:Passes CX X E)
  (ha:PA X (e::es) t) (hdb:(x==("__debug__":Str))=false:=by decide) (he:starEach (e::es) X.env=(false,eval e X.env)::starEach es X.env:=by rfl) (hpl:(backTo pos (starEach es X.env)).any (·.1)=false:=by rfl) :
  PE X (.Call (.Name x p) (e::es) [] pos) (fQ sp dvs E t):=by
 intro pins s σ H Q I h
 refine U5o (jN I hg hm ?_ hdb)
 refine PySem.W.callWith_K (h₀:=X.base) I.ok.mod.kin hk (thn (ha pos pins s σ H _ I h) fun us s1 ⟨vs,H1,I1,r,q⟩=>⟨I1.kIn,?_⟩) he hpl
 exact mR F hr hb hd hx I1 r q
structure Mk(K:U0b)(C f:Addr):Prop where
 makes:PySem.W.makesIn K C=true
 init:U5u K (.ref C) "__init__"=some (some (.ref f))
 fn:PySem.W.isFn K (.ref f)=true
 kp:U01 K (.ref C)=true
end
section
variable{X:Cx}{CX:CXT}{k:Nat}{f C:Addr}{fd:FuncData}{ps ks:List Str}{sp:Sp}{E:XK}{x m:Str}{p pos apos kpos:Pos}{e o:Expr}{es:List Expr}{kws:List Keyword}{te ta:TE}{t tk:TA}{nm:Option Str}
structure uK(K:U0b)(fd:FuncData)(ps ks:List Str)(g:List Value->List Value->List Value)(gV:List V->List V->List V):Prop where
 to:∀(s:Shared)(us ws:List Value),K.In s.heap->(g us ws).length=ps.length->BindsTo s fd ⟨us,ks.zip ws⟩ (ps.zip (g us ws))
 rel:∀{vs:List V} {us:List Value} {zs:List V} {ws:List Value},Vals vs us->Vals zs ws->Vals (gV vs zs) (g us ws)
variable{g:List Value->List Value->List Value}{gV:List V->List V->List V}
end
structure CW(N P:List Str)(sc:Scope):Prop where
 kind:sc.kind=.function
 co:sc.isCoroutine=false
 gen:sc.isGenerator=false
 nd:N.Nodup
 pre:N.take P.length=P
 par:∀x∈P,sc.names.lookup x=some .local∨sc.names.lookup x=some .cell
 nofree:∀y∈sc.names,y.2≠.free
theorem V3{kindOf:Str->Option NameKind}{x:Str}:∀{binds:List (Str×Value)} {m:Str->Option Value},(∀v,(x,v) ∉ binds)->bindL kindOf binds m x=m x
 |[],_,_=>rfl
 |(n,v)::r,m,h=>by
  unfold bindL
  rw[V3 fun w hw=>h w (U0n _ hw)]
  split
  .have:x≠n:=by rintro rfl;exact h v U0p
   simp[this]
  .rfl
theorem V5{kindOf:Str->Option NameKind}{x:Str}:∀{binds:List (Str×Value)} {m:Str->Option Value},(∀v,(x,v) ∉ binds)->bindC kindOf binds m x=m x
 |[],_,_=>rfl
 |(n,v)::r,m,h=>by
  unfold bindC
  rw[V5 fun w hw=>h w (U0n _ hw)]
  split
  .rfl
  .have:x≠n:=by rintro rfl;exact h v U0p
   simp[this]
theorem V4{kindOf:Str->Option NameKind}{x:Str}{v:Value}:∀{P:List Str} {vs:List Value} {i:Nat} {m:Str->Option Value},P.Nodup->P[i]?=some x->vs[i]?=some v->kindOf x=some .local ->
  bindL kindOf (P.zip vs) m x=some v
 |[],_,_,_,_,h,_,_=>by simp at h
 |_::_,[],_,_,_,_,h,_=>by simp at h
 |p::P,w::vs,0,m,nd,h1,h2,hk=>by
  simp at h1 h2;subst h1;subst h2
  show bindL kindOf ((p,w)::P.zip vs) m p=_
  unfold bindL
  rw[V3 fun v hv=>(U4t.mp nd).1 (U3s hv).1,if_pos hk]
  simp
 |p::P,w::vs,i+1,m,nd,h1,h2,hk=>by
  show bindL kindOf ((p,w)::P.zip vs) m x=_
  unfold bindL
  exact V4 (i:=i) (U4t.mp nd).2 (by simpa using h1) (by simpa using h2) hk
theorem V6{kindOf:Str->Option NameKind}{x:Str}{v:Value}:∀{P:List Str} {vs:List Value} {i:Nat} {m:Str->Option Value},P.Nodup->P[i]?=some x->vs[i]?=some v->kindOf x≠some .local ->
  bindC kindOf (P.zip vs) m x=some v
 |[],_,_,_,_,h,_,_=>by simp at h
 |_::_,[],_,_,_,_,h,_=>by simp at h
 |p::P,w::vs,0,m,nd,h1,h2,hk=>by
  simp at h1 h2;subst h1;subst h2
  show bindC kindOf ((p,w)::P.zip vs) m p=_
  unfold bindC
  rw[V5 fun v hv=>(U4t.mp nd).1 (U3s hv).1,if_neg hk]
  simp
 |p::P,w::vs,i+1,m,nd,h1,h2,hk=>by
  show bindC kindOf ((p,w)::P.zip vs) m x=_
  unfold bindC
  exact V6 (i:=i) (U4t.mp nd).2 (by simpa using h1) (by simpa using h2) hk
def start(N:List Str)(vs:List V):St:=vs.map some++U0w (N.length-vs.length) none
def PL(CX:CXT)(P:Program)(w:World)(K:U0b)(mg:Str->Option Value)(base:Heap)(N:List Str)(qual:Str)(scope:Scope)(f:Addr)(cd:Value)(A:Around)(outer:List Env)(s:Shared)(H:Hp)(E:XK):Cx where
 prog:=P
 w:=w
 K:=K
 mg:=mg
 base:=base
 A:=A.deeper (envOfC qual scope s.heap.objs.size f cd)
 N:=N
 s₀:=s
 H₀:=H
 env:=envOfC qual scope s.heap.objs.size f cd
 outer:=outer
 stack:=envOfC qual scope s.heap.objs.size f cd::outer
 ex:=[]
 calm:=true
 fn:=fun _=>true
 pn:=[]
 xe:=fun e s'=>wpAny (model P w) (A.deeper (envOfC qual scope s.heap.objs.size f cd)) (leaving (envOfC qual scope s.heap.objs.size f cd) e) (fun _ s''=>CX outer H s E e s'') (fun e' s''=>CX outer H s E e' s'') s'
theorem Wu{sc:Scope}{n:Nat}{x:Str}(h:sc.names.lookup x=some .cell):∃c,(cellsFrom n sc.names []).lookup x=some c:=by
 have q:=U54 sc.names n [] (.inl h)
 exact U5p.mp q
theorem bD{CX:CXT}{P:Program}{w:World}{K:U0b}{mg:Str->Option Value}{base:Heap}{N ps:List Str}{qual:Str}{scope:Scope}{f:Addr}{cd:Value}{A:Around}{outer:List Env}{s s1:Shared}{H:Hp}{E:XK}{us:List Value}{vs:List V}
  (S:CW N ps scope) (hd:A.handled=none) (e0:Yt P w K mg base A outer s H) (hl:vs.length=ps.length) (r:Vals vs us)
  (x:InCallC s s.heap.objs.size (bindL (envOfC qual scope s.heap.objs.size f cd).kindOf (ps.zip us) fun _=>none) (cellsFrom (s.heap.objs.size+1) scope.names []) (bindC (envOfC qual scope s.heap.objs.size f cd).kindOf (ps.zip us) fun _=>none) s1) :
  Inv (PL CX P w K mg base N qual scope f cd A outer s H E) [] (start N vs) H s1:=by
 have hpl:ps.length<=N.length:=by have:=congrArg U3r S.pre;rw[U1i] at this;omega
 obtain⟨h1,tk,rfl,hk⟩:=x.done
 have noA:∀b:Addr,b ∉ (PL CX P w K mg base N qual scope f cd A outer s H E).ex:=fun b z=>absurd (show b∈([]:List Addr) from z) (by simp)
 refine⟨⟨e0.mod,S.kind,rfl,rfl,U0o _,fun y z c h1 h2=>?_,fun y hy=>?_,fun y c _ h=>?_,fun _=>hd,Around.frames_deeper e0.frames,.inr ⟨rfl,rfl⟩,fun b z=>absurd z (noA b),e0.bs,e0.bsz,fun b _ _=>noA b,fun b z=>absurd z (noA b),e0.M6,e0.frf,e0.sy⟩,
  rfl,e0.bare,Un.kept hk,⟨_,x.toInCall.ns,fun i y v h1 h2 h3=>?_⟩,fun y c h=>⟨_,x.cell y c h⟩,e0.hok.fresh (U0o _),fun y c h=>?_,fun p hp=>absurd (show p∈([]:List (Addr×Obj)) from hp) (by simp),e0.hok.kept hk,?_⟩
 .exact name_of_addr x.apart (U2u h1) (U2u h2)
 .have hy:scope.names.lookup y=some .cell∨scope.names.lookup y=some .free:=hy
  rcases hy with hy|hy
  .exact Wu hy
  .exact absurd rfl (S.nofree _ (U2u hy))
 .exact U2r (x.above y c (U2u h))
 .have hi:i<vs.length:=by
   unfold start at h2
   by_cases hi:i<vs.length
   .exact hi
   .rw[U1h (by simpa using hi)] at h2
    rw[U4p] at h2
    split at h2<;>cases h2
  have ha:vs[i]?=some v:=by
   unfold start at h2
   rw[U04 (by simpa using hi),U0y] at h2
   cases e:vs[i]? with
   |none=>rw[e] at h2;cases h2
   |some a=>rw[e] at h2;cases h2;rfl
  obtain⟨u,hu,rv⟩:=r.get ha
  have hp:ps[i]?=some y:=by
   rw[←S.pre,List.getElem?_take_of_lt (by omega)];exact h1
  have ndP:ps.Nodup:=by rw[←S.pre];exact S.nd.sublist (U50 _ _)
  refine⟨u,rv,?_⟩
  rcases S.par y (U2e hp) with k|k
  .exact .inl ⟨k,V4 ndP hp hu k⟩
  .obtain⟨c,e⟩:=Wu (n:=s.heap.objs.size+1) k
   refine .inr ⟨.inl k,c,e,?_⟩
   have q:=x.cell y c e
   rw[V6 ndP hp hu (by show scope.names.lookup y≠_;rw[k];decide)] at q
   exact q
 .exact e0.hok.fresh (U2r (x.above y c (U2u h)))
 .unfold start
  show _=N.length
  rw[U0h,U0f,U11]
  omega
theorem rA{CX:CXT}{P:Program}{w:World}{K:U0b}{mg:Str->Option Value}{base:Heap}{k:Nat}{f:Addr}{name qual:Str}{params:Arguments}{body:List Stmt}{scope:Scope}{dV kV doc pm cdv ct oc:Value}{an od:Option Addr}
  {osl:Array (Option Value)} {N ps:List Str} {sp:Sp} (lk:K.lookup f=some ⟨oc,od,.func (U09 name qual params body scope dV kV doc pm an cdv ct),osl⟩) (hcd:U07 K cdv qual=true) (S:CW N ps scope)
  (len:∀vs H Q E,sp vs H Q E->vs.length=ps.length)
  (hbody:∀(A:Around)(outer:List Env)(s:Shared)(H:Hp)(vs:List V)(Q:VK)(E:XK),Em k (A.deeper (envOfC qual scope s.heap.objs.size f cdv))->sp vs H Q E ->
   ∃t,PSs (PL CX P w K mg base N qual scope f cdv A outer s H E) body t/\t { nx:=fun _ H'=>Q .non H',rt:=Q } (start N vs) H) :
  Cy P w K mg base CX (k+1) f (U09 name qual params body scope dV kV doc pm an cdv ct) ps sp:=by
 refine⟨len,fun A outer s H args us vs Q E hr e0 hb r hsp=>?_⟩
 have hl:=len _ _ _ _ hsp
 have KX:K.In s.heap:=e0.mod.kin.keeps fun b o e=>(e0.bs b o e).1
 have lim:s.heap.NoLimit:=e0.mod.nolimit.keeps fun b o e=>(e0.bs b o e).1
 have hkind:∀y∈ps.zip us,scope.names.lookup y.1=some .local∨(scope.names.lookup y.1=some .cell/\((cellsFrom (s.heap.objs.size+1) scope.names []).lookup y.1).isSome=true):=fun⟨n,v⟩ hy=>by
  rcases S.par n (U3s hy).1 with q|q
  .exact .inl q
  .exact .inr ⟨q,U54 _ _ _ (.inl q)⟩
 refine codeAny_call_function hr.depth (KX _ _ lk) rfl S.co S.gen rfl (PySem.W.codeRec_of KX hcd) (hb _ _ _ _ ?_)
 refine wpAny_newFunctionEnv_cells S.kind hkind fun env he s1 x=>?_
 subst he
 refine⟨lim.keeps x.toInCall.keep,codeAny_func ?_⟩
 obtain⟨t,ht,hq⟩:=hbody A outer s H vs Q E (hr.deeper _) hsp
 have I:Inv (PL CX P w K mg base N qual scope f cdv A outer s H E) [] (start N vs) H s1:=bD S hr.hd e0 hl r x
 refine U48 (ht [] s1 (start N vs) H _ I hq) (fun fl s' hs=>?_) fun e s' hs=>hs
 have fin:∀{σ':St} {H':Hp} {v:V} {u:Value},Inv (PL CX P w K mg base N qual scope f cdv A outer s H E) [] σ' H' s'->RelV v u->Q v H'->CE outer P w H s Q u s' :=
  fun {σ' H' v u} J rv q=>⟨v,H',J.os,J.bare,J.base,J.hok,rv,q⟩
 cases fl with
 |ret u =>
  obtain⟨v,σ',H',J,rv,q⟩:=hs
  exact fin J rv q
 |next =>
  obtain⟨σ',H',J,q⟩:=hs
  exact fin (v:=V.non) (u:=U2q) J rfl q
 |brk =>
  obtain⟨_,_,_,q⟩:=hs
  exact U4c q
 |cont =>
  obtain⟨_,_,_,q⟩:=hs
  exact U4c q
end L2
namespace L2
open PySem PySem.Spec PyProof.Rows
section
variable{X:Cx}{x:Str}{p pos:Pos}{e:Expr}{es:List Expr}{t:TA}{id T:String}{r:List V->Hp->VK->Prop}
def tCB(r:List V->Hp->VK->Prop)(t:TA):TE:=fun σ H Q=>t σ H fun vs H1=>r vs H1 Q
theorem WT(hc:Dv X (.builtin id) r)(hg:Gl X x)(hm:X.mg x=none)(hv:bootBuiltins x=some (.builtin id))(ha:PA X (e::es) t)(hn:x≠"__name__":=by decide)(hdb:(x==("__debug__":Str))=false:=by decide)
  (he:starEach (e::es) X.env=(false,eval e X.env)::starEach es X.env:=by rfl) (hpl:(backTo pos (starEach es X.env)).any (·.1)=false:=by rfl):PE X (.Call (.Name x p) (e::es) [] pos) (tCB r t):=by
 intro pins s σ H Q I h
 refine U5o (Ma I hg hm hv ?_ hn hdb)
 exact PyProof.Rows.callWith_builtin1 (thn (ha pos pins s σ H _ I h) fun us s1 ⟨vs,H1,I1,r1,q1⟩=>hc pins s1 σ H1 vs us Q I1 r1 q1) he hpl
theorem Q8(hc:Dv X (.type T) r)(hg:Gl X x)(hm:X.mg x=none)(hv:bootBuiltins x=some (.type T))(ha:PA X (e::es) t)(hn:x≠"__name__":=by decide)(hdb:(x==("__debug__":Str))=false:=by decide)
  (he:starEach (e::es) X.env=(false,eval e X.env)::starEach es X.env:=by rfl) (hpl:(backTo pos (starEach es X.env)).any (·.1)=false:=by rfl):PE X (.Call (.Name x p) (e::es) [] pos) (tCB r t):=by
 intro pins s σ H Q I h
 refine U5o (Ma I hg hm hv ?_ hn hdb)
 exact U3z (thn (ha pos pins s σ H _ I h) fun us s1 ⟨vs,H1,I1,r1,q1⟩=>hc pins s1 σ H1 vs us Q I1 r1 q1) he hpl
end
end L2
namespace HT
open PySem PyProof.Rows
section
open PySem.SeqAt
open PySem.AutoSeq1 (wpAny_loadPart')
open PySem.MeetsSeq PySem.MeetsSeq2 PySem.MeetsSeq3
end
section
variable{prog:Program}{w:World}{A:Around}{E:Value->Shared->Prop}{s:Shared}
theorem jh{t b:Addr}{vs ws:List Value}{Q:Value->Shared->Prop}(ht:IsTup s.heap t vs.toArray)(hb:IsTup s.heap b ws.toArray)(hv:vs≠[])
  (h1:ws=[]->Q (.ref t) s) (h2:ws≠[]->Q (.ref s.heap.objs.size) { s with heap:=s.heap.push { cls:=.type "tuple",data:=.seq (vs++ws).toArray } })
  (hsz:vs.length+ws.length<=sizeLine):wpAny (model prog w) A (binaryOp .Add (.ref t) (.ref b)) Q E s:=by
 obtain⟨⟨cls,dd,data,sl⟩,ho,hc,n,hd⟩:=id ht
 obtain⟨⟨cls2,dd2,data2,sl2⟩,ho2,hc2,n2,hd2⟩:=id hb
 simp only at hc hd hc2 hd2
 subst hc hd hc2 hd2
 have e:vs.toArray++ws.toArray=(vs++ws).toArray:=by simp
 by_cases hw:ws=[]
 .exact concat_meets ⟨_,ho,rfl⟩ ⟨_,ho2,rfl⟩ noFill_tuple_add seq_tuple_add U55 U5y (U5q _ _)
   (tuple_addW1 t b vs.toArray ws.toArray n n2 dd dd2 sl sl2 (by simpa using hv) (by simp[hw])) ⟨ho,ho2,h1 hw⟩
 .refine concat_meets ⟨_,ho,rfl⟩ ⟨_,ho2,rfl⟩ noFill_tuple_add seq_tuple_add U55 U5y (U5q _ _)
   (tuple_addW2 t b vs.toArray ws.toArray n n2 dd dd2 sl sl2 (by simpa using hv) (by simpa using hw) (by rw[U0m,U0m];exact hsz)) ⟨ho,ho2,?_⟩
  rw[e]
  exact h2 hw
def sIx(n d:Nat):Option Int->Nat
 |none=>d
 |some v=>if v<0 then (v+(n:Int)).toNat else min v.toNat n
theorem mQ(n d:Nat)(hd:d<=n)(o:Option Int):sIx n d o<=n:=by
 cases o with
 |none=>exact hd
 |some v =>
  show(if v<0 then (v+(n:Int)).toNat else min v.toNat n)<=n
  by_cases hv:v<0
  .rw[if_pos hv];omega
  .rw[if_neg hv];exact Nat.min_le_right _ _
theorem Yk(v:Int)(n d:Nat):(if v<0 then max (v+(n:Int)) 0 else min v (n:Int))=((sIx n d (some v):Nat):Int):=by
 show(if v<0 then max (v+(n:Int)) 0 else min v (n:Int))=(((if v<0 then (v+(n:Int)).toNat else min v.toNat n):Nat):Int)
 by_cases hv:v<0
 .simp only[if_pos hv];omega
 .simp only[if_neg hv];omega
theorem Zh(lo hi:Option Int)(n:Nat):U5h lo hi 1 (n:Int)=(((sIx n 0 lo:Nat):Int),((sIx n n hi:Nat):Int)):=by
 have h1:¬((1:Int)<0):=by omega
 unfold U5h
 simp only[h1,if_false]
 refine Prod.ext ?_ ?_
 .cases lo with
  |none=>rfl
  |some v=>exact Yk v n 0
 .cases hi with
  |none=>rfl
  |some v=>exact Yk v n n
theorem ZJ(i j:Nat):U4d (i:Int) (j:Int) 1=j-i:=by
 unfold U4d
 have h1:(1:Int)>0:=by omega
 simp only[h1,if_true,Int.ediv_one]
 split<;>omega
theorem T6{v:Value}{o:Option Int}{Q:Option Int->Shared->Prop}(p:IsPart v o)(h:Q o s):wpAny (model prog w) A (Builtin.Slice.slicePartIndex v) Q E s:=by
 cases p with
 |none=>exact slicePart_none h
 |int i t=>exact slicePart_int h
theorem Ms{sl:Addr}{vl vu:Value}{lo hi:Option Int}{n:Nat}{Q:Int×Int×Nat->Shared->Prop}(hs:s.heap.IsSliceOf sl vl vu .none)(pl:IsPart vl lo)(pu:IsPart vu hi)
  (h:Q (((sIx n 0 lo:Nat):Int),1,sIx n n hi-sIx n 0 lo) s):wpAny (model prog w) A (Builtin.Slice.sliceApplied (.ref sl) (pure (n:Int))) Q E s:=by
 obtain⟨os,hos,hcs,hds⟩:=id hs
 unfold Builtin.Slice.sliceApplied Builtin.Slice.sliceFields
 refine U0 (U0 (U21 hos hds (x:=vl) rfl (U0 (U21 hos hds (x:=vu) rfl (U0 (U21 hos hds (x:=.none) rfl (U0d ?_)))))))
 refine U0 (slicePart_none ?_)
 show wpAny _ _ (if ((1:Int)==0)=true then _ else _) _ _ s
 rw[if_neg (by decide)]
 refine U0 (T6 pl (U0 (T6 pu (U0 (U0d ?_)))))
 show wpAny _ _ (match U5h lo hi 1 (n:Int) with|(lo,hi)=>pure (lo,(1:Int),U4d lo hi 1)) _ _ s
 rw[Zh lo hi n]
 show wpAny _ _ (pure (((sIx n 0 lo:Nat):Int),(1:Int),U4d ((sIx n 0 lo:Nat):Int) ((sIx n n hi:Nat):Int) 1)) _ _ s
 rw[ZJ]
 exact U0d h
theorem dO(xs:Array Value)(i k:Nat):((U4b k).filterMap fun(m:Nat)=>xs[((i:Int)+(m:Int)*1).toNat]?).toArray=((xs.toList.drop i).take k).toArray:=by
 have e:(fun(m:Nat)=>xs[((i:Int)+(m:Int)*1).toNat]?)=fun m=>xs[i+m]?:=by
  funext m
  have:((i:Int)+(m:Int)*1).toNat=i+m:=by omega
  rw[this]
 rw[e]
 have:=pick_run xs i k
 rw[List.filterMap_map] at this
 have e2:((fun x=>xs[x]?)∘fun x=>i+x)=fun m=>xs[i+m]?:=rfl
 rw[e2] at this
 rw[this]
theorem Qt{t sl:Addr}{items:Array Value}{vl vu:Value}{lo hi:Option Int}{Q:Value->Shared->Prop}(ht:IsTup s.heap t items)(hs:s.heap.IsSliceOf sl vl vu .none)(pl:IsPart vl lo)(pu:IsPart vu hi)
  (hw:¬(sIx items.size 0 lo=0/\sIx items.size items.size hi=items.size))
  (h:Q (.ref s.heap.objs.size) { s with heap:=s.heap.push { cls:=.type "tuple",data:=.seq ((items.toList.drop (sIx items.size 0 lo)).take (sIx items.size items.size hi-sIx items.size 0 lo)).toArray } })
  (hsz:items.size<=sizeLine):wpAny (model prog w) A (getItem (.ref t) (.ref sl)) Q E s:=by
 have htake:sizeOk (.seq ((items.toList.drop (sIx items.size 0 lo)).take (sIx items.size items.size hi-sIx items.size 0 lo)).toArray):=by
  show((items.toList.drop (sIx items.size 0 lo)).take (sIx items.size items.size hi-sIx items.size 0 lo)).toArray.size<=sizeLine
  rw[U0m,U1i,U10,U0g]
  omega
 have hj:sIx items.size items.size hi<=items.size:=mQ _ _ (U0o _) hi
 obtain⟨os,hos,hcs,hds⟩:=id hs
 have hTs:s.TypeIs (.ref sl) "slice":=⟨os,hos,hcs⟩
 unfold getItem
 try with_reducible refine U2x ?_
 first|refine U0 (U0d ?_)|skip
 refine U0 (wpAny_sequenceKey ht.typeIs (by decide) ?_)
 refine U0 (wpAny_callSpecial?_slot (name:=U30 "__getitem__") ht.typeIs U2o
  (U2s U2o ht.typeIs entry_tuple_getitem ?_ (args_tuple_getitem _ _)))
 show wpAny _ _ (Builtin.Tuple.tupleItemsOf (.ref t) >>= _) _ _ s
 refine U0 (tupleItemsOf_ ht ?_)
 refine U0 (U6f hTs ?_)
 rw[if_pos (by decide)]
 refine U0 (Ms hs pl pu ?_)
 have hno:¬((((sIx items.size 0 lo:Nat):Int)==0&&(1:Int)==1&&(sIx items.size items.size hi-sIx items.size 0 lo)==items.size)=true):=by
  intro q
  rw[U0s,U0s] at q
  have q1:((sIx items.size 0 lo:Nat):Int)=0:=eq_of_beq q.1.1
  have q2:sIx items.size items.size hi-sIx items.size 0 lo=items.size:=eq_of_beq q.2
  exact hw ⟨by omega,by omega⟩
 show wpAny _ _ (if (((sIx items.size 0 lo:Nat):Int)==0&&(1:Int)==1&&(sIx items.size items.size hi-sIx items.size 0 lo)==items.size)=true then _ else _) _ _ s
 rw[if_neg hno,dO]
 first
  |exact U0 (m:=U4h _) (U2a (U0d ⟨_,rfl,U0d h⟩) htake)
  |exact U0 (m:=U4h _) (U2a (U0 (U0d (U0d ⟨_,rfl,U0d h⟩))) htake)
  |exact U0 (U0 (m:=U4h _) (U2a (U0d (U0d ⟨_,rfl,U0d h⟩)) htake))
  |exact U0 (U0 (m:=U4h _) (U2a (U0d ⟨_,rfl,U0d h⟩) htake))
end
end HT
namespace L2
open PySem PySem.Spec PyProof.Rows
abbrev TO:=St->Hp->(Option Int->Hp->Prop)->Prop
def PO(X:Cx)(e:Option Expr)(t:TO):Prop :=
 ∀(pins:List (Addr×Obj))(s:Shared)(σ:St)(H:Hp)(Q:Option Int->Hp->Prop),Inv X pins σ H s->t σ H Q ->
  wpAny (model X.prog X.w) X.A (evalPart e X.env) (fun u s'=>∃o H',Inv X pins σ H' s'/\IsPart u o/\Q o H') X.xe s
def gn:TO:=fun _ H Q=>Q none H
def qF(t:TE):TO:=fun σ H Q=>t σ H fun x H1=>∃i,x=.int i/\Q (some i) H1
theorem intsAre_of{ns:List Int}:∀{us:List Value},Vals (ns.map V.int) us->IntsAre us ns:=by
 induction ns with
 |nil=>intro us r;rw[U1n] at r;cases r;exact .nil
 |cons n ns ih =>
  intro us r
  rw[U0r] at r
  cases r with
  |cons r1 r2 =>
   obtain⟨t,e⟩:=r1
   subst e
   exact .cons n t (ih r2)
section
variable{X:Cx}{e:Expr}{te:TE}{lo hi:Option Expr}{tl th:TO}{pos p2:Pos}
theorem iu:PO X none gn:=by
 intro pins s σ H Q I h
 rw[evalPart_none]
 exact U0d ⟨none,H,I,.none,h⟩
theorem ig(h:PE X e te):PO X (some e) (qF te):=by
 intro pins s σ H Q I hw
 rw[evalPart_some]
 refine thn (h pins s σ H _ I hw) fun u s1 ⟨x,H1,I1,r1,q1⟩=>?_
 obtain⟨i,rfl,q⟩:=q1
 obtain⟨t,rfl⟩:=r1
 exact⟨some i,H1,I1,.int i t,q⟩
def SlR(X:Cx)(r:V->Option Int->Option Int->Hp->VK->Prop):Prop :=
 ∀(pins:List (Addr×Obj))(s:Shared)(σ:St)(H:Hp)(x:V)(v vl vu:Value)(lo hi:Option Int)(sl:Addr)(Q:VK),Inv X pins σ H s->RelV x v->s.heap.IsSliceOf sl vl vu .none->IsPart vl lo->IsPart vu hi->r x lo hi H Q ->
  ∃T id,typeLookup (.type T) "__getitem__"=pure (some (.builtin id))/\s.TypeIs v T/\wpAny (model X.prog X.w) X.A (getItem v (.ref sl)) (EP X pins σ Q) X.xe s
theorem SlR.or{r r':V->Option Int->Option Int->Hp->VK->Prop}(h:SlR X r)(h':SlR X r'):SlR X (fun x lo hi H Q=>r x lo hi H Q∨r' x lo hi H Q):=by
 intro pins s σ H x v vl vu lo hi sl Q I rx hs pl pu q
 rcases q with q|q
 .exact h pins s σ H x v vl vu lo hi sl Q I rx hs pl pu q
 .exact h' pins s σ H x v vl vu lo hi sl Q I rx hs pl pu q
def tSl(r:V->Option Int->Option Int->Hp->VK->Prop)(te:TE)(tl th:TO):TE:=fun σ H Q=>te σ H fun x H1=>tl σ H1 fun l H2=>th σ H2 fun u H3=>r x l u H3 Q
theorem dU{r:V->Option Int->Option Int->Hp->VK->Prop}(hr:SlR X r)(he:PE X e te)(hl:PO X lo tl)(hu:PO X hi th):PE X (.Subscript e (.Slice lo hi none p2) pos) (tSl r te tl th):=by
 intro pins s σ H Q I h
 refine Subscript_ (thn (he pins s σ H _ I h) fun v s1 ⟨x,H1,I1,r1,q1⟩=>?_)
 refine wpAny_Slice (thn (hl pins s1 σ H1 _ I1 q1) fun vl s2 ⟨l,H2,I2,pl,q2⟩=>thn (hu pins s2 σ H2 _ I2 q2) fun vu s3 ⟨u,H3,I3,pu,q3⟩=>?_)
 rw[evalPart_none]
 refine U0d ?_
 have I4:Inv X pins σ H3 { s3 with heap:=s3.heap.push { cls:=.type "slice",data:=.fields #[vl,vu,.none] } }:=I3.kept (t':=s3.toks) fun b ob q=>U0c _ q
 obtain⟨T,id,hT,ht,hg⟩:=hr pins { s3 with heap:=s3.heap.push { cls:=.type "slice",data:=.fields #[vl,vu,.none] } } σ H3 x v vl vu l u s3.heap.objs.size Q I4 r1 (Heap.IsSliceOf.new ..) pl pu q3
 show wpAny (model X.prog X.w) X.A (subscriptTail e (.Slice lo hi none p2) v (.ref s3.heap.objs.size)) (EP X pins σ Q) X.xe { s3 with heap:=s3.heap.push { cls:=.type "slice",data:=.fields #[vl,vu,.none] } }
 exact tail_any (ops:=[.ref s3.heap.objs.size,v]) ht hT hg (by with_unfolding_all rfl)
def Jm(xs:List V)(lo hi:Option Int):List V:=(xs.drop (HT.sIx xs.length 0 lo)).take (HT.sIx xs.length xs.length hi-HT.sIx xs.length 0 lo)
theorem RN(xs:List V)(lo hi:Option Int):(Jm xs lo hi).length<=xs.length:=by
 unfold Jm
 rw[U1i,U10]
 omega
def sJ(K:U0b):V->Option Int->Option Int->Hp->VK->Prop:=fun x lo hi H Q=>∃a xs,x=.ref a/\SqT K H a xs /\
 ¬(HT.sIx xs.length 0 lo=0/\HT.sIx xs.length xs.length hi=xs.length)/\∀p,H p=none->Q (.ref p) (upd H p (.tup (Jm xs lo hi)))
theorem mK:SlR X (sJ X.K):=by
 intro pins s σ H x v vl vu lo hi sl Q I rx hs pl pu h
 obtain⟨a,xs,rfl,hx,hw,q⟩:=h
 cases rx
 obtain⟨its,r,ht,hz⟩:=I.tuple hx
 have hlen:its.toArray.size=xs.length:=by rw[U0m];exact r.length.symm
 refine⟨"tuple",_,U2o.lookup,ht.typeIs,?_⟩
 refine HT.Qt ht hs pl pu (by rw[hlen];exact hw) ?_ (by rw[hlen];exact hz)
 rw[hlen]
 refine⟨.ref s.heap.objs.size,_,I.laid (t':=s.toks) (o:=.tup (Jm xs lo hi)) (fun b ob q=>U0c _ q) (U0o _) ?_,rfl,q _ (I.hok.fresh (U0o _))⟩
 exact⟨U1d (RN xs lo hi) hz,_,(r.drop (HT.sIx xs.length 0 lo)).take (HT.sIx xs.length xs.length hi-HT.sIx xs.length 0 lo),IsTup.new _ _⟩
def qP(K:U0b):R2:=fun x y H Q=>∃a b xs ys,x=.ref a/\y=.ref b/\SqT K H a xs/\SqT K H b ys/\xs≠[]/\xs.length+ys.length<=sizeLine /\
 (ys=[]->Q (.ref a) H)/\(ys≠[]->∀p,H p=none->Q (.ref p) (upd H p (.tup (xs++ys))))
theorem Vals.Ql{xs:List V}{us:List Value}(r:Vals xs us):us=[]↔xs=[]:=by
 cases r with
 |nil=>simp
 |cons _ _=>simp
theorem jA:OpR X (binaryOp .Add) (qP X.K):=by
 intro pins s σ H x y v u Q I rx ry h
 obtain⟨a,b,xs,ys,rfl,rfl,ha,hb,hx,hz,q1,q2⟩:=h
 cases rx
 cases ry
 obtain⟨its,r1,p1,_⟩:=I.tuple ha
 obtain⟨its2,r2,p2,_⟩:=I.tuple hb
 refine HT.jh p1 p2 (fun z=>hx (r1.Ql.mp z)) (fun z=>⟨.ref a,H,I,rfl,q1 (r2.Ql.mp z)⟩) (fun z=>?_) (by rw[←r1.length,←r2.length];exact hz)
 refine⟨.ref s.heap.objs.size,_,I.laid (t':=s.toks) (o:=.tup (xs++ys)) (fun b ob q=>U0c _ q) (U0o _) ?_,rfl,q2 (fun w=>z (r2.Ql.mpr w)) _ (I.hok.fresh (U0o _))⟩
 exact⟨by rw[U0h];exact hz,_,r1.append r2,IsTup.new _ _⟩
end
end L2
namespace L2
open PySem PySem.Spec PyProof.Rows
def ixN(n:Nat)(i:Int):Option Nat:=if 0<=i then (if i<n then some i.toNat else none) else if -(n:Int)<=i then some (i+n).toNat else none
def atI{α:Type}(xs:List α)(i:Int):Option α:=(ixN xs.length i).bind fun j=>xs[j]?
theorem Yc{n:Nat}{i:Int}{j:Nat}(h:ixN n i=some j):seqIndex? i n=some j/\j<n/\-(n:Int)<=i/\i<n:=by
 unfold ixN at h
 by_cases h0:0<=i
 .rw[if_pos h0] at h
  by_cases h1:i<n
  .rw[if_pos h1] at h
   have e:i.toNat=j:=U00 h
   exact⟨by rw[seqIndex_of h0 h1,e],by omega,by omega,h1⟩
  .rw[if_neg h1] at h;cases h
 .rw[if_neg h0] at h
  by_cases h1:-(n:Int)<=i
  .rw[if_pos h1] at h
   have e:(i+n).toNat=j:=U00 h
   exact⟨by rw[seqIndex_neg (by omega) h1,e],by omega,h1,by omega⟩
  .rw[if_neg h1] at h;cases h
theorem Ui{α:Type}{xs:List α}{i:Int}{v:α}(h:atI xs i=some v):∃j,seqIndex? i xs.length=some j/\xs[j]?=some v/\j<xs.length/\-(xs.length:Int)<=i/\i<xs.length:=by
 unfold atI at h
 cases e:ixN xs.length i with
 |none=>rw[e] at h;cases h
 |some j =>
  rw[e] at h
  obtain⟨h1,h2,h3,h4⟩:=Yc e
  exact⟨j,h1,h,h2,h3,h4⟩
theorem Qq{α:Type}{xs:List α}{j:Nat}{v:α}(h:xs[j]?=some v):atI xs (j:Int)=some v:=by
 have hj:j<xs.length:=(U0k.mp h).1
 have e:ixN xs.length (j:Int)=some j:=by
  unfold ixN
  rw[if_pos (by omega),if_pos (by omega)];simp
 unfold atI;rw[e];exact h
theorem Ww{α:Type}(xs:List α)(v:α):atI (xs++[v]) (-1)=some v:=by
 have hl:(xs++[v]).length=xs.length+1:=by simp
 have e:ixN (xs++[v]).length (-1)=some xs.length:=by
  unfold ixN
  rw[hl,if_neg (by decide),if_pos (by omega)]
  congr 1
  omega
 unfold atI
 rw[e]
 show(xs++[v])[xs.length]?=some v
 simp
def Ym(b:Expr):Prop:=∀o i,subscripted b false o i=operate [o,i] (getItem o i)
def IxR(X:Cx)(r:R2):Prop :=
 ∀(value slice:Expr)(pins:List (Addr×Obj))(s:Shared)(σ:St)(H:Hp)(x y:V)(v u:Value)(Q:VK),Inv X pins σ H s->RelV x v->RelV y u->r x y H Q ->
  subscripted slice false v u=operate [v,u] (getItem v u)->wpAny (model X.prog X.w) X.A (subscriptTail value slice v u) (EP X pins σ Q) X.xe s
def MtR(X:Cx)(id:String)(r:V->List V->Hp->VK->Prop):Prop :=
 ∀(pins:List (Addr×Obj))(s:Shared)(σ:St)(H:Hp)(x:V)(xs:List V)(v:Value)(us:List Value)(Q:VK),Inv X pins σ H s->RelV x v->Vals xs us->r x xs H Q ->
  wpAny (model X.prog X.w) X.A (call (.builtin id) (v::us)) (EP X pins σ Q) X.xe s
section
variable{X:Cx}{a b:Expr}{ta tb:TE}{pos:Pos}
theorem IxR.or{r r':R2}(h:IxR X r)(h':IxR X r'):IxR X (fun x y H Q=>r x y H Q∨r' x y H Q):=by
 intro value slice pins s σ H x y v u Q I rx ry q hs
 rcases q with q|q
 .exact h value slice pins s σ H x y v u Q I rx ry q hs
 .exact h' value slice pins s σ H x y v u Q I rx ry q hs
theorem qX{r:R2}(hr:IxR X r)(ha:PE X a ta)(hb:PE X b tb)(hs:Ym b):PE X (.Subscript a b pos) (tOp r ta tb):=by
 intro pins s σ H Q I h
 exact Subscript_ (cI ha hb I h fun v u s2 x y H2 I2 rx ry q=>hr a b pins s2 σ H2 x y v u Q I2 rx ry q (hs _ _))
def lU(K:U0b):R2:=fun x y H Q=>∃p xs i v,x=.ref p/\y=.int i/\SqL K H p xs/\atI xs i=some v/\Q v H
def lQ(K:U0b):R2:=fun x y H Q=>∃p xs i v,x=.ref p/\y=.int i/\SqT K H p xs/\atI xs i=some v/\Q v H
def lR:R2:=fun x y H Q=>∃z i c,x=.str z/\y=.int i/\z.length<=sizeLine/\atI z.cps.toList i=some c/\Q (.str ⟨#[c]⟩) H
theorem jU:IxR X (lU X.K):=by
 intro value slice pins s σ H x y v u Q I rx ry h hs
 obtain⟨p,xs,i,z,rfl,rfl,hq,he,q⟩:=h
 cases rx
 obtain⟨t,rfl⟩:=ry
 obtain⟨its,r,pl,hz⟩:=I.list hq
 obtain⟨j,h1,h2,h3,h4,h5⟩:=Ui he
 obtain⟨w,ew,rw'⟩:=r.get h2
 have hl:=r.length
 have hn:=Pk
 have fin:EP X pins σ Q w s:=⟨z,H,I,rw',q⟩
 by_cases h0:0<=i
 .have hj:i.toNat=j:=by
   rw[seqIndex_of h0 h5] at h1
   exact U00 h1
  exact item_listR pl.isList h0 (by omega) (by rw[hj];simpa using ew) fin hs
 .have hj:(i+(its.toArray.size:Int)).toNat=j:=by
   rw[seqIndex_neg (by omega) h4] at h1
   rw[U0m,←hl]
   exact U00 h1
  exact subscriptTail_builtinR (x:=w) pl.isList.typeIs slot_list_getitem.lookup
   (wpAny_getItem_list_neg (Q:=fun r s'=>r=w/\EP X pins σ Q r s') pl.isList (by omega) (by rw[U0m]<;>omega) (by omega) (by rw[hj];simpa using ew) ⟨rfl,fin⟩) hs
theorem oK:IxR X (lQ X.K):=by
 intro value slice pins s σ H x y v u Q I rx ry h hs
 obtain⟨p,xs,i,z,rfl,rfl,hq,he,q⟩:=h
 cases rx
 obtain⟨t,rfl⟩:=ry
 obtain⟨its,r,pl,hz⟩:=I.tuple hq
 obtain⟨j,h1,h2,h3,h4,h5⟩:=Ui he
 obtain⟨w,ew,rw'⟩:=r.get h2
 have hl:=r.length
 have hn:=Pk
 have fin:EP X pins σ Q w s:=⟨z,H,I,rw',q⟩
 exact subscriptTail_builtinR (x:=w) pl.typeIs slot_tuple_getitem.lookup
  (getItem_tuple (j:=j) (Q:=fun r s'=>r=w/\EP X pins σ Q r s') pl (by omega) (by omega) (by rw[U0m,←hl];exact h1) (by simpa using ew) ⟨rfl,fin⟩) hs
theorem oM:IxR X lR:=by
 intro value slice pins s σ H x y v u Q I rx ry h hs
 obtain⟨z,i,c,rfl,rfl,hz,he,q⟩:=h
 obtain⟨t,rfl⟩:=rx
 obtain⟨t',rfl⟩:=ry
 obtain⟨j,h1,h2,h3,h4,h5⟩:=Ui he
 have hl:z.cps.toList.length=z.length:=by simp[Str.length]
 rw[hl] at h1 h4 h5
 have hn:=Pk
 exact tail_any (typeIs_str s z t) slot_str_getitem.lookup (getItem_str (c:=c) (by
  have e1:decide (i < -(2^63:Int))=false:=decide_eq_false (by omega)
  have e2:decide (i≥2^63)=false:=decide_eq_false (by omega)
  rw[e1,e2,Bool.or_false]) (by rw[h1];simpa using h2) ⟨.str ⟨#[c]⟩,H,I.tok _,⟨_,rfl⟩,q⟩) hs
def rIx(K:U0b):R2:=fun x y H Q=>lU K x y H Q∨lQ K x y H Q∨lR x y H Q
theorem BJ:IxR X (rIx X.K):=jU.or (oK.or oM)
theorem ZM(its:List Value)(n j:Nat)(u:Value):U2v (·.setIfInBounds j u) { cls:=.type "list",data:=.seq its.toArray n }={ cls:=.type "list",data:=.seq (its.set j u).toArray n }:=by
 simp[U2v]
theorem Inv.lst{pins:List (Addr×Obj)}{σ:St}{H:Hp}{s:Shared}{p:Addr}{xs:List V}(I:Inv X pins σ H s)(h:H p=some (.lst xs)) :
  ∃(its:List Value)(n:Nat),Vals xs its/\s.heap.get? p=some { cls:=.type "list",data:=.seq its.toArray n }/\xs.length<=sizeLine:=by
 obtain⟨z,its,n,r,e⟩:=I.hok p _ h
 exact⟨its,n,r,e,z⟩
theorem Inv.ni{pins:List (Addr×Obj)}{σ:St}{H:Hp}{s:Shared}{p:Addr}{xs ys:List V}{its its':List Value}{n n':Nat}{f:Obj->Obj}(I:Inv X pins σ H s)(h:H p=some (.lst xs))
  (ho:s.heap.get? p=some { cls:=.type "list",data:=.seq its.toArray n }) (hf:f { cls:=.type "list",data:=.seq its.toArray n }={ cls:=.type "list",data:=.seq its'.toArray n' }) (r:Vals ys its') (hz:ys.length<=sizeLine) (t:Nat) :
  Inv X pins σ (upd H p (.lst ys)) { s with heap:=s.heap.update p f,toks:=t }:=by
 have e:(s.heap.update p f).get? p=some { cls:=.type "list",data:=.seq its'.toArray n' }:=by
  rw[U2l f ho (by rw[hf]<;>rfl),hf]
 refine I.write (x:=p) (e:=p) (by rw[h];trivial) (.inl rfl) (fun b u hb q=>(U03 _ _ (U2f hb)).trans q) ⟨_,e⟩ ?_
 exact⟨hz,its',n',r,e⟩
def qM:V->V->V->Hp->(Hp->Prop)->Prop:=fun o i v H Q=>∃p xs k j,o=.ref p/\i=.int k/\H p=some (.lst xs)/\ixN xs.length k=some j/\Q (upd H p (.lst (xs.set j v)))
theorem set_list:mC X qM:=by
 intro pins s σ H o i v ov iv u Q I ro ri rv h
 obtain⟨p,xs,k,j,rfl,rfl,hp,hj,q⟩:=h
 cases ro
 obtain⟨t,rfl⟩:=ri
 obtain⟨its,n,r,ho,hz⟩:=I.lst hp
 obtain⟨h1,h2,h3,h4⟩:=Yc hj
 have hl:=r.length
 have hn:=Pk
 have I':Inv X pins σ (upd H p (.lst (xs.set j v))) { s with heap:=s.heap.update p (U2v (·.setIfInBounds j u)) } :=
  I.ni hp ho (ZM its n j u) (r.set rv j) (by rw[U4u];exact hz) s.toks
 by_cases h0:0<=k
 .have hk:k.toNat=j:=by
   rw[seqIndex_of h0 h4] at h1
   exact U00 h1
  exact PySem.W.ki_setAt ho h0 (by omega) (by rw[U0m,←hl];exact h4) (by rw[hk];exact⟨_,I',q⟩)
 .have hk:(k+(its.toArray.size:Int)).toNat=j:=by
   rw[seqIndex_neg (by omega) h3] at h1
   rw[U0m,←hl]
   exact U00 h1
  exact PySem.W.ki_setBack ho (by omega) (by rw[U0m,←hl];exact h3) (by omega) (by rw[hk];exact⟨_,I',q⟩)
theorem X3(lo hi:Option Int)(n:Nat):(sliceBounds lo hi none n).1=((HT.sIx n 0 lo:Nat):Int)/\(sliceBounds lo hi none n).2.1=((HT.sIx n n hi:Nat):Int)/\(sliceBounds lo hi none n).2.2=1:=by
 refine⟨?_,?_,rfl⟩
 .cases lo with
  |none=>simp[sliceBounds,HT.sIx]
  |some i =>
   simp only[sliceBounds,HT.sIx,Option.getD_none,show(1:Int)>0 by decide,if_true]
   by_cases h:i<0
   .simp only[h,if_true]<;>omega
   .simp only[h,if_false]<;>omega
 .cases hi with
  |none=>simp[sliceBounds,HT.sIx]
  |some i =>
   simp only[sliceBounds,HT.sIx,Option.getD_none,show(1:Int)>0 by decide,if_true]
   by_cases h:i<0
   .simp only[h,if_true]<;>omega
   .simp only[h,if_false]<;>omega
theorem V8(its:List Value)(lo hi:Option Int):slicePick its.toArray lo hi none=((its.drop (HT.sIx its.length 0 lo)).take (HT.sIx its.length its.length hi-HT.sIx its.length 0 lo)).toArray:=by
 obtain⟨h1,h2,h3⟩:=X3 lo hi its.toArray.size
 unfold slicePick
 rw[h1,h2,h3]
 simp only[sliceRange_one,pick_run,U0m]<;>rfl
def lK(K:U0b):V->Option Int->Option Int->Hp->VK->Prop:=fun x lo hi H Q=>∃a xs,x=.ref a/\SqL K H a xs/\∀p,H p=none->Q (.ref p) (upd H p (.lst (Jm xs lo hi)))
theorem iC:SlR X (lK X.K):=by
 intro pins s σ H x v vl vu lo hi sl Q I rx hs pl pu h
 obtain⟨a,xs,rfl,hx,q⟩:=h
 cases rx
 obtain⟨its,r,ht,hz⟩:=I.list hx
 have hlen:=r.length
 refine⟨"list",_,slot_list_getitem.lookup,ht.isList.typeIs,?_⟩
 refine wpAny_getItem_list_slice ht.isList hs pl pu .none (by simp) ?_ (by rw[U0m]<;>omega)
 rw[V8,←hlen]
 refine⟨.ref s.heap.objs.size,_,I.laid (t':=s.toks) (o:=.lst (Jm xs lo hi)) (fun b ob q=>U0c _ q) (U0o _) ?_,rfl,q _ (I.hok.fresh (U0o _))⟩
 exact⟨U1d (RN xs lo hi) hz,_,0,(r.drop (HT.sIx xs.length 0 lo)).take (HT.sIx xs.length xs.length hi-HT.sIx xs.length 0 lo),U0u _ rfl⟩
theorem Jz:Dv X (.builtin "len") (fun xs H Q=>∃p ys,xs=[.ref p]/\(SqL X.K H p ys∨SqT X.K H p ys)/\Q (.int ys.length) H):=by
 intro pins s σ H xs us Q I r h
 obtain⟨p,ys,rfl,hq,q⟩:=h
 obtain⟨u,rfl,rx⟩:=vals1 r
 cases rx
 have hn:=Pk
 rcases hq with hq|hq
 .obtain⟨its,r',pl,hz⟩:=I.list hq
  have hlen:=r'.length
  exact Calls.call_len_list pl.isList (by simp only[U0m]<;>omega) ⟨.int ys.length,H,I.tok _,⟨s.toks+1,by rw[U0m,hlen]⟩,q⟩
 .obtain⟨its,r',pl,hz⟩:=I.tuple hq
  have hlen:=r'.length
  exact len_tuple pl (by simp only[U0m]<;>omega) ⟨.int ys.length,H,I.tok _,⟨s.toks+1,by rw[U0m,hlen]⟩,q⟩
theorem Dv.or{f:Value}{r r':List V->Hp->VK->Prop}(h:Dv X f r)(h':Dv X f r'):Dv X f (fun xs H Q=>r xs H Q∨r' xs H Q):=by
 intro pins s σ H xs us Q I rs q
 rcases q with q|q
 .exact h pins s σ H xs us Q I rs q
 .exact h' pins s σ H xs us Q I rs q
theorem QT:Dv X (.type "list") (fun xs H Q=>∃p ys,xs=[.ref p]/\(SqL X.K H p ys∨SqT X.K H p ys)/\∀l,H l=none->Q (.ref l) (upd H l (.lst ys))):=by
 intro pins s σ H xs us Q I r h
 obtain⟨p,ys,rfl,hq,q⟩:=h
 obtain⟨u,rfl,rx⟩:=vals1 r
 cases rx
 have fin:∀(its:List Value),Vals ys its->ys.length<=sizeLine->∀(h':Heap)(c':Nat),(∀b o',s.heap.get? b=some o'->h'.get? b=some o') ->
   h'.get? s.heap.objs.size=some { cls:=.type "list",dict:=none,data:=.seq its.toArray c',slots:=#[] }->EP X pins σ Q (.ref s.heap.objs.size) { s with heap:=h' }:=fun its r' hz h' c' kp e =>
  ⟨.ref s.heap.objs.size,_,I.laid (t':=s.toks) kp (U0o _) (show EY X.prog X.w _ h' _ (.lst ys) from ⟨hz,its,c',r',e⟩),rfl,q _ (I.hok.fresh (U0o _))⟩
 rcases hq with hq|hq
 .obtain⟨its,r',pl,hz⟩:=I.list hq
  have hlen:=r'.length
  obtain⟨o,ho,hc,n,hd⟩:=pl.isList
  exact call_list_seq p (.inl rfl) ho hc hd (fun h' c' kp e=>fin its r' hz h' c' kp e) (by simp only[U0m]<;>omega)
 .obtain⟨its,r',pl,hz⟩:=I.tuple hq
  have hlen:=r'.length
  obtain⟨o,ho,hc,n,hd⟩:=pl
  exact call_list_seq p (.inr rfl) ho hc hd (fun h' c' kp e=>fin its r' hz h' c' kp e) (by simp only[U0m]<;>omega)
def tyV(K:U0b)(T:String)(x:V)(H:Hp):Prop:=match x with
 |.str _=>T="str"
 |.int _=>T="int"
 |.ref p=>(T="list"/\∃xs,SqL K H p xs)∨(T="tuple"/\∃o,K.lookup p=some o/\o.cls=.type "tuple"/\o.dict=none) ∨
   (T="dict"/\((∃kvs,H p=some (.dK kvs))∨∃kvs,H p=some (.dT kvs)))∨(T="set"/\∃S n,H p=some (.set S n))
 |_=>False
theorem mG{pins:List (Addr×Obj)}{σ:St}{H:Hp}{s:Shared}{T:String}{x:V}{v:Value}(I:Inv X pins σ H s)(r:RelV x v)(ty:tyV X.K T x H) :
  s.TypeIs v T/\∀a,v=.ref a->∃ob,s.heap.get? a=some ob/\ob.dict=none:=by
 cases x with
 |str z =>
  obtain⟨t,rfl⟩:=r
  cases (show T="str" from ty)
  exact⟨typeIs_str s z t,fun _ e=>nomatch e⟩
 |int i =>
  obtain⟨t,rfl⟩:=r
  cases (show T="int" from ty)
  exact⟨typeIs_int s i t,fun _ e=>nomatch e⟩
 |ref p =>
  cases r
  rcases ty with ⟨rfl,xs,hq⟩|⟨rfl,o,hk,hc,hd⟩|⟨rfl,hk⟩|⟨rfl,S,n,hk⟩
  .obtain⟨its,_,pl,_⟩:=I.list hq
   refine⟨pl.isList.typeIs,fun a e=>?_⟩
   cases e
   obtain⟨o,n,e,c,hd,_⟩:=pl
   exact⟨o,e,hd⟩
  .refine⟨⟨o,I.kIn p o hk,hc⟩,fun a e=>?_⟩
   cases e
   exact⟨o,I.kIn _ o hk,hd⟩
  .have z:∃o,s.heap.get? p=some o/\o.ExactDict:=by
    rcases hk with ⟨kvs,hk⟩|⟨kvs,hk⟩
    .obtain⟨_,_,_,_,o,_,_,e,ex,_⟩:=I.hok p _ hk
     exact⟨o,e,ex⟩
    .obtain⟨_,_,_,_,o,_,_,e,ex,_⟩:=I.hok p _ hk
     exact⟨o,e,ex⟩
   obtain⟨o,e,ex⟩:=z
   refine⟨⟨o,e,ex.1⟩,fun a e2=>?_⟩
   cases e2
   exact⟨o,e,ex.2.1⟩
  .obtain⟨o,_,_,_,e,ex,_⟩:=I.hok p _ hk
   refine⟨⟨o,e,ex.1⟩,fun a e2=>?_⟩
   cases e2
   exact⟨o,e,ex.2.1⟩
 |_=>exact U4c ty
def tBM(K:U0b)(T:String)(r:V->List V->Hp->VK->Prop)(to:TE)(t:TA):TE:=fun σ H Q=>to σ H fun x H1=>tyV K T x H1/\t σ H1 fun xs H2=>r x xs H2 Q
variable{o e:Expr}{es:List Expr}{to:TE}{t:TA}{name:Str}{apos cpos:Pos}{T id:String}{r:V->List V->Hp->VK->Prop}
theorem qY(pa:PlainAttrs T)(slot:Slot T name id)(hty:typeOf (.builtin id)=pure (.type "method_descriptor"))(hm:MtR X id r)(ho:PE X o to)(ha:PA X (e::es) t)
  (hbase:attributeBase o name X.env (eval o X.env)=eval o X.env:=by rfl)
  (hfew:((backTo cpos (starEach (e::es) X.env)).all (fun x=>!x.1)&&(backToKw cpos (keywordEach [] X.env)).all (fun x=>x.1.isSome)
   && decide ((e::es).length+([]:List Keyword).length+(if ([]:List Keyword).isEmpty then 0 else 1)<30))=true:=by rfl)
  (hline:(apos.endLine==cpos.line)=true:=by rfl) (hs:starEach (e::es) X.env=(false,eval e X.env)::starEach es X.env:=by rfl) (hplain:(backTo cpos (starEach es X.env)).any (·.1)=false:=by rfl) :
  PE X (.Call (.Attribute o name apos) (e::es) [] cpos) (tBM X.K T r to t):=by
 intro pins s σ H Q I h
 refine wpAny_Call_method_late hbase hfew hline rfl (thn (ho pins s σ H _ I h) fun v s1 ⟨x,H1,I1,r1,ty,q1⟩=>?_)
 obtain⟨h1,h2⟩:=mG I1 r1 ty
 refine⟨T,id,pa,slot,hty,h1,h2,?_⟩
 have hA:=ha cpos pins s1 σ H1 _ I1 q1
 rw[hs] at hA ⊢
 refine Calls.callWith_builtin (by show(false||(backTo cpos (starEach es X.env)).any (·.1))=false;rw[hplain]<;>rfl) (Calls.evalArgs_plain ?_)
 exact thn hA fun us s2 ⟨vs,H2,I2,r2,q2⟩=>hm pins s2 σ H2 x vs v us Q I2 r1 r2 q2
/- xs.append(e), list.index on a module's tuple .. are MtR facts of 06m -/
end
end L2
namespace L2
open PySem PySem.Spec PyProof.Rows
def MtM(X:Cx)(id:String)(r:V->List V->Hp->VK->Prop):Prop :=
 ∀(pins:List (Addr×Obj))(s:Shared)(σ:St)(H:Hp)(x:V)(xs:List V)(v:Value)(us:List Value)(Q:VK),Inv X pins σ H s->RelV x v->Vals xs us->r x xs H Q ->
  wpAny (model X.prog X.w) X.A (call (.builtin id) (v::us)) (EP X pins σ Q) X.xe s
theorem Vals.one:∀{x:V} {us:List Value},Vals [x] us->∃u,us=[u]/\RelV x u
 |_,_,.cons r .nil=>⟨_,rfl,r⟩
theorem Vals.rep{xs:List V}{us:List Value}(h:Vals xs us):∀k:Nat,Vals (U0w k xs).flatten (U0w k us).flatten
 |0=>.nil
 |k+1=>by
  rw[U0t,U0t,U2w,U2w]
  exact Vals.append h (Vals.rep h k)
theorem foldl_rep(its:List Value):∀(k:Nat)(acc:List Value),
  U6g (fun x1 x2=>x1++x2) acc.toArray (U0w k its.toArray)=(acc++(U0w k its).flatten).toArray
 |0,acc=>by simp
 |k+1,acc=>by
  have e:acc.toArray++its.toArray=(acc++its).toArray:=by simp
  have e2:(acc++its)++(U0w k its).flatten=acc++(U0w (k+1) its).flatten:=by
   rw[U0t,U2w,U0z]
  rw[←e2,←foldl_rep its k (acc++its),←e,U0t,U3k]
section
variable{X:Cx}{pins:List (Addr×Obj)}{σ:St}{H:Hp}{s:Shared}{l b:Addr}{xs ys zs:List V}
theorem Inv.sZ{its its':List Value}{n:Nat}{f:Array Value->Array Value}{t':Nat}(I:Inv X pins σ H s)(hH:H l=some (.lst xs))
  (e:s.heap.get? l=some { cls:=.type "list",data:=.seq its.toArray n }) (hf:f its.toArray=its'.toArray) (hv:Vals ys its') (hz:ys.length<=sizeLine) :
  Inv X pins σ (upd H l (.lst ys)) { s with heap:=s.heap.update l (U2v f),toks:=t' }:=by
 have q:=PySem.IsL.update e f
 rw[hf] at q
 refine I.write (x:=l) (e:=l) (by rw[hH];exact trivial) (.inl rfl) (fun b' u hb hu=>(U03 s.heap (U2v f) (U2f hb)).trans hu) ⟨_,q⟩ ?_
 exact⟨hz,its',_,hv,q⟩
theorem Inv.lZ{its:List Value}{t':Nat}(I:Inv X pins σ H s)(hv:Vals ys its)(hz:ys.length<=sizeLine) :
  Inv X pins σ (upd H s.heap.objs.size (.lst ys)) { s with heap:=s.heap.push { cls:=.type "list",data:=.seq its.toArray },toks:=t' } :=
 I.laid (fun _ _ q=>U0c _ q) (U0o _) ⟨hz,its,0,hv,U0u _ rfl⟩
theorem Inv.fresh(I:Inv X pins σ H s):H s.heap.objs.size=none:=I.hok.fresh (U0o _)
theorem Inv.Yp(I:Inv X pins σ H s)(hH:H l=some (.lst xs)):xs.length<=sizeLine/\∃(its:List Value)(n:Nat),Vals xs its/\xs.length=its.length/\s.heap.get? l=some { cls:=.type "list",data:=.seq its.toArray n }:=by
 obtain⟨z,its,n,r,e⟩:=I.hok l _ hH
 exact⟨z,its,n,r,r.length,e⟩
theorem dX{n:Nat}(h:n<=sizeLine):U5r n=false:=by
 unfold U5r
 exact decide_eq_false (by omega)
end
section
variable{X:Cx}
def YJ:V->List V->Hp->VK->Prop:=fun x vs H Q=>∃l xs y,x=.ref l/\vs=[y]/\H l=some (.lst xs)/\xs.length<sizeLine/\Q .non (upd H l (.lst (xs++[y])))
theorem Ik:MtM X "list.append" YJ:=by
 intro pins s σ H x vs v us Q I rx rv h
 obtain⟨l,xs,y,rfl,rfl,hH,hz,q⟩:=h
 cases rx
 obtain⟨u,rfl,ru⟩:=rv.one
 obtain⟨z,its,n,r,hl,e⟩:=I.Yp hH
 refine call_meets F.slot_list_append ⟨_,e,rfl⟩ F.entry_list_append (F.args_list_append_2 _ _) (PySem.list_append l its.toArray n u (by rw[U0m];omega)) ⟨e,?_⟩
 refine⟨.non,_,I.sZ (its':=its++[u]) hH e (by simp) (r.append (.cons ru .nil)) ?_,rfl,q⟩
 rw[U0h,U3o]
 omega
def lW:R2:=fun x y H Q=>∃l b xs zs,x=.ref l/\y=.ref b/\H l=some (.lst xs)/\H b=some (.lst zs)/\xs.length+zs.length<=sizeLine/\∀p,H p=none->Q (.ref p) (upd H p (.lst (xs++zs)))
theorem nR:OpR X (binaryOp .Add) lW:=by
 intro pins s σ H x y v u Q I rx ry h
 obtain⟨l,b,xs,zs,rfl,rfl,hH,hB,hz,q⟩:=h
 cases rx
 cases ry
 obtain⟨z,its,n,r,hl,e⟩:=I.Yp hH
 obtain⟨z2,its2,n2,r2,hl2,e2⟩:=I.Yp hB
 refine PySem.P.add_list e e2 ?_ (by rw[U0m,U0m];omega)
 have ea:its.toArray++its2.toArray=(its++its2).toArray:=by simp
 rw[ea]
 exact⟨.ref _,_,I.lZ (t':=s.toks) (r.append r2) (by rw[U0h];omega),rfl,q _ I.fresh⟩
def lO:R2:=fun x y H Q=>∃l k xs,x=.ref l/\y=.int k/\H l=some (.lst xs)/\-(2^63)<=k/\k<2^63/\xs.length*k.toNat<=sizeLine /\
 ∀p,H p=none->Q (.ref p) (upd H p (.lst (U0w k.toNat xs).flatten))
theorem len_rep{α:Type}(xs:List α)(k:Nat):(U0w k xs).flatten.length=k*xs.length:=by
 induction k with
 |zero=>simp
 |succ k ih=>rw[U0t,U2w,U0h,ih,Nat.succ_mul,Nat.add_comm]
theorem nM:OpR X (binaryOp .Mult) lO:=by
 intro pins s σ H x y v u Q I rx ry h
 obtain⟨l,k,xs,rfl,rfl,hH,h1,h2,hz,q⟩:=h
 cases rx
 obtain⟨t,rfl⟩:=ry
 obtain⟨z,its,n,r,hl,e⟩:=I.Yp hH
 have hlen:its.toArray.size*k.toNat<=sizeLine:=by rw[U0m,←hl];exact hz
 have hcap:¬its.toArray.size*k.toNat>(2^63-1)/8:=by
  have:(sizeLine:Nat)<=(2^63-1)/8:=by decide
  omega
 have hfit:¬(!Builtin.List.listFitsIndex k)=true:=by
  rw[fitsIndex_both h1 h2]
  exact U1b
 have hlong:¬U5r (its.toArray.size*k.toNat)=true:=by
  rw[dX hlen]
  exact U1b
 have hnew:U6g (fun x1 x2=>x1++x2) #[] (U0w (if its.toArray.isEmpty=true then 0 else k.toNat) its.toArray)=(U0w k.toNat its).flatten.toArray:=by
  have f0:∀m:Nat,U6g (fun x1 x2=>x1++x2) #[] (U0w m its.toArray)=(U0w m its).flatten.toArray:=fun m=>by
   have:=foldl_rep its m []
   rw[U1x] at this
   exact this
  rw[f0]
  cases its with
  |nil=>simp
  |cons a r'=>rw[if_neg (by simp)]
 refine wpAny_binaryOp_repeat_ref (T:="list") (U:="int") (by decide) ⟨_,e,rfl⟩ (fun s'=>typeIs_int s' k t) noFill_list_mul F.fills_int_mul F.slot_int_rmul repeat_list F.slot_int_index.lookup
  (call_meets F.slot_int_rmul (typeIs_int s k t) F.entry_int_rmul (F.args_int_rmul_2 _ _) (int___rmul___int_list k t l its.toArray n)
   ⟨e,rfl,⟨_,e,rfl⟩,call_meets F.slot_list_mul ⟨_,e,rfl⟩ F.entry_list_mul (F.args_list_mul_2 _ _) (AutoListH.list___mul___list_int_3 l its.toArray n k t hfit hcap hlong) ⟨e,?_⟩⟩)
 rw[hnew]
 exact⟨.ref _,_,I.lZ (t':=s.toks) (r.rep k.toNat) (by rw[len_rep,U7r];exact hz),rfl,q _ I.fresh⟩
end
section
variable{prog:Program}{w:World}{A:Around}{E:Value->Shared->Prop}{s:Shared}
set_option maxRecDepth 100000 in
end
section
variable{X:Cx}
end
end L2
namespace Att
open PySem PySem.W PySem.Calls PyProof.Rows
theorem Tj{P:Params}{h:Heap}:∀(ns:List Int)(vs:List Value),WellAll P h vs (ns.map WData.int)->IntsAre vs ns:=by
 intro ns
 induction ns with
 |nil =>
  intro vs w
  rw[U1n] at w
  cases w
  exact .nil
 |cons n ns ih =>
  intro vs w
  rw[U0r] at w
  cases w with
  |cons a b =>
   cases a
   exact .cons _ _ (ih _ b)
theorem aP{l:OpenLaw}{n:Nat}(hn:l.most=some n){P:Params}{h:Heap}{args:List WData}{vals:List Value}
  (hpre:l.row.toRowW.claim.pre args=true) (hwl:WellAll P h vals args) :
  ∃a vs ns,vals=[U3c a]/\args=[WData.list (ns.map WData.int)]/\h.get? a=some { cls:=.type "list",data:=.seq vs.toArray }/\IntsAre vs ns/\ns.length<=n:=by
 have hsh:WShape.hasAll [] args [.list .int]=true:=(pre_splitW hpre).1
 have hc:l.pre.holds [] { args:=args }=true:=(pre_splitW hpre).2
 obtain⟨d,r,rfl,h1,h2⟩:=hasAllW_cons hsh
 obtain rfl:=hasAllW_nil h2
 obtain⟨xs,rfl,h3⟩:=hasW_list h1
 obtain⟨ns,rfl⟩:=items_int h3
 have hlen:ns.length<=n:=by
  unfold OpenLaw.pre at hc
  have h4:(WTm.not (.lt (.lit (.int (n:Int))) (.len (.arg 0)))).holds [] { args:=[.list (ns.map .int)] }=true:=by
   have h4:=(holds_andW hc).1
   rw[hn] at h4
   exact h4
  have h5:=condW_of h4 (w_not (w_lt w_lit (w_len_list (w_arg rfl))))
  rw[U0f] at h5
  refine Nat.le_of_not_lt fun q=>?_
  have q':(n:Int)<((ns.length:Nat):Int):=by omega
  first
   |(rw[decide_eq_true q'] at h5;exact absurd h5 (by decide))
   |(simp at h5;omega)
 cases hwl with
 |cons w1 w2 =>
  cases w2
  cases w1 with
  |list ho hall=>exact⟨_,_,ns,rfl,rfl,ho,Tj ns _ hall,hlen⟩
theorem aU(l:OpenLaw)(args:List WData):l.row.toRowW.claim.post args (.bool true) args=true :=
 postW_of (r:=l.row.toRowW) (X:=(true==true))
  (show WShape.has [] (.bool true) .bool=true by first|rfl|decide|simp[WShape.has,WShape.arms,WShape.armsAll])
  (show(WTm.eq .res (.lit (.bool true))).value [] { args:=args,res:=some (.bool true),after:=args }=some (.bool (true==true)) from w_eq_bool (w_res rfl) w_lit) rfl
theorem ZQ{R:WRecords}{cl:Str->Option Addr}{h:Heap}{a:Addr}{ds:List WData}{as:List Addr}(r:ReadsAllW R cl h [.ref a] [.list ds] as)(lo:∀b∈as,(b==sysModules)=false):a≠sysModules:=by
 cases r with
 |cons r1 _ =>
  cases r1 with
  |list _ _ _ _=>exact fun z=>by have:=lo a (by simp);rw[z] at this;simp at this
theorem Y0{l:OpenLaw}{n:Nat}{q:Program}{loose:List Str}{XP:(Str->Option Value)->Heap->Prop}{YP:World->Heap->Prop}{d:DefRec}
  (hn:l.most=some n) (hdf:d.params.defaults=[])
  (call:∀(w:World)(s₀ s₁:Shared)(mg mb:Str->Option Value)(fa:Addr)(o:Obj)(pm cd doc:Value)(a:Addr)(vs:List Value)(ns:List Int),
   Ground q loose [] XP w s₀ mg mb s₁.heap->YP w s₁.heap ->
   s₁.heap.get? fa=some o->o.data=.func (docDef d.name d.params d.body d.scope pm cd doc)->s₁.heap.CodeRec cd d.name->mg d.name=some (.ref fa) ->
   s₁.heap.get? a=some { cls:=.type "list",data:=.seq vs.toArray }->IntsAre vs ns->ns.length<=n->a≠sysModules->s₁.gens=#[] ->
   codeAny (model l.prog w) callerA (.call (.ref fa) ⟨[.ref a],[]⟩) (fun r s'=>r=.ok (.ret (.bool true))/\OldK s₁.heap s'.heap/\s'.os=s₁.os/\AllBare s'.gens) s₁) :
  WalkO q loose XP YP l.row.toRowW d [] (fun f vs=>U7j f vs):=by
 intro w s₀ s₁ mg mb G Y fa o pm cd doc dV kV ho hd hcd hD hmg hg args vals as hpre hlay hrd hwl hlo
 obtain rfl:dV=.none:=Dflts.none hD hdf
 obtain rfl:kV=.none:=Dflts.noKw hD
 obtain⟨a,vs,ns,rfl,rfl,hobj,hints,hlen⟩:=aP hn hpre hwl
 refine enter_call (codeAny_mono (call w s₀ s₁ mg mb fa o pm cd doc a vs ns G Y ho (fd_plain hd) hcd hmg hobj hints hlen (ZQ hrd hlo) hg) fun r s' hq=>?_)
 obtain⟨rfl,h2,h3,h4⟩:=hq
 exact⟨.inl ⟨.bool true,.bool true,[],rfl,fun _=>rfl,.bool true,aU l _,fun _=>⟨U6w,fun _ hm=>(nomatch hm)⟩⟩,h2,h3,h4⟩
section
variable{prog:Program}{w:World}{A:Around}{E:Value->Shared->Prop}{s:Shared}{K:Frag}
end
end Att
namespace L2
open PySem PySem.Spec PyProof.Rows
theorem Pz:∀{vs:List Value} {ns:List Int},IntsAre vs ns->Vals (ns.map V.int) vs
 |_,_,.nil=>.nil
 |_,_,.cons n t h=>.cons ⟨t,rfl⟩ (Pz h)
def Only(H:Hp):Prop:=∀b,H b=none∨∃o xs,H b=some (.frz o (.lst xs))
theorem eF{P:Program}{w:World}{K:U0b}{mg mb:Str->Option Value}{CX:CXT}{k:Nat}{fa a:Addr}{fd:FuncData}{x:Str}{sp:Sp}{s₁:Shared}{vs:List Value}{ns:List Int}
  (KX:K.In s₁.heap) (hns:s₁.heap.Ns mainGlobals mg) (hb:s₁.heap.Ns builtinsNs mb) (hbb:∀x:Str,x≠"__name__"->mb x=bootBuiltins x) (hlim:s₁.heap.NoLimit) (hg:s₁.gens=#[])
  (ha:s₁.heap.get? a=some { cls:=.type "list",data:=.seq vs.toArray }) (hi:IntsAre vs ns) (hl:ns.length<=sizeLine) (hasy:a≠sysModules) (hr:Em k callerA)
  (F:∀base:Heap,K.In base->base.Ns mainGlobals mg->Cy P w K mg base CX k fa fd [x] sp) (hbind:∀(s:Shared)(u:Value),BindsTo s fd ⟨[u],[]⟩ [(x,u)])
  (hsp:∀H:Hp,Only H->SqL K H a (ns.map V.int)->sp [.ref a] H (fun v _=>v=.bl true) fun _ _ _=>False)
  (hCX:∀H e s',CX [] H s₁ (fun _ _ _=>False) e s'->False) :
  codeAny (model P w) callerA (.call (.ref fa) ⟨[.ref a],[]⟩) (fun r s'=>r=.ok (.ret (.bool true))/\OldK s₁.heap s'.heap/\s'.os=s₁.os/\AllBare s'.gens) s₁:=by
 have rv:=Pz hi
 have lenV:=hi.length
 -- from an abstract heap in which nothing but the script may be tracked
 have core:∀H:Hp,Only H->SqL K H a (ns.map V.int)->HOk P w H s₁.heap->(∀b,H b≠none->b=a)->(H a≠none->K.lookup a=none) ->
   codeAny (model P w) callerA (.call (.ref fa) ⟨[.ref a],[]⟩) (fun r s'=>r=.ok (.ret (.bool true))/\OldK s₁.heap s'.heap/\s'.os=s₁.os/\AllBare s'.gens) s₁:=by
  intro H hO hS hok hA hK
  have base_of:∀{b:Addr} {o:Obj},s₁.heap.get? b=some o->H b=none->(O9 s₁.heap H).get? b=some o:=fun e n=>eX e n
  have noA:∀{b:Addr} {o:Obj} {es:Array DictEntry} {ep:Nat},s₁.heap.get? b=some o->o.data=.dict es ep->H b=none:=fun {b o es ep} e d=>by
   cases q:H b with
   |none=>rfl
   |some u =>
    have e':b=a:=hA b (by rw[q];simp)
    subst e'
    rw[ha] at e;cases e
    have d':Data.seq vs.toArray _=Data.dict es ep:=d
    cases d'
  have nsK:∀{b:Addr} {m:Str->Option Value},s₁.heap.Ns b m->(O9 s₁.heap H).Ns b m:=fun {b m} ⟨o,es,ep,e,d,r⟩=>⟨o,es,ep,base_of e (noA e d),d,r⟩
  have hKb:K.In (O9 s₁.heap H):=fun b o e=>base_of (KX b o e) (by
   cases q:H b with
   |none=>rfl
   |some u =>
    have e':b=a:=hA b (by rw[q];simp)
    subst e'
    rw[hK (by rw[q];simp)] at e;cases e)
  have hM:Mod K mg (O9 s₁.heap H):=⟨hKb,nsK hns,⟨mb,nsK hb,hbb⟩,let ⟨mc,h1,h2⟩:=hlim;⟨mc,nsK h1,h2⟩⟩
  have e0:Yt P w K mg (O9 s₁.heap H) callerA [] s₁ H:=⟨rfl,hM,fun b o e=>jC e,U7s (bH _ _),trivial,fun b hb=>absurd (show b∈([]:List Addr) from hb) (by simp),hok,.of_eq hg,Classical.byContradiction fun z=>hasy (hA _ z).symm⟩
  refine codeAny_mono ((F _ hKb (nsK hns)).run callerA [] s₁ H ⟨[.ref a],[]⟩ [.ref a] [.ref a] _ _ hr e0 (hbind s₁ (.ref a)) (.cons rfl .nil) (hsp H hO hS)) fun r s' h=>?_
  cases r with
  |error e=>exact(hCX H e s' h).elim
  |ok fl =>
   cases fl with
   |next=>exact U4c h
   |brk=>exact U4c h
   |cont=>exact U4c h
   |ret u =>
    obtain⟨v,H',os,bare,un,hok',r',q⟩:=h
    have q':v=.bl true:=q
    subst q'
    obtain rfl:u=U4r true:=r'
    refine⟨rfl,OldK.of_keep fun b o e=>?_,os,bare⟩
    cases q:H b with
    |none=>exact un.keep b o e q (by intro z;exact absurd (show b∈([]:List Addr) from z) (by simp)) (by simp)
    |some u =>
     rcases hO b with z|⟨ob,xs,z⟩
     .rw[q] at z;cases z
     .have z2:=un.frzs b ob _ z
      obtain⟨e1,_⟩:=hok b _ z
      obtain⟨e2,_⟩:=hok' b _ z2
      rw[e] at e1;cases e1
      exact e2
 cases hk:K.lookup a with
 |some o =>
  -- the script is one of the module's own objects
  have e:=KX a o hk
  rw[ha] at e
  cases e
  refine core (fun _=>none) (fun _=>.inl rfl) (.inr ⟨_,vs.toArray,_,hk,rfl,rfl,rfl,by rw[U0m,lenV];exact hl,by simpa using rv⟩) (fun b u z=>by have z':(none:Option HO)=some u:=z;cases z') (fun b z=>absurd rfl z) fun z=>absurd rfl z
 |none =>
  refine core (fun b=>if b=a then some (.frz { cls:=.type "list",data:=.seq vs.toArray } (.lst (ns.map V.int))) else none) (fun b=>?_) (.inl (.inr ⟨{ cls:=.type "list",data:=.seq vs.toArray },if_pos rfl⟩)) (fun b u z=>?_) (fun b z=>?_) fun _=>hk
  .by_cases hb:b=a
   .exact .inr ⟨_,_,if_pos hb⟩
   .exact .inl (if_neg hb)
  .by_cases hb:b=a
   .have z':=(if_pos hb).symm.trans z
    cases z'
    subst hb
    exact⟨ha,by rw[U0f];exact hl,vs,_,rv,ha⟩
   .have z':=(if_neg hb).symm.trans z
    cases z'
  .by_cases hb:b=a
   .exact hb
   .exact absurd (if_neg hb) z
end L2
namespace L2
open PySem PySem.Spec PyProof.Rows
abbrev KOf{K:U0b}{h:Heap}(_:K.In h):U0b:=K
theorem walk_of{l:U6h}{n k:Nat}{q:Program}{loose:List Str}{XP:(Str->Option Value)->Heap->Prop}{YP:World->Heap->Prop}{d:DefRec}{K:Params->U0b}{CX:World->CXT}{sp:World->Sp}{x:Str}
  (hn:l.most=some n) (hn2:n<=sizeLine) (hdf:d.params.defaults=[]) (hr:Em k callerA)
  (hY:∀(w:World)(h:Heap),YP w h->(K w.params).In h)
  (F:∀(w:World)(mg:Str->Option Value)(fa:Addr)(h:Heap),(K w.params).In h->h.Ns mainGlobals mg->mg d.name=some (.ref fa) ->
   ∃fd:FuncData,(∀(s:Shared)(u:Value),BindsTo s fd ⟨[u],[]⟩ [(x,u)]) /\
    ∀base:Heap,(K w.params).In base->base.Ns mainGlobals mg->Cy l.prog w (K w.params) mg base (CX w) k fa fd [x] (sp w))
  (hsp:∀(w:World)(H:Hp)(a:Addr)(ns:List Int),ns.length<=n->Only H->SqL (K w.params) H a (ns.map V.int)->sp w [.ref a] H (fun v _=>v=.bl true) fun _ _ _=>False)
  (hCX:∀(w:World)(H:Hp)(s:Shared)(e:Value)(s':Shared),CX w [] H s (fun _ _ _=>False) e s'->False) :
  U7m q loose XP YP l.row.toRowW d [] (fun f vs=>U7j f vs):=by
 refine Att.Y0 hn hdf fun w s₀ s₁ mg mb fa o pm cd doc a vs ns G Y ho hd hcd hmg hobj hints hlen hasy hg=>?_
 have KX:=hY w _ Y
 obtain⟨fd,hb,hF⟩:=F w mg fa _ KX G.T.g hmg
 exact eF KX G.T.g G.T.b G.T.builtins G.T.nolimit hg hobj hints (U1d hlen hn2) hasy hr hF hb (fun H hO hS=>hsp w H a ns hlen hO hS) fun H e s'=>hCX w H s₁ e s'
theorem cV{l:U6h}{n k:Nat}{q:Program}{loose:List Str}{XP:(Str->Option Value)->Heap->Prop}{YP:World->Heap->Prop}{d:DefRec}{K:Params->U0b}{CX:CXT}{sp:U0b->Sp}{x:Str}
  (hn:l.most=some n) (hn2:n<=sizeLine) (hdf:d.params.defaults=[]) (hr:Em k callerA)
  (hY:∀(w:World)(h:Heap),YP w h->(K w.params).In h)
  (F:∀(w:World)(mg:Str->Option Value)(fa:Addr)(h:Heap),(K w.params).In h->h.Ns mainGlobals mg->mg d.name=some (.ref fa) ->
   ∃fd:FuncData,(∀(s:Shared)(u:Value),BindsTo s fd ⟨[u],[]⟩ [(x,u)]) /\
    ∀base:Heap,(K w.params).In base->base.Ns mainGlobals mg->Cy l.prog w (K w.params) mg base CX k fa fd [x] (sp (K w.params)))
  (hsp:∀(K:U0b)(H:Hp)(a:Addr)(ns:List Int),ns.length<=n->Only H->SqL K H a (ns.map V.int)->sp K [.ref a] H (fun v _=>v=.bl true) fun _ _ _=>False)
  (hCX:∀(H:Hp)(s:Shared)(e:Value)(s':Shared),CX [] H s (fun _ _ _=>False) e s'->False) :
  U7m q loose XP YP l.row.toRowW d [] (fun f vs=>U7j f vs) :=
 walk_of (K:=K) (CX:=fun _=>CX) (sp:=fun w=>sp (K w.params)) hn hn2 hdf hr hY F (fun w H a ns h1 h2 h3=>hsp (K w.params) H a ns h1 h2 h3) fun _ H s e s'=>hCX H s e s'
end L2
/- THE LAST THEOREM (shape; LID, My.* are yours):
   My.Adr: a structure of the addresses that your layer names (classes, functions); My.Txt K t: a structure (Prop) of the equations over K;
   My.txt_mk : {K} {implicit addresses ..} (e1 : nsIn K mainGlobals "law" = some (some (.ref f))) (e2 : K.lookup f = some ⟨oc, od, .func (fnOf "law" "law" params body scope dV kV doc pm an cdv ct), sl⟩) (e3 : codeIn K cdv "law" = true) .. : ∃ t, My.Txt K t

set_option maxRecDepth 100000 in
set_option maxHeartbeats 0 in
theorem PySem.Challenge.cw_LID_holds : PySem.Challenge.rw_LID.Holds := by
  w_on; o_law; k_head; (case hw => w_witness2)
  k_fill
  refine L2.walk_of (l := PySem.Challenge.rw_LID) (n := 63) (k := 40) (x := "script") (CX := fun w => ..) (sp := fun _ => My.sp_law) rfl (by decide) rfl ⟨rfl, by decide, by decide⟩ (fun w h Y => PySem.W.kIn_of Y) ?F ?S ?C
  case F =>
    intro w mg fa h KX G hmg
    have T : ∃ t, My.Txt (L2.KOf KX) t := by
      dsimp only [L2.KOf]                          -- K must stand as «<heap const> w.params» for k_is
      refine' My.txt_mk ?e1 ?e2 ?e3 ..
      (case e1 => PySem.W.k_is)                    -- in the order: a name -> its address -> its object -> its parts
      (case e2 => PySem.W.k_is)
      ..
    obtain ⟨t, T⟩ := T
    have e0 := hmg.symm.trans (PySem.W.mg_of KX G T.law)
    cases e0                                       -- fa is the law's own address
    exact ⟨_, fun s u => .of_eq rfl, fun base kb nb => My.law_fn T kb nb⟩     -- if «.of_eq rfl» comes too early: refine' ⟨_, ?b, fun base kb nb => My.law_fn T kb nb⟩; exact fun s u => .of_eq rfl
  case S => exact fun w H a ns hl hO hS => ..
  case C => exact ..
(the tactic k_is has no namespace: write k_is) -/
namespace L2
open PySem PySem.Spec PyProof.Rows
def CV(s:Stmt):Arguments:=match s with
 |.FunctionDef _ a _ _ _ _ _ _ _ _=>a
 |_=>{ posonlyargs:=[],args:=[],vararg:=none,kwonlyargs:=[],kw_defaults:=[],kwarg:=none,defaults:=[] }
def CG(s:Stmt):List Stmt:=match s with
 |.FunctionDef _ _ b _ _ _ _ _ _ _=>b
 |_=>[]
def Aq(s:Stmt):Scope:=match s with
 |.FunctionDef _ _ _ _ _ _ sc _ _ _=>sc
 |_=>{ kind:=.function,names:=[],isGenerator:=false,isCoroutine:=false }
abbrev CX0:CXT:=fun _ _ _ _ _ _=>False
abbrev E0:XK:=fun _ _ _=>False
theorem qb{X:Cx}:Passes CX0 X E0:=fun _ _ _ _ _ _ _ h=>h.elim
structure Fun(K:U0b)(x qual:Str)(st:Stmt)(f:Addr)(fd:FuncData):Prop where
 ex:∃(oc:Value)(od:Option Addr)(kV doc pm:Value)(an:Option Addr)(cdv ct:Value)(osl:Array (Option Value)),
  fd=U09 x qual (CV st) (CG st) (Aq st) .none kV doc pm an cdv ct/\K.lookup f=some ⟨oc,od,.func fd,osl⟩/\U07 K cdv qual=true
 kp:U01 K (.ref f)=true
section
variable{P:Program}{w:World}{K:U0b}{mg:Str->Option Value}{base:Heap}
theorem Fun.ok{x qual:Str}{st:Stmt}{f:Addr}{fd:FuncData}{N ps:List Str}{k:Nat}{sp:Sp}(F:Fun K x qual st f fd)(S:CW N ps (Aq st))(len:∀vs H Q E,sp vs H Q E->vs.length=ps.length)
  (hbody:∀(cdv:Value)(A:Around)(outer:List Env)(s:Shared)(H:Hp)(vs:List V)(Q:VK)(E:XK),Em k (A.deeper (envOfC qual (Aq st) s.heap.objs.size f cdv))->sp vs H Q E ->
   ∃t,PSs (PL CX0 P w K mg base N qual (Aq st) f cdv A outer s H E).nox (CG st) t/\t { nx:=fun _ H'=>Q .non H',rt:=Q } (start N vs) H):Cy P w K mg base CX0 (k+1) f fd ps sp:=by
 obtain⟨oc,od,kV,doc,pm,an,cdv,ct,osl,rfl,lk,hcd⟩:=F.ex
 refine rA lk hcd S len fun A outer s H vs Q E hr hsp=>?_
 obtain⟨t,h,q⟩:=hbody cdv A outer s H vs Q E hr hsp
 exact⟨t,h.nox,q⟩
theorem Fun.binds{x qual:Str}{st:Stmt}{f:Addr}{fd:FuncData}{ps:List Str}(F:Fun K x qual st f fd)
  (h:∀(kV doc pm:Value)(an:Option Addr)(cdv ct:Value)(us:List Value),us.length=ps.length->bindArgs (U09 x qual (CV st) (CG st) (Aq st) .none kV doc pm an cdv ct) ⟨us,[]⟩=pure (ps.zip us)):Binds K fd ps []:=by
 obtain⟨oc,od,kV,doc,pm,an,cdv,ct,osl,rfl,lk,hcd⟩:=F.ex
 exact .all (h kV doc pm an cdv ct)
theorem Dl{x qual:Str}{st:Stmt}{f:Addr}{oc:Value}{od an:Option Addr}{osl:Array (Option Value)}{kV doc pm cdv ct:Value}(l:K.lookup f=some ⟨oc,od,.func (U09 x qual (CV st) (CG st) (Aq st) .none kV doc pm an cdv ct),osl⟩)
  (c:U07 K cdv qual=true) (k:U01 K (.ref f)=true):Fun K x qual st f (U09 x qual (CV st) (CG st) (Aq st) .none kV doc pm an cdv ct):=⟨⟨oc,od,kV,doc,pm,an,cdv,ct,osl,rfl,l,c⟩,k⟩
end
theorem aM{n:Nat}(h:n<=1000):n<sizeLine:=U31 h (by decide)
section
variable{X:Cx}
theorem pv(i:Nat){x:Str}{pos:Pos}(hN:X.N[i]?=some x:=by rfl)(hv:Vis X.env.scope x:=by first|exact U7t rfl|exact U65 (U7t rfl)|exact U65 (U65 rfl))(hd:(x==("__debug__":Str))=false:=by decide)
  (hcd:(x==("__classdict__":Str))=false:=by decide):PE X (.Name x pos) (lC i):=Zo hN hv hd hcd
end
def Same(H H':Hp):Prop:=∀b o,H b=some o->H' b=some o
theorem Same.refl(H:Hp):Same H H:=fun _ _ h=>h
theorem Same.free{H H':Hp}(e:Same H H'){l:Addr}(h:H' l=Option.none):H l=Option.none:=by
 cases q:H l with
 |none=>rfl
 |some o =>
  rw[e l o q] at h
  cases h
end L2
end
section
namespace SetP
open PySem
def Ja(xs:Array Nat):Prop:=xs.toList.Pairwise (·<·)
theorem dB:Ja #[]:=U6w
theorem ZF(n:Nat):Ja (Array.range n):=by
 unfold Ja
 rw[Array.toList_range]
 exact List.pairwise_lt_range
theorem Ja.lt{xs:Array Nat}(h:Ja xs){i k:Nat}(hik:i<k)(hk:k<xs.size):xs.getD i 0<xs.getD k 0:=by
 have q:=U3q.mp h i k (by rw[U0g];omega) (by rw[U0g];exact hk) hik
 rw[U22,U22,U15 (by omega),U15 hk]
 simpa using q
theorem Ja.le{xs:Array Nat}(h:Ja xs){i k:Nat}(hik:i<=k)(hk:k<xs.size):xs.getD i 0<=xs.getD k 0:=by
 rcases Nat.lt_or_eq_of_le hik with z|z
 .exact U2r (h.lt z hk)
 .rw[z];exact U0o _
theorem Uc{xs:Array Nat}{j:Nat}(h:Ja xs):∀(fuel lo hi:Nat),lo<=hi->hi<=xs.size->hi-lo<=fuel->(∀i,i<lo->xs.getD i 0<j)->(∀i,hi<=i->i<xs.size->j<=xs.getD i 0) ->
  U4z xs j fuel lo hi<=xs.size/\(∀i,i<U4z xs j fuel lo hi->xs.getD i 0<j)/\∀i,U4z xs j fuel lo hi<=i->i<xs.size->j<=xs.getD i 0
 |0,lo,hi,h1,h2,h3,h4,h5=>by
  have e:lo=hi:=by omega
  subst e
  unfold U4z
  exact⟨h2,h4,h5⟩
 |fuel+1,lo,hi,h1,h2,h3,h4,h5=>by
  unfold U4z
  by_cases hlt:lo<hi
  .rw[if_pos hlt]
   have hm:(lo+hi)/2<hi:=by omega
   have hl:lo<=(lo+hi)/2:=by omega
   have e:xs.getD ((lo+hi)/2) j=xs.getD ((lo+hi)/2) 0:=by
    rw[U22,U22,U15 (by omega)]
    rfl
   dsimp only
   rw[e]
   by_cases hc:xs.getD ((lo+hi)/2) 0<j
   .rw[if_pos hc]
    exact Uc h fuel _ hi (by omega) h2 (by omega) (fun i hi'=>U31 (h.le (by omega) (by omega)) hc) h5
   .rw[if_neg hc]
    exact Uc h fuel lo _ (by omega) (by omega) (by omega) h4 (fun i hi' hs=>U1d (Nat.le_of_not_lt hc) (h.le hi' hs))
  .rw[if_neg hlt]
   have e:lo=hi:=by omega
   subst e
   exact⟨h2,h4,h5⟩
theorem Ou{xs:Array Nat}{j:Nat}(h:Ja xs):U1o xs j<=xs.size/\(∀i,i<U1o xs j->xs.getD i 0<j)/\∀i,U1o xs j<=i->i<xs.size->j<=xs.getD i 0:=by
 unfold U1o
 exact Uc h xs.size 0 xs.size (U3f _) (U0o _) (by omega) (fun i hi=>absurd hi (Nat.not_lt_zero _)) fun i h1 h2=>absurd h2 (by omega)
theorem Tc{xs:Array Nat}(h:Ja xs){i:Nat}(hi:i<xs.size):U1o xs (xs.getD i 0+1)=i+1:=by
 obtain⟨a,b,c⟩:=Ou (j:=xs.getD i 0+1) h
 generalize U1o xs (xs.getD i 0+1)=r at a b c
 rcases Nat.lt_trichotomy r (i+1) with z|z|z
 .have:=c i (by omega) hi;omega
 .exact z
 .have h1:=b (i+1) z
  have h2:xs.getD i 0<xs.getD (i+1) 0:=h.lt (U59 i) (by omega)
  omega
theorem TY{xs:Array Nat}(h:Ja xs):U1o xs 0=0:=by
 obtain⟨a,b,c⟩:=Ou (j:=0) h
 generalize U1o xs 0=r at a b c
 cases r with
 |zero=>rfl
 |succ r=>exact absurd (b 0 (by omega)) (Nat.not_lt_zero _)
theorem Xm{xs:Array Nat}{j:Nat}(h:Ja xs)(hn:xs[U1o xs j]?≠some j):Ja (SetTable.insertAt xs (U1o xs j) j):=by
 obtain⟨a,b,c⟩:=Ou (j:=j) h
 unfold Ja
 rw[SetTable.toList_insertAt]
 generalize U1o xs j=p at a b c hn
 have getT:∀i,i<xs.size->xs.toList[i]?=some (xs.getD i 0):=fun i hi=>by
  rw[U2m,U22,U15 hi];rfl
 refine U1g.mpr ⟨h.sublist (U50 _ _),U12.mpr ⟨fun y hy=>?_,h.sublist (U6x _ _)⟩,fun x hx y hy=>?_⟩
 .obtain⟨i,hi⟩:=U36.mp hy
  rw[U6r] at hi
  have hlt:p+i<xs.size:=by
   have:=(U0k.mp hi).1
   rwa [U0g] at this
  rw[getT _ hlt] at hi
  have e:=U00 hi
  have h1:=c (p+i) (U49 _ _) hlt
  rw[←e]
  rcases Nat.lt_or_eq_of_le h1 with z|z
  .exact z
  .exfalso
   have hp:p<xs.size:=by omega
   have h2:=c p (U0o _) hp
   have h3:=h.le (U49 p i) hlt
   have h4:xs.getD p 0=j:=by omega
   apply hn
   have:=getT p hp
   rw[U2m] at this
   rw[this,h4]
 .have hxj:x<j:=by
   obtain⟨i,hi⟩:=U36.mp hx
   have hip:i<p:=by
    have:=(U0k.mp hi).1
    rw[U1i] at this;omega
   rw[List.getElem?_take_of_lt hip] at hi
   have hlt:i<xs.size:=by
    have:=(U0k.mp hi).1
    rwa [U0g] at this
   rw[getT _ hlt] at hi
   rw[←U00 hi]
   exact b i hip
  rcases U0q.mp hy with z|z
  .rw[z];exact hxj
  .obtain⟨i,hi⟩:=U36.mp z
   rw[U6r] at hi
   have hlt:p+i<xs.size:=by
    have:=(U0k.mp hi).1
    rwa [U0g] at this
   rw[getT _ hlt] at hi
   rw[←U00 hi]
   exact U1a hxj (c (p+i) (U49 _ _) hlt)
def Off(t:SetTable)(j:Nat):Prop:=t.place[U1o t.place j]?≠some j
theorem Qz{t:SetTable}{j:Nat}(h:∀i,t.slot j≠.live i):Off t j:=fun e=>by
 apply h (U1o t.place j)
 unfold SetTable.slot
 dsimp only
 rw[e]
 simp
theorem Q6{t:SetTable}{f:Nat->Int}{h:Int}{j:Nat}{d:Option Nat}:∀(fuel:Nat)(p:SetTable.Probe),(∀d,p.dummy=some d->Off t d)->U6y t f h fuel p=some (.empty j d)->Off t j/\∀d',d=some d'->Off t d'
 |0,_,_,e=>by unfold U6y at e;cases e
 |fuel+1,p,hp,e=>by
  unfold U6y at e
  cases hs:t.slot p.j with
  |empty =>
   rw[hs] at e
   have e':=U00 e
   cases e'
   exact⟨Qz (fun i z=>by rw[hs] at z;exact SetTable.Slot.noConfusion z),hp⟩
  |dummy =>
   rw[hs] at e
   refine Q6 fuel _ (fun d' hd=>?_) e
   have hd':(t.advance { p with dummy:=some p.j }).dummy=some p.j:=by
    unfold SetTable.advance;dsimp only;split<;>rfl
   rw[hd'] at hd
   cases hd
   exact Qz fun i z=>by rw[hs] at z;cases z
  |live i =>
   rw[hs] at e
   dsimp only at e
   split at e
   .cases e
   .refine Q6 fuel _ (fun d' hd=>hp d' ?_) e
    rw[←hd]
    unfold SetTable.advance
    split<;>rfl
theorem Xc{t:SetTable}{h:Int}{j:Nat}{b:Bool}(e:t.freeSlot h=some (j,b)):Off t j:=by
 unfold SetTable.freeSlot at e
 split at e
 .rename_i j' d q
  unfold U6p at q
  obtain⟨o1,o2⟩:=Q6 _ _ (fun d hd=>by unfold SetTable.probeStart at hd;cases hd) q
  have e':=U00 e
  cases d with
  |none=>cases e';exact o1
  |some d=>cases e';exact o2 _ rfl
 .cases e
def TabOk(L:Bool)(t:SetTable):Prop:=Ja t.place/\t.led=L
theorem TabOk.fresh(L:Bool)(f m:Nat):TabOk L (.fresh f m L):=⟨dB,rfl⟩
theorem TabOk.standIn{L:Bool}{t:SetTable}(h:TabOk L t)(n:Nat):TabOk L (t.standIn n):=⟨ZF n,h.2⟩
theorem TabOk.orStandIn{L:Bool}{t:SetTable}(h:TabOk L t)(n:Nat):TabOk L (t.orStandIn n):=by
 unfold SetTable.orStandIn
 split
 .exact h
 .exact h.standIn n
theorem TabOk.gU{L:Bool}{t:SetTable}(h:TabOk L t)(b:Bool):TabOk L { t with plain:=b }:=h
theorem ZV{L:Bool}{t:SetTable}(h:TabOk L t)(es:Array (Int×Value))(k:Int)(x:Value):TabOk L (layNew t es k x).2.1:=by
 unfold layNew
 split
 .rename_i slot wasDummy q
  exact TabOk.orStandIn (t:=(t.put slot).1) ⟨Xm h.1 (Xc q),h.2⟩ _
 .exact h.standIn _
theorem Ri{α:Type}(g:Nat->Option α):∀l:List Nat,List.Sublist ((l.filterMap fun j=>(g j).map (j,·)).map (·.1)) l
 |[]=>List.Sublist.slnil
 |j::r=>by
  rw[U5e]
  cases hg:g j with
  |none=>exact(Ri g r).cons j
  |some a=>exact(Ri g r).cons_cons j
theorem X8{L:Bool}{t:SetTable}(h:TabOk L t)(es:Array (Int×Value))(n:Nat):TabOk L (relayAll t es n).2.1:=by
 unfold relayAll
 split
 .rename_i t' order q
  dsimp only
  split
  .unfold SetTable.relaid SetTable.laid at q
   cases ho:SetTable.layClean (SetTable.sizeAbove n-1) (es.map (·.1)) with
   |none=>rw[ho] at q;cases q
   |some owner =>
    rw[ho] at q
    have q':=U00 q
    cases q'
    refine⟨?_,h.2⟩
    show U56 (·<·) (List.toArray _).toList
    exact List.pairwise_lt_range.sublist (Ri (fun j=>owner.getD j none) _)
  .exact h.standIn _
 .exact h.standIn _
end SetP
end
section
set_option maxRecDepth 100000
namespace SetP
open PySem PyProof.Rows
abbrev Mx(w:World):Bool:=!(w.params.followText "set-order")
structure SetT(prog:Program)(w:World)(h:Heap)(a:Addr)(ds:List Int):Prop where
 nd:ds.Nodup
 ex:∃o es ep t,h.get? a=some o/\o.ExactSet/\o.data=.set es ep t/\ElemsOf (intKind prog w) es.toList/\(∀k,decide (k∈ds)=true↔∃e∈es.toList,(intKind prog w).is k e.2=true) /\
  es.size<scanBound/\t.fits es.size=true/\es.size=ds.length/\TabOk (Mx w) t
def Fv(ds:List Int)(k:Int):List Int:=if k∈ds then ds else ds++[k]
theorem Rx{ds:List Int}(h:ds.Nodup)(k:Int):(Fv ds k).Nodup:=by
 unfold Fv
 split
 .exact h
 .rename_i hk
  exact List.nodup_append.mpr ⟨h,by simp,fun a ha b hb=>by rw[U1f] at hb;subst hb;rintro rfl;exact hk ha⟩
theorem Ut{ds:List Int}{k j:Int}:j∈Fv ds k↔j∈ds∨j=k:=by
 unfold Fv
 split
 .rename_i hk
  exact⟨.inl,fun z=>z.elim id fun e=>e ▸ hk⟩
 .rw[U1e,U1f]
theorem bY(ds:List Int)(k:Int):(Fv ds k).length<=ds.length+1:=by
 unfold Fv
 split
 .omega
 .rw[U0h,U3o];omega
section
variable{prog:Program}{w:World}{A:Around}{E:Value->Shared->Prop}{s:Shared}
theorem SetT.sameBut{h h':Heap}{a:Addr}{ds:List Int}(x:SetT prog w h a ds)(hs:∀o,h.get? a=some o->h'.get? a=some o):SetT prog w h' a ds:=by
 obtain⟨nd,o,es,ep,t,e,r⟩:=x
 exact⟨nd,o,es,ep,t,hs o e,r⟩
theorem SetT.stored{h:Heap}{a:Addr}{o:Obj}{es es':Array (Int×Value)}{ep:Nat}{t t':SetTable}{ds:List Int}(ho:h.get? a=some o)(hex:o.ExactSet)(hd:o.data=.set es ep t)(nd:ds.Nodup)
  (hel:ElemsOf (intKind prog w) es'.toList) (hm:∀k,decide (k∈ds)=true↔∃e∈es'.toList,(intKind prog w).is k e.2=true) (hb:es'.size<scanBound) (hf:t'.fits es'.size=true) (hn:es'.size=ds.length) (ht:TabOk (Mx w) t') :
  (h.update a (Obj.putSet es' t')).get? a=some { o with data:=.set es' (ep+1) t' }/\SetT prog w (h.update a (Obj.putSet es' t')) a ds:=by
 obtain⟨g,_⟩:=SetOf_store (knd:=intKind prog w) ho hex hd hel hm hb hf
 exact⟨g,nd,_,es',ep+1,t',g,hex,rfl,hel,hm,hb,hf,hn,ht⟩
theorem V7{g:Bool->Sem Unit}(hg:∀(b:Bool)(s₁:Shared)(Q':Unit->Shared->Prop),Q' () s₁->wpAny (model prog w) A (g b) Q' E s₁)
  {a:Addr} {o:Obj} {es es1:Array (Int×Value)} {ep:Nat} {t t2:SetTable} {ds:List Int} (ho:s.heap.get? a=some o) (hex:o.ExactSet) (hd:o.data=.set es ep t) (nd:ds.Nodup)
  (hel:ElemsOf (intKind prog w) es1.toList) (hm:∀k,decide (k∈ds)=true↔∃e∈es1.toList,(intKind prog w).is k e.2=true) (hb:es1.size<scanBound) (hf:t2.fits es1.size=true) (hn:es1.size=ds.length) (ht:TabOk (Mx w) t2)
  {dummy:Bool} {R:Option Bool->Shared->Prop} (h:∀h',U1c a s.heap h'->SetT prog w h' a ds->R (some true) { s with heap:=h' }) :
  wpAny (model prog w) A (do
    storeSet a es1 t2
    if (!dummy&&t2.tooFull)=true then do
      g (relayAll t2 es1 (U4e es1.size)).2.2
      storeSet a (relayAll t2 es1 (U4e es1.size)).1 (relayAll t2 es1 (U4e es1.size)).2.1
      pure (some true)
     else pure (some true)) R E s:=by
 obtain⟨g1,T1⟩:=SetT.stored (prog:=prog) (w:=w) ho hex hd nd hel hm hb hf hn ht
 have sb1:=U16 s.heap a (Obj.putSet es1 t2)
 refine U0 (wpAny_storeSet_of ho hd ?_ (fits_of_scanBound hb))
 split
 .have p:=relayAll_perm t2 es1 (U4e es1.size)
  have f:=relayAll_fits t2 es1 (U4e es1.size)
  have tb:=X8 ht es1 (U4e es1.size)
  generalize relayAll t2 es1 (U4e es1.size)=RR at p f tb
  obtain⟨es2,t3,gave⟩:=RR
  have sz:es2.size=es1.size:=by simpa using p.length_eq
  have T2:=SetT.stored (prog:=prog) (w:=w) (es':=es2) (t':=t3) g1 hex rfl nd (hel.perm p) (fun k=>(hm k).trans ⟨fun⟨e,he,q⟩=>⟨e,p.mem_iff.mpr he,q⟩,fun⟨e,he,q⟩=>⟨e,p.mem_iff.mp he,q⟩⟩)
   (by rw[sz];exact hb) f (by rw[sz];exact hn) tb
  refine U0 (hg _ _ _ (U0 (wpAny_storeSet_of g1 rfl ?_ (fits_of_scanBound (by show es2.size<_;rw[sz];exact hb)))))
  exact U0d (h _ (sb1.trans (U16 _ a _)) T2.2)
 .exact U0d (h _ sb1 T1)
theorem Y5{a:Addr}{ds:List Int}{k:Int}{t0:Tok}{Q:Bool->Shared->Prop}(hS:SetT prog w s.heap a ds)(room:ds.length+1<scanBound)
  (h:∀b h',U1c a s.heap h'->SetT prog w h' a (Fv ds k)->Q b { s with heap:=h' }):wpAny (model prog w) A (setAddHashed a (.int k t0) ((intKind prog w).hash k)) Q E s:=by
 obtain⟨nd,o,es,ep,t,ho,hex,hd,hel,hm,hb,hf,hn,ht⟩:=hS
 have hkey:(intKind prog w).is k (.int k t0)=true:=intKind_is prog w k t0
 have hsc:(U5m k t0).scannable=true:=rfl
 unfold setAddHashed setAddHashedIn
 refine U2x (U0 (U4 ho hd hf ?_))
 dsimp only
 rw[byScan_of hsc hb hel,if_pos rfl]
 unfold setAddByScan
 refine U0 (U0 (U3i (U0 (wpAny_setScan_of hkey ho hd hf hel ?_))))
 cases hr:List.findIdx? (fun e=>(intKind prog w).is k e.2) es.toList with
 |some j =>
  obtain⟨hj,hpj,_⟩:=List.findIdx?_eq_some_iff_getElem.mp hr
  have hk:k∈ds:=of_decide_eq_true ((hm k).mpr ⟨es.toList[j],U4i hj,hpj⟩)
  refine U0d (U0d ?_)
  have q:=h false s.heap (U1c.refl a s.heap) (by
   have e:Fv ds k=ds:=by unfold Fv;rw[if_pos hk]
   rw[e];exact⟨nd,o,es,ep,t,ho,hex,hd,hel,hm,hb,hf,hn,ht⟩)
  cases s;exact q
 |none =>
  have hk:k ∉ ds:=fun z=>by
   obtain⟨e,he,hp⟩:=(hm k).mp (decide_eq_true z)
   have q:=List.findIdx?_eq_none_iff.mp hr e he
   rw[hp] at q;cases q
  have eA:Fv ds k=ds++[k]:=by unfold Fv;rw[if_neg hk]
  have p:=layNew_perm t es ((intKind prog w).hash k) (.int k t0)
  have f:=layNew_fits t es ((intKind prog w).hash k) (.int k t0)
  have tb:=ZV ht es ((intKind prog w).hash k) (.int k t0)
  generalize layNew t es ((intKind prog w).hash k) (.int k t0)=LL at p f tb
  obtain⟨es1,t1,dummy,gave⟩:=LL
  dsimp only at p f tb ⊢
  rw[U6z] at p
  have hel1:ElemsOf (intKind prog w) es1.toList:=(hel.push hkey hsc).perm p
  have sz:es1.size=(Fv ds k).length:=by
   have q:=p.length_eq
   rw[U0g,U0h,U3o,U0g] at q
   rw[q,eA,U0h,U3o,hn]
  have hm1:∀j,decide (j∈Fv ds k)=true↔∃e∈es1.toList,(intKind prog w).is j e.2=true:=fun j=>by
   rw[←mem_push_iff (S:=fun k'=>decide (k'∈ds)) hkey hm p j]
   simp only[decide_eq_true_eq,U6i,Ut]
  have hb1:es1.size<scanBound:=by rw[sz,eA,U0h,U3o];exact room
  refine U0 ?_
  have gw:∀(b:Bool)(s₁:Shared)(Q':Unit->Shared->Prop),Q' () s₁->wpAny (model prog w) A (match b with|true=>rule "set.scan.the-table-gave-way"|false=>pure ()) Q' E s₁:=fun b s₁ Q' q=>by
   cases b
   .exact U0d q
   .exact U3i q
  refine gw _ _ _ ?_
  split
  .refine U0 ?_
   rw[hashByValue_scannable 8 hsc]
   refine U0d (V7 gw ho hex hd (Rx nd k) hel1 hm1 hb1 ?_ sz ?_ fun h' sb T=>U0d (h true h' sb T))
   .split
    .exact f
    .exact SetTable.fits_plain_off f
   .split
    .exact tb
    .exact tb.gU false
  .refine U0 (U0d ?_)
   rw[if_pos rfl]
   exact V7 gw ho hex hd (Rx nd k) hel1 hm1 hb1 f sz tb fun h' sb T=>U0d (h true h' sb T)
end
end SetP
end
section
set_option maxRecDepth 100000
namespace SetP
open PySem PyProof.Rows
theorem V0:entryFor table "set.update.loop"=some Builtin.«set.update.loop»:=entryFor_of_tree (by kernel_rfl)
theorem Q7:plainId "set.update.loop"=true:=by decide +kernel
def once(ns:List Int):List Int:=ns.foldl Fv []
theorem aY(ns:List Int)(k:Int):once (ns++[k])=Fv (once ns) k:=by unfold once;rw[U40];rfl
theorem G6:∀(ns:List Int),(once ns).Nodup/\(once ns).length<=ns.length/\∀j,j∈once ns↔j∈ns:=by
 intro ns
 have all:∀(ns ds:List Int),ds.Nodup->(ns.foldl Fv ds).Nodup/\(ns.foldl Fv ds).length<=ds.length+ns.length/\∀j,j∈ns.foldl Fv ds↔j∈ds∨j∈ns:=by
  intro ns
  induction ns with
  |nil=>intro ds h;exact⟨h,by simp,fun j=>by simp⟩
  |cons n r ih =>
   intro ds h
   obtain⟨a,b,c⟩:=ih (Fv ds n) (Rx h n)
   refine⟨a,?_,fun j=>?_⟩
   .have:=bY ds n
    rw[U3k,U0e];omega
   .rw[U3k,c j,Ut,U0q]
    constructor
    .rintro((z|z)|z)
     .exact .inl z
     .exact .inr (.inl z)
     .exact .inr (.inr z)
    .rintro(z|z|z)
     .exact .inl (.inl z)
     .exact .inl (.inr z)
     .exact .inr z
 obtain⟨a,b,c⟩:=all ns [] List.nodup_nil
 exact⟨a,by rw[U08,U4j] at b;exact b,fun j=>by rw[show once ns=ns.foldl Fv [] from rfl,c j];simp⟩
section
variable{prog:Program}{w:World}{A:Around}{E:Value->Shared->Prop}{s:Shared}
theorem cW{R:Result->Shared->Prop}{S I l:Addr}{items:Array Value}{ns:List Int}(hh:A.handled=none)(hi:IntsAre items.toList ns)(hb:items.size+1<scanBound)(hSI:S≠I)(hSl:S≠l)(hIl:I≠l) :
  ∀(k i:Nat)(s:Shared),items.size-i=k->i<=items.size->s.heap.IsListIter I l i->s.heap.IsList l items->SetT prog w s.heap S (once (ns.take i)) ->
   (∀h' tk,(∀b o,b≠S->b≠I->s.heap.get? b=some o->h'.get? b=some o)->SetT prog w h' S (once ns)->R (.ok (.ret .none)) { s with heap:=h',toks:=tk }) ->
   codeAny (model prog w) A (.builtin "set.update.loop" ⟨[.ref S,.ref I],[]⟩) R s:=by
 have hlen:items.size=ns.length:=by have:=hi.length;simpa using this
 intro k
 induction k with
 |zero =>
  intro i s hk hi' it il T hR
  have e:i=items.size:=by omega
  subst e
  refine codeAny_builtin V0 ?_
  rw[U25 Q7 _]
  show wpAny _ A.in1 (pyNext (.ref I) >>= _) _ _ s
  refine U0 (wpAny_pyNext_list_end hh it il (by simp) fun h' eb=>?_)
  show wpAny _ A.in1 (ret U2q) _ _ _
  refine U0d (hR h' s.toks (fun b o _ hbI q=>eb b o hbI q) ?_)
  rw[U17 (by omega)] at T
  exact T.sameBut fun o q=>eb S o hSI q
 |succ k ih =>
  intro i s hk hi' it il T hR
  have hlt:i<items.size:=by omega
  refine codeAny_builtin V0 ?_
  rw[U25 Q7 _]
  show wpAny _ A.in1 (pyNext (.ref I) >>= _) _ _ s
  refine U0 (wpAny_pyNext_list_item it il (x:=items[i]) (by simp[hlt]) fun h1 it1 sb1=>?_)
  have hn:i<ns.length:=by omega
  obtain⟨t0,hv⟩:∃t0,items[i]=.int ns[i] t0:=by
   have all:∀{vs:List Value} {ms:List Int},IntsAre vs ms->∀(j:Nat)(h1:j<vs.length)(h2:j<ms.length),∃t0,vs[j]=.int ms[j] t0:=by
    intro vs ms r
    induction r with
    |nil=>intro j h1;simp at h1
    |cons n t _ ih=>intro j h1 h2;cases j with
     |zero=>exact⟨t,rfl⟩
     |succ j=>exact ih j (by simpa using h1) (by simpa using h2)
   have q:=all hi i (by simpa using hlt) hn
   simpa using q
  rw[hv]
  show wpAny _ A.in1 (holding [U5m ns[i] t0] (setAdd S (.int ns[i] t0)) >>= _) _ _ _
  have T1:SetT prog w h1 S (once (ns.take i)):=T.sameBut fun o q=>(sb1.2 S hSI).trans q
  have il1:h1.IsList l items:=by
   obtain⟨o,ho,r⟩:=il
   exact⟨o,(sb1.2 l hIl.symm).trans ho,r⟩
  refine U0 (U2x ?_)
  unfold setAdd
  refine U2x (U0 ((intKind prog w).pyHash (k:=ns[i]) (intKind_is _ _ _ _) ?_))
  have room:(once (ns.take i)).length+1<scanBound:=by
   have q:=(G6 (ns.take i)).2.1
   rw[U1i] at q
   omega
  refine Y5 (s:={ s with heap:=h1,toks:=s.toks+1 }) T1 room fun b h2 sb2 T2=>?_
  have T2':SetT prog w h2 S (once (ns.take (i+1))):=by
   rw[List.take_succ_eq_append_getElem hn,aY];exact T2
  refine U0d ⟨plainId_quiet Q7 _,ih (i+1) _ (by omega) hlt ?_ ?_ T2' fun h' tk hk' T'=>?_⟩
  .obtain⟨o,ho,r⟩:=it1
   exact⟨o,(sb2.2 I hSI.symm).trans ho,r⟩
  .obtain⟨o,ho,r⟩:=il1
   exact⟨o,(sb2.2 l hSl.symm).trans ho,r⟩
  .exact hR h' tk (fun c o hcS hcI q=>hk' c o hcS hcI ((sb2.2 c hcS).trans ((sb1.2 c hcI).trans q))) T'
theorem qj(a:Value){Q₁:Value->Shared->Prop}
  (h:Q₁ (.ref s.heap.objs.size) { s with heap:=s.heap.push { cls:=.type "set",dict:=none,data:=.set #[] 0 (.fresh 0 0 (Mx w)) } }) :
  codeAny (model prog w) A (.call (.builtin "set.__new__") ⟨[.type "set",a],[]⟩) (wants Q₁ E) s:=by
 refine codeAny_of_tree ?_
 have hck:checkBuiltinCall "set.__new__" ⟨[.type "set",a],[]⟩=pure ():=by kernel_rfl
 show wpAny _ A.in1 (checkBuiltinCall "set.__new__" ⟨[.type "set",a],[]⟩ >>= fun _=>again (.builtin "set.__new__" ⟨[.type "set",a],[]⟩)) _ _ s
 rw[hck]
 refine U0 (U0d (U0d ⟨plainId_quiet F.plain_set_new _,codeAny_builtin F.entry_set_new ?_⟩))
 rw[U25 F.plain_set_new _]
 have hsub:=sub_set_self
 unfold Builtin.«set.__new__» Builtin.Frozenset.newClass
 obtain⟨hp,g,d,tk,os⟩:=s
 dsimp only
 wp_walk
 refine U4k (U0d ?_)
 simp only[newObj]
 exact U0 (wpAny_alloc (U0d (U0d h)))
theorem eU{M:Model}{self a:Value}{Q:Unit->Shared->Prop}(hT:s.TypeIs self "set")(hQ:Q () s):wpAny M A (checkBuiltinCall "set.__init__" ⟨[self,a],[]⟩) Q E s:=by
 simp only[checkBuiltinCall,kind_set_init,split_set_init,sig_set_init]
 refine U0 (U6 hT sub_set_self ?_)
 simp only[U5a,U06,if_false]
 unfold Bind.checkArgs
 dsimp only
 refine U0 (m:=Bind.printed "set" true _ _) (printed_name (by decide) ?_)
 refine U0 (m:=Bind.printed "*" false _ _) (printed_star (self:=self) rfl hT fun short=>?_)
 have one:(if (U51.self==U51.none)=true then [self,a].length else [self,a].length-1)=1:=by
  have z:(U51.self==U51.none)=false:=by decide
  simp[z]
 rw[one]
 simp only[U1n]
 have z1:(U39==U39)=true:=by decide
 have z2:(U39==U32.posOrKw)=false:=by decide
 have z3:(U39==U32.varPos)=false:=by decide
 have fine:Bind.check ⟨.positional,"set","*",.self,[⟨"iterable",.posOnly,false⟩]⟩ "set" short 1 []=pure ():=by
  simp[Bind.check,Bind.checkCount,Bind.isPositional,z1,z2,z3]
 rw[fine]
 exact U0d hQ
set_option maxHeartbeats 3200000 in
theorem iD{l:Addr}{items:Array Value}{ns:List Int}{Q:Value->Shared->Prop}(hh:A.handled=none)(hl:s.heap.IsList l items)(hi:IntsAre items.toList ns)(hb:items.size+1<scanBound)
  (h:∀h' tk,(∀b o,s.heap.get? b=some o->h'.get? b=some o)->SetT prog w h' s.heap.objs.size (once ns)->Q (.ref s.heap.objs.size) { s with heap:=h',toks:=tk }) :
  wpAny (model prog w) A (call (.type "set") [.ref l]) Q E s:=by
 have hmade:=U4l.made
 have hsub:=U4l.sub
 have h1:=U4l.notType
 have h2:=U4l.canCreate
 have hct:checkTypeCall "set" ⟨[.ref l],[]⟩=pure ():=by kernel_rfl
 obtain⟨c,tl,hmro⟩:=U4l.mro
 refine wpAny_call (codeAny_of_tree ?_)
 show wpAny _ _ (callAny (.type "set") ⟨[.ref l],[]⟩) _ _ s
 refine U0d ⟨Code.quiet_builtin _ (by decide +kernel),codeAny_builtin F.entry_type_call ?_⟩
 rw[Around.under_plain (weight_type_call_type "set" [.ref l] []) rfl]
 repeat (any_goals (first|assumption|wp_step))
 refine codeAny_mono (qj (.ref l) (E:=E) (Q₁:=fun obj s₁=>obj=.ref s.heap.objs.size/\s₁={ s with heap:=s.heap.push { cls:=.type "set",dict:=none,data:=.set #[] 0 (.fresh 0 0 (Mx w)) } }) ⟨rfl,rfl⟩) fun r s₁ hr=>?_
 cases r with
 |error e=>exact hr
 |ok fl =>
  cases fl with
  |ret obj =>
   obtain⟨rfl,rfl⟩:=hr
   generalize hg1:s.heap.push { cls:=.type "set",dict:=none,data:=.set #[] 0 (.fresh 0 0 (Mx w)) }=g1
   have e1:g1.get? s.heap.objs.size=some { cls:=.type "set",dict:=none,data:=.set #[] 0 (.fresh 0 0 (Mx w)) }:=hg1 ▸ U0u _ rfl
   have k1:∀b o,s.heap.get? b=some o->g1.get? b=some o:=fun b o q=>hg1 ▸ U0c _ q
   have z1:g1.objs.size=s.heap.objs.size+1:=by rw[←hg1,U2c]
   have hT:U6u { s with heap:=g1 } (.ref s.heap.objs.size) "set":=⟨_,e1,rfl⟩
   have hli:=U4l.init.lookup
   have hbi:=U4l.init.bind (.ref s.heap.objs.size)
   repeat (any_goals (first|assumption|wp_step))
   refine codeAny_mono (codeAny_call_builtin (R:=wants (fun r s₂=>r=.none/\∃h' tk,s₂={ s with heap:=h',toks:=tk }/\(∀b o,s.heap.get? b=some o->h'.get? b=some o)/\SetT prog w h' s.heap.objs.size (once ns)) E)
    U4l.init.plain F.entry_set_init (eU hT ?_)) fun r₂ s₂ hr₂=>?_
   .obtain⟨ol,hol,hcl,nl,hdl⟩:=hl
    obtain⟨ocls,odict,odata,oslots⟩:=ol
    simp only at hcl hdl
    subst hcl hdl
    have q1:g1.get? l=some { cls:=.type "list",dict:=odict,data:=.seq items nl,slots:=oslots }:=k1 _ _ hol
    have il:g1.IsList l items:=⟨_,q1,rfl,nl,rfl⟩
    have hlS:l<s.heap.objs.size:=U0j hol
    have hs1:isSubtype (.type "list") (.type "set")=pure false:=by rw[isSubtype_type];kernel_rfl
    have hs2:isSubtype (.type "list") (.type "frozenset")=pure false:=by rw[isSubtype_type];kernel_rfl
    have hs3:(U3l "list"==U3l "dict")=false:=by decide
    unfold Builtin.«set.__init__» noKeywords Builtin.Frozenset.updateFrom
    generalize hPI:pyIter=PI
    wp_walk
    subst hPI
    refine U41 il (U0 (wpAny_runValue ?_))
    have n1:s.heap.objs.size≠g1.objs.size:=by rw[z1];exact U1m (U59 _)
    have n2:s.heap.objs.size≠l:=U3d hlS
    have n3:g1.objs.size≠l:=by rw[z1];exact U3d (U52 hlS)
    refine cW (l:=l) (items:=items) (by simpa using hh) hi hb n1 n2 n3 (items.size-0) 0 _ (by omega) (U3f _) ⟨_,U0u _ rfl,rfl,rfl⟩ ?_ ?_ ?_
    .obtain⟨o,ho,r⟩:=il
     exact⟨o,U0c _ ho,r⟩
    .refine⟨List.nodup_nil,_,#[],0,_,U0c _ e1,⟨rfl,rfl,rfl⟩,rfl,fun e he=>by simp at he,fun k=>by simp[once],by decide,by rfl,rfl,TabOk.fresh _ _ _⟩
    .intro h' tk hk T
     show wpAny _ _ _ _ _ _
     refine U0d ?_
     show wpAny _ _ (ret U2q) _ _ _
     refine U0d ⟨rfl,h',tk,rfl,fun b o q=>?_,T⟩
     have hb':=U0j q
     exact hk b o (U1m hb') (by rw[z1];exact U1m (U52 hb')) (U0c _ (k1 b o q))
   .cases r₂ with
    |error e=>exact hr₂
    |ok fl₂ =>
     cases fl₂ with
     |ret r =>
      obtain⟨rfl,h',tk,rfl,hk,T⟩:=hr₂
      repeat (any_goals (first|assumption|wp_step))
      exact h h' tk hk T
     |_=>exact hr₂.elim
  |_=>exact hr.elim
end
end SetP
end
section
set_option maxRecDepth 100000
namespace SetP
open PySem PyProof.Rows
theorem Ot{α:Type}:∀(l:List α)(i:Nat)(h:i<l.length),(l[i]::l.eraseIdx i).Perm l
 |[],i,h=>absurd h (by simp)
 |x::r,0,_=>U43 _
 |x::r,i+1,h=>(U2g.swap x _ _).trans (U7g x (Ot r i (by simpa using h)))
theorem Qy:∀{ds ns:List Int},ds.Nodup->(∀k,k∈ds->k∈ns)->ns.length<=ds.length->ns.Perm ds
 |[],ns,_,_,h=>by
  have e:ns=[]:=U23.mp (by simpa using h)
  rw[e]
 |d::r,ns,nd,sub,h=>by
  have hd:d∈ns:=sub d U0p
  have p:=List.perm_cons_erase hd
  obtain⟨h1,h2⟩:=U4t.mp nd
  refine p.trans (U7g d (Qy h2 (fun k hk=>?_) ?_))
  .have hne:k≠d:=fun e=>h1 (e ▸ hk)
   exact(List.mem_erase_of_ne hne).mpr (sub k (U0n _ hk))
  .rw[List.length_erase_of_mem hd]
   rw[U0e] at h
   omega
theorem YL{α:Type}(next:Nat->Nat):∀(fuel k:Nat)(left:List α)(out:Array α),left.length=fuel->(pickOrder.go next fuel k left out).toList.Perm (out.toList++left)
 |0,_,left,out,h=>by
  have e:left=[]:=U23.mp h
  subst e
  unfold pickOrder.go
  simp
 |fuel+1,k,left,out,h=>by
  unfold pickOrder.go
  have hi:next k%left.length<left.length:=Nat.mod_lt _ (by omega)
  rw[U02 hi]
  dsimp only
  refine(YL next fuel (k+1) _ _ (by rw[List.length_eraseIdx_of_lt hi];omega)).trans ?_
  rw[U6z,U0z]
  exact U13 _ (Ot _ _ hi)
theorem aV{α:Type}(next:Nat->Nat)(xs:Array α):(pickOrder next xs).toList.Perm xs.toList:=by
 unfold pickOrder
 simpa using YL next xs.size 0 xs.toList #[] (by simp)
section
variable{M:Model}{A:Around}{E:Value->Shared->Prop}
theorem Zc{src:Source}{n:Nat}{s:Shared}{Q:Nat->Shared->Prop}(hn:n≠0)(h:∀i d',i<n->Q i { s with drawn:=d' }):wpAny M A (choose src n) Q E s :=
 fun _ _ _=>⟨hn,h _ _ (Nat.mod_lt _ (Nat.pos_of_ne_zero hn))⟩
theorem Ox{α:Type}:∀(n:Nat)(xs:List α)(s:Shared)(Q:List α->Shared->Prop),xs.length<=n->(∀ys d',ys.Perm xs->Q ys { s with drawn:=d' })->wpAny M A (drawOrder n xs) Q E s
 |0,xs,s,Q,h,q=>by
  have e:xs=[]:=U23.mp (by omega)
  subst e
  unfold drawOrder
  exact U0d (q [] s.drawn (U43 _))
 |n+1,[],s,Q,h,q=>by
  unfold drawOrder
  exact U0d (q [] s.drawn (U43 _))
 |n+1,x::xs,s,Q,h,q=>by
  unfold drawOrder
  refine U0 (Zc (by simp) fun i d' hi=>?_)
  rw[U02 hi]
  dsimp only
  refine U0 (Ox n _ _ _ (by rw[List.length_eraseIdx_of_lt hi];simp at h ⊢;omega) fun ys d'' p=>U0d (q _ d'' ?_))
  exact(U7g _ p).trans (Ot _ _ hi)
end
theorem Es:Slot "set_iterator" "__next__" "set_iterator.__next__" :=
 .of (owner:="set_iterator") (n:="__next__") (by rw[typeLookup_type,builtinLookup_eq_fast];kernel_rfl) (by decide +kernel) (by decide +kernel) (by decide +kernel)
  (by first|exact .inl (by decide +kernel)|exact .inr (by decide +kernel)) (by rw[isSubtype_type];kernel_rfl)
theorem Mv:entryFor table "set_iterator.__next__"=some Builtin.«set_iterator.__next__»:=entryFor_of_tree (by kernel_rfl)
theorem NQ(a:Value):argsOk "set_iterator.__next__" ⟨[a],[]⟩:=by unfold argsOk;kernel_rfl
theorem Uk:entryFor table "set.__iter__"=some Builtin.«frozenset.__iter__» :=
 entryFor_alias (id':="frozenset.__iter__") (by kernel_rfl) rfl (by decide +kernel) (by kernel_rfl)
def JK(first:Value)(i:Nat)(S:Addr)(n ep:Nat):Obj:={ cls:=.type "set_iterator",data:=.fields #[first,.int i 0,.ref S,.int n 0,.int ep 0] }
inductive Road (w:World) (h:Heap) (es:Array (Int×Value)) (ep:Nat) (t:SetTable) (S it T:Addr) (vs:List Value) (i:Nat):Value->Prop
 |text (k:Int):w.params.followText "set-order"=true->(∀(j:Nat),vs[j]?=((pickOrder (w.params.setOrder S ep) es)[j]?).map fun(e:Int×Value)=>e.2)->Road w h es ep t S it T vs i (.int k 0)
 |plain:w.params.followText "set-order"=false->(!t.plain&&decide (es.size>1))=false->TabOk true t->(∀(j:Nat),vs[j]?=(es[j]?).map fun(e:Int×Value)=>e.2)->Road w h es ep t S it T vs i (.int ((if i=0 then 0 else t.place.getD (i-1) 0+1:Nat):Int) 0)
 |drawn (ps:List Nat):T≠it->h.get? T=some { cls:=.type "tuple",data:=.seq (ps.map fun(p:Nat)=>rawInt p).toArray 0 }->(∀p∈ps,p<es.size)->(∀(j:Nat),vs[j]?=(ps[j]?).bind fun p=>(es[p]?).map fun(e:Int×Value)=>e.2)->Road w h es ep t S it T vs i (.ref T)
structure Ld(w:World)(h:Heap)(it S T:Addr)(vs:List Value)(i:Nat):Prop where
 ne:it≠S
 ex:∃o es ep t first,h.get? S=some o/\o.data=.set es ep t/\t.fits es.size=true/\vs.length=es.size/\h.get? it=some (JK first i S es.size ep)/\Road w h es ep t S it T vs i first
section
variable{prog:Program}{w:World}{A:Around}{E:Value->Shared->Prop}{s:Shared}
theorem Ld.keep{h h':Heap}{it S T:Addr}{vs:List Value}{i:Nat}(x:Ld w h it S T vs i)(k:∀b∈[it,S,T],∀o,h.get? b=some o->h'.get? b=some o):Ld w h' it S T vs i:=by
 obtain⟨ne,o,es,ep,t,first,a,b,c,d,e,r⟩:=x
 refine⟨ne,o,es,ep,t,first,k S (by simp) _ a,b,c,d,k it (by simp) _ e,?_⟩
 cases r with
 |text k1 z1 z2=>exact .text k1 z1 z2
 |plain z1 z2 z3 z4=>exact .plain z1 z2 z3 z4
 |drawn ps z1 z2 z3 z4=>exact .drawn ps z1 (k T (by simp) _ z2) z3 z4
theorem oN{S:Addr}{ds:List Int}{Q:Value->Shared->Prop}(hS:SetT prog w s.heap S ds)
  (h:∀h' d' it T vs,(∀b o,s.heap.get? b=some o->h'.get? b=some o)->s.heap.objs.size<=it->(T=S∨s.heap.objs.size<=T)->Ld w h' it S T vs 0->(∃ns,IntsAre vs ns/\ns.Perm ds)->Q (.ref it) { s with heap:=h',drawn:=d' }) :
  wpAny (model prog w) A (pyIter (.ref S)) Q E s:=by
 obtain⟨nd,o,es,ep,t,ho,hex,hd,hel,hm,hb,hf,hn,ht⟩:=hS
 have hT:s.TypeIs (.ref S) "set":=⟨o,ho,hex.1⟩
 have hlt:=U0j ho
 -- the members as ints
 have intsV:∀(l:List (Int×Value)),ElemsOf (intKind prog w) l->∃ns,IntsAre (l.map (·.2)) ns/\∀k,k∈ns↔∃e∈l,(intKind prog w).is k e.2=true:=by
  intro l
  induction l with
  |nil=>intro _;exact⟨[],.nil,fun k=>by simp⟩
  |cons e r ih =>
   intro he
   obtain⟨ns,a,b⟩:=ih he.tail
   obtain⟨⟨k0,hk0,_⟩,_⟩:=he.head
   obtain⟨t0,e0⟩:=Value.isInt_shape (show Value.isInt k0 e.2=true from hk0)
   refine⟨k0::ns,by rw[U0r,e0];exact .cons k0 t0 a,fun k=>?_⟩
   rw[U0q,b k]
   constructor
   .rintro(z|⟨e',he',q⟩)
    .exact⟨e,U0p,by rw[z];exact hk0⟩
    .exact⟨e',U0n _ he',q⟩
   .rintro⟨e',he',q⟩
    rcases U0q.mp he' with z|z
    .subst z;exact .inl ((intKind prog w).inj _ _ _ q hk0)
    .exact .inr ⟨e',z,q⟩
 -- any order of the members is the ints in some order
 have fin:∀(l:List (Int×Value)),l.Perm es.toList->∃ns,IntsAre (l.map (·.2)) ns/\ns.Perm ds:=fun l p=>by
  obtain⟨ns,a,b⟩:=intsV l (hel.perm p)
  refine⟨ns,a,?_⟩
  have hsub:ds ⊆ ns:=fun k hk=>(b k).mpr (by
   obtain⟨e,he,q⟩:=(hm k).mp (decide_eq_true hk)
   exact⟨e,p.mem_iff.mpr he,q⟩)
  have hle:ns.length<=ds.length:=by
   have q1:(l.map (·.2)).length=ns.length:=IntsAre.length a
   rw[U0f] at q1
   exact U7s (by rw[←q1,p.length_eq,U0g,hn])
  exact Qy nd (fun k hk=>hsub hk) hle
 refine wpAny_pyIter_slot hT F.slot_set_iter (U2s F.slot_set_iter hT Uk ?_ (F.args_set_iter_1 _))
 unfold Builtin.«frozenset.__iter__» Builtin.Frozenset.slot0 slotArgs
 simp only[U66,U5a,U06,↓reduceIte,bind_assoc,U08,bne_self_eq_false]
 unfold Builtin.Frozenset.addrOf Builtin.Frozenset.sizeOf
 refine U0 (U0d ?_)
 try dsimp only
 refine U0 (U0d ?_)
 refine U0 (U0 (U6m ho hd hf (U0d ?_)))
 unfold setDrawn setsByText
 simp only[bind_assoc]
 refine U0 (U4 ho hd hf ?_)
 refine U0 (U4k ?_)
 refine U0 (U0d (U0 (U0d ?_)))
 show wpAny (model prog w) A.in1 (if (!(w.params.followText "set-order")&&(!t.plain&&decide (es.size>1)))=true then _ else _) _ _ s
 have len2:∀(ps:List Nat),ps.Perm (U4b es.size)->((ps.filterMap fun p=>es[p]?)).Perm es.toList/\∀(j:Nat),((ps.filterMap fun p=>es[p]?).map (·.2))[j]?=(ps[j]?).bind fun p=>(es[p]?).map fun(e:Int×Value)=>e.2:=fun ps p=>by
  refine⟨(p.filterMap _).trans (by rw[filterMap_getElem?_range]),?_⟩
  have all:∀(ps:List Nat),(∀p∈ps,p<es.size)->∀(j:Nat),((ps.filterMap fun p=>es[p]?).map (·.2))[j]?=(ps[j]?).bind fun p=>(es[p]?).map fun(e:Int×Value)=>e.2:=by
   intro ps
   induction ps with
   |nil=>intro _ j;simp
   |cons q r ih =>
    intro hq j
    have hq':q<es.size:=hq q U0p
    rw[List.filterMap_cons_some (b:=es[q]) (by simp[hq'])]
    cases j with
    |zero=>simp[hq']
    |succ j=>simpa using ih (fun p hp=>hq p (U0n _ hp)) j
  exact all ps fun q hq=>U42.mp (p.mem_iff.mp hq)
 split
 .rename_i hc
  refine U0 (Ox es.size (U4b es.size) s _ (by simp) fun ps d' p=>?_)
  obtain⟨p1,p2⟩:=len2 ps p
  refine U0 (U2a ?_ ?_)
  .refine U0 (wpAny_setEpoch_of (U0c _ ho) hd hf ?_)
   refine U0 (U2a (U0d ⟨_,rfl,"set_iterator",_,⟨_,U0u _ rfl,rfl⟩,Es.lookup,?_⟩))
   refine h _ d' _ s.heap.objs.size ((ps.filterMap fun p=>es[p]?).map (·.2)) (fun b o' e=>U0c _ (U0c _ e)) ?_ (.inr (U0o _)) ?_ (fin _ p1)
   .show s.heap.objs.size<=(s.heap.push _).objs.size
    rw[U2c];exact U4x _
   .refine⟨?_,o,es,ep,t,_,U0c _ (U0c _ ho),hd,hf,?_,U0u _ rfl,.drawn ps ?_ (U0c _ (U0u _ rfl)) (fun q hq=>U42.mp (p.mem_iff.mp hq)) p2⟩
    .show(s.heap.push _).objs.size≠S
     rw[U2c];exact U3d (U52 hlt)
    .rw[U0f,p1.length_eq,U0g]
    .show s.heap.objs.size≠(s.heap.push _).objs.size
     rw[U2c];exact U1m (U59 _)
  .show _<=sizeLine
   rw[U0m,U0f,p.length_eq,U60]
   exact fits_of_scanBound hb
 .rename_i hc
  refine U0 (U0d (U0 (wpAny_setEpoch_of ho hd hf ?_)))
  refine U0 (U2a (U0d ⟨_,rfl,"set_iterator",_,⟨_,U0u _ rfl,rfl⟩,Es.lookup,?_⟩))
  by_cases ht':w.params.followText "set-order"=true
  .have pp:=aV (w.params.setOrder S ep) es
   have q:=h (s.heap.push (JK (rawInt 0) 0 S es.size ep)) s.drawn s.heap.objs.size S ((pickOrder (w.params.setOrder S ep) es).toList.map (·.2)) (fun b o' e=>U0c _ e) (U0o _) (.inl rfl)
    ⟨U3d hlt,o,es,ep,t,_,U0c _ ho,hd,hf,by rw[U0f,pp.length_eq,U0g],U0u _ rfl,.text 0 ht' fun j=>by rw[U0y,U2m]⟩ (fin _ pp)
   exact q
  .have hf':w.params.followText "set-order"=false:=by simpa using ht'
   have hL:Mx w=true:=by show(!_)=true;rw[hf'];rfl
   rw[hL] at ht
   have hdr:(!t.plain&&decide (es.size>1))=false:=by
    rw[hf'] at hc
    simpa using hc
   have q:=h (s.heap.push (JK (rawInt 0) 0 S es.size ep)) s.drawn s.heap.objs.size S (es.toList.map (·.2)) (fun b o' e=>U0c _ e) (U0o _) (.inl rfl)
    ⟨U3d hlt,o,es,ep,t,_,U0c _ ho,hd,hf,by rw[U0f,U0g],U0u _ rfl,.plain hf' hdr ht fun j=>by rw[U0y,U2m]⟩ (fin _ (U43 _))
   exact q
end
end SetP
end
section
set_option maxRecDepth 100000
namespace SetP
open PySem PyProof.Rows
section
variable{prog:Program}{w:World}{A:Around}{E:Value->Shared->Prop}{s:Shared}
theorem T8(first x:Value)(i:Nat)(S:Addr)(n ep:Nat):U3v (·.setIfInBounds 0 x) (JK first i S n ep)=JK x i S n ep:=rfl
theorem ZW(first:Value)(i:Nat)(S:Addr)(n ep:Nat):U3v (·.setIfInBounds 1 (rawInt ((i:Int)+1))) (JK first i S n ep)=JK first (i+1) S n ep:=rfl
theorem QB{S:Addr}{o:Obj}{es:Array (Int×Value)}{ep slot given:Nat}{t:SetTable}{Q:Option (Value×Nat)->Shared->Prop}(ho:s.heap.get? S=some o)(hd:o.data=.set es ep t)(hf:t.fits es.size=true)
  (z:w.params.followText "set-order"=true) (h:Q (((pickOrder (w.params.setOrder S ep) es)[given]?).map fun e=>(e.2,slot)) s):wpAny (model prog w) A (setNext S slot given ep) Q E s:=by
 unfold setNext
 refine U0 (U4 ho hd hf ?_)
 unfold setsByText
 refine U0 (U0 (U4k (U0d ?_)))
 show wpAny _ _ (if (w.params.followText "set-order")=true then _ else _) _ _ s
 rw[if_pos z]
 show wpAny _ _ (if (ep != ep)=true then _ else _) _ _ s
 rw[if_neg (by simp)]
 unfold setWalk
 refine U0 (U0 (U4 ho hd hf ?_))
 unfold setsByText
 refine U0 (U0 (U4k (U0d ?_)))
 show wpAny _ _ (if (w.params.followText "set-order")=true then _ else _) _ _ s
 rw[if_pos z]
 exact U0 (U4k (U0d (U0d h)))
theorem Ov{S:Addr}{o:Obj}{es:Array (Int×Value)}{ep slot given:Nat}{t:SetTable}{Q:Option (Value×Nat)->Shared->Prop}(ho:s.heap.get? S=some o)(hd:o.data=.set es ep t)(hf:t.fits es.size=true)
  (z:w.params.followText "set-order"=false) (z2:(!t.plain&&decide (es.size>1))=false) (z3:t.led=true)
  (h:Q (match es[U1o t.place slot]?,t.place[U1o t.place slot]? with|some (_,x),some j=>some (x,j+1)|_,_=>none) s):wpAny (model prog w) A (setNext S slot given ep) Q E s:=by
 unfold setNext
 refine U0 (U4 ho hd hf ?_)
 unfold setsByText
 refine U0 (U0 (U4k (U0d ?_)))
 show wpAny _ _ (if (w.params.followText "set-order")=true then _ else _) _ _ s
 rw[if_neg (by rw[z];simp)]
 show wpAny _ _ (if (!t.plain&&decide (es.size>1))=true then _ else _) _ _ s
 rw[if_neg (by rw[z2];simp)]
 refine U0 ?_
 show wpAny _ _ (if (!t.led&&!es.isEmpty)=true then _ else _) _ _ s
 rw[if_neg (by rw[z3];simp)]
 exact U0d (U0d h)
theorem ZL{it S T:Addr}{vs:List Value}{i:Nat}{v:Value}{Q:Option Value->Shared->Prop}(x:Ld w s.heap it S T vs i)(hv:vs[i]?=some v)
  (h:∀h',U1c it s.heap h'->Ld w h' it S T vs (i+1)->Q (some v) { s with heap:=h' }):wpAny (model prog w) A (pyNext (.ref it)) Q E s:=by
 obtain⟨ne,o,es,ep,t,first,ho,hd,hf,hl,hi,r⟩:=x
 have hT:s.TypeIs (.ref it) "set_iterator":=⟨_,hi,rfl⟩
 unfold pyNext
 refine U0 (U57 (wpAny_callSpecial?_slot (name:=U30 "__next__") hT Es (U2s Es hT Mv ?_ (NQ _))))
 unfold Builtin.«set_iterator.__next__» slotArgs
 simp only[U66,U5a,U06,↓reduceIte,U08,bne_self_eq_false]
 refine U0 (U0d ?_)
 refine U0 (wpAny_fieldsOf hi rfl ?_)
 show wpAny _ _ (setEntries S >>= _) _ _ s
 refine U0 (U6m ho hd hf ?_)
 show wpAny _ _ (if ((es.size:Int) != (es.size:Int))=true then _ else _) _ _ s
 rw[if_neg (by simp)]
 have lt:i<vs.length:=(U0k.mp hv).1
 have upd1:∀{h1:Heap} {f1:Value},h1.get? it=some (JK f1 i S es.size ep)->(h1.update it (U3v (·.setIfInBounds 1 (rawInt ((i:Int)+1))))).get? it=some (JK f1 (i+1) S es.size ep):=fun {h1 f1} e=>by
  rw[←ZW f1 i S es.size ep];exact U2l _ e rfl
 have upd0:∀{h1:Heap} {f1 y:Value},h1.get? it=some (JK f1 i S es.size ep)->(h1.update it (U3v (·.setIfInBounds 0 y))).get? it=some (JK y i S es.size ep):=fun {h1 f1 y} e=>by
  rw[←T8 f1 y i S es.size ep];exact U2l _ e rfl
 cases r with
 |text k z1 z2 =>
  show wpAny _ _ (setNext S k.toNat i ep >>= _) _ _ s
  refine U0 (QB ho hd hf z1 ?_)
  have q:=z2 i
  rw[hv] at q
  cases hp:(pickOrder (w.params.setOrder S ep) es)[i]? with
  |none=>rw[hp] at q;cases q
  |some e =>
   rw[hp] at q
   have q':v=e.2:=U00 q
   subst q'
   refine U0 (U28 hi rfl (by simp) (U0 (U28 (upd0 hi) rfl (by simp) (U0d ⟨_,rfl,U0d (h _ ((U16 ..).trans (U16 ..)) ⟨ne,o,es,ep,t,_,?_,hd,hf,hl,upd1 (upd0 hi),.text _ z1 z2⟩)⟩))))
   rw[U03 _ _ ne,U03 _ _ ne];exact ho
 |plain z1 z2 z3 z4 =>
  show wpAny _ _ (setNext S (Int.toNat ((if i=0 then 0 else t.place.getD (i-1) 0+1:Nat):Int)) i ep >>= _) _ _ s
  rw[U4a]
  refine U0 (Ov ho hd hf z1 z2 z3.2 ?_)
  have psz:t.place.size=es.size:=by
   have q:=hf
   simp only[SetTable.fits,U0s,beq_iff_eq] at q
   exact q.1
  have hb:U1o t.place (if i=0 then 0 else t.place.getD (i-1) 0+1)=i:=by
   cases i with
   |zero=>rw[if_pos rfl];exact TY z3.1
   |succ i=>rw[if_neg (by omega)];exact Tc z3.1 (by omega)
  rw[hb]
  have q:=z4 i
  rw[hv] at q
  have hie:i<es.size:=by omega
  have hip:i<t.place.size:=by omega
  rw[U15 hie] at q ⊢
  rw[U15 hip]
  have q':v=es[i].2:=U00 q
  subst q'
  show wpAny _ _ (setField (.ref it) 0 (rawInt ((t.place[i]+1:Nat):Int)) >>= _) _ _ s
  refine U0 (U28 hi rfl (by simp) (U0 (U28 (upd0 hi) rfl (by simp) (U0d ⟨_,rfl,U0d (h _ ((U16 ..).trans (U16 ..)) ⟨ne,o,es,ep,t,_,?_,hd,hf,hl,upd1 (upd0 hi),?_⟩)⟩))))
  .rw[U03 _ _ ne,U03 _ _ ne];exact ho
  .have e:t.place[i]=t.place.getD (i+1-1) 0:=by
    rw[U22,Nat.add_sub_cancel,U15 hip];rfl
   have rr:∀hp:Heap,Road w hp es ep t S it T vs (i+1) (.int ((t.place[i]+1:Nat):Int) 0):=fun hp=>by
    have r1:Road w hp es ep t S it T vs (i+1) (.int ((if i+1=0 then 0 else t.place.getD (i+1-1) 0+1:Nat):Int) 0):=.plain z1 z2 z3 z4
    rw[if_neg (by omega),←e] at r1
    exact r1
   exact rr _
 |drawn ps z1 z2 z3 z4 =>
  show wpAny _ _ (seqItems? (.ref T) >>= _) _ _ s
  refine U0 (U2p z2 rfl ?_)
  have q:=z4 i
  rw[hv] at q
  cases hp:ps[i]? with
  |none=>rw[hp] at q;cases q
  |some p =>
   rw[hp] at q
   have hlt:p<es.size:=z3 p (U2e hp)
   have q2:some v=(es[p]?).map fun(e:Int×Value)=>e.2:=q
   rw[U15 hlt] at q2
   have q':v=es[p].2:=U00 q2
   subst q'
   have hg:((ps.map fun(p:Nat)=>rawInt p).toArray)[i]?=some (rawInt p):=by
    rw[U44,U0y,hp];rfl
   show wpAny _ _ (match ((ps.map fun(p:Nat)=>rawInt p).toArray)[(i:Int).toNat]? with|some (.int place _)=>_|some _=>_|none=>_) _ _ s
   rw[U4a,hg]
   show wpAny _ _ (setNextDrawn S p ep >>= _) _ _ s
   unfold setNextDrawn
   refine U0 (U0 (U4 ho hd hf ?_))
   show wpAny _ _ (if (ep != ep)=true then _ else _) _ _ s
   rw[if_neg (by simp)]
   dsimp only
   rw[U15 hlt]
   refine U0d ?_
   refine U0 (U28 hi rfl (by simp) (U0d ⟨_,rfl,U0d (h _ (U16 ..) ⟨ne,o,es,ep,t,_,?_,hd,hf,hl,upd1 hi,.drawn ps z1 ?_ z3 z4⟩)⟩))
   .rw[U03 _ _ ne];exact ho
   .rw[U03 _ _ z1.symm];exact z2
theorem aZ{it S T:Addr}{vs:List Value}{Q:Option Value->Shared->Prop}(hh:A.handled=none)(x:Ld w s.heap it S T vs vs.length)
  (h:∀h',U6q it s.heap h'->Q none { s with heap:=h' }):wpAny (model prog w) A (pyNext (.ref it)) Q E s:=by
 obtain⟨ne,o,es,ep,t,first,ho,hd,hf,hl,hi,r⟩:=x
 have hT:s.TypeIs (.ref it) "set_iterator":=⟨_,hi,rfl⟩
 unfold pyNext
 refine U0 (U57 (wpAny_callSpecial?_slot (name:=U30 "__next__") hT Es (U2s Es hT Mv ?_ (NQ _))))
 unfold Builtin.«set_iterator.__next__» slotArgs
 simp only[U66,U5a,U06,↓reduceIte,U08,bne_self_eq_false]
 refine U0 (U0d ?_)
 refine U0 (wpAny_fieldsOf hi rfl ?_)
 show wpAny _ _ (setEntries S >>= _) _ _ s
 refine U0 (U6m ho hd hf ?_)
 show wpAny _ _ (if ((es.size:Int) != (es.size:Int))=true then _ else _) _ _ s
 rw[if_neg (by simp)]
 have stop:∀{s1:Shared},U6q it s.heap s1.heap->s1={ s with heap:=s1.heap }->wpAny (model prog w) A.in1 (newExc (.type "StopIteration") [] >>= fun e=>(raiseNew e:Sem Fin)) (fun fin s'=>∃v,fin=.done (.ret v)/\wpAny (model prog w) A (pure (some v)) Q E s')
   (fun e s'=>wpAny (model prog w) A (do if ←isInstance e (.type "StopIteration") then pure none else throw e) Q E s') s1:=fun {s1} eb es1=>by
  refine U0 ?_
  simp only[newExc,newTuple]
  refine U0 (U2a ?_ (by size_fits))
  refine U0 (m:=firstArgMember _ _) (wpAny_of_eq (a:=U2q) (by first|rfl|(simp only[firstArgMember];rfl)) ?_)
  refine U2a ?_ (by size_fits)
  simp only[raiseNew]
  refine U0 (wpAny_handled ?_)
  rw[show A.in1.handled=none from hh]
  refine U0 (U0d (wpAny_throw ?_))
  refine U0 (U6 (T:="StopIteration") (b:=true) ⟨_,U0u _ rfl,rfl⟩ isSubtype_stop ?_)
  rw[if_pos rfl,es1]
  exact U0d (h _ ((eb.push _).push _))
 cases r with
 |text k z1 z2 =>
  show wpAny _ _ (setNext S k.toNat vs.length ep >>= _) _ _ s
  refine U0 (QB ho hd hf z1 ?_)
  have q:=z2 vs.length
  rw[U6b (U0o _)] at q
  cases hp:(pickOrder (w.params.setOrder S ep) es)[vs.length]? with
  |some e=>rw[hp] at q;cases q
  |none =>
   refine U0 (U28 hi rfl (by simp) ?_)
   exact stop (s1:={ s with heap:=s.heap.update it (U3v (·.setIfInBounds 2 U2q)) }) (U16 ..).extBut rfl
 |plain z1 z2 z3 z4 =>
  generalize hsl:(if vs.length=0 then 0 else t.place.getD (vs.length-1) 0+1:Nat)=sl
  show wpAny _ _ (setNext S (Int.toNat (sl:Int)) vs.length ep >>= _) _ _ s
  rw[U4a]
  refine U0 (Ov ho hd hf z1 z2 z3.2 ?_)
  have psz:t.place.size=es.size:=by
   have q:=hf
   simp only[SetTable.fits,U0s,beq_iff_eq] at q
   exact q.1
  have hb:U1o t.place sl=vs.length:=by
   rw[←hsl]
   generalize vs.length=n at hl
   cases n with
   |zero=>rw[if_pos rfl];exact TY z3.1
   |succ i=>rw[if_neg (by omega)];exact Tc z3.1 (by omega)
  rw[hb,hl,Array.getElem?_eq_none (U0o _)]
  refine U0 (U28 hi rfl (by simp) ?_)
  exact stop (s1:={ s with heap:=s.heap.update it (U3v (·.setIfInBounds 2 U2q)) }) (U16 ..).extBut rfl
 |drawn ps z1 z2 z3 z4 =>
  show wpAny _ _ (seqItems? (.ref T) >>= _) _ _ s
  refine U0 (U2p z2 rfl ?_)
  have q:=z4 vs.length
  rw[U6b (U0o _)] at q
  have hg:((ps.map fun(p:Nat)=>rawInt p).toArray)[vs.length]?=none:=by
   rw[U44,U0y]
   cases hp:ps[vs.length]? with
   |none=>rfl
   |some p =>
    rw[hp] at q
    have hlt:p<es.size:=z3 p (U2e hp)
    have q2:none=(es[p]?).map fun(e:Int×Value)=>e.2:=q
    rw[U15 hlt] at q2
    cases q2
  show wpAny _ _ (match ((ps.map fun(p:Nat)=>rawInt p).toArray)[(vs.length:Int).toNat]? with|some (.int place _)=>_|some _=>_|none=>_) _ _ s
  rw[U4a,hg]
  refine U0 (U28 hi rfl (by simp) ?_)
  have e0:(s.heap.update it (U3v (·.setIfInBounds 0 (rawInt 0)))).get? it=some (JK (rawInt 0) vs.length S es.size ep):=by
   rw[←T8 (.ref T) (rawInt 0) vs.length S es.size ep];exact U2l _ hi rfl
  refine U0 (U28 e0 rfl (by simp) ?_)
  exact stop (s1:={ s with heap:=(s.heap.update it (U3v (·.setIfInBounds 0 (rawInt 0)))).update it (U3v (·.setIfInBounds 2 U2q)) }) ((U16 ..).trans (U16 ..)).extBut rfl
end
end SetP
end
section
set_option maxRecDepth 100000
namespace SetP
open PySem PyProof.Rows
theorem NK:Slot "set_iterator" "__iter__" "set_iterator.__iter__" :=
 .of (owner:="set_iterator") (n:="__iter__") (by rw[typeLookup_type,builtinLookup_eq_fast];kernel_rfl) (by decide +kernel) (by decide +kernel) (by decide +kernel)
  (by first|exact .inl (by decide +kernel)|exact .inr (by decide +kernel)) (by rw[isSubtype_type];kernel_rfl)
theorem S7:entryFor table "set_iterator.__iter__"=some Builtin.«dict_keyiterator.__iter__» :=
 entryFor_alias (id':="dict_keyiterator.__iter__") (by kernel_rfl) rfl (by decide +kernel) (by kernel_rfl)
theorem Tp(a:Value):argsOk "set_iterator.__iter__" ⟨[a],[]⟩:=by unfold argsOk;kernel_rfl
theorem ZS:typeLookup (.type "set") "__len__"=pure (some (.builtin "set.__len__")):=F.slot_set_len.lookup
section
variable{prog:Program}{w:World}{A:Around}{E:Value->Shared->Prop}{s:Shared}
theorem gR(hh:A.handled=none)(it S T:Addr)(vs:List Value):Walks prog w A it [it,S,T] [it] vs.length (fun i v=>vs[i]?=some v) (fun i h=>Ld w h it S T vs i) where
 sub:=fun b hb=>by simp at hb;subst hb;simp
 frame:=fun i h h' x k=>x.keep fun b hb o e=>k b hb o e
 item:=fun i s Q E hi x hQ=>by
  have hv:vs[i]?=some vs[i]:=U02 hi
  exact ZL x hv fun h' sb x'=>hQ _ h' s.toks hv x' fun b o hb e=>(sb.2 b (by simpa using hb)).trans e
 done:=fun s Q E x hQ=>aZ hh x fun h' eb=>hQ h' s.toks fun b o hb e=>eb b o (by simpa using hb) e
 self:=fun i s Q E x hQ=>by
  obtain⟨_,o,es,ep,t,first,_,_,_,_,hi,_⟩:=x
  have hT:s.TypeIs (.ref it) "set_iterator":=⟨_,hi,rfl⟩
  refine wpAny_pyIter_slot hT NK (U2s NK hT S7 ?_ (Tp _))
  show wpAny _ _ (ret (.ref it)) _ _ s
  exact U0d ⟨_,rfl,"set_iterator",_,hT,Es.lookup,hQ⟩
theorem oO{S:Addr}{Q:Bool->Shared->Prop}(hT:s.TypeIs (.ref S) "set")(h:Q false s):wpAny (model prog w) A (Builtin.List.listLengthHint (.ref S)) Q E s:=by
 unfold Builtin.List.listLengthHint
 refine U0 (wpAny_specialOf hT ZS ?_)
 have hs:splitId "set.__len__"=some ("set","__len__"):=by decide +kernel
 dsimp only
 rw[hs]
 dsimp only
 refine U0 (U6 hT sub_set_self ?_)
 simp only[U5a,U06,if_false]
 refine U0 (U6f hT ?_)
 exact U0d h
theorem Tf{h:Heap}{a:Addr}{vs:List Value}{n:Nat}{out:Array Value}(ho:h.get? a=some (seqObj "list" vs.toArray n)):∃n',(sortedHeap h a vs out).get? a=some (seqObj "list" out n'):=by
 unfold sortedHeap
 have q1:=get?_update_seq ho (fun _=>#[])
 exact⟨_,get?_update_seq (U0c _ (U0c _ q1)) (fun _=>out)⟩
theorem Ry{h:Heap}{a b:Addr}{vs:List Value}{out:Array Value}{o:Obj}(hb:b≠a)(ho:h.get? b=some o):(sortedHeap h a vs out).get? b=some o:=by
 unfold sortedHeap
 rw[U03 _ _ (U2f hb)]
 exact U0c _ (U0c _ ((U03 _ _ (U2f hb)).trans ho))
end
end SetP
end
section
namespace L2
open PySem PySem.Spec PyProof.Rows
def PTs(X:Cx)(ifs:List Expr)(t:TT):Prop :=
 ∀(pins:List (Addr×Obj))(s:Shared)(σ:St)(H:Hp)(Q:Bool->Hp->Prop),Inv X pins σ H s->t σ H Q ->
  wpAny (model X.prog X.w) X.A (forIn ifs true fun c r=>if r=true then do let ok ←isTrue c X.env (eval c X.env);pure (U37 ok) else pure (U37 r)) (TP X pins σ Q) X.xe s
def HJ:TT:=fun _ H Q=>Q true H
theorem iT{X:Cx}:PTs X [] HJ:=fun _ _ _ H _ I h=>U0d ⟨H,I,h⟩
theorem iR{X:Cx}{c:Expr}{t:TT}(h:PT X c t):PTs X [c] t:=by
 intro pins s σ H Q I hw
 rw[U5i]
 simp only[if_true]
 refine U0 (U0 (thn (h pins s σ H Q I hw) fun b s1 hb=>U0d ?_))
 show wpAny _ _ (pure b) _ _ _
 exact U0d hb
def Low(k:Nat)(g:TG):Prop:=∀x σ H Q,g x σ H Q->g x σ H fun σ' H'=>Q σ' H'/\σ'.length=σ.length/\∀j,k<=j->σ'[j]?=σ[j]?
def Vn(k:Nat)(g:TGs):Prop:=∀x σ H Q,g x σ H Q->g x σ H fun σ' H'=>Q σ' H'/\σ'.length=σ.length/\∀j,k<=j->σ'[j]?=σ[j]?
theorem dg{k i:Nat}(h:i<k):Low k (Vg i):=fun x σ H Q q =>
 ⟨q,U4u ..,fun j hj=>U3g (by omega)⟩
theorem jH{k:Nat}:Vn k cG:=fun _ _ _ _ ⟨e,q⟩=>⟨e,q,rfl,fun _ _=>rfl⟩
theorem dh{k:Nat}{t:TG}{u:TGs}(ht:Low k t)(hu:Vn k u)(mono:∀x σ H Q Q',(∀σ' H',Q σ' H'->Q' σ' H')->t x σ H Q->t x σ H Q')
  (monoU:∀x σ H Q Q',(∀σ' H',Q σ' H'->Q' σ' H')->u x σ H Q->u x σ H Q'):Vn k (Z2 t u):=fun x σ H Q ⟨v,r,e,q⟩=>by
 refine⟨v,r,e,mono v σ H _ _ (fun σ1 H1 z=>?_) (ht v σ H _ q)⟩
 obtain⟨z1,z2,z3⟩:=z
 exact monoU r σ1 H1 _ _ (fun σ2 H2 y=>⟨y.1,y.2.1.trans z2,fun j hj=>(y.2.2 j hj).trans (z3 j hj)⟩) (hu r σ1 H1 _ z1)
theorem jG{K:U0b}{n k:Nat}{t:TGs}(h:Vn k t):Low k (cF K n t):=fun x σ H Q ⟨a,xs,e,hs,hl,q⟩=>⟨a,xs,e,hs,hl,h xs σ H Q q⟩
def compLook(sc:Scope)(N N2:List Str)(k:Nat)(caps:List Nat)(scope:Scope):Bool :=
 decide (scope.kind=.function)&&scope.names.all (fun y=>decide (y.2≠.cell)||decide (scope.names.lookup y.1=some .cell))&&scope.names.all (fun y=>decide (y.2≠.local)||decide (scope.names.lookup y.1=some .local)) &&
 scope.names.all (fun y=>decide (y.2≠.free)||decide (sc.names.lookup y.1=some .cell)||decide (sc.names.lookup y.1=some .free))&&decide N2.Nodup&&decide (N2.length=k+caps.length) &&
 (U4b caps.length).all fun j=>match caps[j]?,N2[k+j]? with
  |some i,some y=>decide (N[i]?=some y)&&decide (scope.names.lookup y=some .free)
  |_,_=>false
structure Ed(sc:Scope)(N N2:List Str)(k:Nat)(caps:List Nat)(scope:Scope):Prop where
 kind:scope.kind=.function
 one:∀y∈scope.names,y.2=.cell->scope.names.lookup y.1=some .cell
 loc:∀y∈scope.names,y.2=.local->scope.names.lookup y.1=some .local
 free:∀y∈scope.names,y.2=.free->sc.names.lookup y.1=some .cell∨sc.names.lookup y.1=some .free
 nd:N2.Nodup
 len:N2.length=k+caps.length
 cap:∀j i,caps[j]?=some i->∃y,N2[k+j]?=some y/\N[i]?=some y/\scope.names.lookup y=some .free
theorem Ed.of{sc:Scope}{N N2:List Str}{k:Nat}{caps:List Nat}{scope:Scope}(h:compLook sc N N2 k caps scope=true):Ed sc N N2 k caps scope:=by
 unfold compLook at h
 simp only[U0s,U3x,U6i,decide_eq_true_eq] at h
 obtain⟨⟨⟨⟨⟨⟨h1,h2⟩,h3⟩,h4⟩,h5⟩,h6⟩,h7⟩:=h
 refine⟨h1,fun y hy e=>?_,fun y hy e=>?_,fun y hy e=>?_,h5,h6,fun j i e=>?_⟩
 .rcases h2 y hy with z|z
  .exact absurd e z
  .exact z
 .rcases h3 y hy with z|z
  .exact absurd e z
  .exact z
 .rcases h4 y hy with (z|z)|z
  .exact absurd e z
  .exact .inl z
  .exact .inr z
 .have hj:j∈U4b caps.length:=U42.mpr (U0k.mp e).1
  have q:=h7 j hj
  rw[e] at q
  cases hy:N2[k+j]? with
  |none=>rw[hy] at q;exact absurd q (by simp)
  |some y =>
   rw[hy] at q
   simp only[U0s,decide_eq_true_eq] at q
   exact⟨y,rfl,q.1,q.2⟩
theorem QC{env:Env}:∀{names:List (Str×NameKind)} {x:Str},names.lookup x=some .free ->
  (names.map fun(n,k)=>if (k==U2d&&env.scope.kind==.function&&env.kindOf n==some .cell) then (n,U3m) else (n,k)).lookup x=some .cell ∨
  (names.map fun(n,k)=>if (k==U2d&&env.scope.kind==.function&&env.kindOf n==some .cell) then (n,U3m) else (n,k)).lookup x=some .free
 |[],_,h=>by simp at h
 |(n,k)::r,x,h=>by
  have ih:=@QC env r x
  show U7d x ((if (k==U2d&&env.scope.kind==.function&&env.kindOf n==some .cell)=true then (n,U3m) else (n,k))::_)=_∨U7d x ((if (k==U2d&&env.scope.kind==.function&&env.kindOf n==some .cell)=true then (n,U3m) else (n,k))::_)=_
  cases hx:x==n with
  |true =>
   simp only[U1w,hx] at h
   cases h
   by_cases hc:(U2d==U2d&&env.scope.kind==.function&&env.kindOf n==some .cell)=true
   .rw[if_pos hc];left;simp only[U1w,hx]
   .rw[if_neg hc];right;simp only[U1w,hx]
  |false =>
   simp only[U1w,hx] at h
   by_cases hc:(k==U2d&&env.scope.kind==.function&&env.kindOf n==some .cell)=true
   .rw[if_pos hc];simp only[U1w,hx];exact ih h
   .rw[if_neg hc];simp only[U1w,hx];exact ih h
theorem QD{env:Env}:∀{names:List (Str×NameKind)} {x:Str},
  ((names.map fun(n,k)=>if (k==U2d&&env.scope.kind==.function&&env.kindOf n==some .cell) then (n,U3m) else (n,k)).lookup x=some .cell ∨
   (names.map fun(n,k)=>if (k==U2d&&env.scope.kind==.function&&env.kindOf n==some .cell) then (n,U3m) else (n,k)).lookup x=some .free)->names.lookup x=some .free∨names.lookup x=some .cell
 |[],_,h=>by simp at h
 |(n,k)::r,x,h=>by
  have ih:=@QD env r x
  cases hx:x==n with
  |true =>
   simp only[U1w,hx]
   by_cases hf:k=.free
   .rw[hf];exact .inl rfl
   .have hkf:(k==U2d)=false:=by
     cases k<;>first|rfl|exact absurd rfl hf
    simp only[U0r,hkf,Bool.false_and,U06,if_false,U1w,hx] at h
    rcases h with z|z
    .exact .inr z
    .exact absurd (U00 z) hf
  |false =>
   simp only[U1w,hx]
   refine ih ?_
   have h':U7d x ((if (k==U2d&&env.scope.kind==.function&&env.kindOf n==some .cell)=true then (n,U3m) else (n,k))::List.map _ r)=some .cell∨U7d x ((if (k==U2d&&env.scope.kind==.function&&env.kindOf n==some .cell)=true then (n,U3m) else (n,k))::List.map _ r)=some .free:=h
   by_cases hcc:(k==U2d&&env.scope.kind==.function&&env.kindOf n==some .cell)=true
   .rw[if_pos hcc] at h';simp only[U1w,hx] at h';exact h'
   .rw[if_neg hcc] at h';simp only[U1w,hx] at h';exact h'
theorem Hl:∀(names:List (Str×NameKind))(n:Nat)(acc:List (Str×Addr)),cellsFrom n names acc=cellsFrom n names []++acc
 |[],_,_=>rfl
 |(x,k)::r,n,acc=>by
  unfold cellsFrom
  split
  .rw[Hl r (n+1) ((x,n)::acc),Hl r (n+1) [(x,n)],U0z];rfl
  .exact Hl r n acc
theorem LQ:∀(names:List (Str×NameKind))(n:Nat){x:Str}{c:Addr},(x,c)∈cellsFrom n names []->(x,U3m)∈names
 |[],_,_,_,h=>by simp[cellsFrom] at h
 |(y,k)::r,n,x,c,h=>by
  unfold cellsFrom at h
  split at h
  .rename_i hk
   rw[Hl] at h
   rcases U1e.mp h with z|z
   .exact U0n _ (LQ r (n+1) z)
   .have z':(x,c)=(y,n):=by simpa using z
    have hk':k=.cell:=by simpa using hk
    cases z'
    rw[hk'];exact U0p
  .exact U0n _ (LQ r n h)
theorem ZR{cs ds:List (Str×Addr)}{x:Str}{c:Addr}(h:(cs++ds).lookup x=some c):cs.lookup x=some c∨(cs.lookup x=none/\ds.lookup x=some c):=by
 rw[U4v] at h
 cases e:cs.lookup x with
 |none=>rw[e] at h;exact .inr ⟨rfl,h⟩
 |some d=>rw[e] at h;exact .inl h
theorem Xv{M:Model}{A:Around}{E:Value->Shared->Prop}{s:Shared}{scope:Scope}{globals:Addr}{cl:List (Str×Addr)}{qual:Str}{env:Env}{Q:Env->Shared->Prop}
  (hQ:∀h':Heap,h'.Ns s.heap.objs.size (fun _=>none)->(∀b o,s.heap.get? b=some o->h'.get? b=some o)->CellsOk h' (s.heap.objs.size+1) (cellsFrom (s.heap.objs.size+1) scope.names []) ->
   Q { scope,locals:=s.heap.objs.size,globals,cells:=cellsFrom (s.heap.objs.size+1) scope.names []++cl,qual,func:=none,code:=env.code,frame:=env.frame,builtins:=env.builtins } { s with heap:=h' }) :
  wpAny M A (newFunctionEnv scope globals cl [] qual none .none (some env)) Q E s:=by
 simp only[newFunctionEnv,Option.isSome_some,if_true]
 refine U0 (wpAny_alloc ?_)
 refine U0 (wpAny_layCells _ (fun name kind cells=>by cases hkc:kind==U3m<;>simp[hkc]) _ _ _ _ ?_)
 rw[show({ s with heap:=s.heap.push { cls:=.type "dict",data:=.dict #[] } }:Shared).heap.objs.size=s.heap.objs.size+1 from U2c ..]
 have ok:=cellsFrom_ok scope.names (s.heap.push { cls:=.type "dict",data:=.dict #[] }) (s.heap.objs.size+1) [] ⟨fun _ _ hm=>(nomatch hm),U6w⟩ (by rw[U2c];exact U0o _)
 rw[U2c] at ok
 rw[Hl]
 refine U0 ?_
 rw[U7h]
 refine U0d (U0d (hQ _ ?_ ?_ ok))
 .exact(Heap.Ns.new s.heap (.type "dict")).keeps (pushCells_keeps _ _)
 .exact fun b o e=>pushCells_keeps _ _ b o (U0c _ e)
theorem TX{scope:Scope}{env:Env}(h:∀y∈scope.names,y.2=.free->∃c,env.cells.lookup y.1=some c) :
  ∃cl,closureFor scope env=pure cl/\(∀x c,cl.lookup x=some c->env.cells.lookup x=some c)/\∀x,scope.names.lookup x=some .free->∃c,cl.lookup x=some c:=by
 have all:∀(names:List (Str×NameKind))(cs:List (Str×Addr)),(∀y∈names,y.2=.free->∃c,env.cells.lookup y.1=some c)->(∀x c,cs.lookup x=some c->env.cells.lookup x=some c) ->
   ∃cl,(forIn names cs (fun(x:Str×NameKind) (cs:List (Str×Addr))=>(match x with
     |(name,kind)=>if (kind==U2d)=true then (cellOf env name >>= fun a=>pure (U37 ((name,a)::cs))) else pure (U37 cs):Sem (ForInStep (List (Str×Addr)))) ):Sem (List (Str×Addr)))=pure cl /\
    (∀x c,cl.lookup x=some c->env.cells.lookup x=some c)/\(∀x c,cs.lookup x=some c->∃c',cl.lookup x=some c')/\∀x,names.lookup x=some .free->∃c,cl.lookup x=some c:=by
  intro names
  induction names with
  |nil=>intro cs _ hc;exact⟨cs,rfl,hc,fun x c e=>⟨c,e⟩,fun x e=>by simp at e⟩
  |cons y r ih =>
   intro cs hy hc
   obtain⟨n,kd⟩:=y
   by_cases hk:kd=.free
   .subst hk
    obtain⟨c,hcn⟩:=hy (n,.free) U0p rfl
    have hc':∀x c',((n,c)::cs).lookup x=some c'->env.cells.lookup x=some c':=fun x c' e=>by
     rw[U1w] at e
     cases hx:x==n with
     |true =>
      rw[hx] at e
      have hxn:x=n:=by simpa using hx
      rw[hxn,hcn];exact e
     |false=>rw[hx] at e;exact hc x c' e
    obtain⟨cl,e1,e2,e3,e4⟩:=ih ((n,c)::cs) (fun z hz=>hy z (U0n _ hz)) hc'
    refine⟨cl,?_,e2,fun x c' e=>?_,fun x e=>?_⟩
    .rw[U5i]
     have hb:(U2d==U2d)=true:=rfl
     simp only[hb,if_true,cellOf,hcn,pure_bind]
     exact e1
    .by_cases hx:(x==n)=true
     .exact e3 x c (by rw[U1w,hx])
     .have hx':(x==n)=false:=by simpa using hx
      exact e3 x c' (by rw[U1w,hx'];exact e)
    .rw[U1w] at e
     cases hx:x==n with
     |true=>exact e3 x c (by rw[U1w,hx])
     |false=>rw[hx] at e;exact e4 x e
   .have hb:(kd==U2d)=false:=by
     cases kd<;>first|rfl|exact absurd rfl hk
    obtain⟨cl,e1,e2,e3,e4⟩:=ih cs (fun z hz=>hy z (U0n _ hz)) hc
    refine⟨cl,?_,e2,e3,fun x e=>?_⟩
    .rw[U5i]
     simp only[hb,U06,if_false,pure_bind]
     exact e1
    .rw[U1w] at e
     cases hx:x==n with
     |true=>rw[hx] at e;exact absurd (U00 e) hk
     |false=>rw[hx] at e;exact e4 x e
 obtain⟨cl,e1,e2,_,e4⟩:=all scope.names [] h (fun x c e=>by simp at e)
 refine⟨cl,?_,e2,e4⟩
 unfold closureFor
 rw[←bind_pure (pure cl:Sem _),←e1]
abbrev Di(X:Cx)(N2:List Str)(scope:Scope)(cl:List (Str×Addr))(C:Addr)(s:Shared)(H:Hp)(ex:List Addr):Cx :=
 { X with N:=N2,s₀:=s,H₀:=H,env:=compEnvC scope cl C X.env,outer:=X.stack,ex:=ex,fn:=fun x=>decide (scope.names.lookup x=some .cell),pn:=[],xe:=fun _ _=>False }
def J6(k:Nat)(caps:List Nat)(σ:St):St:=U0w k none++caps.map fun j=>(σ[j]?).join
def rE(J:It)(k:Nat)(caps:List Nat)(σ:St)(g:TG)(tt:TT)(te:TE)(Q:VK)(H1:Hp):Prop:=∃W:Nat->Nat->List V->Hp->Prop,(∃m,W 0 m [] H1)/\∀i m ys H,W i m ys H ->
 (J.stop i H/\∀p,H p=none->Q (.ref p) (upd H p (.lst ys))) ∨
 (J.go i H/\ys.length<sizeLine/\∀x H',J.yld i H x H'->g x (J6 k caps σ) H' fun σ2 H2=>tt σ2 H2 fun b H3 =>
  if b=true then te σ2 H3 fun v H4=>∃m',m'<m/\W (i+1) m' (ys++[v]) H4 else ∃m',m'<m/\W (i+1) m' ys H3)
def Yv(k:Nat)(caps:List Nat)(wi:TI)(g:TG)(tt:TT)(te:TE):TE:=fun σ H Q=>wi σ H fun J H1=>rE J k caps σ g tt te Q H1
theorem Yl{k:Nat}{caps:List Nat}{σ:St}{i:Nat}{v:V}(h:(J6 k caps σ)[i]?=some (some v)):∃j a,i=k+j/\caps[j]?=some a/\σ[a]?=some (some v):=by
 unfold J6 at h
 by_cases hi:i<k
 .rw[U04 (by simpa using hi),U4p,if_pos hi] at h
  cases h
 .rw[U1h (by simpa using hi),U11,U0y] at h
  cases e:caps[i-k]? with
  |none=>rw[e] at h;cases h
  |some a =>
   rw[e] at h
   have h':(σ[a]?).join=some v:=U00 h
   refine⟨i-k,a,by omega,e,?_⟩
   cases e2:σ[a]? with
   |none=>rw[e2] at h';cases h'
   |some o =>
    rw[e2] at h'
    cases o with
    |none=>cases h'
    |some v' =>
     have h'':some v'=some v:=h'
     rw[h'']
theorem KR{a b n:Nat}(h1:a<n)(h2:n<=b):a≠b:=by omega
section
variable{X:Cx}{pins:List (Addr×Obj)}{σ:St}
theorem Inv.but{H:Hp}{s:Shared}{C:Addr}{h':Heap}(I:Inv X pins σ H s)(hb:U1c C s.heap h')(hn:H C=none)(hL:C≠X.env.locals)(h1:X.s₀.heap.objs.size<=C)(h2:∀x c,X.env.cells.lookup x=some c->c≠C)(h3:∀p∈X.pn++pins,p.1≠C) :
  Inv X pins σ H { s with heap:=h' }:=I.turned (t':=s.toks) (fun b o hne e=>(hb.2 b hne).trans e) hn hL (.inr h1) h2 h3
theorem TV{s2:Shared}{H2:Hp}{elt tg iter:Expr}{ifs:List Expr}{scope:Scope}{pos:Pos}{N2:List Str}{k:Nat}{caps:List Nat}{cl:List (Str×Addr)}{g:TG}{tt:TT}{te:TE}{E:Value->Shared->Prop}
  {it:Addr} {fp:List Addr} {tn:Nat->Heap->Prop} {J:It} {RR:Value->Addr->Result->Shared->Prop} {Qe:List V->Hp->Prop} {W:Nat->Nat->List V->Hp->Prop} {m0:Nat}
  (hc:X.calm=true) (hS:Ed X.env.scope X.N N2 k caps scope) (hlow:Low k g)
  (hcl:∀x c,cl.lookup x=some c->X.env.cells.lookup x=some c) (hcf:∀x,scope.names.lookup x=some .free->∃c,cl.lookup x=some c)
  (hb:∀(cl:List (Str×Addr))(C:Addr)(s:Shared)(H:Hp)(ex:List Addr),PG (Di X N2 scope cl C s H ex) tg g/\PTs (Di X N2 scope cl C s H ex) ifs tt/\PE (Di X N2 scope cl C s H ex) elt te)
  (I2:Inv X pins σ H2 s2) (T:Turn X.prog X.w X.K tg J fp it tn) (st2:tn 0 s2.heap) (f2:∀b∈fp,Nf X pins H2 b) (w0:W 0 m0 [] H2)
  (turn:∀i m ys H,W i m ys H->(J.stop i H/\Qe ys H) ∨
   (J.go i H/\ys.length<sizeLine/\∀x H',J.yld i H x H'->g x (J6 k caps σ) H' fun σ2 H2=>tt σ2 H2 fun b H3 =>
    if b=true then te σ2 H3 fun v H4=>∃m',m'<m/\W (i+1) m' (ys++[v]) H4 else ∃m',m'<m/\W (i+1) m' ys H3))
  (hRR:∀D C s' H' ys,s2.heap.objs.size<=D->s2.heap.objs.size<=C->C≠D->H' D=none->H' C=none->Inv X pins σ (upd H' D (.lst ys)) s'->(∃m,s'.heap.Ns C m)->Qe ys H'->RR (.ref D) C (.ok .next) s') :
  wpAny (model X.prog X.w) X.A (newList []) (fun acc s₃=>wpAny (model X.prog X.w) X.A (newFunctionEnv scope X.env.globals cl [] X.env.qual none .none (some X.env)) (fun cenv s₄ =>
   codeAny (model X.prog X.w) X.A (.compStart (.ListComp elt [⟨tg,iter,ifs,0⟩] scope pos) 0 (.ref it) acc { cenv with scope:=relabel scope X.env }) (RR acc cenv.locals) s₄) E s₃) E s2:=by
 refine U2a (Xv fun h₁ hns₁ kp cok=>?_)
 dsimp only at hns₁ kp cok ⊢
 generalize hH3:s2.heap.push { cls:=.type "list",dict:=none,data:=.seq ([]:List Value).toArray }=H3 at hns₁ kp cok ⊢
 have hC:H3.objs.size=s2.heap.objs.size+1:=by rw[←hH3,U2c]
 generalize hDD:s2.heap.objs.size=D at hC
 generalize hCC:H3.objs.size=C at hns₁ cok hC ⊢
 have hDC:D≠C:=by omega
 have szD:s2.heap.objs.size<=D:=U7s hDD
 have szC:s2.heap.objs.size<=C:=by rw[hDD,hC];exact U4x _
 have below:∀b o,s2.heap.get? b=some o->b≠C/\b≠D:=fun b o e=>⟨KR (U0j e) szC,KR (U0j e) szD⟩
 have old:∀b o,s2.heap.get? b=some o->h₁.get? b=some o:=fun b o e=>kp b o (hH3 ▸ U0c _ e)
 have hacc:h₁.get? D=some { cls:=.type "list",data:=.seq ([]:List Value).toArray 0 }:=kp _ _ (hH3 ▸ hDD ▸ U0u _ rfl)
 have f2h:∀b∈fp,∃o,s2.heap.get? b=some o:=fun b hbf=>let ⟨o,e,_⟩:=T.obj 0 _ st2 b hbf;⟨o,e⟩
 -- the block's context
 have okc:∀x c,X.env.cells.lookup x=some c->∃o,s2.heap.get? c=some o:=fun x c e=>let ⟨_,o,ho,_⟩:=I2.cell x c e;⟨o,ho⟩
 have oMem:∀x c,(cellsFrom (C+1) scope.names []).lookup x=some c->C+1<=c/\h₁.IsCell c none/\scope.names.lookup x=some .cell:=fun x c e=>by
  have m:=U2u e
  exact⟨(cok.empty x c m).2,(cok.empty x c m).1,hS.one _ (LQ _ _ m) rfl⟩
 have oHas:∀x,scope.names.lookup x=some .cell->∃c,(cellsFrom (C+1) scope.names []).lookup x=some c:=fun x e=>U5p.mp (U54 scope.names (C+1) [] (.inl e))
 have oApart:=cok.apart
 generalize cellsFrom (C+1) scope.names []=own at oMem oHas oApart ⊢
 have hcs:∀x c,(own++cl).lookup x=some c->(C+1<=c/\h₁.IsCell c none/\own.lookup x=some c)∨X.env.cells.lookup x=some c:=fun x c e=>by
  rcases ZR e with z|z
  .exact .inl ⟨(oMem x c z).1,(oMem x c z).2.1,z⟩
  .exact .inr (hcl x c z.2)
 have hlt:∀x c,X.env.cells.lookup x=some c->c<s2.heap.objs.size:=fun x c e=>let ⟨o,ho⟩:=okc x c e;U0j ho
 have OK:(Di X N2 scope (own++cl) C s2 H2 fp).Ok:=by
  refine⟨I2.ok.mod,hS.kind,I2.ok.glob,I2.ok.blt,?_,fun x y c h1 h2=>?_,fun x hx=>?_,fun x c hf h1=>?_,I2.ok.hd,I2.ok.frames,.inl rfl,fun b hbf=>?_,I2.bs,
   U1d I2.ok.bsz I2.sz,fun b o e hbf=>?_,fun b hbf hb'=>?_,I2.stack,I2.YD,I2.RQ⟩
  .exact szC
  .rcases hcs x c h1 with z|z
   .rcases hcs y c h2 with z'|z'
    .exact name_of_addr oApart (U2u z.2.2) (U2u z'.2.2)
    .exact absurd (hlt y c z') (U7k.mpr (U1d szC (U1d (U4x _) z.1)))
   .rcases hcs y c h2 with z'|z'
    .exact absurd (hlt x c z) (U7k.mpr (U1d szC (U1d (U4x _) z'.1)))
    .exact I2.ok.inj x y c z z'
  .rcases QD (env:=X.env) hx with z|z
   .obtain⟨c,e⟩:=hcf x z
    show ∃c,(own++cl).lookup x=some c
    rw[U4v]
    cases q:own.lookup x with
    |none=>exact⟨c,e⟩
    |some d=>exact⟨d,rfl⟩
   .obtain⟨c,e⟩:=oHas x z
    exact⟨c,by show(own++cl).lookup x=some c;rw[U4v,e];rfl⟩
  .obtain⟨d,e⟩:=oHas x (of_decide_eq_true hf)
   have h1':(own++cl).lookup x=some c:=h1
   rw[U4v,e] at h1'
   have e2:d=c:=U00 h1'
   rw[←e2]
   exact U1d szC (U1d (U4x _) (oMem x d e).1)
  .obtain⟨o,e⟩:=f2h b hbf
   refine⟨(below b o e).1,fun x c h1=>?_⟩
   rcases hcs x c h1 with z|z
   .exact fun w=>absurd (U0j e) (by rw[←w];exact U7k.mpr (U1d szC (U1d (U4x _) z.1)))
   .exact(f2 b hbf).2.2.2.2.1 x c z
  .rcases(f2 b hbf).2.2.2.1 with z|z
   .exact I2.ok.noex b o e z
   .exact absurd (U1a (U0j (I2.ok.bs b o e).1) z) (U4q _)
  .rcases U0q.mp (I2.Pg b hb') with z|z
   .exact(f2 b hbf).2.1 z
   .exact(f2 b hbf).2.2.1 z
 have fresh:∀a,s2.heap.objs.size<=a->H2 a=none:=fun a ha=>I2.hok.fresh ha
 have I4:∀tk,Inv (Di X N2 scope (own++cl) C s2 H2 fp) [(D,{ cls:=.type "list",data:=.seq ([]:List Value).toArray 0 })] (J6 k caps σ) H2 { s2 with heap:=h₁,toks:=tk }:=fun tk=>by
  refine⟨OK,rfl,I2.bare,Un.kept old,⟨_,hns₁,fun i x v e1 e2 e3=>?_⟩,fun x c e=>?_,fresh C szC,fun x c e=>?_,fun p hp=>?_,I2.hok.kept old,?_⟩
  .obtain⟨j,a,rfl,ha,hv⟩:=Yl e2
   obtain⟨y,y1,y2,y3⟩:=hS.cap j a ha
   have e1':N2[k+j]?=some x:=e1
   rw[y1] at e1';cases e1'
   have hk:X.env.scope.names.lookup x=some .cell∨X.env.scope.names.lookup x=some .free:=hS.free (x,.free) (U2u y3) rfl
   obtain⟨m',_,hl⟩:=id I2.loc
   obtain⟨u,ru,lk⟩:=hl a x v y2 hv (hk.elim (fun z=>.inr (.inl z)) fun z=>.inr (.inr z))
   refine⟨u,ru,.inr ⟨QC y3,?_⟩⟩
   rcases lk with ⟨kk,_⟩|⟨_,c,e,z⟩
   .have kk':X.env.scope.names.lookup x=some .local:=kk
    rw[kk'] at hk
    rcases hk with z|z<;>cases z
   .obtain⟨c',e'⟩:=hcf x y3
    have e'':=hcl x c' e'
    rw[e] at e'';cases e''
    obtain⟨o,ho,hd⟩:=z
    refine⟨c,?_,o,old c o ho,hd⟩
    show(own++cl).lookup x=some c
    rw[U4v]
    cases q:own.lookup x with
    |none=>exact e'
    |some d=>have:=(oMem x d q).2.2;rw[y3] at this;cases this
  .rcases hcs x c e with z|z
   .exact⟨none,z.2.1⟩
   .obtain⟨v,o,ho,hd⟩:=I2.cell x c z
    exact⟨v,o,old c o ho,hd⟩
  .rcases hcs x c e with z|z
   .exact fresh c (U1d szC (U1d (U4x _) z.1))
   .exact I2.freeC x c z
  .have hp':p∈[(D,({ cls:=.type "list",data:=.seq ([]:List Value).toArray 0 }:Obj))]:=hp
   have e:p=(D,({ cls:=.type "list",data:=.seq ([]:List Value).toArray 0 }:Obj)):=by simpa using hp'
   subst e
   exact⟨hacc,fresh D szD,hDC,fun z=>by
    rcases U0q.mp (I2.Pg D z) with z|z
    .exact KR I2.lt szD z.symm
    .exact I2.cD szD z,fun v z=>by cases z⟩
  .show(J6 k caps σ).length=N2.length
   unfold J6
   rw[U0h,U11,U0f,hS.len]
 -- the loop
 obtain⟨hg,ht,he⟩:=hb (own++cl) C s2 H2 fp
 have loop:∀s₃:Shared,Inv (Di X N2 scope (own++cl) C s2 H2 fp) [(D,{ cls:=.type "list",data:=.seq ([]:List Value).toArray 0 })] (J6 k caps σ) H2 s₃->tn 0 s₃.heap ->
   codeAny (model X.prog X.w) X.A (.compLoop (.ListComp elt [⟨tg,iter,ifs,0⟩] scope pos) 0 (.ref it) (.ref D) (compEnvC scope (own++cl) C X.env)) (RR (.ref D) C) s₃:=by
  intro s₃ I₃ st₃
  refine codeAny_loop rfl (fun n s'=>∃i ys its nn H',Inv (Di X N2 scope (own++cl) C s2 H2 fp) [(D,{ cls:=.type "list",data:=.seq (its:List Value).toArray nn })] (J6 k caps σ) H' s'/\Vals ys its/\tn i s'.heap/\(∀b∈fp,H' b=none)/\ys.length<=sizeLine/\W i n ys H') ?_ m0
   ⟨0,[],[],0,H2,I₃,.nil,st₃,fun b hbf=>(f2 b hbf).1,U3f _,w0⟩
  rintro n s5 ⟨i,ys,its,nn,H5,I5,rv,st5,fr5,hz,w5⟩
  show wpAny _ X.A ((compTurn (.ListComp elt [⟨tg,iter,ifs,0⟩] scope pos) 0 (.ref it) (.ref D) (compEnvC scope (own++cl) C X.env)).onRaise (fun x=>do noteFrame x (compEnvC scope (own++cl) C X.env);theTreesLotGoes x)) _ _ s5
  refine wpAny_noted ?_
  rw[compTurn_list]
  refine U0 (wpAny_standAt (U0 ?_))
  have fpok:∀{H':Hp} {o:Obj},(∀b∈fp,H' b=none)->∀b∈fp,Nf (Di X N2 scope (own++cl) C s2 H2 fp) [(D,o)] H' b:=fun {H' o} hn b hbf=>by
   obtain⟨ob,e⟩:=f2h b hbf
   refine⟨hn b hbf,(below b ob e).1,OK.exfs b hbf,.inl hbf,(OK.exf b hbf).2,fun p hp z=>?_⟩
   have hp':p∈[(D,o)]:=hp
   have e':p=(D,o):=by simpa using hp'
   subst e'
   exact(below b ob e).2 z.symm
  rcases turn i n ys H5 w5 with ⟨stop,qn⟩|⟨go,hz2,step⟩
  .refine thn (T.done (Di X N2 scope (own++cl) C s2 H2 fp) rfl rfl rfl hc i _ s5 _ H5 _ I5 (fpok fr5) st5 stop) fun r s6 ⟨hr,I6⟩=>?_
   subst hr
   refine U0d ?_
   obtain⟨pe,pn,pne,pnf,_⟩:=I6.pin (D,{ cls:=.type "list",data:=.seq its.toArray nn }) (U0x _ (U1f.mpr rfl))
   have hD:H5 D=none:=pn
   have hCn:H5 C=none:=I6.free
   refine hRR D C s6 H5 ys szD szC (U2f hDC) hD hCn ?_ ?_ qn
   .have un:Un (frs X.stack) fp H2 (upd H5 D (.lst ys)) s2.heap s6.heap:=by
     have u:=I6.base
     refine⟨u.keep,u.slot,fun b o e n1 n2=>?_,u.there,fun b xs e=>?_,fun b o u' e=>?_,fun b ps e=>?_,fun n=>by rw[Bf (U1m (U1a I2.cJ szD))];exact u.sy n⟩
     .rw[Bf (below b o e).2];exact u.free b o e n1 n2
     .rw[Bf (DP (u.tups b xs e) hD)];exact u.tups b xs e
     .rw[Bf (DP (u.frzs b o u' e) hD)];exact u.frzs b o u' e
     .obtain⟨more,q⟩:=u.tbls b ps e
      exact⟨more,by rw[Bf (DP q hD)];exact q⟩
    refine I2.call' I6.os un (fun b u e=>?_) I6.bare (fun b hbf=>⟨(f2 b hbf).2.2.2.1,(f2 b hbf).2.1,(f2 b hbf).2.2.2.2.1,(f2 b hbf).2.2.2.2.2⟩)
    by_cases hbd:b=D
    .subst hbd
     rw[Cg] at e;cases e
     exact⟨hz,its,nn,rv,pe⟩
    .rw[Bf hbd] at e
     exact(I6.hok b u e).stay (fun _ _ _ q=>q) (fun c q=>by rw[Bf (DP q hD)];exact q) fun c xs q=>by rw[Bf (DP q hD)];exact q
   .obtain⟨m,hn,_⟩:=I6.loc
    exact⟨m,hn⟩
  .refine thn (T.item (Di X N2 scope (own++cl) C s2 H2 fp) rfl rfl rfl hc i _ s5 _ H5 _ I5 (fpok fr5) st5 go) fun r s6 ⟨u,hr,h6⟩=>?_
   subst hr
   refine U0 (thn h6 fun _ s7 ⟨x,H7,I7,r7,y7,st7,fr7⟩=>?_)
   have I7':=I7.pinned (fpok fr7) (T.obj _ _ st7)
   refine U0 (U48 (hg _ s7 _ H7 x u _ I7' r7 (hlow _ _ _ _ (step x H7 y7))) (fun _ s8 ⟨σ8,H8,I8,q8,ql,qk⟩=>?_) fun _ _ z=>z.elim)
   have wk:∀{pl:List (Addr×Obj)} {H9:Hp} {s9:Shared},Inv (Di X N2 scope (own++cl) C s2 H2 fp) pl σ8 H9 s9->Inv (Di X N2 scope (own++cl) C s2 H2 fp) pl (J6 k caps σ) H9 s9:=fun {pl H9 s9} I9 =>
    I9.weak ql.symm fun i v e=>by
     obtain⟨j,a,rfl,_,_⟩:=Yl e
     rw[qk (k+j) (U49 _ _)];exact e
   have pinD:∀{pl:List (Addr×Obj)} {σ9:St} {H9:Hp} {s9:Shared},Inv (Di X N2 scope (own++cl) C s2 H2 fp) (((D,({ cls:=.type "list",data:=.seq its.toArray nn }:Obj))::[])++pl) σ9 H9 s9->s9.heap.get? D=some { cls:=.type "list",data:=.seq its.toArray nn }/\H9 D=none:=fun {pl σ9 H9 s9} I9=>by
    obtain⟨e1,e2,_⟩:=I9.pin (D,_) (U0x _ (U2h _ (U1f.mpr rfl)))
    exact⟨e1,e2⟩
   have stn:∀{pl:List (Addr×Obj)} {σ9:St} {H9:Hp} {s9:Shared},Inv (Di X N2 scope (own++cl) C s2 H2 fp) (pl++Km fp s7.heap) σ9 H9 s9->tn (i+1) s9.heap/\∀b∈fp,H9 b=none:=fun {pl σ9 H9 s9} I9=>by
    refine⟨T.keep _ _ _ st7 fun b hbf o e=>(I9.pin (b,o) (U0x _ (U0x _ (Lg hbf e)))).1,fun b hbf=>?_⟩
    obtain⟨o,e,d⟩:=T.obj _ _ st7 b hbf
    exact(I9.pin (b,o) (U0x _ (U0x _ (Lg hbf e)))).2.1
   refine U0 (U48 (ht _ s8 σ8 H8 _ I8 q8) (fun ok s9 ⟨H9,I9,q9⟩=>?_) fun _ _ z=>z.elim)
   cases ok with
   |false =>
    obtain⟨m',hm,w9⟩:=(by simpa using q9:∃m',m'<n/\W (i+1) m' ys H9)
    refine U0d ⟨rfl,m',hm,i+1,ys,its,nn,H9,wk I9.Ob,rv,(stn I9).1,(stn I9).2,hz,w9⟩
   |true =>
    have q9':te σ8 H9 fun v H4=>∃m',m'<n/\W (i+1) m' (ys++[v]) H4:=by simpa using q9
    refine U0 (U0 (U48 (he _ s9 σ8 H9 _ I9 q9') (fun y s10 ⟨v,H10,I10,r10,q10⟩=>U0 ?_) fun _ _ z=>z.elim))
    obtain⟨m',hm,w10⟩:=q10
    obtain⟨eD,nD⟩:=pinD I10
    have hl:=rv.length
    refine call_meets F.slot_list_append ⟨_,eD,rfl⟩ F.entry_list_append (F.args_list_append_2 _ _) (PySem.list_append D its.toArray nn y (by rw[U0m];omega)) ⟨eD,?_⟩
    refine U0d (U0d ⟨rfl,m',hm,?_⟩)
    obtain⟨n2,qD⟩:∃n2,(s10.heap.update D (U2v fun z=>z.push y)).get? D=some { cls:=.type "list",data:=.seq (its++[y]).toArray n2 }:=by
     have q0:=PySem.IsL.update eD (fun z=>z.push y)
     have hf:its.toArray.push y=(its++[y]).toArray:=by simp
     rw[hf] at q0
     exact⟨_,q0⟩
    have J0:Inv (Di X N2 scope (own++cl) C s2 H2 fp) (Km fp s7.heap) (J6 k caps σ) H10 s10:=wk (I10.Qj fun p hp=>I10.pin p (U0x _ (U0x _ hp)))
    have J1:Inv (Di X N2 scope (own++cl) C s2 H2 fp) (Km fp s7.heap) (J6 k caps σ) H10 { s10 with heap:=s10.heap.update D (U2v fun z=>z.push y),toks:=s10.toks }:=by
     refine J0.turned (fun b o hne e=>(U03 s10.heap _ (U2f hne)).trans e) nD hDC (.inr szD) (fun x c e z=>?_) fun p hp z=>?_
     .rcases hcs x c e with y|y
      .have:=y.1
       rw[z] at this
       omega
      .obtain⟨o,ho⟩:=okc x c y
       exact(below c o ho).2 z
     .have hp':p∈Km fp s7.heap:=hp
      obtain⟨ob,e⟩:=f2h p.1 (Us hp').1
      exact(below p.1 ob e).2 z
    have J2:Inv (Di X N2 scope (own++cl) C s2 H2 fp) [(D,{ cls:=.type "list",data:=.seq (its++[y]).toArray n2 })] (J6 k caps σ) H10 { s10 with heap:=s10.heap.update D (U2v fun z=>z.push y),toks:=s10.toks }:=by
     refine J1.Qj fun p hp=>?_
     have e:p=(D,{ cls:=.type "list",data:=.seq (its++[y]).toArray n2 }):=U1f.mp hp
     subst e
     exact⟨qD,nD,hDC,fun z=>by
      rcases U0q.mp (I2.Pg D z) with z|z
      .exact KR I2.lt szD z.symm
      .exact I2.cD szD z,fun v z=>by cases z⟩
    refine⟨i+1,ys++[v],its++[y],_,H10,J2,rv.append (.cons r10 .nil),?_,(stn I10).2,?_,w10⟩
    .refine T.keep _ _ _ (stn I10).1 fun b hbf o e=>?_
     obtain⟨ob,e'⟩:=f2h b hbf
     exact(U03 s10.heap _ (U2f (below b ob e').2)).trans e
    .rw[U0h,U3o];omega
 have st1:tn 0 h₁:=T.keep _ _ _ st2 fun b hbf o e=>old b o e
 exact codeAny_compStart_list (loop _ (I4 _) st1) (T.self X.A 0 _ _ _ st1 (loop _ (I4 _) st1))
theorem j4{elt tg iter:Expr}{ifs:List Expr}{scope:Scope}{pos:Pos}{N2:List Str}{k:Nat}{caps:List Nat}{wi:TI}{g:TG}{tt:TT}{te:TE}
  (hc:X.calm=true) (hS:Ed X.env.scope X.N N2 k caps scope) (hlow:Low k g) (hi:PI X tg iter wi)
  (hb:∀(cl:List (Str×Addr))(C:Addr)(s:Shared)(H:Hp)(ex:List Addr),PG (Di X N2 scope cl C s H ex) tg g/\PTs (Di X N2 scope cl C s H ex) ifs tt/\PE (Di X N2 scope cl C s H ex) elt te)
  (hs:∀x,foldedSetIterable iter X.env x=pure x:=by intro _;rfl):PE X (.ListComp elt [⟨tg,iter,ifs,0⟩] scope pos) (Yv k caps wi g tt te):=by
 intro pins s σ H Q I h
 rw[eval_ListComp]
 obtain⟨cl,hcl0,hcl,hcf⟩:=TX (scope:=scope) (env:=X.env) fun y hy e=>I.ok.has y.1 (hS.free y hy e)
 refine wpAny_comprehension_free (use:=none) rfl hs hcl0 hS.kind hS.loc ?_
 refine thn (hi pins s σ H _ I h) fun v s1 h1=>thn h1 fun itv s2 h2=>?_
 obtain⟨it,fp,tn,J,H2,e,I2,T,st2,f2,W,⟨m0,w0⟩,turn⟩:=h2
 subst e
 refine TV (RR:=fun acc C=>compPost (model X.prog X.w) X.A X.xe none (EP X pins σ Q) acc C) (Qe:=fun ys H=>∀p,H p=none->Q (.ref p) (upd H p (.lst ys))) hc hS hlow hcl hcf hb I2 T st2 f2 w0 turn ?_
 intro D C s' H' ys hD hC hDC nD nC I' hn q
 obtain⟨m,hn⟩:=hn
 refine⟨m,hn,fun h' hsb=>⟨.ref D,_,?_,rfl,q D nD⟩⟩
 refine I'.but hsb (by rw[Bf hDC];exact nC) (fun z=>?_) (U1d I2.sz hC) (fun x c e z=>?_) fun p hp z=>?_
 .exact KR I2.lt hC z.symm
 .obtain⟨v,o,ho,_⟩:=I2.cell x c e
  exact KR (U0j ho) hC z
 .exact KR (U0j (I2.pin p hp).1) hC z
def pq(i:Nat)(t:TE):TS:=fun D σ H=>t σ H fun v H1=>D.nx (σ.set i (some v)) H1
theorem iY{elt tg iter:Expr}{ifs:List Expr}{scope:Scope}{pos py spos:Pos}{N2:List Str}{k i:Nat}{y:Str}{caps:List Nat}{wi:TI}{g:TG}{tt:TT}{te:TE}
  (hc:X.calm=true) (hN:X.N.Nodup) (hi':X.N[i]?=some y) (hS:Ed X.env.scope X.N N2 k caps scope) (hlow:Low k g) (hi:PI X tg iter wi)
  (hb:∀(cl:List (Str×Addr))(C:Addr)(s:Shared)(H:Hp)(ex:List Addr),PG (Di X N2 scope cl C s H ex) tg g/\PTs (Di X N2 scope cl C s H ex) ifs tt/\PE (Di X N2 scope cl C s H ex) elt te)
  (hx:X.env.scope.names.lookup y=some .local:=by rfl) (hsw:swapsWith (.ListComp elt [⟨tg,iter,ifs,0⟩] scope pos) (some (.Name y py)) spos.line X.env=pure true:=by rfl)
  (hs:∀x,foldedSetIterable iter X.env x=pure x:=by intro _;rfl):PS X (.Assign [.Name y py] (.ListComp elt [⟨tg,iter,ifs,0⟩] scope pos) spos) (pq i (Yv k caps wi g tt te)):=by
 intro pins s σ H D0 I h
 obtain⟨cl,hcl0,hcl,hcf⟩:=TX (scope:=scope) (env:=X.env) fun y hy e=>I.ok.has y.1 (hS.free y hy e)
 rw[exec_Assign_Name_used _ _ _ _ hsw]
 refine U0 (wpAny_standAt (U0 ?_))
 show wpAny _ X.A (do let _ ←comprehension (.ListComp elt [⟨tg,iter,ifs,0⟩] scope pos) scope X.env _ (newList []) false (eval iter X.env) (some (assign (.Name y py) X.env))) _ _ s
 refine U0 (U48 (wpAny_comprehension_free (use:=some (assign (.Name y py) X.env)) (Q:=fun _ s'=>SP X pins D0 .next s') rfl hs hcl0 hS.kind hS.loc ?_) (fun _ s' hq=>U0d (U0d hq)) fun _ _ e=>e)
 refine thn (hi pins s σ H _ I h) fun v s1 h1=>thn h1 fun itv s2 h2=>?_
 obtain⟨it,fp,tn,J,H2,e,I2,T,st2,f2,W,⟨m0,w0⟩,turn⟩:=h2
 subst e
 refine TV (RR:=fun acc C=>compPost (model X.prog X.w) X.A X.xe (some (assign (.Name y py) X.env)) (fun _ s'=>SP X pins D0 .next s') acc C)
  (Qe:=fun ys H=>∀p,H p=none->D0.nx (σ.set i (some (.ref p))) (upd H p (.lst ys))) hc hS hlow hcl hcf hb I2 T st2 f2 w0 turn ?_
 intro D C s' H' ys hD hC hDC nD nC I' hn q
 obtain⟨m,hn⟩:=hn
 show wpAny _ X.A (assign (.Name y py) X.env (.ref D)) _ _ _
 refine wpAny_assign_Name (Ul (v:=.ref D) I' hN hi' (.inl hx) rfl (fun s'' I'' ⟨a,hsb,ha⟩=>?_) (.inr hx))
 have hLC:C≠X.env.locals:=fun z=>KR I2.lt hC z.symm
 have hcC:∀x c,X.env.cells.lookup x=some c->c≠C:=fun x c e z=>by
  obtain⟨v,o,ho,_⟩:=I2.cell x c e
  exact KR (U0j ho) hC z
 have haC:C≠a:=by
  rcases ha with z|z
  .rw[z];exact hLC
  .exact fun e=>hcC y a z e.symm
 refine⟨m,hn.sameBut hsb haC,fun h' hsb'=>?_⟩
 refine⟨_,_,I''.but hsb' (by rw[Bf hDC];exact nC) hLC (U1d I2.sz hC) hcC fun p hp z=>?_,q D nD⟩
 exact KR (U0j (I2.pin p hp).1) hC z
end
end L2
end
section
namespace L2
open PySem PySem.Spec PyProof.Rows
theorem EY.obj{P:Program}{w:World}{H:Hp}{h:Heap}{a:Addr}{o:HO}(x:EY P w H h a o):∃ob,h.get? a=some ob:=by
 cases o with
 |lst xs=>obtain⟨_,_,_,_,e⟩:=x;exact⟨_,e⟩
 |tup xs=>obtain⟨_,_,_,ob,e,_⟩:=x;exact⟨ob,e⟩
 |dK kvs=>obtain⟨_,_,_,_,o,_,_,e,_⟩:=x;exact⟨o,e⟩
 |dT kvs=>obtain⟨_,_,_,_,o,_,_,e,_⟩:=x;exact⟨o,e⟩
 |set S n=>obtain⟨o,_,_,_,e,_⟩:=x;exact⟨o,e⟩
 |ins C dx fs=>obtain⟨_,_,_,e,_⟩:=x;exact⟨_,e⟩
 |own y=>exact x
 |xd fs=>obtain⟨_,⟨o,_,_,e,_⟩,_⟩:=x;exact⟨o,e⟩
 |rng lo hi=>obtain⟨_,_,_,e⟩:=x;exact⟨_,e⟩
 |frz ob u=>obtain⟨e,_⟩:=x;exact⟨_,e⟩
 |tbl ps=>exact⟨_,x⟩
 |met f y=>exact⟨_,x⟩
 |ext φ=>obtain⟨_,e,_⟩:=x;exact e
section
variable{X:Cx}{pins:List (Addr×Obj)}{σ:St}{H:Hp}{s:Shared}
theorem Inv.YM(I:Inv X pins σ H s){a:Addr}(h:s.heap.get? a=none):H a=none:=by
 cases q:H a with
 |none=>rfl
 |some o =>
  obtain⟨ob,e⟩:=(I.hok a o q).obj
  rw[h] at e;cases e
theorem Inv.laidN{a:Addr}{o:HO}{h':Heap}{d':Drawn}{t':Nat}(I:Inv X pins σ H s)(k:∀b u,s.heap.get? b=some u->h'.get? b=some u)(hn:s.heap.get? a=none)(hsy:sysModules≠a)(new:EY X.prog X.w (upd H a o) h' a o) :
  Inv X pins σ (upd H a o) { s with heap:=h',drawn:=d',toks:=t' }:=by
 have hH:=I.YM hn
 have ne:∀b u,s.heap.get? b=some u->b≠a:=fun b u e z=>by rw[z,hn] at e;cases e
 refine I.step (g':=s.gens) (ch:=[]) (fun _ z=>nomatch z) (fun b u _ _ _ e _=>k b u e) (fun b u _ _ _ e _=>⟨u.slots,k b u e⟩) (fun b u _ e n=>by rw[Bf (ne b u e)];exact n) (fun b u _ e=>⟨u,k b u e⟩)
  (fun b xs e=>by rw[Bf (DP e hH)];exact e) (fun b u xs e=>by rw[Bf (DP e hH)];exact e) (fun b ps e=>⟨#[],by rw[Bf (DP e hH),e];simp⟩) (fun m hm=>?_) (fun b u e=>?_) I.bare (fun n=>by rw[Bf hsy];exact n)
 .obtain⟨ob,es,ep,e,r⟩:=hm
  exact⟨ob,es,ep,k _ _ e,r⟩
 .by_cases hb:b=a
  .subst hb;rw[Cg] at e;cases e;exact new
  .rw[Bf hb] at e
   exact(I.hok b u e).stay (fun c v _ q=>k c v q) (fun c q=>by rw[Bf (DP q hH)];exact q) fun c xs q=>by rw[Bf (DP q hH)];exact q
end
def Vi(P:Program)(w:World)(a:Addr)(ds:List Int):HO:=.ext fun h=>SetP.SetT P w h a ds
theorem iG{P:Program}{w:World}{H:Hp}{h:Heap}{a:Addr}{ds:List Int}(x:SetP.SetT P w h a ds):EY P w H h a (Vi P w a ds) :=
 ⟨x,(by obtain⟨_,o,_,_,_,e,_⟩:=x;exact⟨o,e⟩),fun h1 h2 y k=>y.sameBut k⟩
section
variable{X:Cx}
theorem fH(hc:X.calm=true):Dv X (.type "set") (fun xs H Q=>∃p ns,xs=[.ref p]/\SqL X.K H p (ns.map V.int)/\ns.length<1000/\∀a,H a=none->Q (.ref a) (upd H a (Vi X.prog X.w a (SetP.once ns)))):=by
 intro pins s σ H xs us Q I r h
 obtain⟨p,ns,rfl,hq,hl,q⟩:=h
 obtain⟨u,rfl,rx⟩:=vals1 r
 cases rx
 obtain⟨its,rv,pl,hz⟩:=I.list hq
 have hlen:=rv.length
 rw[U0f] at hlen
 refine SetP.iD (I.ok.hd hc) pl.isList (by simpa using intsAre_of rv) (by rw[U0m,←hlen];unfold scanBound;omega) fun h' tk k T=>?_
 have hn:s.heap.get? s.heap.objs.size=none:=Heap.get?_none_of_le (U0o _)
 exact⟨.ref s.heap.objs.size,_,I.laidN (d':=s.drawn) (t':=tk) k hn (U1m I.cJ) (iG T),rfl,q _ (I.hok.fresh (U0o _))⟩
theorem Xh{prog:Program}{w:World}{A:Around}{bs:List Bool}{its:List Value}(r:Vals (bs.map V.bl) its):TruthOf prog w A (fun i v=>its.toArray[i]?=some v) (fun i=>bs.getD i false):=by
 intro i v s Q E hP h
 rw[U44] at hP
 have hlen:=r.length
 rw[U0f] at hlen
 have hi:i<bs.length:=by rw[hlen];exact(U0k.mp hP).1
 obtain⟨u,e,ru⟩:=r.get (i:=i) (x:=.bl bs[i]) (by rw[U0y,U02 hi];rfl)
 rw[e] at hP;cases hP
 have ru':v=U4r bs[i]:=ru
 subst ru'
 have e2:bs.getD i false=bs[i]:=by rw[U26,U02 hi];rfl
 have h:Q (bs.getD i false) s:=h
 rw[e2] at h
 exact U29 h
theorem all_range(bs:List Bool):(U4b bs.length).all (fun i=>bs.getD i false)=bs.all id:=by
 rw[U4s,U3x,U3x]
 constructor
 .intro h b hb
  obtain⟨i,hi⟩:=U36.mp hb
  have q:=h i (U42.mpr (U0k.mp hi).1)
  rw[U26,hi] at q
  exact q
 .intro h i hi
  have hi':=U42.mp hi
  rw[U26,U02 hi']
  exact h _ (U4i hi')
theorem Rv(hc:X.calm=true):Dv X (.builtin "all") (fun xs H Q=>∃(p:Addr)(bs:List Bool),xs=[.ref p]/\SqL X.K H p (bs.map V.bl)/\Q (.bl (bs.all id)) H):=by
 intro pins s σ H xs us Q I r h
 obtain⟨p,bs,rfl,hq,q⟩:=h
 obtain⟨u,rfl,rx⟩:=vals1 r
 cases rx
 obtain⟨its,rv,pl,hz⟩:=I.list hq
 have hlen:=rv.length
 rw[U0f] at hlen
 have hl:=pl.isList
 have hlt:p<s.heap.objs.size:=by obtain⟨o,ho,_⟩:=hl;exact U0j ho
 refine call_all_walk (U41 hl ?_)
 refine⟨s.heap.objs.size,[s.heap.objs.size,p],[s.heap.objs.size],its.toArray.size,_,_,fun i=>bs.getD i false,rfl,Walks.list (by simpa using I.ok.hd hc) s.heap.objs.size p (U1m hlt) its.toArray,⟨⟨_,U0u _ rfl,rfl,rfl⟩,hl.push _⟩,Xh rv,fun h' tk k=>?_⟩
 refine⟨.bl (bs.all id),H,I.kept (h':=h') (t':=tk) fun b o e=>k b o (fun z=>?_) (U0c _ e),?_,q⟩
 .exact absurd (U1f.mp z) (U1m (U0j e))
 .show U4r _=U4r _
  rw[U0m,←hlen,all_range]
theorem Ca{K:U0b}{a b:String}{r:Bool}(h:(if (U3l a==U3l b)=true then some true else if PySem.W.kitMeta b=true then (PySem.fastBuiltinMro a).map (·.contains (.type b)) else none)=some r):U3h K (.type a) (.type b)=some r:=h
theorem Xy:Dv X (.builtin "isinstance") (fun xs H Q=>∃(x:V)(T:String)(t:Value)(b:Bool),xs=[x,.ty T]/\JZ X.K H x t/\U3h X.K t (.type T)=some b/\Q (.bl b) H):=by
 intro pins s σ H xs us Q I r h
 obtain⟨x,T,t,b,rfl,ty,e,q⟩:=h
 obtain⟨u,w',rfl,rx,rt⟩:=vals2 r
 cases (show w'=U3l T from rt)
 exact bC I rx ty e fun tk=>⟨.bl b,H,I.tok tk,rfl,q⟩
end
end L2
end
section
namespace L2
open PySem PySem.Spec PyProof.Rows
mutual
inductive Tr (N:Addr->Prop) (H:Hp):V->PyData->Prop
 |non:Tr N H .non .none
 |bl (b:Bool):Tr N H (.bl b) (.bool b)
 |int (i:Int):Tr N H (.int i) (.int i)
 |str (x:Str):Tr N H (.str x) (.str x)
 |lst {a:Addr} {xs:List V} {ds:List PyData}:N a->H a=some (.lst xs)->Jq N H xs ds->Tr N H (.ref a) (.list ds)
 |tup {a:Addr} {xs:List V} {ds:List PyData}:N a->H a=some (.tup xs)->Jq N H xs ds->Tr N H (.ref a) (.tuple ds)
 |dct {a:Addr}:N a->H a=some (.dK [])->Tr N H (.ref a) (.dict [])
inductive Jq (N:Addr->Prop) (H:Hp):List V->List PyData->Prop
 |nil:Jq N H [] []
 |cons {x:V} {d:PyData} {xs:List V} {ds:List PyData}:Tr N H x d->Jq N H xs ds->Jq N H (x::xs) (d::ds)
end
section
variable{N N':Addr->Prop}{H H':Hp}
end
section
variable{N:Addr->Prop}{P:Program}{w:World}{H:Hp}{h:Heap}
mutual
theorem Tr.reads(ok:HOk P w H h)(hs:H sysModules=none):∀{v:V} {d:PyData},Tr N H v d->∀u,RelV v u->∃as,Reads h u d as/\sysModules ∉ as
 |_,_,.non,u,r=>⟨[],by cases (show u=U2q from r);exact .none,by simp⟩
 |_,_,.bl b,u,r=>⟨[],by cases (show u=U4r b from r);exact .bool b,by simp⟩
 |_,_,.int i,u,r=>by obtain⟨t,rfl⟩:=(show ∃t,u=U5m i t from r);exact⟨[],.int i t,by simp⟩
 |_,_,.str x,u,r=>by obtain⟨t,rfl⟩:=(show ∃t,u=Value.str x t from r);exact⟨[],.str x t,by simp⟩
 |_,_,.lst (a:=a) (xs:=xs) (ds:=ds) _ hH t,u,r=>by
  cases (show u=U3c a from r)
  obtain⟨_,its,n,rv,e⟩:=(show EY P w H h a (.lst xs) from ok a _ hH)
  obtain⟨as,ra,na⟩:=Jq.reads ok hs t its rv
  refine⟨a::as,.list e rfl rfl (by simpa using ra),fun z=>?_⟩
  rcases U0q.mp z with z|z
  .rw[z] at hs;rw[hs] at hH;cases hH
  .exact na z
 |_,_,.tup (a:=a) (xs:=xs) (ds:=ds) _ hH t,u,r=>by
  cases (show u=U3c a from r)
  obtain⟨_,its,rv,ob,e,c,n,d⟩:=(show EY P w H h a (.tup xs) from ok a _ hH)
  obtain⟨as,ra,na⟩:=Jq.reads ok hs t its rv
  exact⟨as,.tuple e c d (by simpa using ra),na⟩
 |_,_,.dct (a:=a) _ hH,u,r=>by
  cases (show u=U3c a from r)
  obtain⟨_,y,vs,kv,o,es,ep,e,ex,d,el⟩:=(show EY P w H h a (.dK []) from ok a _ hH)
  cases kv
  have e0:es.toList=[]:=by
   have q:Pairs (UL P w) es.toList []:=el.2.1
   generalize es.toList=l at q
   cases q
   rfl
  refine⟨[a],.dict (as:=[]) (bs:=[]) e ex.1 d (by rw[e0];exact .nil) (by rw[e0];exact .nil),fun z=>?_⟩
  have z':=U1f.mp z
  rw[←z'] at y
  simp at y
theorem Jq.reads(ok:HOk P w H h)(hs:H sysModules=none):∀{xs:List V} {ds:List PyData},Jq N H xs ds->∀us,Vals xs us->∃as,ReadsAll h us ds as/\sysModules ∉ as
 |_,_,.nil,us,r=>by cases r;exact⟨[],.nil,by simp⟩
 |_,_,.cons t ts,us,r=>by
  cases r with
  |cons rx rr =>
   obtain⟨as,ra,na⟩:=Tr.reads ok hs t _ rx
   obtain⟨bs,rb,nb⟩:=Jq.reads ok hs ts _ rr
   exact⟨as++bs,.cons ra rb,fun z=>(U1e.mp z).elim na nb⟩
end
end
section
variable{X:Cx}
theorem bO{k:Nat}(hr:Em k X.A):Dv X (.builtin "repr") (fun xs H Q=>∃(N:Addr->Prop)(a:Addr)(d:PyData),xs=[.ref a]/\Tr N H (.ref a) d/\d.showable=true/\d.depth<=60/\d.shown.length<=sizeLine/\Q (.str d.shown) H):=by
 intro pins s σ H xs us Q I r h
 obtain⟨N,a,d,rfl,t,h1,h2,h3,q⟩:=h
 obtain⟨u,rfl,rx⟩:=vals1 r
 cases rx
 obtain⟨as,ra,na⟩:=t.reads I.hok I.RQ (.ref a) rfl
 have hu:=hr.un
 exact repr_of_reads' ra h1 (fun _=>na) hr.gd (by omega) (fun _ _ e=>e) (fun h' u tk k=>⟨.str d.shown,H,I.kept (h':=h') (t':=tk) k,⟨u,rfl⟩,q⟩) h3
theorem nQ{k:Nat}(hr:Em k X.A):OpR X (compareOp .Eq) (fun x y H Q=>∃(N N':Addr->Prop)(d e:PyData),Tr N H x d/\Tr N' H y e/\U2j d=true/\U2j e=true/\Q (.bl (U7l d e)) H):=by
 intro pins s σ H x y v u Q I rx ry h
 obtain⟨N,N',d,e,t1,t2,s1,s2,q⟩:=h
 obtain⟨as,ra,_⟩:=t1.reads I.hok I.RQ v rx
 obtain⟨bs,rb,_⟩:=t2.reads I.hok I.RQ u ry
 exact SeqAt.compareEq_shaped ra rb s1 s2 hr.units ⟨.bl _,H,I,rfl,q⟩
theorem nO{k:Nat}(hr:Em k X.A):OpR X (compareOp .NotEq) (fun x y H Q=>∃(N N':Addr->Prop)(d e:PyData),Tr N H x d/\Tr N' H y e/\U2j d=true/\U2j e=true/\Q (.bl (!PyData.eqv d e)) H):=by
 intro pins s σ H x y v u Q I rx ry h
 obtain⟨N,N',d,e,t1,t2,s1,s2,q⟩:=h
 obtain⟨as,ra,_⟩:=t1.reads I.hok I.RQ v rx
 obtain⟨bs,rb,_⟩:=t2.reads I.hok I.RQ u ry
 exact SeqAt.compareNe_shaped ra rb s1 s2 hr.units ⟨.bl _,H,I,rfl,q⟩
end
end L2
end
section
namespace HT
open PySem PySem.Spec PyProof.Rows
section
variable{prog:Program}{w:World}{A:Around}{E:Value->Shared->Prop}{s:Shared}
theorem fG{t b:Addr}{ws:List Value}{Q:Value->Shared->Prop}(ht:IsTup s.heap t ([]:List Value).toArray)(hb:IsTup s.heap b ws.toArray)(h:Q (.ref b) s):wpAny (model prog w) A (binaryOp .Add (.ref t) (.ref b)) Q E s:=by
 obtain⟨⟨c1,d1,x1,sl1⟩,ho,hc,n,hd⟩:=id ht
 obtain⟨⟨c2,d2,x2,sl2⟩,ho2,hc2,n2,hd2⟩:=id hb
 simp only at hc hd hc2 hd2
 subst hc hd hc2 hd2
 exact concat_meets ⟨_,ho,rfl⟩ ⟨_,ho2,rfl⟩ noFill_tuple_add seq_tuple_add U55 U5y (U5q _ _) (tuple_addW0 t b _ ws.toArray n n2 d1 d2 sl1 sl2 (by simp)) ⟨ho,ho2,h⟩
theorem Xi{t sl:Addr}{items:Array Value}{vl vu:Value}{lo hi:Option Int}{Q:Value->Shared->Prop}(ht:IsTup s.heap t items)(hs:s.heap.IsSliceOf sl vl vu .none)(pl:IsPart vl lo)(pu:IsPart vu hi)
  (hw:sIx items.size 0 lo=0/\sIx items.size items.size hi=items.size) (h:Q (.ref t) s):wpAny (model prog w) A (getItem (.ref t) (.ref sl)) Q E s:=by
 obtain⟨os,hos,hcs,hds⟩:=id hs
 have hTs:s.TypeIs (.ref sl) "slice":=⟨os,hos,hcs⟩
 unfold getItem
 try with_reducible refine U2x ?_
 first|refine U0 (U0d ?_)|skip
 refine U0 (wpAny_sequenceKey ht.typeIs (by decide) ?_)
 refine U0 (wpAny_callSpecial?_slot (name:=U30 "__getitem__") ht.typeIs U2o (U2s U2o ht.typeIs entry_tuple_getitem ?_ (args_tuple_getitem _ _)))
 show wpAny _ _ (Builtin.Tuple.tupleItemsOf (.ref t) >>= _) _ _ s
 refine U0 (tupleItemsOf_ ht (U0 (U6f hTs ?_)))
 rw[if_pos (by decide)]
 refine U0 (Ms hs pl pu ?_)
 have yes:(((sIx items.size 0 lo:Nat):Int)==0&&(1:Int)==1&&(sIx items.size items.size hi-sIx items.size 0 lo)==items.size)=true:=by
  rw[hw.1,hw.2];simp
 show wpAny _ _ (if (((sIx items.size 0 lo:Nat):Int)==0&&(1:Int)==1&&(sIx items.size items.size hi-sIx items.size 0 lo)==items.size)=true then _ else _) _ _ s
 rw[if_pos yes]
 unfold Builtin.Tuple.tupleIsExact
 refine U0 (U0 (U6f ht.typeIs (U0d ?_)))
 rw[if_pos (by decide)]
 exact U0 (U3i (U0d ⟨_,rfl,U0d h⟩))
end
end HT
namespace L2
open PySem PySem.Spec PyProof.Rows
theorem Dw{H:Hp}{p:Addr}(h:H p=none)(o:HO):Same H (upd H p o):=fun b u q=>by rw[Bf (DP q h)];exact q
theorem Za(xs:List V)(lo hi:Option Int)(h:HT.sIx xs.length 0 lo=0/\HT.sIx xs.length xs.length hi=xs.length):Jm xs lo hi=xs:=by
 unfold Jm
 rw[h.1,h.2,U5v,Nat.sub_zero,U4m]
section
variable{X:Cx}
theorem jB:OpR X (binaryOp .Add) (fun x y H Q=>∃(a b:Addr)(xs ys:List V),x=.ref a/\y=.ref b/\H a=some (.tup xs)/\H b=some (.tup ys)/\xs.length+ys.length<=sizeLine/\∀p H',Same H H'->H' p=some (.tup (xs++ys))->Q (.ref p) H'):=by
 intro pins s σ H x y v u Q I rx ry h
 obtain⟨a,b,xs,ys,rfl,rfl,ha,hb,hz,q⟩:=h
 by_cases hx:xs=[]
 .subst hx
  cases rx
  cases ry
  obtain⟨its,r1,p1,_⟩:=I.tuple (SqT.of ha)
  obtain⟨its2,r2,p2,_⟩:=I.tuple (SqT.of hb)
  cases r1
  exact HT.fG p1 p2 ⟨.ref b,H,I,rfl,q b H (Same.refl H) hb⟩
 .refine jA pins s σ H _ _ v u Q I rx ry ⟨a,b,xs,ys,rfl,rfl,SqT.of ha,SqT.of hb,hx,hz,fun z=>?_,fun _ p hp=>q p _ (Dw hp _) Cg⟩
  subst z
  exact q a H (Same.refl H) (by rw[U1k];exact ha)
theorem iB:SlR X (fun x lo hi H Q=>∃(a:Addr)(xs:List V),x=.ref a/\H a=some (.tup xs)/\∀p H',Same H H'->H' p=some (.tup (Jm xs lo hi))->Q (.ref p) H'):=by
 intro pins s σ H x v vl vu lo hi sl Q I rx hs pl pu h
 obtain⟨a,xs,rfl,ha,q⟩:=h
 by_cases hw:HT.sIx xs.length 0 lo=0/\HT.sIx xs.length xs.length hi=xs.length
 .cases rx
  obtain⟨its,r,ht,hz⟩:=I.tuple (SqT.of ha)
  have hlen:its.toArray.size=xs.length:=by rw[U0m];exact r.length.symm
  refine⟨"tuple",_,U2o.lookup,ht.typeIs,?_⟩
  exact HT.Xi ht hs pl pu (by rw[hlen];exact hw) ⟨.ref a,H,I,rfl,q a H (Same.refl H) (by rw[Za xs lo hi hw];exact ha)⟩
 .exact mK pins s σ H _ v vl vu lo hi sl Q I rx hs pl pu ⟨a,xs,rfl,SqT.of ha,hw,fun p hp=>q p _ (Dw hp _) Cg⟩
end
end L2
end
section
namespace L2
open PySem PySem.Spec PyProof.Rows
def Cal(P:Program)(w:World)(K:U0b)(mg:Str->Option Value)(base:Heap)(x:Str)(k:Nat)(ps:List Str)(sp:Sp):Prop :=
 ∃f fd,Cy P w K mg base CX0 k f fd ps sp/\Binds K fd ps []/\U01 K (.ref f)=true/\mg x=some (.ref f)
section
variable{X:Cx}
theorem Rc{x:Str}{k k':Nat}{ps:List Str}{sp:Sp}{e:Expr}{es:List Expr}{t:TA}{p pos:Pos}(c:Cal X.prog X.w X.K X.mg X.base x k ps sp)(hr:Em k' X.A)(hk:k<=k')(hg:Gl X x)(ha:PA X (e::es) t)
  (hdb:(x==("__debug__":Str))=false:=by decide) (he:starEach (e::es) X.env=(false,eval e X.env)::starEach es X.env:=by rfl) (hpl:(backTo pos (starEach es X.env)).any (·.1)=false:=by rfl) :
  PE X (.Call (.Name x p) (e::es) [] pos) (fQ sp [] E0 t):=by
 obtain⟨f,fd,F,b,kp,m⟩:=c
 exact j6 (F.mono hk) hr hg m kp b .nil qb ha hdb he hpl
theorem WW:OpR X (binaryOp .FloorDiv) (rI (fun _ j=>0<j/\j<2^64) fun i j=>.int (i/j)):=opI fun i j _ _ _ _ _ hc q=>by
 rw[←Int.fdiv_eq_ediv_of_nonneg _ (U33 hc.1)] at q
 refine floordiv_int (Int.ne_of_gt hc.1) q (.inl (PyProof.noPylong_of_log2 ?_))
 have h1:j.natAbs<2^64:=by omega
 have h2:j.natAbs≠0:=by omega
 exact U5n ((Nat.log2_lt h2).mpr h1) (by decide)
end
theorem Sy:bootBuiltins "len"=some (.builtin "len"):=by decide +kernel
theorem JQ:bootBuiltins "isinstance"=some (.builtin "isinstance"):=by decide +kernel
theorem W4:bootBuiltins "all"=some (.builtin "all"):=by decide +kernel
theorem bU:bootBuiltins "sorted"=some (.builtin "sorted"):=by decide +kernel
theorem Mg:bootBuiltins "min"=some (.builtin "min"):=by decide +kernel
theorem Sx:bootBuiltins "max"=some (.builtin "max"):=by decide +kernel
theorem Qp:bootBuiltins "repr"=some (.builtin "repr"):=by decide +kernel
theorem ou:bootBuiltins "set"=some (.type "set"):=by decide +kernel
theorem Uh:bootBuiltins "list"=some (.type "list"):=by decide +kernel
theorem fL:bootBuiltins "tuple"=some (.type "tuple"):=by decide +kernel
theorem W3:bootBuiltins "int"=some (.type "int"):=by decide +kernel
theorem ji:bootBuiltins "bool"=some (.type "bool"):=by decide +kernel
def Rw:List Str:=["len","isinstance","all","sorted","min","max","abs","repr","set","list","tuple","range","int","bool","str"]
def Blt(mg:Str->Option Value):Prop:=∀x∈Rw,mg x=none
theorem Blt.is{mg:Str->Option Value}(b:Blt mg)(x:Str)(h:Rw.contains x=true:=by decide +kernel):mg x=none:=b x (List.contains_iff_mem.mp h)
def tyName:PyData->String
 |.none=>"NoneType"
 |.bool _=>"bool"
 |.int _=>"int"
 |.str _=>"str"
 |.list _=>"list"
 |.tuple _=>"tuple"
 |.dict _=>"dict"
theorem Tr.ty{N:Addr->Prop}{K:U0b}{H:Hp}{v:V}{d:PyData}(t:Tr N H v d):JZ K H v (.type (tyName d)):=by
 cases t with
 |non=>exact .non
 |bl b=>exact .bl b
 |int i=>exact .int i
 |str x=>exact .str x
 |lst _ h _=>exact .lst h
 |tup _ h _=>exact .tup h
 |dct _ h=>exact .dK h
def Vk(T:String)(d:PyData):Bool:=match T with
 |"int"=>(match d with|.int _=>true|.bool _=>true|_=>false)
 |"bool"=>(match d with|.bool _=>true|_=>false)
 |"tuple"=>(match d with|.tuple _=>true|_=>false)
 |"list"=>(match d with|.list _=>true|_=>false)
 |_=>false
theorem jP{K:U0b}(d:PyData):U3h K (.type (tyName d)) (.type "int")=some (Vk "int" d):=by
 cases d with
 |none=>exact Ca (a:="NoneType") (r:=false) (by decide +kernel)
 |bool _=>exact Ca (a:="bool") (r:=true) (by decide +kernel)
 |int _=>exact Ca (a:="int") (r:=true) (by decide +kernel)
 |str _=>exact Ca (a:="str") (r:=false) (by decide +kernel)
 |list _=>exact Ca (a:="list") (r:=false) (by decide +kernel)
 |tuple _=>exact Ca (a:="tuple") (r:=false) (by decide +kernel)
 |dict _=>exact Ca (a:="dict") (r:=false) (by decide +kernel)
theorem eH{K:U0b}(d:PyData):U3h K (.type (tyName d)) (.type "bool")=some (Vk "bool" d):=by
 cases d with
 |none=>exact Ca (a:="NoneType") (r:=false) (by decide +kernel)
 |bool _=>exact Ca (a:="bool") (r:=true) (by decide +kernel)
 |int _=>exact Ca (a:="int") (r:=false) (by decide +kernel)
 |str _=>exact Ca (a:="str") (r:=false) (by decide +kernel)
 |list _=>exact Ca (a:="list") (r:=false) (by decide +kernel)
 |tuple _=>exact Ca (a:="tuple") (r:=false) (by decide +kernel)
 |dict _=>exact Ca (a:="dict") (r:=false) (by decide +kernel)
theorem kit_tuple{K:U0b}(d:PyData):U3h K (.type (tyName d)) (.type "tuple")=some (Vk "tuple" d):=by
 cases d with
 |none=>exact Ca (a:="NoneType") (r:=false) (by decide +kernel)
 |bool _=>exact Ca (a:="bool") (r:=false) (by decide +kernel)
 |int _=>exact Ca (a:="int") (r:=false) (by decide +kernel)
 |str _=>exact Ca (a:="str") (r:=false) (by decide +kernel)
 |list _=>exact Ca (a:="list") (r:=false) (by decide +kernel)
 |tuple _=>exact Ca (a:="tuple") (r:=true) (by decide +kernel)
 |dict _=>exact Ca (a:="dict") (r:=false) (by decide +kernel)
theorem eG{K:U0b}(d:PyData):U3h K (.type (tyName d)) (.type "list")=some (Vk "list" d):=by
 cases d with
 |none=>exact Ca (a:="NoneType") (r:=false) (by decide +kernel)
 |bool _=>exact Ca (a:="bool") (r:=false) (by decide +kernel)
 |int _=>exact Ca (a:="int") (r:=false) (by decide +kernel)
 |str _=>exact Ca (a:="str") (r:=false) (by decide +kernel)
 |list _=>exact Ca (a:="list") (r:=true) (by decide +kernel)
 |tuple _=>exact Ca (a:="tuple") (r:=false) (by decide +kernel)
 |dict _=>exact Ca (a:="dict") (r:=false) (by decide +kernel)
end L2
end
section
namespace L2
open PySem PySem.Spec PyProof.Rows
def O2:PyData->Bool
 |.none=>true
 |.bool _=>true
 |.int i=>decide (i.natAbs<10^41)
 |.str x=>decide (x.length<=30)&&x.cps.toList.all fun c=>decide (c<16^8)
 |.dict kvs=>kvs.isEmpty
 |_=>false
def fit:List Nat->PyData->Bool
 |w::ws,.list xs=>decide (xs.length<=w)&&xs.all (fit ws)
 |w::ws,.tuple xs=>decide (xs.length<=w)&&xs.all (fit ws)
 |_,d=>O2 d
def bnd:List Nat->Nat
 |[]=>400
 |w::ws=>w*(bnd ws+2)+400
theorem YX{d:PyData}(h:O2 d=true):d.showable=true/\d.depth<=1/\d.shown.length<=400:=by
 cases d with
 |none=>exact⟨rfl,by simp[U3e],by decide⟩
 |bool b=>exact⟨rfl,by simp[U3e],by cases b<;>decide⟩
 |int i =>
  have hi:i.natAbs<10^41:=of_decide_eq_true h
  refine⟨?_,by simp[U3e],?_⟩
  .simp only[U6j,decide_eq_true_eq]
   by_cases h0:i.natAbs=0
   .rw[h0];decide
   .exact U5n ((Nat.log2_lt h0).mpr (U5n hi (by decide:10^41<2^137))) (by decide)
  .have q:=int_text_length_le10 (k:=41) (by decide) hi
   have e:(U34 (.int i)).length=(toString i).length:=by
    show(U30 (toString i)).length=_
    exact PySem.ofString_length _
   rw[e];omega
 |str x =>
  simp only[O2,U0s,decide_eq_true_eq,U3x] at h
  refine⟨rfl,by simp[U3e],?_⟩
  have q:=StrLaws.reprText_len x h.2
  simp only[U34]
  have:=h.1
  omega
 |list xs=>cases h
 |tuple xs=>cases h
 |dict kvs =>
  cases kvs with
  |nil=>exact⟨rfl,by simp[U3e,PyData.depthKv],by decide⟩
  |cons a r=>cases h
theorem Ug{ws:List Nat}(ih:∀d,fit ws d=true->d.showable=true/\d.depth<=ws.length+1/\d.shown.length<=bnd ws):∀xs:List PyData,xs.all (fit ws)=true ->
  PyData.showableAll xs=true/\U38 xs<=ws.length+1/\((U4w xs).map (·.length)).sum+2*(U4w xs).length<=xs.length*(bnd ws+2)
 |[],_=>⟨rfl,by simp[U38],by simp[U4w]⟩
 |x::r,h=>by
  rw[List.all_cons,U0s] at h
  obtain⟨a1,a2,a3⟩:=ih x h.1
  obtain⟨b1,b2,b3⟩:=Ug ih r h.2
  refine⟨by simp[PyData.showableAll,a1,b1],by simp only[U38];omega,?_⟩
  simp only[U4w,U0r,U5b,U0e]
  rw[show(r.length+1)*(bnd ws+2)=r.length*(bnd ws+2)+(bnd ws+2) from Nat.succ_mul _ _]
  omega
theorem aA:∀(ws:List Nat)(d:PyData),fit ws d=true->d.showable=true/\d.depth<=ws.length+1/\d.shown.length<=bnd ws
 |[],d,h=>by
  have h':O2 d=true:=by
   cases d<;>exact h
  obtain⟨a,b,c⟩:=YX h'
  exact⟨a,b,c⟩
 |w::ws,d,h=>by
  have ih:=aA ws
  have leaf:O2 d=true->d.showable=true/\d.depth<=(w::ws).length+1/\d.shown.length<=bnd (w::ws):=fun h'=>by
   obtain⟨a,b,c⟩:=YX h'
   refine⟨a,by rw[U0e];omega,U1d c ?_⟩
   unfold bnd;omega
  cases d with
  |list xs =>
   simp only[fit,U0s,decide_eq_true_eq] at h
   obtain⟨a,b,c⟩:=Ug ih xs h.2
   refine⟨by simpa [U6j] using a,by simp only[U3e,U0e];omega,?_⟩
   have q:=listText_len_le (U4w xs)
   have m:=Nat.mul_le_mul_right (bnd ws+2) h.1
   simp only[U34,bnd]
   omega
  |tuple xs =>
   simp only[fit,U0s,decide_eq_true_eq] at h
   obtain⟨a,b,c⟩:=Ug ih xs h.2
   refine⟨by simpa [U6j] using a,by simp only[U3e,U0e];omega,?_⟩
   have q:=tupleText_len_le (U4w xs)
   have m:=Nat.mul_le_mul_right (bnd ws+2) h.1
   simp only[U34,bnd]
   omega
  |none=>exact leaf h
  |bool b=>exact leaf h
  |int i=>exact leaf h
  |str x=>exact leaf h
  |dict kvs=>exact leaf h
def Nx(n:Nat)(Pv:Nat->List V->Hp->Prop)(i:Nat)(ys:List V)(H:Hp):Prop:=∃m',m'<n-i/\(m'=n-(i+1)/\i+1<=n/\Pv (i+1) ys H)
theorem nx{n:Nat}{Pv:Nat->List V->Hp->Prop}{i:Nat}{ys:List V}{H:Hp}(hi:i<n)(p:Pv (i+1) ys H):Nx n Pv i ys H:=⟨n-(i+1),by omega,rfl,hi,p⟩
section
variable{k:Nat}{caps:List Nat}{σ:St}{g:TG}{tt:TT}{te:TE}{Q:VK}{H:Hp}
end
def Well(H:Hp)(a:Addr):Prop:=∃x y:Int,H a=some (.lst [.int x,.int y])
end L2
end
section
namespace L2
open PySem PySem.Spec PyProof.Rows
section
variable{a:Addr}{H0:Hp}{σ:St}{te t1 t2:TE}{ta:TA}{d:PyData}{ds d1 d2:List PyData}{i j:Int}
end
end L2
end
section
namespace L2
open PySem PySem.Spec PyProof.Rows
section
variable{X:Cx}{K:U0b}
abbrev sS(K:U0b):List V->Hp->VK->Prop:=fun xs H Q=>∃p ys,xs=[.ref p]/\(SqL K H p ys∨SqT K H p ys)/\Q (.int ys.length) H
abbrev iK(K:U0b):List V->Hp->VK->Prop:=fun xs H Q=>∃p ys,xs=[.ref p]/\(SqL K H p ys∨SqT K H p ys)/\∀l,H l=none->Q (.ref l) (upd H l (.lst ys))
end
end L2
end
section
namespace Bc
open PySem PySem.Spec PyProof.Rows L2
def lg:PyData->Bool
 |.tuple es=>U53 es&&decide (U38 es<=60)
 |_=>true
def lay:PyData->Bool
 |.tuple ds=>ds.all lg
 |_=>true
abbrev F3:List Nat:=[9,9,9]
def nr(a:Int):Bool:=decide (-(10^9)<=a)&&decide (a<=10^9)
def bx:PyData->Bool
 |.tuple [.int a,.int b]=>nr a&&nr b&&decide (a<b)
 |_=>false
def part(d:PyData):Bool:=fit [9,9] d&&lg d
def good(d:PyData):Bool:=fit F3 d&&lay d
end Bc
end
section
set_option maxRecDepth 100000
namespace HT
open PySem PySem.Spec PyProof.Rows
open AutoSeq1 (wpAny_loadPart')
theorem S6:fillsNumberSlot (.type "tuple") "mul"=pure false :=
 PySem.fillsNumberSlot_seq (id:="tuple.__mul__") (r:=some (.builtin "tuple.__rmul__")) U4y.lookup (by decide +kernel) PySem.F.slot_tuple_rmul.lookup (by decide +kernel)
theorem aQ:seqRepeat? (.type "tuple")=pure (some (.builtin "tuple.__mul__")):=by
 unfold seqRepeat?
 rw[PySem.seqSlot_of (T:="tuple") (name:="__mul__") (id:="tuple.__mul__") U4y.lookup (by decide +kernel),PySem.seqSlot_of (T:="tuple") (name:="__rmul__") (id:="tuple.__rmul__") PySem.F.slot_tuple_rmul.lookup (by decide +kernel)]
 rfl
theorem Xa(a:Int)(t:Tok)(l:Addr)(items:Array Value)(n:Nat)(dd:Option Addr)(sl:Array (Option Value)) :
  Meets (Builtin.«int.__rmul__» ⟨[.int a t,.ref l],[]⟩) (fun _ R s=>s.heap.get? l=some { cls:=.type "tuple",dict:=dd,data:=.seq items n,slots:=sl }/\R (.ok (.ret Value.notImplemented)) s) :=
 .of_wp fun prog w A R s h=>by obtain⟨hp,g,d,tk,os⟩:=s;obtain⟨hl,h⟩:=h;wp_walk using wpAny_loadPart' hl;exact⟨_,rfl,h⟩
theorem cZ(l:Addr)(items:Array Value)(n:Nat)(dd:Option Addr)(sl:Array (Option Value))(x:Int)(u:Tok)(hc0:¬(decide (x < -(2^63))||decide (x≥2^63))=true)(hc1:(items.isEmpty||x==1)=true) :
  Meets (Builtin.«tuple.__mul__» ⟨[.ref l,.int x u],[]⟩) (fun _ R s=>s.heap.get? l=some { cls:=.type "tuple",dict:=dd,data:=.seq items n,slots:=sl }/\R (.ok (.ret (U3c l))) { s with heap:=s.heap,toks:=s.toks }) :=
 .of_wp fun prog w A R s h=>by obtain⟨hp,g,d,tk,os⟩:=s;obtain⟨hl,h⟩:=h;have f1:=AutoSeq1.idx_int;wp_walk;refine U7b (decide_eq_false hc0) ?_;wp_walk using wpAny_loadPart' hl;exact⟨_,rfl,h⟩
theorem cY(l:Addr)(items:Array Value)(n:Nat)(dd:Option Addr)(sl:Array (Option Value))(x:Int)(u:Tok)(hc0:¬(decide (x < -(2^63))||decide (x≥2^63))=true)(hc1:¬(items.isEmpty||x==1)=true)
  (hc2:¬(decide (x<=0)||items.isEmpty)=true) (hc3:¬(items.size:Int)*x>(2^63-1)/8) (hc4:¬Builtin.Tuple.tupleTooMany ((items.size:Int)*x)=true) (hsz:(U6g (fun x1 x2=>x1++x2) #[] (U0w x.toNat items)).size<=sizeLine) :
  Meets (Builtin.«tuple.__mul__» ⟨[.ref l,.int x u],[]⟩) (fun _ R s=>s.heap.get? l=some { cls:=.type "tuple",dict:=dd,data:=.seq items n,slots:=sl }/\R (.ok (.ret (U3c s.heap.objs.size))) { s with heap:=s.heap.push { cls:=U3l "tuple",data:=Data.seq (U6g (fun x1 x2=>x1++x2) #[] (U0w x.toNat items)) },toks:=s.toks }) :=
 .of_wp fun prog w A R s h=>by obtain⟨hp,g,d,tk,os⟩:=s;obtain⟨hl,h⟩:=h;have f1:=AutoSeq1.idx_int;wp_walk;refine U7b (decide_eq_false hc0) ?_;wp_walk using wpAny_loadPart' hl;refine U7b (decide_eq_false hc3) ?_;wp_walk;exact⟨_,rfl,h⟩
section
variable{prog:Program}{w:World}{A:Around}{E:Value->Shared->Prop}{s:Shared}
theorem jD{t:Addr}{its:List Value}{k:Int}{u:Tok}{Q:Value->Shared->Prop}(ht:IsTup s.heap t its.toArray)(hne:its≠[])(h1:1<=k)(h2:k<2^60)(hz:its.length*k.toNat<=sizeLine)
  (q1:k=1->Q (.ref t) s) (q2:k≠1->Q (.ref s.heap.objs.size) { s with heap:=s.heap.push { cls:=.type "tuple",data:=.seq (U0w k.toNat its).flatten.toArray } }) :
  wpAny (model prog w) A (binaryOp .Mult (.ref t) (.int k u)) Q E s:=by
 obtain⟨⟨c1,d1,x1,sl1⟩,ho,hc,n,hd⟩:=id ht
 simp only at hc hd
 subst hc hd
 have c0:¬(decide (k < -(2^63))||decide (k≥2^63))=true:=by
  rw[decide_eq_false (by omega),decide_eq_false (by omega)];exact U1b
 have ne:its.toArray.isEmpty=false:=by cases its with|nil=>exact absurd rfl hne|cons _ _=>rfl
 have hnew:U6g (fun x1 x2=>x1++x2) #[] (U0w k.toNat its.toArray)=(U0w k.toNat its).flatten.toArray:=by
  have:=L2.foldl_rep its k.toNat []
  rw[U1x] at this
  exact this
 refine wpAny_binaryOp_repeat_ref (T:="tuple") (U:="int") (by decide) ⟨_,ho,rfl⟩ (fun s'=>typeIs_int s' k u) S6 PySem.F.fills_int_mul PySem.F.slot_int_rmul aQ PySem.F.slot_int_index.lookup
  (call_meets PySem.F.slot_int_rmul (typeIs_int s k u) PySem.F.entry_int_rmul (PySem.F.args_int_rmul_2 _ _) (Xa k u t its.toArray n d1 sl1) ⟨ho,rfl,⟨_,ho,rfl⟩,?_⟩)
 by_cases k1:k=1
 .exact call_meets U4y ⟨_,ho,rfl⟩ PySem.F.entry_tuple_mul (PySem.F.args_tuple_mul_2 _ _) (cZ t its.toArray n d1 sl1 k u c0 (by rw[k1];simp)) ⟨ho,q1 k1⟩
 .have e:((its.toArray.size:Nat):Int)*k=((its.length*k.toNat:Nat):Int):=by
   rw[U0m,Int.natCast_mul,Int.toNat_of_nonneg (by omega)]
  have hs:(sizeLine:Nat)=16777216:=by decide
  refine call_meets U4y ⟨_,ho,rfl⟩ PySem.F.entry_tuple_mul (PySem.F.args_tuple_mul_2 _ _) (cY t its.toArray n d1 sl1 k u c0 ?_ ?_ ?_ ?_ ?_) ⟨ho,?_⟩
  .rw[ne];simp[k1]
  .rw[ne,decide_eq_false (by omega)];exact U1b
  .rw[e];omega
  .rw[e]
   unfold Builtin.Tuple.tupleTooMany
   rw[decide_eq_true_eq]
   omega
  .rw[hnew,U0m,L2.len_rep,U7r];exact hz
  .rw[hnew];exact q2 k1
end
end HT
namespace L2
open PySem PySem.Spec PyProof.Rows
abbrev fU:R2:=fun x y H Q=>∃(a:Addr)(k:Int)(xs:List V),x=.ref a/\y=.int k/\H a=some (.tup xs)/\xs≠[]/\1<=k/\k<2^60/\xs.length*k.toNat<=sizeLine/\∀p H',Same H H'->H' p=some (.tup (U0w k.toNat xs).flatten)->Q (.ref p) H'
section
variable{X:Cx}
theorem j9:OpR X (binaryOp .Mult) fU:=by
 intro pins s σ H x y v u Q I rx ry h
 obtain⟨a,k,xs,rfl,rfl,ha,hne,k1,k2,hz,q⟩:=h
 cases rx
 obtain⟨t,rfl⟩:=ry
 obtain⟨its,r1,p1,_⟩:=I.tuple (SqT.of ha)
 refine HT.jD p1 (fun z=>hne (r1.Ql.mp z)) k1 k2 (by rw[←r1.length];exact hz) (fun e=>?_) (fun e=>?_)
 .refine⟨.ref a,H,I,rfl,q a H (Same.refl H) ?_⟩
  rw[e]
  simpa using ha
 .refine⟨.ref s.heap.objs.size,_,I.laid (t':=s.toks) (o:=.tup (U0w k.toNat xs).flatten) (fun b ob q=>U0c _ q) (U0o _) ?_,rfl,q _ _ (Dw (I.hok.fresh (U0o _)) _) Cg⟩
  exact⟨by rw[len_rep,U7r];exact hz,_,r1.rep k.toNat,IsTup.new _ _⟩
end
section
variable{X:Cx}
theorem Lj{k:Nat}(hr:Em k X.A):Dv X (.builtin "repr") (fun xs H Q=>∃(N:Addr->Prop)(v:V)(d:PyData),xs=[v]/\Tr N H v d/\d.showable=true/\d.depth<=60/\d.shown.length<=sizeLine/\Q (.str d.shown) H):=by
 intro pins s σ H xs us Q I r h
 obtain⟨N,v,d,rfl,t,h1,h2,h3,q⟩:=h
 have onRef:∀b,v=.ref b->wpAny (model X.prog X.w) X.A (call (.builtin "repr") us) (EP X pins σ Q) X.xe s:=fun b e=>by
  subst e
  exact bO hr pins s σ H _ us Q I r ⟨N,b,d,rfl,t,h1,h2,h3,q⟩
 cases t with
 |lst _ _ _=>exact onRef _ rfl
 |tup _ _ _=>exact onRef _ rfl
 |dct _ _=>exact onRef _ rfl
 |non =>
  obtain⟨u,rfl,rx⟩:=vals1 r
  cases (show u=U2q from rx)
  exact PySem.P.repr_of_none ⟨.str "None",H,I.tok _,⟨_,rfl⟩,q⟩
 |bl b =>
  obtain⟨u,rfl,rx⟩:=vals1 r
  cases (show u=U4r b from rx)
  exact PySem.P.repr_of_bool ⟨.str (if b then "True" else "False"),H,I.tok _,⟨_,rfl⟩,q⟩
 |int i =>
  obtain⟨u,rfl,rx⟩:=vals1 r
  obtain⟨t,rfl⟩:=rx
  exact PySem.P.repr_of_int (by simpa [U6j] using h1) ⟨.str (toString i),H,I.tok _,⟨_,rfl⟩,q⟩
 |str x =>
  obtain⟨u,rfl,rx⟩:=vals1 r
  obtain⟨t,rfl⟩:=rx
  exact PySem.P.repr_of_str ⟨.str (reprText x),H,I.tok _,⟨_,rfl⟩,q⟩ h3
end
section
variable{a:Addr}{H0:Hp}{σ:St}{te t1 t2:TE}{ta:TA}{d:PyData}{ds d1 d2:List PyData}{i j:Int}{K:U0b}
end
structure Wq(a q:Addr)(bs:List V)(H:Hp):Prop where
 w:Well H a
 at_:H q=some (.lst bs)
 ne:q≠a
section
variable{a q p:Addr}{bs:List V}{H H':Hp}
abbrev fW:R2:=fun x y H Q=>∃(a b:Addr)(xs ys:List V),x=.ref a/\y=.ref b/\H a=some (.tup xs)/\H b=some (.tup ys)/\xs.length+ys.length<=sizeLine/\∀p H',Same H H'->H' p=some (.tup (xs++ys))->Q (.ref p) H'
abbrev lM:V->Option Int->Option Int->Hp->VK->Prop:=fun x lo hi H Q=>∃(a:Addr)(xs:List V),x=.ref a/\H a=some (.tup xs)/\∀p H',Same H H'->H' p=some (.tup (Jm xs lo hi))->Q (.ref p) H'
end
end L2
end
section
namespace L2
open PySem PySem.Spec PyProof.Rows
end L2
namespace Bc
open PySem PySem.Spec PyProof.Rows L2
def nZ:PyData->Nat
 |.int 1=>20
 |.int 2=>10
 |.int 3=>6
 |_=>0
def tH(n:Nat):PyData->Bool
 |.tuple es=>decide (es.length=n)&&es.all bx
 |_=>false
end Bc
end
section
namespace L2
open PySem PySem.Spec PyProof.Rows
theorem Inv.Y8{X:Cx}{pins:List (Addr×Obj)}{σ:St}{H:Hp}{s:Shared}{h':Heap}{t':Nat}{fp:List Addr}(I:Inv X pins σ H s)(k:∀b o,b ∉ fp->s.heap.get? b=some o->h'.get? b=some o)(hf:∀b∈fp,Nf X pins H b) :
  Inv X pins σ H { s with heap:=h',toks:=t' }:=by
 have nit:∀b u,H b=some u->b ∉ fp:=fun b u e z=>by
  have:=(hf b z).1
  rw[this] at e
  cases e
 refine I.step (g':=s.gens) (d':=s.drawn) (ch:=fp) (fun b hb=>?_) (fun b o _ _ hc e _=>k b o hc e) (fun b o _ _ hc e _=>⟨o.slots,k b o hc e⟩) (fun _ _ _ _ n=>n) (fun b o hc e=>⟨o,k b o hc e⟩) (fun _ _ e=>e) (fun _ _ _ e=>e)
  (fun b ps e=>⟨#[],by rw[e];simp⟩) (fun m hm=>?_) (fun b u e=>?_) I.bare id
 .obtain⟨_,a2,_,a4,a5,a6⟩:=hf b hb
  exact⟨a4,a2,a5,a6⟩
 .obtain⟨o,es,ep,ho,r⟩:=hm
  exact⟨o,es,ep,k _ o (fun z=>(hf _ z).2.1 rfl) ho,r⟩
 .refine(I.hok b u e).stay (fun c v hc q=>k c v ?_ q) (fun _ q=>q) fun _ _ q=>q
  rcases hc with z|z
  .rw[z];exact nit b u e
  .exact nit c _ z
theorem Inv.qd{X:Cx}{pins:List (Addr×Obj)}{σ:St}{H:Hp}{s:Shared}{h':Heap}{t':Nat}{fp:List Addr}{x y:V}{u v:Value}(I:Inv X pins σ H s)(rx:RelV x u)(ry:RelV y v)
  (ht:h'.get? s.heap.objs.size=some { cls:=.type "tuple",data:=.seq #[u,v] }) (k:∀b o,b ∉ fp->s.heap.get? b=some o->h'.get? b=some o) (hf:∀b∈fp,Nf X pins H b) (hlt:∀b∈fp,b<s.heap.objs.size) :
  Inv X pins σ (upd H s.heap.objs.size (.tup [x,y])) { s with heap:=h',toks:=t' }:=by
 have I1:=I.laid (h':=s.heap.push { cls:=.type "tuple",data:=.seq #[u,v] }) (t':=s.toks) (a:=s.heap.objs.size) (o:=.tup [x,y]) (fun b ob q=>U0c _ q) (U0o _)
  ⟨(by decide:2<=sizeLine),[u,v],.cons rx (.cons ry .nil),IsTup.new _ _⟩
 refine Inv.Y8 (s:={ s with heap:=s.heap.push { cls:=.type "tuple",data:=.seq #[u,v] } }) (h':=h') (t':=t') (fp:=fp) I1 (fun b o hb e=>?_) (fun b hb=>?_)
 .rcases Heap.get?_push_cases e with ⟨z1,z2⟩|z
  .rw[z1,z2]
   exact ht
  .exact k b o hb z
 .obtain⟨a1,a2,a3,a4,a5,a6⟩:=hf b hb
  exact⟨by rw[Bf (U1m (hlt b hb))];exact a1,a2,a3,a4,a5,a6⟩
section
variable{X:Cx}
end
end L2
end
section
set_option maxRecDepth 100000
namespace HT
open PySem PySem.Spec PyProof.Rows
section
variable{prog:Program}{w:World}{A:Around}{E:Value->Shared->Prop}{s:Shared}
theorem nextT{it t:Addr}{i:Nat}{ws:Array Value}{x:Value}{Q:Value->Shared->Prop}(c:s.heap.IsTupleIter it t i)(ct:s.heap.IsTuple t ws)(ex:ws[i]?=some x)
  (q:∀h',h'.IsTupleIter it t (i+1)->U1c it s.heap h'->Q x { s with heap:=h' }):wpAny (model prog w) A (U2b (.ref it)) Q E s:=by
 obtain⟨o,e0,e1,e2⟩:=id c
 obtain⟨ot,f0,_,nt,f1⟩:=ct
 unfold U2b
 refine U0 (wpAny_callSpecial?_slot (name:=U30 "__next__") c.typeIs U3n (U2s U3n c.typeIs PySem.F.entry_tuple_iterator_next ?_ (PySem.F.args_tuple_iterator_next_1 _)))
 refine(show wpAny _ _ (field (.ref it) 0 >>= _) _ _ s from U0 (U21 e0 e2 (x:=.ref t) rfl ?_))
 show wpAny _ _ (ite ((U3c t==U2q)=true) _ _) _ _ s
 rw[if_neg (by exact U1b)]
 refine(show wpAny _ _ (field (.ref it) 1 >>= _) _ _ s from U0 (U21 e0 e2 (x:=.int i 0) rfl ?_))
 refine(show wpAny _ _ (seqItems? (.ref t) >>= _) _ _ s from U0 (U2p f0 f1 ?_))
 simp only[ex,U4a]
 refine U0 (U28 e0 e2 (by simp) (U0d ⟨x,rfl,U0d (q _ ⟨_,U2l _ e0 (Obj.isFreed_of_fields (Obj.data_mapFields e2 _)),(Obj.cls_mapFields ..).trans e1,?_⟩ (U16 ..))⟩))
 rw[Obj.data_mapFields e2]
 simp[rawInt]
theorem nY{it t:Addr}{i:Nat}{ws:Array Value}{Q:Value->Shared->Prop}(ha:A.handled=none)(c:s.heap.IsTupleIter it t i)(ct:s.heap.IsTuple t ws)(ex:ws[i]?=none)
  (q:∀h' e,U6q it s.heap h'->(∃o,h'.get? e=some o/\o.cls=.type "StopIteration")->E (.ref e) { s with heap:=h' }):wpAny (model prog w) A (U2b (.ref it)) Q E s:=by
 obtain⟨o,e0,e1,e2⟩:=id c
 obtain⟨ot,f0,_,nt,f1⟩:=ct
 unfold U2b
 refine U0 (wpAny_callSpecial?_slot (name:=U30 "__next__") c.typeIs U3n (U2s U3n c.typeIs PySem.F.entry_tuple_iterator_next ?_ (PySem.F.args_tuple_iterator_next_1 _)))
 refine(show wpAny _ _ (field (.ref it) 0 >>= _) _ _ s from U0 (U21 e0 e2 (x:=.ref t) rfl ?_))
 show wpAny _ _ (ite ((U3c t==U2q)=true) _ _) _ _ s
 rw[if_neg (by exact U1b)]
 refine(show wpAny _ _ (field (.ref it) 1 >>= _) _ _ s from U0 (U21 e0 e2 (x:=.int i 0) rfl ?_))
 refine(show wpAny _ _ (seqItems? (.ref t) >>= _) _ _ s from U0 (U2p f0 f1 ?_))
 simp only[ex,U4a]
 refine U0 (U3i (U0 (U28 e0 e2 (by simp) (show wpAny _ _ (newExc (.type "StopIteration") [] >>= _) _ _ _ from U0 ?_))))
 simp only[newTuple,newExc]
 refine U0 (U2a (U0 (m:=firstArgMember _ _) (wpAny_of_eq (a:=U2q) (by first|rfl|(simp only[firstArgMember];rfl)) (U2a ?_ (by size_fits)))) (by size_fits))
 simp only[raiseNew]
 refine U0 (wpAny_handled ?_)
 rw[show A.in1.handled=none from ha]
 exact U0 (U0d (wpAny_throw (q _ _ (((U16 ..).extBut.push _).push _) ⟨_,U0u _ rfl,rfl⟩)))
theorem oX(ha:A.handled=none)(it t:Addr)(ne:t≠it)(ws:Array Value):Draws prog w A it [it,t] ws.size (fun i v=>ws[i]?=some v) (fun i h=>h.IsTupleIter it t i/\h.IsTuple t ws) where
 live:=fun _ _ st=>let ⟨o,e,_⟩:=st.1;⟨o,e⟩
 frame:=fun _ _ _ st k=>⟨st.1.at fun o e=>k it (by simp) o e,st.2.at fun o e=>k t (by simp) o e⟩
 item:=fun i s Q E hi st q=>nextT st.1 st.2 (x:=ws[i]) (by simp[hi]) fun h' c' sb=>q _ h' s.toks (by simp[hi]) ⟨c',st.2.extBut sb.extBut ne⟩ sb
 done:=fun s Q E st q=>nY ha st.1 st.2 (by simp) q
structure Apart(z TI TO i1 i2:Addr)(fp1 fp2:List Addr):Prop where
 a1:TI≠z
 a2:TO≠z
 a3:TI≠TO
 b1:∀b∈fp1,b≠z/\b≠TO/\b≠i2
 b2:∀b∈fp2,b≠z/\b≠TO/\b≠i1
 c1:i1≠z/\i1≠TO/\i1≠TI
 c2:i2≠z/\i2≠TO/\i2≠TI
 c3:i1≠i2
section
variable{z TI TO i1 i2:Addr}{fp1 fp2:List Addr}{n1 n2 k:Nat}{P1 P2:Nat->Value->Prop}{S1 S2:Nat->Heap->Prop}{a b:Value}
theorem rT{Q:Value->Shared->Prop}(D1:Draws prog w A i1 fp1 n1 P1 S1)(D2:Draws prog w A i2 fp2 n2 P2 S2)(D:Apart z TI TO i1 i2 fp1 fp2)(hZ:IsZip s.heap z TI TO .none)(hI:IsPair s.heap TI (.ref i1) (.ref i2))(hO:IsPair s.heap TO a b)
  (s1:S1 k s.heap) (s2:S2 k s.heap) (k1:k<n1) (k2:k<n2)
  (q:∀x y h' tk,P1 k x->P2 k y->IsZip h' z TI TO (rawInt s.heap.objs.size)->IsPair h' TO x y->S1 (k+1) h'->S2 (k+1) h'->IsPair h' s.heap.objs.size x y->h'.objs.size=s.heap.objs.size+1 ->
   (∀c o,c≠z->c≠TO->c≠i1->c≠i2->s.heap.get? c=some o->h'.get? c=some o)->Q (.ref s.heap.objs.size) { s with heap:=h',toks:=tk }) :
  wpAny (model prog w) A (Builtin.«zip.__next__» ⟨[.ref z],[]⟩) (fun fin s'=>∃v,fin=.done (.ret v)/\Q v s') E s:=by
 obtain⟨hp,g,d,tk0,os⟩:=s
 refine(show wpAny _ _ (field (.ref z) 2 >>= _) _ _ _ from U0 (U21 hZ rfl (x:=.bool false) rfl ?_))
 refine(show wpAny _ _ (field (.ref z) 3 >>= _) _ _ _ from U0 (U21 hZ rfl (x:=.ref TI) rfl (U0 (U2p hI rfl ?_))))
 refine(show wpAny _ _ (U3j (.ref z) >>= _) _ _ _ from U0 ?_)
 unfold U3j
 refine U0 (U21 hZ rfl (x:=.none) rfl (U0d ?_))
 simp only[if_true]
 refine U0 (U3i (U0 (U21 hZ rfl (x:=.ref TO) rfl (U0 (U35 hZ (by simp) fun g1 z1 m1=>?_)))))
 replace z1:IsZip g1 z TI TO .ellipsis:=z1
 replace m1:U1c z hp g1:=m1
 refine U0 ?_
 simp only[U67,List.zipIdx_nil,U5i,U7h]
 have t1:S1 k g1:=D1.frame _ _ _ s1 fun c hc o e=>m1.extBut _ _ (D.b1 c hc).1 e
 have u1:S2 k g1:=D2.frame _ _ _ s2 fun c hc o e=>m1.extBut _ _ (D.b2 c hc).1 e
 refine U0 (U0 (U58 (show wpAny _ _ (U2b (.ref i1) >>= _) _ _ _ from U0 (D1.item k ⟨g1,g,d,tk0,os⟩ _ _ k1 t1 fun x g2 tk1 px t2 m2=>U0d ?_))))
 replace m2:U1c i1 g1 g2:=m2
 have o2:IsPair g2 TO a b:=m2.extBut _ _ (U2f D.c1.2.1) (m1.extBut _ _ D.a2 hO)
 refine U0 (U2p o2 rfl (U0 (U6k o2 fun g3 o3 m3=>?_)))
 replace o3:IsPair g3 TO x b:=o3
 replace m3:U1c TO g2 g3:=m3
 have u3:S2 k g3:=D2.frame _ _ _ u1 fun c hc o e=>m3.extBut _ _ (D.b2 c hc).2.1 (m2.extBut _ _ (D.b2 c hc).2.2 e)
 refine U0 (U5d (U0d ?_))
 refine U0 (U0 (U58 (show wpAny _ _ (U2b (.ref i2) >>= _) _ _ _ from U0 (D2.item k ⟨g3,g,d,tk1,os⟩ _ _ k2 u3 fun y g4 tk2 py u4 m4=>U0d ?_))))
 replace m4:U1c i2 g3 g4:=m4
 have o4:IsPair g4 TO x b:=m4.extBut _ _ (U2f D.c2.2.1) o3
 refine U0 (U2p o4 rfl (U0 (U6k o4 fun g5 o5 m5=>?_)))
 replace o5:IsPair g5 TO x y:=o5
 replace m5:U1c TO g4 g5:=m5
 refine U0 (U5d (U0d (U0d (U0 (U2p o5 rfl (U0 (wpAny_newTuple ?_)))))))
 have sz:g5.objs.size=hp.objs.size:=by rw[m5.1,m4.1,m3.1,m2.1,m1.1]
 have z5:IsZip g5 z TI TO .ellipsis:=m5.extBut _ _ (U2f D.a2) (m4.extBut _ _ (U2f D.c2.1) (m3.extBut _ _ (U2f D.a2) (m2.extBut _ _ (U2f D.c1.1) z1)))
 have kk:∀c o,c≠z->c≠TO->c≠i1->c≠i2->hp.get? c=some o->g5.get? c=some o:=fun c o n1 n2 n3 n4 e=>m5.extBut _ _ n2 (m4.extBut _ _ n4 (m3.extBut _ _ n2 (m2.extBut _ _ n3 (m1.extBut _ _ n1 e))))
 have lz:z<g5.objs.size:=U0j z5
 refine(show wpAny _ _ (Builtin.SmallTypes.ownedTupleHandOut (.ref z) (.ref g5.objs.size) >>= _) _ _ _ from U0 ?_)
 unfold Builtin.SmallTypes.ownedTupleHandOut
 have z6:IsZip (g5.push { cls:=.type "tuple",data:=.seq #[x,y] }) z TI TO .ellipsis:=U0c _ z5
 refine U0 (U35 z6 (by simp) fun g7 z7 m7=>?_)
 replace z7:IsZip g7 z TI TO (rawInt g5.objs.size):=z7
 refine U35 z7 (by simp) fun g8 z8 m8=>?_
 replace z8:IsZip g8 z TI TO (rawInt g5.objs.size):=z8
 have up:∀c o,c≠z->g5.get? c=some o->g8.get? c=some o:=fun c o n e=>m8.extBut _ _ n (m7.extBut _ _ n (U0c _ e))
 have p8:IsPair g8 g5.objs.size x y:=m8.extBut _ _ (U3d lz) (m7.extBut _ _ (U3d lz) (U0u _ rfl))
 have w8:g8.objs.size=g5.objs.size+1:=by rw[m8.1,m7.1,U2c]
 rw[sz] at z8 p8 w8
 refine U0d ⟨_,rfl,?_⟩
 show Q (.ref g5.objs.size) _
 rw[sz]
 refine q x y g8 tk2 px py z8 (up _ _ D.a2 o5) ?_ ?_ p8 w8 fun c o n1 n2 n3 n4 e=>up c o n1 (kk c o n1 n2 n3 n4 e)
 .exact D1.frame _ _ _ t2 fun c hc o e=>up _ _ (D.b1 c hc).1 (m5.extBut _ _ (D.b1 c hc).2.1 (m4.extBut _ _ (D.b1 c hc).2.2 (m3.extBut _ _ (D.b1 c hc).2.1 e)))
 .exact D2.frame _ _ _ u4 fun c hc o e=>up _ _ (D.b2 c hc).1 (m5.extBut _ _ (D.b2 c hc).2.1 e)
theorem rW{Q:PySem.Fin->Shared->Prop}(D1:Draws prog w A i1 fp1 n1 P1 S1)(D2:Draws prog w A i2 fp2 n2 P2 S2)(D:Apart z TI TO i1 i2 fp1 fp2)(hZ:IsZip s.heap z TI TO .none)(hI:IsPair s.heap TI (.ref i1) (.ref i2))(hO:IsPair s.heap TO a b)
  (s1:S1 k s.heap) (s2:S2 k s.heap) (ke:k=n1∨(k<n1/\k=n2))
  (q:∀h' e tk,(∀c o,c≠z->c≠TO->c≠i1->c≠i2->s.heap.get? c=some o->h'.get? c=some o)->(∃o,h'.get? e=some o/\o.cls=.type "StopIteration")->E (.ref e) { s with heap:=h',toks:=tk }) :
  wpAny (model prog w) A (Builtin.«zip.__next__» ⟨[.ref z],[]⟩) Q E s:=by
 obtain⟨hp,g,d,tk0,os⟩:=s
 refine(show wpAny _ _ (field (.ref z) 2 >>= _) _ _ _ from U0 (U21 hZ rfl (x:=.bool false) rfl ?_))
 refine(show wpAny _ _ (field (.ref z) 3 >>= _) _ _ _ from U0 (U21 hZ rfl (x:=.ref TI) rfl (U0 (U2p hI rfl ?_))))
 refine(show wpAny _ _ (U3j (.ref z) >>= _) _ _ _ from U0 ?_)
 unfold U3j
 refine U0 (U21 hZ rfl (x:=.none) rfl (U0d ?_))
 simp only[if_true]
 refine U0 (U3i (U0 (U21 hZ rfl (x:=.ref TO) rfl (U0 (U35 hZ (by simp) fun g1 z1 m1=>?_)))))
 replace z1:IsZip g1 z TI TO .ellipsis:=z1
 replace m1:U1c z hp g1:=m1
 refine U0 ?_
 simp only[U67,List.zipIdx_nil,U5i,U7h]
 have t1:S1 k g1:=D1.frame _ _ _ s1 fun c hc o e=>m1.extBut _ _ (D.b1 c hc).1 e
 have u1:S2 k g1:=D2.frame _ _ _ s2 fun c hc o e=>m1.extBut _ _ (D.b2 c hc).1 e
 rcases ke with ke|⟨k1,ke⟩
 .subst ke
  refine U0 (U0 (U58 (show wpAny _ _ (U2b (.ref i1) >>= _) _ _ _ from U0 (D1.done ⟨g1,g,d,tk0,os⟩ _ _ t1 fun g2 e m2 he=>?_))))
  obtain⟨oe,he1,he2⟩:=he
  replace m2:U6q i1 g1 g2:=m2
  have z2:IsZip g2 z TI TO .ellipsis:=m2 _ _ (U2f D.c1.1) z1
  have ez:e≠z:=fun x=>by subst x;rw[z2] at he1;cases he1;simp at he2
  exact U35 z2 (by simp) fun g3 _ m3=>q g3 e _ (fun c o n1 _ n3 _ x=>m3.extBut _ _ n1 (m2 _ _ n3 (m1.extBut _ _ n1 x))) ⟨oe,m3.extBut _ _ ez he1,he2⟩
 .refine U0 (U0 (U58 (show wpAny _ _ (U2b (.ref i1) >>= _) _ _ _ from U0 (D1.item k ⟨g1,g,d,tk0,os⟩ _ _ k1 t1 fun x g2 tk1 px t2 m2=>U0d ?_))))
  replace m2:U1c i1 g1 g2:=m2
  have o2:IsPair g2 TO a b:=m2.extBut _ _ (U2f D.c1.2.1) (m1.extBut _ _ D.a2 hO)
  refine U0 (U2p o2 rfl (U0 (U6k o2 fun g3 o3 m3=>?_)))
  replace m3:U1c TO g2 g3:=m3
  have u3:S2 k g3:=D2.frame _ _ _ u1 fun c hc o e=>m3.extBut _ _ (D.b2 c hc).2.1 (m2.extBut _ _ (D.b2 c hc).2.2 e)
  rw[ke] at u3
  refine U0 (U5d (U0d ?_))
  refine U0 (U0 (U58 (show wpAny _ _ (U2b (.ref i2) >>= _) _ _ _ from U0 (D2.done ⟨g3,g,d,tk1,os⟩ _ _ u3 fun g4 e m4 he=>?_))))
  obtain⟨oe,he1,he2⟩:=he
  replace m4:U6q i2 g3 g4:=m4
  have z4:IsZip g4 z TI TO .ellipsis:=m4 _ _ (U2f D.c2.1) (m3.extBut _ _ (U2f D.a2) (m2.extBut _ _ (U2f D.c1.1) z1))
  have ez:e≠z:=fun x=>by subst x;rw[z4] at he1;cases he1;simp at he2
  exact U35 z4 (by simp) fun g5 _ m5=>q g5 e _ (fun c o n1 n2 n3 n4 x=>m5.extBut _ _ n1 (m4 _ _ n4 (m3.extBut _ _ n2 (m2.extBut _ _ n3 (m1.extBut _ _ n1 x))))) ⟨oe,m5.extBut _ _ ez he1,he2⟩
theorem gG{Q:Option Value->Shared->Prop}(D1:Draws prog w A.in1 i1 fp1 n1 P1 S1)(D2:Draws prog w A.in1 i2 fp2 n2 P2 S2)(D:Apart z TI TO i1 i2 fp1 fp2)(hZ:IsZip s.heap z TI TO .none)(hI:IsPair s.heap TI (.ref i1) (.ref i2))(hO:IsPair s.heap TO a b)
  (s1:S1 k s.heap) (s2:S2 k s.heap) (k1:k<n1) (k2:k<n2)
  (q:∀x y h' tk,P1 k x->P2 k y->IsZip h' z TI TO (rawInt s.heap.objs.size)->IsPair h' TO x y->S1 (k+1) h'->S2 (k+1) h'->IsPair h' s.heap.objs.size x y->h'.objs.size=s.heap.objs.size+1 ->
   (∀c o,c≠z->c≠TO->c≠i1->c≠i2->s.heap.get? c=some o->h'.get? c=some o)->Q (some (.ref s.heap.objs.size)) { s with heap:=h',toks:=tk }) :
  wpAny (model prog w) A (pyNext (.ref z)) Q E s:=by
 have T:s.TypeIs (.ref z) "zip":=⟨_,hZ,rfl⟩
 unfold pyNext
 exact U0 (U57 (wpAny_callSpecial?_slot (name:=U30 "__next__") T U45 (U2s U45 T PySem.F.entry_zip_next (rT D1 D2 D hZ hI hO s1 s2 k1 k2 fun x y h' tk c1 c2 c3 c4 c5 c6 c7 c8 c9=>U0d (q x y h' tk c1 c2 c3 c4 c5 c6 c7 c8 c9)) (PySem.F.args_zip_next_1 _))))
theorem gF{Q:Option Value->Shared->Prop}(D1:Draws prog w A.in1 i1 fp1 n1 P1 S1)(D2:Draws prog w A.in1 i2 fp2 n2 P2 S2)(D:Apart z TI TO i1 i2 fp1 fp2)(hZ:IsZip s.heap z TI TO .none)(hI:IsPair s.heap TI (.ref i1) (.ref i2))(hO:IsPair s.heap TO a b)
  (s1:S1 k s.heap) (s2:S2 k s.heap) (ke:k=n1∨(k<n1/\k=n2))
  (q:∀h' tk,(∀c o,c≠z->c≠TO->c≠i1->c≠i2->s.heap.get? c=some o->h'.get? c=some o)->Q none { s with heap:=h',toks:=tk }):wpAny (model prog w) A (pyNext (.ref z)) Q E s:=by
 have T:s.TypeIs (.ref z) "zip":=⟨_,hZ,rfl⟩
 unfold pyNext
 refine U0 (U57 (wpAny_callSpecial?_slot (name:=U30 "__next__") T U45 (U2s U45 T PySem.F.entry_zip_next (rW D1 D2 D hZ hI hO s1 s2 ke fun h' e tk kk he=>?_) (PySem.F.args_zip_next_1 _))))
 obtain⟨o,e1,e2⟩:=he
 exact U0 (U6 (T:="StopIteration") (b:=true) ⟨o,e1,e2⟩ isSubtype_stop (U0d (q h' tk kk)))
end
abbrev itO(c:String)(l:Addr):Obj:={ cls:=.type c,data:=.fields #[.ref l,.int 0 0] }
abbrev zt1(c1:String)(h:Heap)(l1:Addr):Heap:=h.push (itO c1 l1)
abbrev zt2(c1 c2:String)(h:Heap)(l1 l2:Addr):Heap:=(zt1 c1 h l1).push (itO c2 l2)
abbrev zt3(c1 c2:String)(h:Heap)(l1 l2:Addr):Heap:=(zt2 c1 c2 h l1 l2).push { cls:=.type "tuple",data:=.seq #[.ref h.objs.size,.ref (zt1 c1 h l1).objs.size] }
abbrev zt4(c1 c2:String)(h:Heap)(l1 l2:Addr):Heap:=(zt3 c1 c2 h l1 l2).push { cls:=.type "tuple",data:=.seq #[.none,.none] }
abbrev zt5(c1 c2:String)(h:Heap)(l1 l2:Addr):Heap:=(zt4 c1 c2 h l1 l2).push { cls:=.type "zip",data:=.fields #[.none,.bool false,.bool false,.ref (zt2 c1 c2 h l1 l2).objs.size,.ref (zt3 c1 c2 h l1 l2).objs.size] }
theorem gH(l1 l2:Addr)(xs ys:Array Value):Meets (Builtin.«zip.__new__» ⟨[.type "zip",.ref l1,.ref l2],[]⟩) (fun _ R s=>s.heap.IsTuple l1 xs/\s.heap.IsTuple l2 ys/\R (.ok (.ret (.ref (zt4 "tuple_iterator" "tuple_iterator" s.heap l1 l2).objs.size))) { s with heap:=zt5 "tuple_iterator" "tuple_iterator" s.heap l1 l2 }) :=
 .of_wp fun prog w A R s h=>by
  obtain⟨hp,g,d,tk,os⟩:=s
  obtain⟨e1,e2,h⟩:=h
  have sub:=sub_zip
  have T1:U6l (U7e ⟨hp,g,d,tk,os⟩) l1 xs:=e1
  have T2:U6l (U7e ⟨hp.push { cls:=.type "tuple_iterator",data:=.fields #[.ref l1,.int 0 0] },g,d,tk,os⟩) l2 ys:=U6l.push e2 _
  wp_walk using U5s T1,U5s T2
  exact⟨_,rfl,h⟩
theorem gJ(l1 l2:Addr)(xs ys:Array Value):Meets (Builtin.«zip.__new__» ⟨[.type "zip",.ref l1,.ref l2],[]⟩) (fun _ R s=>s.heap.IsList l1 xs/\s.heap.IsTuple l2 ys/\R (.ok (.ret (.ref (zt4 "list_iterator" "tuple_iterator" s.heap l1 l2).objs.size))) { s with heap:=zt5 "list_iterator" "tuple_iterator" s.heap l1 l2 }) :=
 .of_wp fun prog w A R s h=>by
  obtain⟨hp,g,d,tk,os⟩:=s
  obtain⟨e1,e2,h⟩:=h
  have sub:=sub_zip
  have T1:Heap.IsList (U7e ⟨hp,g,d,tk,os⟩) l1 xs:=e1
  have T2:U6l (U7e ⟨hp.push { cls:=.type "list_iterator",data:=.fields #[.ref l1,.int 0 0] },g,d,tk,os⟩) l2 ys:=U6l.push e2 _
  wp_walk using U41 T1,U5s T2
  exact⟨_,rfl,h⟩
theorem Wv{c1 c2:String}{l1 l2:Addr}{P1 P2:Heap->Prop}{Q:Value->Shared->Prop}(m:Meets (Builtin.«zip.__new__» ⟨[.type "zip",.ref l1,.ref l2],[]⟩) (fun _ R s=>P1 s.heap/\P2 s.heap/\R (.ok (.ret (.ref (zt4 c1 c2 s.heap l1 l2).objs.size))) { s with heap:=zt5 c1 c2 s.heap l1 l2 }))(e1:P1 s.heap)(e2:P2 s.heap)
  (q:∀h',IsZip h' (s.heap.objs.size+4) (s.heap.objs.size+2) (s.heap.objs.size+3) .none->IsPair h' (s.heap.objs.size+2) (.ref s.heap.objs.size) (.ref (s.heap.objs.size+1))->IsPair h' (s.heap.objs.size+3) .none .none ->
   h'.get? s.heap.objs.size=some (itO c1 l1)->h'.get? (s.heap.objs.size+1)=some (itO c2 l2)->(∀c o,s.heap.get? c=some o->h'.get? c=some o)->Q (.ref (s.heap.objs.size+4)) { s with heap:=h' }) :
  wpAny (model prog w) A (call (.type "zip") [.ref l1,.ref l2]) Q E s:=by
 refine callType_new PySem.F.called_zip (by decide) (PySem.F.typeCall_zip_2 _ _) (PySem.F.newCall_zip_2 _ _) (fun obj=>PySem.F.args_object_init_3 obj _ _) PySem.F.entry_zip_new m ⟨e1,e2,?_⟩
 have z1:(zt1 c1 s.heap l1).objs.size=s.heap.objs.size+1:=U2c ..
 have z2:(zt2 c1 c2 s.heap l1 l2).objs.size=s.heap.objs.size+2:=by rw[U2c,z1]
 have z3:(zt3 c1 c2 s.heap l1 l2).objs.size=s.heap.objs.size+3:=by rw[U2c,z2]
 have z4:(zt4 c1 c2 s.heap l1 l2).objs.size=s.heap.objs.size+4:=by rw[U2c,z3]
 have g5:(zt5 c1 c2 s.heap l1 l2).get? (zt4 c1 c2 s.heap l1 l2).objs.size=some _:=U0u _ rfl
 have g4:(zt5 c1 c2 s.heap l1 l2).get? (zt3 c1 c2 s.heap l1 l2).objs.size=some _:=U0c _ (U0u _ rfl)
 have g3:(zt5 c1 c2 s.heap l1 l2).get? (zt2 c1 c2 s.heap l1 l2).objs.size=some _:=U0c _ (U0c _ (U0u _ rfl))
 have g2:(zt5 c1 c2 s.heap l1 l2).get? (zt1 c1 s.heap l1).objs.size=some _:=U0c _ (U0c _ (U0c _ (U0u _ rfl)))
 have g1:(zt5 c1 c2 s.heap l1 l2).get? s.heap.objs.size=some _:=U0c _ (U0c _ (U0c _ (U0c _ (U0u _ rfl))))
 have kk:∀c o,s.heap.get? c=some o->(zt5 c1 c2 s.heap l1 l2).get? c=some o:=fun c o e=>U0c _ (U0c _ (U0c _ (U0c _ (U0c _ e))))
 show _/\_
 rw[z2,z3,z4] at g5
 rw[z1,z2] at g3
 rw[z3] at g4
 rw[z1] at g2
 have Z:IsZip (zt5 c1 c2 s.heap l1 l2) (s.heap.objs.size+4) (s.heap.objs.size+2) (s.heap.objs.size+3) .none:=g5
 rw[z4]
 exact⟨⟨_,Z,rfl⟩,q _ Z g3 g4 g1 g2 kk⟩
theorem fJ{l1 l2:Addr}{xs ys:Array Value}{Q:Value->Shared->Prop}(e1:s.heap.IsTuple l1 xs)(e2:s.heap.IsTuple l2 ys)
  (q:∀h',IsZip h' (s.heap.objs.size+4) (s.heap.objs.size+2) (s.heap.objs.size+3) .none->IsPair h' (s.heap.objs.size+2) (.ref s.heap.objs.size) (.ref (s.heap.objs.size+1))->IsPair h' (s.heap.objs.size+3) .none .none ->
   h'.IsTupleIter s.heap.objs.size l1 0->h'.IsTupleIter (s.heap.objs.size+1) l2 0->(∀c o,s.heap.get? c=some o->h'.get? c=some o)->Q (.ref (s.heap.objs.size+4)) { s with heap:=h' }) :
  wpAny (model prog w) A (call (.type "zip") [.ref l1,.ref l2]) Q E s :=
 Wv (P1:=fun h=>h.IsTuple l1 xs) (P2:=fun h=>h.IsTuple l2 ys) (gH l1 l2 xs ys) e1 e2 fun h' c1 c2 c3 c4 c5 k=>q h' c1 c2 c3 ⟨_,c4,rfl,rfl⟩ ⟨_,c5,rfl,rfl⟩ k
theorem fK{l1 l2:Addr}{xs ys:Array Value}{Q:Value->Shared->Prop}(e1:s.heap.IsList l1 xs)(e2:s.heap.IsTuple l2 ys)
  (q:∀h',IsZip h' (s.heap.objs.size+4) (s.heap.objs.size+2) (s.heap.objs.size+3) .none->IsPair h' (s.heap.objs.size+2) (.ref s.heap.objs.size) (.ref (s.heap.objs.size+1))->IsPair h' (s.heap.objs.size+3) .none .none ->
   h'.IsListIter s.heap.objs.size l1 0->h'.IsTupleIter (s.heap.objs.size+1) l2 0->(∀c o,s.heap.get? c=some o->h'.get? c=some o)->Q (.ref (s.heap.objs.size+4)) { s with heap:=h' }) :
  wpAny (model prog w) A (call (.type "zip") [.ref l1,.ref l2]) Q E s :=
 Wv (P1:=fun h=>h.IsList l1 xs) (P2:=fun h=>h.IsTuple l2 ys) (gJ l1 l2 xs ys) e1 e2 fun h' c1 c2 c3 c4 c5 k=>q h' c1 c2 c3 ⟨_,c4,rfl,rfl⟩ ⟨_,c5,rfl,rfl⟩ k
end
end HT
end
section
namespace L2
open PySem PySem.Spec PyProof.Rows
def HB(L:Bool)(xs:List V):HO:=if L=true then .lst xs else .tup xs
theorem HB.inj{L:Bool}{xs ys:List V}(h:HB L xs=HB L ys):xs=ys:=by cases L<;>cases h<;>rfl
def Itz(L M:Bool)(a b:Addr):It :=
 ⟨fun i H=>∃xs ys x y,H a=some (HB L xs)/\H b=some (HB M ys)/\xs[i]?=some x/\ys[i]?=some y,
  fun i H v H'=>∃p x y,H p=none/\v=.ref p/\H'=upd H p (.tup [x,y])/\(∀xs,H a=some (HB L xs)->xs[i]?=some x)/\∀ys,H b=some (HB M ys)->ys[i]?=some y,
  fun i H=>∃xs ys,H a=some (HB L xs)/\H b=some (HB M ys)/\(i=xs.length∨(i<xs.length/\i=ys.length))⟩
def KZ(L:Bool)(h:Heap)(it a:Addr)(i:Nat):Prop:=if L=true then h.IsListIter it a i else h.IsTupleIter it a i
def lu(L:Bool)(h:Heap)(a:Addr)(ws:Array Value):Prop:=if L=true then h.IsList a ws else h.IsTuple a ws
theorem Sw{prog:Program}{w:World}{A:Around}(L:Bool)(ha:A.handled=none)(it t:Addr)(ne:t≠it)(ws:Array Value):Draws prog w A it [it,t] ws.size (fun i v=>ws[i]?=some v) (fun i h=>KZ L h it t i/\lu L h t ws):=by
 cases L with
 |true=>exact Draws.list ha it t ne ws
 |false=>exact HT.oX ha it t ne ws
theorem KZ.at{L:Bool}{h h':Heap}{it a:Addr}{i:Nat}(x:KZ L h it a i)(k:∀o,h.get? it=some o->h'.get? it=some o):KZ L h' it a i:=by
 cases L with
 |true=>exact Heap.IsListIter.at x k
 |false=>exact Heap.IsTupleIter.at x k
theorem KZ.obj{L:Bool}{h:Heap}{it a:Addr}{i:Nat}(x:KZ L h it a i):∃o vs,h.get? it=some o/\o.data=.fields vs:=by
 cases L with
 |true=>obtain⟨o,e,_,d⟩:=(show h.IsListIter it a i from x);exact⟨o,_,e,d⟩
 |false=>obtain⟨o,e,_,d⟩:=(show h.IsTupleIter it a i from x);exact⟨o,_,e,d⟩
theorem Inv.Tq{X:Cx}{pins:List (Addr×Obj)}{σ:St}{H:Hp}{s:Shared}{L:Bool}{a:Addr}{xs:List V}(I:Inv X pins σ H s)(h:H a=some (HB L xs)):∃its:List Value,Vals xs its/\lu L s.heap a its.toArray:=by
 cases L with
 |true=>obtain⟨its,rv,p,_⟩:=I.list (SqL.of h);exact⟨its,rv,p.isList⟩
 |false=>obtain⟨its,rv,p,_⟩:=I.tuple (SqT.of h);exact⟨its,rv,p⟩
def rD(L M:Bool)(a b z TI TO i1 i2:Addr)(i:Nat)(h:Heap):Prop:=IsZip h z TI TO .none/\IsPair h TI (.ref i1) (.ref i2)/\(∃c d,IsPair h TO c d)/\KZ L h i1 a i/\KZ M h i2 b i
theorem Wz{z TI TO i1 i2 a b:Addr}(d1:TI≠z)(d2:TO≠z)(d3:TI≠TO)(d4:i1≠z/\i1≠TO/\i1≠TI)(d5:i2≠z/\i2≠TO/\i2≠TI)(d6:i1≠i2)(na:a ∉ [z,TI,TO,i1,i2])(nb:b ∉ [z,TI,TO,i1,i2]):HT.Apart z TI TO i1 i2 [i1,a] [i2,b] where
 a1:=d1
 a2:=d2
 a3:=d3
 b1:=fun c hc=>by
  simp only[U0q,U2t,or_false,not_or] at hc na
  rcases hc with rfl|rfl
  .exact⟨d4.1,d4.2.1,d6⟩
  .exact⟨na.1,na.2.2.1,na.2.2.2.2⟩
 b2:=fun c hc=>by
  simp only[U0q,U2t,or_false,not_or] at hc nb
  rcases hc with rfl|rfl
  .exact⟨d5.1,d5.2.1,U2f d6⟩
  .exact⟨nb.1,nb.2.2.1,nb.2.2.2.1⟩
 c1:=d4
 c2:=d5
 c3:=d6
theorem cX{P:Program}{w:World}{K:U0b}{elts:List Expr}{x1:Nat}{pos:Pos}(L M:Bool)(a b z TI TO i1 i2:Addr)(d1:TI≠z)(d2:TO≠z)(d3:TI≠TO)(d4:i1≠z/\i1≠TO/\i1≠TI)(d5:i2≠z/\i2≠TO/\i2≠TI)(d6:i1≠i2) :
  Turn P w K (.Tuple elts x1 pos) (Itz L M a b) [z,TI,TO,i1,i2] z (rD L M a b z TI TO i1 i2) where
 mem:=by simp
 obj:=fun i h st c hc=>by
  obtain⟨h1,h2,⟨c',d',h3⟩,h4,h5⟩:=st
  simp only[U0q,U2t,or_false] at hc
  rcases hc with rfl|rfl|rfl|rfl|rfl
  .exact⟨_,h1,fun v q=>by cases q⟩
  .exact⟨_,h2,fun v q=>by cases q⟩
  .exact⟨_,h3,fun v q=>by cases q⟩
  .obtain⟨o,vs,e,d⟩:=h4.obj
   exact⟨o,e,fun v q=>by rw[d] at q;cases q⟩
  .obtain⟨o,vs,e,d⟩:=h5.obj
   exact⟨o,e,fun v q=>by rw[d] at q;cases q⟩
 keep:=fun i h h' st k=>by
  obtain⟨h1,h2,⟨c',d',h3⟩,h4,h5⟩:=st
  exact⟨k z (by simp) _ h1,k TI (by simp) _ h2,⟨c',d',k TO (by simp) _ h3⟩,h4.at fun o q=>k i1 (by simp) o q,h5.at fun o q=>k i2 (by simp) o q⟩
 item:=by
  intro X hP hw hK hc i pins s σ H E I hf st hg
  subst hP hw hK
  obtain⟨xs,ys,x,y,hq1,hq2,hx,hy⟩:=hg
  obtain⟨its1,rv1,p1⟩:=I.Tq hq1
  obtain⟨its2,rv2,p2⟩:=I.Tq hq2
  obtain⟨u,hu,ru⟩:=rv1.get hx
  obtain⟨v,hv,rv⟩:=rv2.get hy
  obtain⟨h1,h2,⟨c',d',h3⟩,h4,h5⟩:=st
  have lt:∀c∈[z,TI,TO,i1,i2],c<s.heap.objs.size:=fun c hc=>by
   simp only[U0q,U2t,or_false] at hc
   rcases hc with rfl|rfl|rfl|rfl|rfl
   .exact U0j h1
   .exact U0j h2
   .exact U0j h3
   .obtain⟨o,vs,e,_⟩:=h4.obj;exact U0j e
   .obtain⟨o,vs,e,_⟩:=h5.obj;exact U0j e
  have na:a ∉ [z,TI,TO,i1,i2]:=fun q=>by rw[(hf a q).1] at hq1;cases hq1
  have nb:b ∉ [z,TI,TO,i1,i2]:=fun q=>by rw[(hf b q).1] at hq2;cases hq2
  have ap:=Wz d1 d2 d3 d4 d5 d6 na nb
  have hh:X.A.in1.handled=none:=I.ok.hd hc
  refine HT.gG (Sw L hh i1 a (fun q=>na (by simp[q])) its1.toArray) (Sw M hh i2 b (fun q=>nb (by simp[q])) its2.toArray) ap h1 h2 h3 ⟨h4,p1⟩ ⟨h5,p2⟩ (by rw[U0m];exact(U0k.mp hu).1) (by rw[U0m];exact(U0k.mp hv).1)
   fun x' y' h' tk q1 q2 z' o' s1' s2' tp sz k=>⟨_,rfl,?_⟩
  have q1':its1[i]?=some x':=by simpa using q1
  have q2':its2[i]?=some y':=by simpa using q2
  rw[hu] at q1'
  rw[hv] at q2'
  cases q1'
  cases q2'
  refine wpAny_letOwnedTupleGo_zip z' fun h3' z2 sb=>?_
  have sb':U1c z h' h3':=sb
  have nz:s.heap.objs.size≠z:=U3d (lt z (by simp))
  have J:=I.qd (h':=h3') (t':=tk) (fp:=[z,TI,TO,i1,i2]) (x:=x) (y:=y) ru rv (sb'.extBut _ _ nz tp) (fun c o hc q=>by
   simp only[U0q,U2t,or_false,not_or] at hc
   exact sb'.extBut _ _ hc.1 (k c o hc.1 hc.2.2.1 hc.2.2.2.1 hc.2.2.2.2 q)) hf lt
  refine⟨.ref s.heap.objs.size,_,J,rfl,⟨_,x,y,I.hok.fresh (U0o _),rfl,rfl,fun zs hz=>?_,fun zs hz=>?_⟩,⟨z2,?_,⟨_,_,sb'.extBut _ _ d2 o'⟩,s1'.1.at fun o q=>sb'.extBut _ _ d4.1 q,s2'.1.at fun o q=>sb'.extBut _ _ d5.1 q⟩,fun c hc=>?_⟩
  .rw[hq1] at hz
   rw[←HB.inj (U00 hz)]
   exact hx
  .rw[hq2] at hz
   rw[←HB.inj (U00 hz)]
   exact hy
  .exact sb'.extBut _ _ d1 (k TI _ d1 d3 (U2f d4.2.2) (U2f d5.2.2) h2)
  .rw[Bf (U1m (lt c hc))]
   exact(hf c hc).1
 done:=by
  intro X hP hw hK hc i pins s σ H E I hf st hg
  subst hP hw hK
  obtain⟨xs,ys,hq1,hq2,ke⟩:=hg
  obtain⟨its1,rv1,p1⟩:=I.Tq hq1
  obtain⟨its2,rv2,p2⟩:=I.Tq hq2
  obtain⟨h1,h2,⟨c',d',h3⟩,h4,h5⟩:=st
  have na:a ∉ [z,TI,TO,i1,i2]:=fun q=>by rw[(hf a q).1] at hq1;cases hq1
  have nb:b ∉ [z,TI,TO,i1,i2]:=fun q=>by rw[(hf b q).1] at hq2;cases hq2
  have hh:X.A.in1.handled=none:=I.ok.hd hc
  refine HT.gF (Sw L hh i1 a (fun q=>na (by simp[q])) its1.toArray) (Sw M hh i2 b (fun q=>nb (by simp[q])) its2.toArray) (Wz d1 d2 d3 d4 d5 d6 na nb) h1 h2 h3 ⟨h4,p1⟩ ⟨h5,p2⟩ (by rw[U0m,U0m,←rv1.length,←rv2.length];exact ke)
   fun h' tk k=>⟨rfl,I.Y8 (t':=tk) (fp:=[z,TI,TO,i1,i2]) (fun c o hc q=>?_) hf⟩
  simp only[U0q,U2t,or_false,not_or] at hc
  exact k c o hc.1 hc.2.2.1 hc.2.2.2.1 hc.2.2.2.2 q
 self:=fun _ _ _ _ _ st h=>wpAny_pyIter_zip st.1 h
abbrev tE(L M:Bool)(ta:TA):TI:=fun σ H R=>ta σ H fun vs H1=>∃a b xs ys,vs=[.ref a,.ref b]/\H1 a=some (HB L xs)/\H1 b=some (HB M ys)/\R (Itz L M a b) H1
section
variable{X:Cx}
theorem Vt(L M:Bool)(hLM:L=M∨(L=true/\M=false)){a b:Expr}{ta:TA}{p pos:Pos}{elts:List Expr}{x1:Nat}{tpos:Pos}(hg:Gl X "zip")(hm:X.mg "zip"=none)(ha:PA X [a,b] ta)(hs:starEach [a,b] X.env=[(false,eval a X.env),(false,eval b X.env)]:=by rfl)(hs2:starEach [b] X.env=[(false,eval b X.env)]:=by rfl) :
  PI X (.Tuple elts x1 tpos) (.Call (.Name "zip" p) [a,b] [] pos) (tE L M ta):=by
 intro pins s σ H R I h
 refine Call_ (Ma I hg hm (by decide +kernel:bootBuiltins "zip"=some (.type "zip")) (U3z (thn (ha pos pins s σ H _ I h) fun us s1 ⟨vs,H1,I1,r1,q1⟩=>?_) (by rw[hs,hs2]) (by rw[hs2];rfl)))
 obtain⟨l,m,xs,ys,e,e1,e2,q⟩:=q1
 subst e
 obtain⟨us1,us2⟩:us=[.ref l,.ref m]/\True:=by
  cases r1 with
  |cons r rr =>
   cases rr with
   |cons r' rr =>
    cases rr
    cases r
    cases r'
    exact⟨rfl,trivial⟩
 subst us1
 obtain⟨its1,rv1,p1⟩:=I1.Tq e1
 obtain⟨its2,rv2,p2⟩:=I1.Tq e2
 have fin:∀h',IsZip h' (s1.heap.objs.size+4) (s1.heap.objs.size+2) (s1.heap.objs.size+3) .none->IsPair h' (s1.heap.objs.size+2) (.ref s1.heap.objs.size) (.ref (s1.heap.objs.size+1))->IsPair h' (s1.heap.objs.size+3) .none .none ->
   KZ L h' s1.heap.objs.size l 0->KZ M h' (s1.heap.objs.size+1) m 0->(∀c o,s1.heap.get? c=some o->h'.get? c=some o)->wpAny (model X.prog X.w) X.A (pyIter (.ref (s1.heap.objs.size+4))) (PIE X pins σ (.Tuple elts x1 tpos) R) X.xe { s1 with heap:=h' }:=fun h' c1 c2 c3 c4 c5 k=>by
  refine wpAny_pyIter_zip c1 ?_
  refine⟨s1.heap.objs.size+4,[s1.heap.objs.size+4,s1.heap.objs.size+2,s1.heap.objs.size+3,s1.heap.objs.size,s1.heap.objs.size+1],_,_,H1,rfl,I1.kept (t':=s1.toks) k,
   cX L M l m _ _ _ _ _ (by simp) (by simp) (by simp) ⟨by simp,by simp,by simp⟩ ⟨by simp,by simp,by simp⟩ (by simp),⟨c1,c2,⟨_,_,c3⟩,c4,c5⟩,fun c hc=>?_,q⟩
  have hc':s1.heap.objs.size<=c:=by
   simp only[U0q,U2t,or_false] at hc
   rcases hc with rfl|rfl|rfl|rfl|rfl<;>first|exact U49 _ _|exact U0o _
  exact I1.Yr hc' (I1.hok.fresh hc')
 cases L with
 |true =>
  cases M with
  |true=>exact call_zip_2 p1 p2 fun h' c1 c2 c3 c4 c5 _ k=>fin h' c1 c2 c3 c4 c5 k
  |false=>exact HT.fK p1 p2 fun h' c1 c2 c3 c4 c5 k=>fin h' c1 c2 c3 c4 c5 k
 |false =>
  cases M with
  |true=>rcases hLM with z|⟨z,_⟩<;>cases z
  |false=>exact HT.fJ p1 p2 fun h' c1 c2 c3 c4 c5 k=>fin h' c1 c2 c3 c4 c5 k
end
end L2
end
section
namespace L2
open PySem PySem.Spec PyProof.Rows
section
variable{k:Nat}{caps:List Nat}{σ:St}{g:TG}{tt:TT}{te:TE}{Q:VK}{H:Hp}
end
end L2
end
section
set_option maxRecDepth 100000
namespace HT
open PySem PySem.Spec PyProof.Rows
section
variable{prog:Program}{w:World}{A:Around}{E:Value->Shared->Prop}{s:Shared}
theorem jW{x:Value}{Tx:String}{tp:Addr}{cs:List Value}{vs:List Bool}{dd:Option Addr}{n:Nat}{sl:Array (Option Value)}(ha:AnswersAll (fun s=>s.TypeIs x Tx) x cs vs) :
  Meets (Builtin.«isinstance» ⟨[x,.ref tp],[]⟩) (fun _ R s=>s.TypeIs x Tx/\s.heap.get? tp=some { cls:=.type "tuple",dict:=dd,data:=.seq cs.toArray n,slots:=sl }/\∀tk,R (.ok (.ret (.bool (vs.any id)))) { s with toks:=tk }) :=
 fun prog w A R s hs=>isinstance_outer (by
  obtain⟨h,g,d,t,os⟩:=s
  obtain⟨hx,htp,hq⟩:=hs
  have T2:(⟨h,g,d,t,os⟩:Shared).TypeIs (.ref tp) "tuple":=⟨_,htp,rfl⟩
  have f1:=PySem.F.isi_sub_tuple
  repeat (any_goals first|assumption|wp_step)
  refine wpAny_arrayLoop ?_
  simp only[List.toList_toArray,Option.getD_some]
  refine isinstance_items (dep:=0) (fun _ tk q=>q.toks tk) cs vs _ _ ha hx fun tk'=>?_
  cases hv:vs.any id with
  |true =>
   simp only[if_true]
   repeat (any_goals first|assumption|wp_step)
   exact hv ▸ hq tk'
  |false =>
   simp only[if_false,U06]
   repeat (any_goals first|assumption|wp_step)
   exact hv ▸ hq tk') (U6u.not_mainsLoader hs.1)
end
end HT
namespace L2
open PySem PySem.Spec PyProof.Rows
def isSeq:PyData->Bool
 |.list _=>true
 |.tuple _=>true
 |_=>false
def noDict:PyData->Bool
 |.dict _=>false
 |_=>true
theorem fP(T:String)(h:T="tuple"∨T="list"):typeOf (.type T)=pure (.type "type"):=by rcases h with rfl|rfl<;>first|rfl|kernel_rfl
theorem JB{a b:String}(h:(a,b)∈[("int","tuple"),("int","list"),("bool","tuple"),("bool","list"),("str","tuple"),("str","list"),("NoneType","tuple"),("NoneType","list"),("list","tuple"),("tuple","list")]):isSubtype (.type a) (.type b)=pure false:=by
 simp only[U0q,U2t,or_false,Prod.mk.injEq] at h
 rcases h with ⟨rfl,rfl⟩|⟨rfl,rfl⟩|⟨rfl,rfl⟩|⟨rfl,rfl⟩|⟨rfl,rfl⟩|⟨rfl,rfl⟩|⟨rfl,rfl⟩|⟨rfl,rfl⟩|⟨rfl,rfl⟩|⟨rfl,rfl⟩<;>(rw[isSubtype_type];kernel_rfl)
theorem YC{a:String}(h:a="tuple"∨a="list"):isSubtype (.type a) (.type a)=pure true:=by rcases h with rfl|rfl<;>(rw[isSubtype_type];kernel_rfl)
section
variable{X:Cx}
theorem Va:Dv X (.builtin "isinstance") (fun xs H Q=>∃(N:Addr->Prop)(x:V)(d:PyData)(p:Addr),xs=[x,.ref p]/\H p=some (.tup [.ty "tuple",.ty "list"])/\Tr N H x d/\noDict d=true/\Q (.bl (isSeq d)) H):=by
 intro pins s σ H xs us Q I r h
 obtain⟨N,x,d,p,rfl,hp,t,nd,q⟩:=h
 obtain⟨u,v,rfl,rx,rv⟩:=vals2 r
 cases (show v=U3c p from rv)
 obtain⟨its,rt,pt,_⟩:=I.tuple (SqT.of hp)
 have ei:its=[.type "tuple",.type "list"]:=by
  cases rt with
  |cons r1 rr =>
   cases rr with
   |cons r2 rn =>
    cases rn
    cases (show _=U3l "tuple" from r1)
    cases (show _=U3l "list" from r2)
    rfl
 subst ei
 obtain⟨⟨c1,d1,x1,sl1⟩,ho,hc,n,hd⟩:=id pt
 simp only at hc hd
 subst hc hd
 have fin:∀(Tx:String)(vs:List Bool),AnswersAll (fun s=>s.TypeIs u Tx) u [.type "tuple",.type "list"] vs->s.TypeIs u Tx->vs.any id=isSeq d->wpAny (model X.prog X.w) X.A (call (.builtin "isinstance") [u,.ref p]) (EP X pins σ Q) X.xe s:=fun Tx vs ha hx e =>
  call_isinstance (HT.jW (cs:=[.type "tuple",.type "list"]) (dd:=d1) (n:=n) (sl:=sl1) ha) ⟨hx,ho,fun tk=>⟨.bl (isSeq d),H,I.tok tk,(by rw[e];rfl),q⟩⟩
 have y1:=fP "tuple" (.inl rfl)
 have y2:=fP "list" (.inr rfl)
 cases t with
 |non =>
  cases (show u=U2q from rx)
  exact fin "NoneType" [false,false] (.cons (Answers.of_false_none (by decide) y1 (JB (by decide))) (.cons (Answers.of_false_none (by decide) y2 (JB (by decide))) .nil)) rfl rfl
 |bl b =>
  cases (show u=U4r b from rx)
  exact fin "bool" [false,false] (.cons (Answers.of_false_bool (by decide) y1 (JB (by decide))) (.cons (Answers.of_false_bool (by decide) y2 (JB (by decide))) .nil)) rfl rfl
 |int i =>
  obtain⟨t,rfl⟩:=rx
  exact fin "int" [false,false] (.cons (Answers.of_false_int (by decide) y1 (JB (by decide))) (.cons (Answers.of_false_int (by decide) y2 (JB (by decide))) .nil)) rfl rfl
 |str z =>
  obtain⟨t,rfl⟩:=rx
  exact fin "str" [false,false] (.cons (Answers.of_false_str (by decide) y1 (JB (by decide))) (.cons (Answers.of_false_str (by decide) y2 (JB (by decide))) .nil)) rfl rfl
 |lst n1 h1 t1 =>
  cases rx
  obtain⟨its,_,pl,_⟩:=I.list (SqL.of h1)
  exact fin "list" [false,true] (.cons (Answers.of_false_list (by decide) y1 (JB (by decide))) (.cons (Answers.of_true y2 (YC (.inr rfl))) .nil)) pl.isList.typeIs rfl
 |tup n1 h1 t1 =>
  cases rx
  obtain⟨its,_,pl,_⟩:=I.tuple (SqT.of h1)
  exact fin "tuple" [true,false] (.cons (Answers.of_true y1 (YC (.inl rfl))) (.cons (Answers.of_false_tuple (by decide) y2 (JB (by decide))) .nil)) pl.typeIs rfl
 |dct _ _=>cases nd
end
end L2
end
section
namespace L2
open PySem PySem.Spec PyProof.Rows
end L2
namespace Bc
open PySem PySem.Spec PyProof.Rows L2
structure Good(n:Nat)(ds:List PyData):Prop where
 n1:1<=n
 n3:n<=3
 le:ds.length<=nZ (.int n)
 all:ds.all (tH n)=true
end Bc
end
section
namespace L2
open PySem PySem.Spec PyProof.Rows
section
variable{X:Cx}{K:U0b}
end
end L2
namespace Bc
open PySem PySem.Spec PyProof.Rows L2
def mx(i j:Int):Int:=if j>i then j else i
def mn(i j:Int):Int:=if j<i then j else i
end Bc
end
section
namespace VS
open PySem PySem.Spec L2
inductive D where
 |non|bl (b:Bool)|int (i:Int)|str (x:Str)|ty (n:String)
 |tup (ds:List D)|lst (m:Bool) (ds:List D)|ref (i:Nat)|scr (ns:List Int)|emp
 |dref (i:Nat)|dcf (kvs:List (Key×V))|dcm (kvs:List (Key×V))
abbrev Mu:=List (Option Addr)
def CZ(μ:Mu)(a:Addr):Prop:=some a∈μ
structure Fr where
 K:U0b
 H0:Hp
 N:Addr->Prop
 m0:List Addr
def Fr.Ok(Γ:Fr)(m:Bool)(a:Addr):Prop:=(m=true->Γ.H0 a=none)/\(Γ.N a∨Γ.H0 a=none)
def IsL(H:Hp)(a:Addr):Prop:=∃xs,H a=some (.lst xs)
def IsK(H:Hp)(a:Addr):Prop:=∃kvs,H a=some (.dK kvs)
mutual
inductive VR (Γ:Fr) (μ:Mu) (H:Hp):V->D->Prop
 |non:VR Γ μ H .non .non
 |bl (b:Bool):VR Γ μ H (.bl b) (.bl b)
 |int (i:Int):VR Γ μ H (.int i) (.int i)
 |str (x:Str):VR Γ μ H (.str x) (.str x)
 |ty (n:String):VR Γ μ H (.ty n) (.ty n)
 |tup {a:Addr} {xs:List V} {ds:List D}:H a=some (.tup xs)->VRs Γ μ H xs ds->VR Γ μ H (.ref a) (.tup ds)
 |lst {m:Bool} {a:Addr} {xs:List V} {ds:List D}:Γ.Ok m a->¬CZ μ a->H a=some (.lst xs)->VRs Γ μ H xs ds->VR Γ μ H (.ref a) (.lst m ds)
 |ref {i:Nat} {v:V}:i<μ.length->(∀a,μ[i]?=some (some a)->v=.ref a/\IsL H a)->VR Γ μ H v (.ref i)
 |dref {i:Nat} {v:V}:i<μ.length->(∀a,μ[i]?=some (some a)->v=.ref a/\IsK H a)->VR Γ μ H v (.dref i)
 |dcf {a:Addr} {kvs:List (Key×V)}:Γ.Ok false a->¬CZ μ a->H a=some (.dK kvs)->VR Γ μ H (.ref a) (.dcf kvs)
 |scrK {a:Addr} {ns:List Int}:(∀H',SqL Γ.K H' a (ns.map V.int))->VR Γ μ H (.ref a) (.scr ns)
 |scrR {a:Addr} {ns:List Int} {o:Obj}:¬CZ μ a->H a=some (.frz o (.lst (ns.map V.int)))->VR Γ μ H (.ref a) (.scr ns)
 |emp {a:Addr}:Γ.Ok false a->¬CZ μ a->H a=some (.dK [])->VR Γ μ H (.ref a) .emp
inductive VRs (Γ:Fr) (μ:Mu) (H:Hp):List V->List D->Prop
 |nil:VRs Γ μ H [] []
 |cons {x:V} {d:D} {xs:List V} {ds:List D}:VR Γ μ H x d->VRs Γ μ H xs ds->VRs Γ μ H (x::xs) (d::ds)
end
structure Ext(μ:Mu)(H:Hp)(μ':Mu)(H':Hp):Prop where
 keep:∀a o,H a=some o->¬CZ μ a->H' a=some o/\¬CZ μ' a
 tups:∀a xs,H a=some (.tup xs)->H' a=some (.tup xs)
 none:∀a,H' a=none->H a=none
 ids:∀(i:Nat)(a:Addr),i<μ.length->μ'[i]?=some (some a)->μ[i]?=some (some a)
 len:μ.length<=μ'.length
 isl:∀a,CZ μ a->IsL H a->IsL H' a
 isk:∀a,CZ μ a->IsK H a->IsK H' a
theorem Ext.refl(μ:Mu)(H:Hp):Ext μ H μ H:=⟨fun _ _ h n=>⟨h,n⟩,fun _ _ h=>h,fun _ h=>h,fun _ _ _ h=>h,U0o _,fun _ _ h=>h,fun _ _ h=>h⟩
theorem Ext.trans{μ μ1 μ2:Mu}{H H1 H2:Hp}(a:Ext μ H μ1 H1)(b:Ext μ1 H1 μ2 H2):Ext μ H μ2 H2 :=
 ⟨fun c o h n=>let ⟨x,y⟩:=a.keep c o h n;b.keep c o x y,fun c xs h=>b.tups c xs (a.tups c xs h),fun c h=>a.none c (b.none c h),fun i c hi h=>a.ids i c hi (b.ids i c (U1a hi a.len) h),U1d a.len b.len,
  fun c l h=>by
  by_cases z:CZ μ1 c
  .exact b.isl c z (a.isl c l h)
  .obtain⟨xs,e⟩:=a.isl c l h
   exact⟨xs,(b.keep c _ e z).1⟩,
  fun c l h=>by
  by_cases z:CZ μ1 c
  .exact b.isk c z (a.isk c l h)
  .obtain⟨xs,e⟩:=a.isk c l h
   exact⟨xs,(b.keep c _ e z).1⟩⟩
section
variable{Γ:Fr}{μ μ':Mu}{H H':Hp}
mutual
theorem VR.ext(e:Ext μ H μ' H'):∀{v:V} {d:D},VR Γ μ H v d->VR Γ μ' H' v d
 |_,_,.non=>.non
 |_,_,.bl b=>.bl b
 |_,_,.int i=>.int i
 |_,_,.str x=>.str x
 |_,_,.ty n=>.ty n
 |_,_,.tup h t=>.tup (e.tups _ _ h) (VRs.ext e t)
 |_,_,.lst o n h t=>.lst o (e.keep _ _ h n).2 (e.keep _ _ h n).1 (VRs.ext e t)
 |_,_,.ref hi f=>.ref (U1a hi e.len) fun a q=>have z:=e.ids _ _ hi q;⟨(f a z).1,e.isl a (U2e z) (f a z).2⟩
 |_,_,.dref hi f=>.dref (U1a hi e.len) fun a q=>have z:=e.ids _ _ hi q;⟨(f a z).1,e.isk a (U2e z) (f a z).2⟩
 |_,_,.dcf o n h=>.dcf o (e.keep _ _ h n).2 (e.keep _ _ h n).1
 |_,_,.scrK h=>.scrK h
 |_,_,.scrR n h=>.scrR (e.keep _ _ h n).2 (e.keep _ _ h n).1
 |_,_,.emp o n h=>.emp o (e.keep _ _ h n).2 (e.keep _ _ h n).1
theorem VRs.ext(e:Ext μ H μ' H'):∀{vs:List V} {ds:List D},VRs Γ μ H vs ds->VRs Γ μ' H' vs ds
 |_,_,.nil=>.nil
 |_,_,.cons r t=>.cons (VR.ext e r) (VRs.ext e t)
end
theorem VRs.length:∀{xs:List V} {ds:List D},VRs Γ μ H xs ds->xs.length=ds.length
 |_,_,.nil=>rfl
 |_,_,.cons _ t=>by rw[U0e,U0e,VRs.length t]
theorem VRs.append:∀{xs ys:List V} {ds es:List D},VRs Γ μ H xs ds->VRs Γ μ H ys es->VRs Γ μ H (xs++ys) (ds++es)
 |_,_,_,_,.nil,t=>t
 |_,_,_,_,.cons r s,t=>.cons r (VRs.append s t)
theorem VRs.take:∀{xs:List V} {ds:List D} (n:Nat),VRs Γ μ H xs ds->VRs Γ μ H (xs.take n) (ds.take n)
 |_,_,0,_=>.nil
 |_,_,_+1,.nil=>.nil
 |_,_,n+1,.cons r t=>.cons r (VRs.take n t)
theorem VRs.drop:∀{xs:List V} {ds:List D} (n:Nat),VRs Γ μ H xs ds->VRs Γ μ H (xs.drop n) (ds.drop n)
 |_,_,0,r=>r
 |_,_,_+1,.nil=>.nil
 |_,_,n+1,.cons _ t=>VRs.drop n t
theorem VRs.get:∀{xs:List V} {ds:List D} {i:Nat} {d:D},VRs Γ μ H xs ds->ds[i]?=some d->∃x,xs[i]?=some x/\VR Γ μ H x d
 |_,_,_,_,.nil,h=>by simp at h
 |_,_,0,_,.cons r _,h=>by simp at h;subst h;exact⟨_,rfl,r⟩
 |_,_,i+1,d,.cons _ t,h=>by
  obtain⟨x,h1,h2⟩:=VRs.get (i:=i) (d:=d) t (by simpa using h)
  exact⟨x,by simpa using h1,h2⟩
theorem VRs.set{x:V}{d:D}(r:VR Γ μ H x d):∀{xs:List V} {ds:List D} (i:Nat),VRs Γ μ H xs ds->VRs Γ μ H (xs.set i x) (ds.set i d)
 |_,_,_,.nil=>.nil
 |_,_,0,.cons _ t=>.cons r t
 |_,_,i+1,.cons q t=>.cons q (VRs.set r i t)
theorem VRs.rep{xs:List V}{ds:List D}(h:VRs Γ μ H xs ds):∀n:Nat,VRs Γ μ H (U0w n xs).flatten (U0w n ds).flatten
 |0=>.nil
 |n+1=>by rw[U0t,U0t,U2w,U2w];exact h.append (VRs.rep h n)
theorem VRs.ints:∀(ns:List Int),VRs Γ μ H (ns.map V.int) (ns.map D.int)
 |[]=>.nil
 |n::r=>.cons (.int n) (VRs.ints r)
theorem VRs.Qa:∀{xs:List V} {ns:List Int},VRs Γ μ H xs (ns.map D.int)->xs=ns.map V.int
 |_,[],.nil=>rfl
 |_,n::r,.cons q t=>by cases q;rw[U0r,VRs.Qa t]
end
abbrev Env:=List (Option D)
abbrev Store:=List (Option (List D))
def Cell(Γ:Fr)(μ:Mu)(H:Hp)(a:Addr)(ds:List D):Prop:=(∃xs,H a=some (.lst xs)/\VRs Γ μ H xs ds)∨∃kvs,ds=[.dcm kvs]/\H a=some (.dK kvs)
structure Rep(Γ:Fr)(μ:Mu)(σ:St)(H:Hp)(env:Env)(S:Store):Prop where
 vals:∀(i:Nat)(d:D),env[i]?=some (some d)->∃v,σ[i]?=some (some v)/\VR Γ μ H v d
 len:σ.length=env.length
 sto:∀(i:Nat)(ds:List D),S[i]?=some (some ds)->∃a,μ[i]?=some (some a)/\Cell Γ μ H a ds
 liv:∀(i:Nat)(a:Addr),μ[i]?=some (some a)->∃ds,S[i]?=some (some ds)
 inj:∀(i j:Nat)(a:Addr),μ[i]?=some (some a)->μ[j]?=some (some a)->i=j
 slen:S.length=μ.length
 ent:Ext (Γ.m0.map some) Γ.H0 μ H
 new:∀(i:Nat)(a:Addr),Γ.m0.length<=i->μ[i]?=some (some a)->Γ.H0 a=none
section
variable{Γ:Fr}{μ μ':Mu}{σ σ2:St}{H H':Hp}{env env2:Env}{S S':Store}
theorem Cell.kind{a:Addr}{ds:List D}(c:Cell Γ μ H a ds):IsL H a∨IsK H a:=by
 rcases c with ⟨xs,h,_⟩|⟨kvs,_,h⟩
 .exact .inl ⟨xs,h⟩
 .exact .inr ⟨kvs,h⟩
theorem Cell.list{a:Addr}{ds:List D}(c:Cell Γ μ H a ds)(l:IsL H a):∃xs,H a=some (.lst xs)/\VRs Γ μ H xs ds:=by
 rcases c with z|⟨kvs,_,h⟩
 .exact z
 .obtain⟨xs,q⟩:=l
  rw[h] at q;cases q
theorem Cell.dict{a:Addr}{ds:List D}(c:Cell Γ μ H a ds)(l:IsK H a):∃kvs,ds=[.dcm kvs]/\H a=some (.dK kvs):=by
 rcases c with ⟨xs,h,_⟩|z
 .obtain⟨xs,q⟩:=l
  rw[h] at q;cases q
 .exact z
theorem Cell.to{μ':Mu}{H':Hp}{a:Addr}{ds:List D}(c:Cell Γ μ H a ds)(x:Ext μ H μ' H')(e:∀o,H a=some o->H' a=some o):Cell Γ μ' H' a ds:=by
 rcases c with ⟨xs,h,r⟩|⟨kvs,q,h⟩
 .exact .inl ⟨xs,e _ h,r.ext x⟩
 .exact .inr ⟨kvs,q,e _ h⟩
theorem Rep.live(R:Rep Γ μ σ H env S){a:Addr}(h:CZ μ a):IsL H a∨IsK H a:=by
 obtain⟨i,hi⟩:=U36.mp h
 obtain⟨ds,hs⟩:=R.liv i a hi
 obtain⟨b,h1,h2⟩:=R.sto i ds hs
 rw[hi] at h1;cases h1
 exact h2.kind
theorem Rep.dead(R:Rep Γ μ σ H env S){p:Addr}(h:H p=none):¬CZ μ p:=fun z=>by
 rcases R.live z with ⟨xs,e⟩|⟨xs,e⟩<;>(rw[h] at e;cases e)
theorem Rep.fresh(R:Rep Γ μ σ H env S){p:Addr}(h:H p=none):Γ.H0 p=none:=R.ent.none p h
theorem Rep.ok(R:Rep Γ μ σ H env S){p:Addr}(h:H p=none)(m:Bool):Γ.Ok m p:=⟨fun _=>R.fresh h,.inr (R.fresh h)⟩
theorem Rep.grow(R:Rep Γ μ σ H env S)(e:Same H H'):Rep Γ μ σ H' env S/\Ext μ H μ H':=by
 have x:Ext μ H μ H':=⟨fun a o h n=>⟨e a o h,n⟩,fun a xs h=>e a _ h,fun a h=>e.free h,fun _ _ _ h=>h,U0o _,fun a _ ⟨xs,h⟩=>⟨xs,e a _ h⟩,fun a _ ⟨xs,h⟩=>⟨xs,e a _ h⟩⟩
 refine⟨⟨fun i d h=>?_,R.len,fun i ds h=>?_,R.liv,R.inj,R.slen,R.ent.trans x,R.new⟩,x⟩
 .obtain⟨v,h1,h2⟩:=R.vals i d h
  exact⟨v,h1,h2.ext x⟩
 .obtain⟨a,h1,h2⟩:=R.sto i ds h
  exact⟨a,h1,h2.to x fun o q=>e _ _ q⟩
theorem Rep.back(R:Rep Γ μ σ H env S)(x:Ext μ H μ' H')(R2:Rep Γ μ' σ2 H' env2 S'):Rep Γ μ' σ H' env S' :=
 ⟨fun i d h=>let ⟨v,h1,h2⟩:=R.vals i d h;⟨v,h1,h2.ext x⟩,R.len,R2.sto,R2.liv,R2.inj,R2.slen,R2.ent,R2.new⟩
theorem Rep.bf(R:Rep Γ μ σ H env S)(i:Nat){v:V}{d:D}(r:VR Γ μ H v d):Rep Γ μ (σ.set i (some v)) H (env.set i (some d)) S:=by
 refine⟨fun j e h=>?_,by rw[U4u,U4u];exact R.len,R.sto,R.liv,R.inj,R.slen,R.ent,R.new⟩
 by_cases hj:i=j
 .subst hj
  have hl:i<env.length:=by
   have:=(U0k.mp h).1
   rw[U4u] at this;exact this
  rw[U27 hl] at h
  cases h
  exact⟨v,U27 (by rw[R.len];exact hl),r⟩
 .rw[U3g hj] at h ⊢
  exact R.vals j e h
theorem Rep.qp(R:Rep Γ μ σ H env S){p:Addr}{o:HO}{ds:List D}(hp:H p=none)(r:∀μ' H',Ext μ H μ' H'->H' p=some o->Cell Γ μ' H' p ds) :
  Rep Γ (μ++[some p]) σ (upd H p o) env (S++[some ds])/\Ext μ H (μ++[some p]) (upd H p o):=by
 have ne:∀a o,H a=some o->a≠p:=fun a o h z=>by rw[z,hp] at h;cases h
 have x:Ext μ H (μ++[some p]) (upd H p o):=by
  refine⟨fun a o h n=>⟨by rw[Bf (ne a o h)];exact h,fun z=>?_⟩,fun a ys h=>by rw[Bf (ne a _ h)];exact h,fun a h=>?_,fun i a hi h=>?_,by rw[U0h];omega,fun a _ ⟨ys,h⟩=>⟨ys,by rw[Bf (ne a _ h)];exact h⟩,fun a _ ⟨ys,h⟩=>⟨ys,by rw[Bf (ne a _ h)];exact h⟩⟩
  .rcases U1e.mp z with z|z
   .exact n z
   .have z':a=p:=by simpa using z
    exact ne a o h z'
  .by_cases ha:a=p
   .rw[ha,Cg] at h;cases h
   .rw[Bf ha] at h;exact h
  .rw[U04 hi] at h;exact h
 have idx:∀i a,(μ++[some p])[i]?=some (some a)->(i<μ.length/\μ[i]?=some (some a))∨(i=μ.length/\a=p):=fun i a h=>by
  by_cases hi:i<μ.length
  .rw[U04 hi] at h;exact .inl ⟨hi,h⟩
  .rw[U1h (by omega)] at h
   have hl:=(U0k.mp h).1
   have hi':i=μ.length:=by simp at hl;omega
   subst hi'
   simp at h
   exact .inr ⟨rfl,h.symm⟩
 have no:∀a,μ[a]?=some (some p)->False:=fun i h=>R.dead hp (U2e h)
 refine⟨⟨fun i d h=>?_,R.len,fun i es h=>?_,fun i a h=>?_,fun i j a h1 h2=>?_,by rw[U0h,U0h,R.slen];rfl,R.ent.trans x,fun i a hi h=>?_⟩,x⟩
 .obtain⟨v,h1,h2⟩:=R.vals i d h
  exact⟨v,h1,h2.ext x⟩
 .by_cases hi:i<S.length
  .rw[U04 hi] at h
   obtain⟨a,h1,h2⟩:=R.sto i es h
   exact⟨a,by rw[U04 (by rw[←R.slen];exact hi)];exact h1,h2.to x fun o q=>by rw[Bf (ne a _ q)];exact q⟩
  .rw[U1h (by omega)] at h
   have hl:=(U0k.mp h).1
   have hi':i=S.length:=by simp at hl;omega
   subst hi'
   simp at h
   subst h
   exact⟨p,by rw[R.slen];simp,r _ _ x Cg⟩
 .rcases idx i a h with ⟨hi,h⟩|⟨rfl,rfl⟩
  .obtain⟨ds',q⟩:=R.liv i a h
   exact⟨ds',by rw[U04 (by rw[R.slen];exact hi)];exact q⟩
  .exact⟨ds,by rw[←R.slen];simp⟩
 .rcases idx i a h1 with ⟨_,g1⟩|⟨e1,e2⟩
  .rcases idx j a h2 with ⟨_,g2⟩|⟨e3,e4⟩
   .exact R.inj i j a g1 g2
   .exact(no i (e4 ▸ g1)).elim
  .rcases idx j a h2 with ⟨_,g2⟩|⟨e3,_⟩
   .exact(no j (e2 ▸ g2)).elim
   .rw[e1,e3]
 .rcases idx i a h with ⟨_,h⟩|⟨rfl,rfl⟩
  .exact R.new i a hi h
  .exact R.fresh hp
theorem Rep.laid(R:Rep Γ μ σ H env S){p:Addr}{xs:List V}{ds:List D}(hp:H p=none)(r:VRs Γ μ H xs ds) :
  Rep Γ (μ++[some p]) σ (upd H p (.lst xs)) env (S++[some ds])/\Ext μ H (μ++[some p]) (upd H p (.lst xs)):=R.qp hp fun _ _ x q=>.inl ⟨xs,q,r.ext x⟩
theorem Rep.sX(R:Rep Γ μ σ H env S){i:Nat}{a:Addr}{o:HO}{ds:List D}(hi:μ[i]?=some (some a))(k1:IsL H a->IsL (upd H a o) a)(k2:IsK H a->IsK (upd H a o) a)(r:∀H',Ext μ H μ H'->H' a=some o->Cell Γ μ H' a ds) :
  Rep Γ μ σ (upd H a o) env (S.set i (some ds))/\Ext μ H μ (upd H a o):=by
 have hl:CZ μ a:=U2e hi
 have hy:=R.live hl
 have x:Ext μ H μ (upd H a o):=by
  refine⟨fun b o h n=>⟨?_,n⟩,fun b zs h=>?_,fun b h=>?_,fun _ _ _ h=>h,U0o _,fun b _ h=>?_,fun b _ h=>?_⟩
  .rw[Bf (fun z=>n (by rw[z];exact hl))];exact h
  .rw[Bf (fun z=>by
    rw[z] at h
    rcases hy with ⟨_,q⟩|⟨_,q⟩<;>(rw[q] at h;cases h))];exact h
  .by_cases hb:b=a
   .rw[hb,Cg] at h;cases h
   .rw[Bf hb] at h;exact h
  .by_cases hb:b=a
   .subst hb;exact k1 h
   .obtain⟨ys,h⟩:=h
    exact⟨ys,by rw[Bf hb];exact h⟩
  .by_cases hb:b=a
   .subst hb;exact k2 h
   .obtain⟨ys,h⟩:=h
    exact⟨ys,by rw[Bf hb];exact h⟩
 have hiS:i<S.length:=by rw[R.slen];exact(U0k.mp hi).1
 refine⟨⟨fun j d h=>?_,R.len,fun j es h=>?_,fun j b h=>?_,R.inj,by rw[U4u];exact R.slen,R.ent.trans x,R.new⟩,x⟩
 .obtain⟨v,h1,h2⟩:=R.vals j d h
  exact⟨v,h1,h2.ext x⟩
 .by_cases hj:i=j
  .subst hj
   rw[U27 hiS] at h
   cases h
   exact⟨a,hi,r _ x Cg⟩
  .rw[U3g hj] at h
   obtain⟨b,h1,h2⟩:=R.sto j es h
   refine⟨b,h1,h2.to x fun o q=>?_⟩
   rw[Bf (fun z=>hj (R.inj i j a hi (by rw[←z];exact h1)))]
   exact q
 .by_cases hj:i=j
  .subst hj;exact⟨ds,U27 hiS⟩
  .rw[U3g hj];exact R.liv j b h
theorem Rep.put(R:Rep Γ μ σ H env S){i:Nat}{a:Addr}{xs:List V}{ds:List D}(hi:μ[i]?=some (some a))(hx:IsL H a)(r:VRs Γ μ H xs ds) :
  Rep Γ μ σ (upd H a (.lst xs)) env (S.set i (some ds))/\Ext μ H μ (upd H a (.lst xs)) :=
 R.sX hi (fun _=>⟨xs,Cg⟩) (fun⟨_,q⟩=>by obtain⟨_,p⟩:=hx;rw[q] at p;cases p) fun _ x q=>.inl ⟨xs,q,r.ext x⟩
end
end VS
end
section
namespace VS
open PySem PySem.Spec L2
abbrev BP:=Env->Store->Option (D×Store)
abbrev Bl:=Env->Store->Option (List D×Store)
abbrev FJ:=Env->Store->Option (Bool×Store)
abbrev RT:=Env->Store->Option (Option Int×Store)
inductive Fl where|nx|brk|cnt|ret (d:D)
abbrev Bb:=Env->Store->Option (Fl×Env×Store)
abbrev K4:=Env->Store->Option ((List D×List (Nat×List D))×Store)
abbrev M9:=D->Env->Option Env
def Ae(i:Nat):BP:=fun env S=>(env[i]?.join).map fun d=>(d,S)
def eC(d:D):BP:=fun _ S=>some (d,S)
def eOp(g:Store->D->D->Option D)(a b:BP):BP:=fun env S=>(a env S).bind fun p=>(b env p.2).bind fun q=>(g q.2 p.1 q.1).map fun d=>(d,q.2)
def eUn(g:Store->D->Option D)(a:BP):BP:=fun env S=>(a env S).bind fun p=>(g p.2 p.1).map fun d=>(d,p.2)
def Ah:Bl:=fun _ S=>some ([],S)
def Ac(a:BP)(r:Bl):Bl:=fun env S=>(a env S).bind fun p=>(r env p.2).bind fun q=>some (p.1::q.1,q.2)
def eCB(g:Store->List D->Option D)(a:Bl):BP:=fun env S=>(a env S).bind fun p=>(g p.2 p.1).map fun d=>(d,p.2)
def OD(a b:BP):BP:=fun env S=>(a env S).bind fun p=>match p.1 with|.bl true=>b env p.2|.bl false=>some (.bl false,p.2)|_=>none
def cH(a:BP):BP:=fun env S=>(a env S).bind fun p=>match p.1 with|.bl c=>some (.bl (!c),p.2)|_=>none
def Sv(g g':Store->D->D->Option D)(a b c:BP):BP:=fun env S=>(a env S).bind fun p=>(b env p.2).bind fun q=>(g q.2 p.1 q.1).bind fun z=>match z with
 |.bl true=>(c env q.2).bind fun r=>(g' r.2 q.1 r.1).map fun d=>(d,r.2)
 |.bl false=>some (.bl false,q.2)
 |_=>none
def Bv(a:BP):FJ:=fun env S=>(a env S).bind fun p=>match p.1 with|.bl c=>some (c,p.2)|_=>none
def PJ(a b:FJ):FJ:=fun env S=>(a env S).bind fun p=>if p.1=true then b env p.2 else some (false,p.2)
def tOr(a b:FJ):FJ:=fun env S=>(a env S).bind fun p=>if p.1=true then some (true,p.2) else b env p.2
def K1(a:FJ):FJ:=fun env S=>(a env S).bind fun p=>some (!p.1,p.2)
def GR:RT:=fun _ S=>some (none,S)
def GQ(a:BP):RT:=fun env S=>(a env S).bind fun p=>match p.1 with|.int i=>some (some i,p.2)|_=>none
def eSl(g:Store->D->Option Int->Option Int->Option D)(a:BP)(l h:RT):BP:=fun env S=>(a env S).bind fun p=>(l env p.2).bind fun q=>(h env q.2).bind fun r=>(g r.2 p.1 q.1 r.1).map fun d=>(d,r.2)
def Bt(a b:Bb):Bb:=fun env S=>(a env S).bind fun p=>match p.1 with|.nx=>b p.2.1 p.2.2|f=>some (f,p.2.1,p.2.2)
def G8:Bb:=fun env S=>some (.nx,env,S)
def Zk:Bb:=fun _ _=>none
def Bk(i:Nat)(a:BP):Bb:=fun env S=>(a env S).bind fun p=>some (.nx,env.set i (some p.1),p.2)
def Yn(a:BP)(g:M9):Bb:=fun env S=>(a env S).bind fun p=>(g p.1 env).bind fun e=>some (.nx,e,p.2)
def HS(a:BP):Bb:=fun env S=>(a env S).bind fun p=>some (.nx,env,p.2)
def DR(a:BP):Bb:=fun env S=>(a env S).bind fun p=>some (.ret p.1,env,p.2)
def sIf(c:FJ)(a b:Bb):Bb:=fun env S=>(c env S).bind fun p=>if p.1=true then a env p.2 else b env p.2
inductive Pat where
 |nm (i:Nat)|tp (ps:List Pat)
mutual
def Pat.sem:Pat->D->Env->Option Env
 |.nm i,d,env=>some (env.set i (some d))
 |.tp ps,.tup ds,env=>HN ps ds env
 |.tp _,_,_=>none
def HN:List Pat->List D->Env->Option Env
 |[],[],env=>some env
 |p::ps,d::ds,env=>(Pat.sem p d env).bind fun e=>HN ps ds e
 |_,_,_=>none
end
mutual
def Pat.raw(K:U0b):Pat->TG
 |.nm i=>Vg i
 |.tp ps=>cF K ps.length (JV K ps)
def JV(K:U0b):List Pat->TGs
 |[]=>cG
 |p::ps=>Z2 (Pat.raw K p) (JV K ps)
end
mutual
def Pat.low(k:Nat):Pat->Bool
 |.nm i=>decide (i<k)
 |.tp ps=>Yq k ps
def Yq(k:Nat):List Pat->Bool
 |[]=>true
 |p::ps=>Pat.low k p&&Yq k ps
end
mutual
theorem Pat.mono(K:U0b):∀(p:Pat)(x:V)(σ:St)(H:Hp)(Q Q':St->Hp->Prop),(∀σ' H',Q σ' H'->Q' σ' H')->p.raw K x σ H Q->p.raw K x σ H Q'
 |.nm i,x,σ,H,Q,Q',f,h=>by rw[Pat.raw] at h ⊢;exact f _ _ h
 |.tp ps,x,σ,H,Q,Q',f,h=>by rw[Pat.raw] at h ⊢;obtain⟨a,xs,e,hs,hl,q⟩:=h;exact⟨a,xs,e,hs,hl,Yz K ps xs σ H Q Q' f q⟩
theorem Yz(K:U0b):∀(ps:List Pat)(x:List V)(σ:St)(H:Hp)(Q Q':St->Hp->Prop),(∀σ' H',Q σ' H'->Q' σ' H')->JV K ps x σ H Q->JV K ps x σ H Q'
 |[],x,σ,H,Q,Q',f,h=>by rw[JV] at h ⊢;exact⟨h.1,f _ _ h.2⟩
 |p::ps,x,σ,H,Q,Q',f,h=>by rw[JV] at h ⊢;obtain⟨v,r,e,q⟩:=h;exact⟨v,r,e,Pat.mono K p v σ H _ _ (fun σ1 H1 z=>Yz K ps r σ1 H1 Q Q' f z) q⟩
end
mutual
theorem Pat.Z0(K:U0b){k:Nat}:∀(p:Pat),p.low k=true->Low k (p.raw K)
 |.nm i,h=>by rw[Pat.raw];rw[Pat.low] at h;exact dg (of_decide_eq_true h)
 |.tp ps,h=>by rw[Pat.raw];rw[Pat.low] at h;exact jG (Zy K ps h)
theorem Zy(K:U0b){k:Nat}:∀(ps:List Pat),Yq k ps=true->Vn k (JV K ps)
 |[],_=>by rw[JV];exact jH
 |p::ps,h=>by
  rw[JV]
  rw[Yq,U0s] at h
  exact dh (Pat.Z0 K p h.1) (Zy K ps h.2) (Pat.mono K p) (Yz K ps)
end
theorem WL:∀{ps:List Pat} {ds:List D} {env env':Env},HN ps ds env=some env'->ds.length=ps.length
 |[],[],_,_,_=>rfl
 |[],_::_,_,_,h=>by simp[HN] at h
 |_::_,[],_,_,h=>by simp[HN] at h
 |p::ps,d::ds,env,env',h=>by
  rw[HN] at h
  cases e1:p.sem d env with
  |none=>rw[e1] at h;cases h
  |some env1 =>
   rw[e1] at h
   rw[U0e,U0e,WL (show HN ps ds env1=some env' from h)]
mutual
theorem Pat.run{Γ:Fr}{μ:Mu}{H:Hp}{S:Store}(K:U0b):∀(p:Pat){v:V}{d:D}{σ:St}{env env':Env}{Q:St->Hp->Prop},Rep Γ μ σ H env S->VR Γ μ H v d->p.sem d env=some env'->(∀σ',Rep Γ μ σ' H env' S->Q σ' H)->p.raw K v σ H Q
 |.nm i,v,d,σ,env,env',Q,R,r,e,q=>by
  rw[Pat.raw]
  rw[Pat.sem] at e
  cases e
  exact q _ (R.bf i r)
 |.tp ps,v,d,σ,env,env',Q,R,r,e,q=>by
  rw[Pat.raw]
  cases r with
  |@tup b xs ds hb rs =>
   rw[Pat.sem] at e
   obtain⟨hl,w⟩:=lG K ps R rs e q
   exact⟨b,xs,rfl,SqT.of hb,hl,w⟩
  |_=>simp[Pat.sem] at e
theorem lG{Γ:Fr}{μ:Mu}{H:Hp}{S:Store}(K:U0b):∀(ps:List Pat){vs:List V}{ds:List D}{σ:St}{env env':Env}{Q:St->Hp->Prop},Rep Γ μ σ H env S->VRs Γ μ H vs ds->HN ps ds env=some env'->(∀σ',Rep Γ μ σ' H env' S->Q σ' H)->vs.length=ps.length/\JV K ps vs σ H Q
 |[],vs,ds,σ,env,env',Q,R,r,e,q=>by
  rw[JV]
  cases r with
  |nil=>rw[HN] at e;cases e;exact⟨rfl,rfl,q σ R⟩
  |cons _ _=>simp[HN] at e
 |p::ps,vs,ds,σ,env,env',Q,R,r,e,q=>by
  rw[JV]
  cases r with
  |nil=>simp[HN] at e
  |@cons y d ys ds' r1 r2 =>
   rw[HN] at e
   cases e1:p.sem d env with
   |none=>rw[e1] at e;cases e
   |some env1 =>
    rw[e1] at e
    have e':HN ps ds' env1=some env':=e
    have hl:ys.length=ps.length:=by rw[r2.length];exact WL e'
    exact⟨by rw[U0e,U0e,hl],y,ys,rfl,Pat.run K p R r1 e1 fun σ1 R1=>(lG K ps R1 r2 e' q).2⟩
end
def calm(w:List (Nat×List D))(S:Store):Prop:=∀p∈w,S[p.1]?=some (some p.2)
open Classical in
def loop(w:List (Nat×List D))(g:M9)(b:Bb):List D->Bb
 |[],env,S=>if calm w S then some (.nx,env,S) else none
 |d::r,env,S=>if calm w S then (g d env).bind fun e=>(b e S).bind fun p=>match p.1 with
   |.nx=>loop w g b r p.2.1 p.2.2
   |.cnt=>loop w g b r p.2.1 p.2.2
   |.brk=>some (.nx,p.2.1,p.2.2)
   |.ret d=>some (.ret d,p.2.1,p.2.2)
  else none
def Kv(it:K4)(g:M9)(b:Bb):Bb:=fun env S=>(it env S).bind fun p=>loop p.1.2 g b p.1.1 env p.2
def Jo(k:Nat)(caps:List Nat)(env:Env):Env:=U0w k none++caps.map fun j=>(env[j]?).join
open Classical in
def KQ(w:List (Nat×List D))(e0:Env)(g:M9)(t:FJ)(e:BP):List D->List D->Store->Option (List D×Store)
 |[],ys,S=>if calm w S/\ys.length<=1000000 then some (ys,S) else none
 |d::r,ys,S=>if calm w S/\ys.length<=1000000 then (g d e0).bind fun e1=>(t e1 S).bind fun p =>
   if p.1=true then (e e1 p.2).bind fun q=>KQ w e0 g t e r (ys++[q.1]) q.2 else KQ w e0 g t e r ys p.2
  else none
def DN(k:Nat)(caps:List Nat)(it:K4)(g:M9)(t:FJ)(e:BP):Bl:=fun env S=>(it env S).bind fun p=>KQ p.1.2 (Jo k caps env) g t e p.1.1 [] p.2
def HJ:FJ:=fun _ S=>some (true,S)
def BK(a:Bl):BP:=fun env S=>(a env S).bind fun p=>some (.lst true p.1,p.2)
def Kw(a:Bl):BP:=fun env S=>(a env S).bind fun p=>some (.ref p.2.length,p.2++[some p.1])
def Ce(a:Bl):BP:=fun env S=>(a env S).bind fun p=>some (.tup p.1,p.2)
def wpE(K:U0b)(f:BP):TE:=fun σ H Q=>∃Γ μ env S d S',Γ.K=K/\Rep Γ μ σ H env S/\f env S=some (d,S')/\∀v μ' H',Ext μ H μ' H'->Rep Γ μ' σ H' env S'->VR Γ μ' H' v d->Q v H'
def wpA(K:U0b)(f:Bl):TA:=fun σ H Q=>∃Γ μ env S d S',Γ.K=K/\Rep Γ μ σ H env S/\f env S=some (d,S')/\∀v μ' H',Ext μ H μ' H'->Rep Γ μ' σ H' env S'->VRs Γ μ' H' v d->Q v H'
def wpT(K:U0b)(f:FJ):TT:=fun σ H Q=>∃Γ μ env S b S',Γ.K=K/\Rep Γ μ σ H env S/\f env S=some (b,S')/\∀μ' H',Ext μ H μ' H'->Rep Γ μ' σ H' env S'->Q b H'
def wpO(K:U0b)(f:RT):TO:=fun σ H Q=>∃Γ μ env S b S',Γ.K=K/\Rep Γ μ σ H env S/\f env S=some (b,S')/\∀μ' H',Ext μ H μ' H'->Rep Γ μ' σ H' env S'->Q b H'
def FlQ(Γ:Fr)(μ:Mu)(E:Ends)(σ:St)(H:Hp):Fl->Prop
 |.nx=>E.nx σ H
 |.brk=>E.bk σ H
 |.cnt=>E.ct σ H
 |.ret d=>∀v,VR Γ μ H v d->E.rt v H
def wpS(K:U0b)(f:Bb):TS:=fun E σ H=>∃Γ μ env S fl env' S',Γ.K=K/\Rep Γ μ σ H env S/\f env S=some (fl,env',S')/\∀μ' σ' H',Ext μ H μ' H'->Rep Γ μ' σ' H' env' S'->FlQ Γ μ' E σ' H' fl
structure Vo(Γ:Fr)(μ:Mu)(H:Hp)(J:It)(ds:List D)(w:List (Nat×List D)):Prop where
 step:∀(i:Nat)(d:D)(μ':Mu)(H':Hp)(σ':St)(env':Env)(S':Store),ds[i]?=some d->Ext μ H μ' H'->Rep Γ μ' σ' H' env' S'->calm w S'->J.go i H'/\∀x H'',J.yld i H' x H''->Same H' H''/\VR Γ μ' H'' x d
 stop:∀(μ':Mu)(H':Hp)(σ':St)(env':Env)(S':Store),Ext μ H μ' H'->Rep Γ μ' σ' H' env' S'->calm w S'->J.stop ds.length H'
def wpI(K:U0b)(f:K4):TI:=fun σ H R=>∃Γ μ env S ds w S',Γ.K=K/\Rep Γ μ σ H env S/\f env S=some ((ds,w),S')/\∀J μ' H',Ext μ H μ' H'->Rep Γ μ' σ H' env S'->Vo Γ μ' H' J ds w->R J H'
structure JE(X:Cx)(e:Expr)(f:BP):Prop where
 pe:PE X e (wpE X.K f)
structure JA(X:Cx)(es:List Expr)(f:Bl):Prop where
 pa:PA X es (wpA X.K f)
structure JT(X:Cx)(e:Expr)(f:FJ):Prop where
 pt:PT X e (wpT X.K f)
structure JW(X:Cx)(e:Expr)(f:FJ):Prop where
 pw:PW X e (wpT X.K f)
structure JO(X:Cx)(e:Option Expr)(f:RT):Prop where
 po:PO X e (wpO X.K f)
structure JS(X:Cx)(st:Stmt)(f:Bb):Prop where
 ps:PS X st (wpS X.K f)
structure JSs(X:Cx)(sts:List Stmt)(f:Bb):Prop where
 ps:PSs X sts (wpS X.K f)
structure JI(X:Cx)(tg e:Expr)(f:K4):Prop where
 pi:PI X tg e (wpI X.K f)
structure JG(X:Cx)(tg:Expr)(p:Pat):Prop where
 pg:PG X tg (p.raw X.K)
structure JGs(X:Cx)(tgs:List Expr)(ps:List Pat):Prop where
 pg:PGs X tgs (JV X.K ps)
structure JTs(X:Cx)(es:List Expr)(f:FJ):Prop where
 pt:PTs X es (wpT X.K f)
section
variable{X:Cx}
theorem PE.imp{e:Expr}{t t':TE}(h:PE X e t)(k:∀σ H Q,t' σ H Q->t σ H Q):PE X e t':=fun pins s σ H Q I q=>h pins s σ H Q I (k σ H Q q)
theorem PT.imp{e:Expr}{t t':TT}(h:PT X e t)(k:∀σ H Q,t' σ H Q->t σ H Q):PT X e t':=fun pins s σ H Q I q=>h pins s σ H Q I (k σ H Q q)
theorem PW.imp{e:Expr}{t t':TT}(h:PW X e t)(k:∀σ H Q,t' σ H Q->t σ H Q):PW X e t':=fun w pins s σ H Q I q=>h w pins s σ H Q I (k σ H Q q)
theorem PTs.imp{e:List Expr}{t t':TT}(h:PTs X e t)(k:∀σ H Q,t' σ H Q->t σ H Q):PTs X e t':=fun pins s σ H Q I q=>h pins s σ H Q I (k σ H Q q)
theorem PA.imp{e:List Expr}{t t':TA}(h:PA X e t)(k:∀σ H Q,t' σ H Q->t σ H Q):PA X e t':=fun p pins s σ H Q I q=>h p pins s σ H Q I (k σ H Q q)
theorem PO.imp{e:Option Expr}{t t':TO}(h:PO X e t)(k:∀σ H Q,t' σ H Q->t σ H Q):PO X e t':=fun pins s σ H Q I q=>h pins s σ H Q I (k σ H Q q)
theorem PS.imp{e:Stmt}{t t':TS}(h:PS X e t)(k:∀E σ H,t' E σ H->t E σ H):PS X e t':=fun pins s σ H E I q=>h pins s σ H E I (k E σ H q)
theorem PSs.imp{e:List Stmt}{t t':TS}(h:PSs X e t)(k:∀E σ H,t' E σ H->t E σ H):PSs X e t':=fun pins s σ H E I q=>h pins s σ H E I (k E σ H q)
theorem PI.imp{tg e:Expr}{t t':TI}(h:PI X tg e t)(k:∀σ H R,t' σ H R->t σ H R):PI X tg e t':=fun pins s σ H R I q=>h pins s σ H R I (k σ H R q)
theorem bind_some{α β:Type}{a:Option α}{f:α->Option β}{b:β}(h:a.bind f=some b):∃x,a=some x/\f x=some b:=by
 cases a with
 |none=>cases h
 |some x=>exact⟨x,rfl,h⟩
theorem map_some{α β:Type}{a:Option α}{f:α->β}{b:β}(h:a.map f=some b):∃x,a=some x/\f x=b:=by
 cases a with
 |none=>cases h
 |some x=>exact⟨x,rfl,U00 h⟩
def Fg(K:U0b)(r:R2)(g:Store->D->D->Option D):Prop:=∀(Γ:Fr)(μ:Mu)(σ:St)(H:Hp)(env:Env)(S:Store)(x y:V)(dx dy d:D),Γ.K=K->Rep Γ μ σ H env S->VR Γ μ H x dx->VR Γ μ H y dy->g S dx dy=some d ->
 ∀Q:VK,(∀v H',Same H H'->VR Γ μ H' v d->Q v H')->r x y H Q
def m9(K:U0b)(r:V->Hp->VK->Prop)(g:Store->D->Option D):Prop:=∀(Γ:Fr)(μ:Mu)(σ:St)(H:Hp)(env:Env)(S:Store)(x:V)(dx d:D),Γ.K=K->Rep Γ μ σ H env S->VR Γ μ H x dx->g S dx=some d ->
 ∀Q:VK,(∀v H',Same H H'->VR Γ μ H' v d->Q v H')->r x H Q
def M8(K:U0b)(r:List V->Hp->VK->Prop)(g:Store->List D->Option D):Prop:=∀(Γ:Fr)(μ:Mu)(σ:St)(H:Hp)(env:Env)(S:Store)(xs:List V)(ds:List D)(d:D),Γ.K=K->Rep Γ μ σ H env S->VRs Γ μ H xs ds->g S ds=some d ->
 ∀Q:VK,(∀v H',Same H H'->VR Γ μ H' v d->Q v H')->r xs H Q
def gC(K:U0b)(r:V->Option Int->Option Int->Hp->VK->Prop)(g:Store->D->Option Int->Option Int->Option D):Prop:=∀(Γ:Fr)(μ:Mu)(σ:St)(H:Hp)(env:Env)(S:Store)(x:V)(dx d:D)(l h:Option Int),Γ.K=K->Rep Γ μ σ H env S->VR Γ μ H x dx->g S dx l h=some d ->
 ∀Q:VK,(∀v H',Same H H'->VR Γ μ H' v d->Q v H')->r x l h H Q
theorem Vb{K:U0b}{r:R2}{g:Store->D->D->Option D}{fa fb:BP}(hs:Fg K r g){σ:St}{H:Hp}{Q:VK}(h:wpE K (eOp g fa fb) σ H Q):tOp r (wpE K fa) (wpE K fb) σ H Q:=by
 obtain⟨Γ,μ,env,S,d,S',hK,R,e,q⟩:=h
 obtain⟨⟨x,S1⟩,e1,e⟩:=bind_some e
 obtain⟨⟨y,S2⟩,e2,e⟩:=bind_some e
 obtain⟨z,e3,e⟩:=map_some e
 cases e
 refine⟨Γ,μ,env,S,x,S1,hK,R,e1,fun v1 μ1 H1 x1 R1 r1=>?_⟩
 refine⟨Γ,μ1,env,S1,y,S2,hK,R1,e2,fun v2 μ2 H2 x2 R2 r2=>?_⟩
 refine hs Γ μ2 σ H2 env S2 v1 v2 x y _ hK R2 (r1.ext x2) r2 e3 Q fun v H' sm rv=>?_
 obtain⟨R3,x3⟩:=R2.grow sm
 exact q v μ2 H' (x1.trans (x2.trans x3)) R3 rv
theorem Bp{op:Operator}{r:R2}{g:Store->D->D->Option D}{a b:Expr}{fa fb:BP}{pos:Pos}(ho:OpR X (binaryOp op) r)(hs:Fg X.K r g)(ha:JE X a fa)(hb:JE X b fb):JE X (.BinOp a op b pos) (eOp g fa fb) :=
 ⟨PE.imp (qW ho ha.pe hb.pe) fun _ _ _ h=>Vb hs h⟩
theorem Js{op:CmpOp}{r:R2}{g:Store->D->D->Option D}{a b:Expr}{fa fb:BP}{pos:Pos}(ho:OpR X (compareOp op) r)(hs:Fg X.K r g)(ha:JE X a fa)(hb:JE X b fb)(hm:behindInMarks op b=false):JE X (.Compare a [op] [b] pos) (eOp g fa fb) :=
 ⟨PE.imp (j5 ho ha.pe hb.pe hm) fun _ _ _ h=>Vb hs h⟩
theorem BW{r:R2}{g:Store->D->D->Option D}{a b:Expr}{fa fb:BP}{pos:Pos}(ho:IxR X r)(hs:Fg X.K r g)(ha:JE X a fa)(hb:JE X b fb)(hp:Ym b):JE X (.Subscript a b pos) (eOp g fa fb) :=
 ⟨PE.imp (qX ho ha.pe hb.pe hp) fun _ _ _ h=>Vb hs h⟩
theorem S9{op:UnaryOp}{r:V->Hp->VK->Prop}{g:Store->D->Option D}{a:Expr}{fa:BP}{pos:Pos}(ho:UnR X (unaryOp op) r)(hs:m9 X.K r g)(ha:JE X a fa):JE X (.UnaryOp op a pos) (eUn g fa) :=
 ⟨PE.imp (qU ho ha.pe) fun σ H Q h=>by
  obtain⟨Γ,μ,env,S,d,S',hK,R,e,q⟩:=h
  obtain⟨⟨x,S1⟩,e1,e⟩:=bind_some e
  obtain⟨z,e3,e⟩:=map_some e
  cases e
  refine⟨Γ,μ,env,S,x,S1,hK,R,e1,fun v1 μ1 H1 x1 R1 r1=>?_⟩
  refine hs Γ μ1 σ H1 env S1 v1 x _ hK R1 r1 e3 Q fun v H' sm rv=>?_
  obtain⟨R3,x3⟩:=R1.grow sm
  exact q v μ1 H' (x1.trans x3) R3 rv⟩
theorem Ai(i:Nat){x:Str}{pos:Pos}(hN:X.N[i]?=some x:=by rfl)(hv:Vis X.env.scope x:=by first|exact U7t rfl|exact U65 (U7t rfl)|exact U65 (U65 rfl))(hd:(x==("__debug__":Str))=false:=by decide)
  (hcd:(x==("__classdict__":Str))=false:=by decide):JE X (.Name x pos) (Ae i) :=
 ⟨PE.imp (Zo hN hv hd hcd) fun σ H Q h=>by
  obtain⟨Γ,μ,env,S,d,S',hK,R,e,q⟩:=h
  obtain⟨d',e1,e⟩:=map_some e
  cases e
  have e1':env[i]?=some (some d):=by
   cases h:env[i]? with
   |none=>rw[h] at e1;cases e1
   |some o=>rw[h] at e1;exact congrArg some e1
  obtain⟨v,h1,h2⟩:=R.vals i d e1'
  exact⟨v,h1,q v μ H (Ext.refl _ _) R h2⟩⟩
theorem bZ{K:U0b}{v:V}{d:D}(h:∀Γ μ H,VR Γ μ H v d){σ:St}{H:Hp}{Q:VK}(w:wpE K (eC d) σ H Q):tC v σ H Q:=by
 obtain⟨Γ,μ,env,S,d',S',hK,R,e,q⟩:=w
 cases e
 exact q v μ H (Ext.refl _ _) R (h Γ μ H)
theorem Ak{i j pos}:JE X (.Constant (.int i) j pos) (eC (.int i)):=⟨PE.imp Zr fun _ _ _=>bZ fun _ _ _=>.int i⟩
theorem QZ{b j pos}:JE X (.Constant (.bool b) j pos) (eC (.bl b)):=⟨PE.imp qZ fun _ _ _=>bZ fun _ _ _=>.bl b⟩
theorem Ve{n:String}{x:Str}{pos:Pos}(hg:Gl X x)(hm:X.mg x=none)(hv:bootBuiltins x=some (.type n))(hn:x≠"__name__":=by decide)(hd:(x==("__debug__":Str))=false:=by decide):JE X (.Name x pos) (eC (.ty n)) :=
 ⟨PE.imp (j7 (v:=.ty n) hg hm hv rfl hn hd) fun _ _ _=>bZ fun _ _ _=>.ty n⟩
theorem Aj:JA X [] Ah:=⟨PA.imp SX fun σ H Q h=>by
 obtain⟨Γ,μ,env,S,d,S',hK,R,e,q⟩:=h
 cases e
 exact q [] μ H (Ext.refl _ _) R .nil⟩
theorem Af{e:Expr}{es:List Expr}{f:BP}{r:Bl}(ha:JE X e f)(hr:JA X es r)(hs:starEach (e::es) X.env=(false,eval e X.env)::starEach es X.env:=by rfl):JA X (e::es) (Ac f r) :=
 ⟨PA.imp (Qk ha.pe hr.pa hs) fun σ H Q h=>by
  obtain⟨Γ,μ,env,S,d,S',hK,R,e,q⟩:=h
  obtain⟨⟨x,S1⟩,e1,e⟩:=bind_some e
  obtain⟨⟨y,S2⟩,e2,e⟩:=bind_some e
  cases e
  refine⟨Γ,μ,env,S,x,S1,hK,R,e1,fun v1 μ1 H1 x1 R1 r1=>?_⟩
  refine⟨Γ,μ1,env,S1,y,S2,hK,R1,e2,fun v2 μ2 H2 x2 R2 r2=>?_⟩
  exact q _ μ2 H2 (x1.trans x2) R2 (.cons (r1.ext x2) r2)⟩
theorem big{n:Nat}(h:n<=1000000):n<sizeLine:=U31 h (by decide)
theorem mF{K:U0b}{f:Bl}{σ:St}{H:Hp}{Q:VK}(hl:∀env S p,f env S=some p->p.1.length<=1000000)(h:wpE K (Ce f) σ H Q):lD (wpA K f) σ H Q:=by
 obtain⟨Γ,μ,env,S,d,S',hK,R,e,q⟩:=h
 obtain⟨⟨x,S1⟩,e1,e⟩:=bind_some e
 cases e
 refine⟨Γ,μ,env,S,x,S1,hK,R,e1,fun vs μ1 H1 x1 R1 r1=>⟨by rw[r1.length];exact U2r (big (hl _ _ _ e1)),fun p hp=>?_⟩⟩
 have sm:=Dw hp (.tup vs)
 obtain⟨R2,x2⟩:=R1.grow sm
 exact q _ μ1 _ (x1.trans x2) R2 (.tup Cg (r1.ext x2))
def Few(n:Nat)(f:Bl):Prop:=∀env S p,f env S=some p->p.1.length<=n
theorem BL:Few 0 Ah:=fun env S p h=>by cases h;exact U0o _
theorem Al{n:Nat}{f:BP}{r:Bl}(h:Few n r):Few (n+1) (Ac f r):=fun env S p e=>by
 obtain⟨⟨x,S1⟩,e1,e⟩:=bind_some e
 obtain⟨⟨y,S2⟩,e2,e⟩:=bind_some e
 cases e
 have:=h _ _ _ e2
 show(x::y).length<=n+1
 rw[U0e]
 exact Nat.succ_le_succ this
theorem DW{es:List Expr}{f:Bl}{x1:Nat}{pos:Pos}{n:Nat}(h:JA X es f)(hf:Few n f)(hn:n<=1000000:=by decide):JE X (.Tuple es x1 pos) (Ce f):=⟨PE.imp (nA h.pa) fun _ _ _ w=>mF (fun env S p e=>U1d (hf env S p e) hn) w⟩
theorem Dt{es:List Expr}{f:Bl}{pos:Pos}{n:Nat}(h:JA X es f)(hf:Few n f)(hn:n<=1000000:=by decide):JE X (.List es pos) (BK f):=⟨PE.imp (Zq h.pa) fun σ H Q w=>by
 obtain⟨Γ,μ,env,S,d,S',hK,R,e,q⟩:=w
 obtain⟨⟨x,S1⟩,e1,e⟩:=bind_some e
 cases e
 refine⟨Γ,μ,env,S,x,S1,hK,R,e1,fun vs μ1 H1 x1 R1 r1=>⟨by rw[r1.length];exact U2r (big (U1d (hf _ _ _ e1) hn)),fun p hp=>?_⟩⟩
 obtain⟨R2,x2⟩:=R1.grow (Dw hp (.lst vs))
 exact q _ μ1 _ (x1.trans x2) R2 (.lst (R1.ok hp true) (R1.dead hp) Cg (r1.ext x2))⟩
theorem O4{es:List Expr}{f:Bl}{pos:Pos}{n:Nat}(h:JA X es f)(hf:Few n f)(hn:n<=1000000:=by decide):JE X (.List es pos) (Kw f):=⟨PE.imp (Zq h.pa) fun σ H Q w=>by
 obtain⟨Γ,μ,env,S,d,S',hK,R,e,q⟩:=w
 obtain⟨⟨x,S1⟩,e1,e⟩:=bind_some e
 cases e
 refine⟨Γ,μ,env,S,x,S1,hK,R,e1,fun vs μ1 H1 x1 R1 r1=>⟨by rw[r1.length];exact U2r (big (U1d (hf _ _ _ e1) hn)),fun p hp=>?_⟩⟩
 obtain⟨R2,x2⟩:=R1.laid hp r1
 exact q _ _ _ (x1.trans x2) R2 (.ref (by rw[U0h,R1.slen];simp) fun a h=>by
  rw[R1.slen] at h
  simp at h
  rw[←h]
  exact⟨rfl,⟨_,Cg⟩⟩)⟩
end
end VS
end
section
namespace VS
open PySem PySem.Spec L2
section
variable{X:Cx}{a b c:Expr}{fa fb fc:BP}{pos:Pos}{rest:List Expr}
theorem Px{op}(h:JE X a fa):JE X (.BoolOp op [a] pos) fa:=⟨nF h.pe⟩
theorem Nr(ha:JE X a fa)(hb:JE X (.BoolOp .And (b::rest) pos) fb):JE X (.BoolOp .And (a::b::rest) pos) (OD fa fb):=⟨PE.imp (nJ ha.pe hb.pe) fun σ H Q h=>by
 obtain⟨Γ,μ,env,S,d,S',hK,R,e,q⟩:=h
 obtain⟨⟨x,S1⟩,e1,e⟩:=bind_some e
 refine⟨Γ,μ,env,S,x,S1,hK,R,e1,fun v1 μ1 H1 x1 R1 r1=>?_⟩
 dsimp only at e
 split at e
 .cases r1
  exact⟨true,rfl,by rw[if_pos rfl];exact⟨Γ,μ1,env,S1,d,S',hK,R1,e,fun v μ' H' x' R' r'=>q v μ' H' (x1.trans x') R' r'⟩⟩
 .cases r1
  cases e
  exact⟨false,rfl,by rw[if_neg U1b];exact q _ μ1 H1 x1 R1 (.bl false)⟩
 .cases e⟩
theorem oJ(ha:JE X a fa):JE X (.UnaryOp .Not a pos) (cH fa):=⟨PE.imp (nG ha.pe) fun σ H Q h=>by
 obtain⟨Γ,μ,env,S,d,S',hK,R,e,q⟩:=h
 obtain⟨⟨x,S1⟩,e1,e⟩:=bind_some e
 refine⟨Γ,μ,env,S,x,S1,hK,R,e1,fun v1 μ1 H1 x1 R1 r1=>?_⟩
 dsimp only at e
 split at e
 .rename_i c
  cases r1
  cases e
  exact⟨c,rfl,q _ μ1 H1 x1 R1 (.bl _)⟩
 .cases e⟩
theorem Pr{e:Expr}(h:JE X e fa)(he:∀whole,isTrue e X.env whole=(do let v ←whole;standAt e.pos;holding [v] (truthy v)):=by intro _;rfl):JT X e (Bv fa):=⟨PT.imp (mX h.pe he) fun σ H Q h=>by
 obtain⟨Γ,μ,env,S,d,S',hK,R,e,q⟩:=h
 obtain⟨⟨x,S1⟩,e1,e⟩:=bind_some e
 refine⟨Γ,μ,env,S,x,S1,hK,R,e1,fun v1 μ1 H1 x1 R1 r1=>?_⟩
 dsimp only at e
 split at e
 .rename_i c
  cases r1
  cases e
  exact⟨_,rfl,q μ1 H1 x1 R1⟩
 .cases e⟩
theorem Y6{K:U0b}{f:BP}{t:TE}(ht:∀σ H Q,wpE K f σ H Q->t σ H Q){σ:St}{H:Hp}{Q:Bool->Hp->Prop}(h:wpT K (Bv f) σ H Q):Yu t σ H Q:=by
 obtain⟨Γ,μ,env,S,d,S',hK,R,e,q⟩:=h
 obtain⟨⟨x,S1⟩,e1,e⟩:=bind_some e
 refine ht σ H _ ⟨Γ,μ,env,S,x,S1,hK,R,e1,fun v1 μ1 H1 x1 R1 r1=>?_⟩
 dsimp only at e
 split at e
 .cases r1
  cases e
  exact⟨_,rfl,q μ1 H1 x1 R1⟩
 .cases e
theorem En{op:CmpOp}{r:R2}{g:Store->D->D->Option D}(ho:OpR X (compareOp op) r)(hs:Fg X.K r g)(ha:JE X a fa)(hb:JE X b fb)(hm:behindInMarks op b=false):JT X (.Compare a [op] [b] pos) (Bv (eOp g fa fb)) :=
 ⟨PT.imp (iU ho ha.pe hb.pe hm) fun σ H Q h=>Y6 (fun _ _ _=>Vb hs) h⟩
theorem cT{K:U0b}{r r':R2}{g g':Store->D->D->Option D}(hs:Fg K r g)(hs':Fg K r' g'){σ:St}{H:Hp}{Q:VK}(h:wpE K (Sv g g' fa fb fc) σ H Q):Zi r r' (wpE K fa) (wpE K fb) (wpE K fc) σ H Q:=by
 obtain⟨Γ,μ,env,S,d,S',hK,R,e,q⟩:=h
 obtain⟨⟨x,S1⟩,e1,e⟩:=bind_some e
 obtain⟨⟨y,S2⟩,e2,e⟩:=bind_some e
 obtain⟨z,e3,e⟩:=bind_some e
 refine⟨Γ,μ,env,S,x,S1,hK,R,e1,fun v1 μ1 H1 x1 R1 r1=>?_⟩
 refine⟨Γ,μ1,env,S1,y,S2,hK,R1,e2,fun v2 μ2 H2 x2 R2 r2=>?_⟩
 refine hs Γ μ2 σ H2 env S2 v1 v2 x y _ hK R2 (r1.ext x2) r2 e3 _ fun v H3 sm rv=>?_
 obtain⟨R3,x3⟩:=R2.grow sm
 dsimp only at e
 split at e
 .cases rv
  refine⟨true,rfl,?_⟩
  rw[if_pos rfl]
  obtain⟨⟨u,S3⟩,e4,e⟩:=bind_some e
  obtain⟨w,e5,e⟩:=map_some e
  cases e
  refine⟨Γ,μ2,env,S2,u,S3,hK,R3,e4,fun v4 μ4 H4 x4 R4 r4=>?_⟩
  refine hs' Γ μ4 σ H4 env S3 v2 v4 y u _ hK R4 (r2.ext (x3.trans x4)) r4 e5 _ fun v5 H5 sm5 rv5=>?_
  obtain⟨R5,x5⟩:=R4.grow sm5
  exact q v5 μ4 H5 (x1.trans (x2.trans (x3.trans (x4.trans x5)))) R5 rv5
 .cases rv
  cases e
  refine⟨false,rfl,?_⟩
  rw[if_neg U1b]
  exact q _ μ2 H3 (x1.trans (x2.trans x3)) R3 (.bl false)
 .cases e
theorem eN{op op':CmpOp}{r r':R2}{g g':Store->D->D->Option D}(ho:OpR X (compareOp op) r)(hs:Fg X.K r g)(ho':OpR X (compareOp op') r')(hs':Fg X.K r' g')(ha:JE X a fa)(hb:JE X b fb)(hc:JE X c fc)
  (hm:lastMarks [op,op'] [b,c]=false:=by with_unfolding_all rfl):JT X (.Compare a [op,op'] [b,c] pos) (Bv (Sv g g' fa fb fc)):=⟨PT.imp (dI ho ho' ha.pe hb.pe hc.pe hm) fun _ _ _ h=>Y6 (fun _ _ _=>cT hs hs') h⟩
variable{ta tb:FJ}
theorem QX(h:JW X a ta):JT X a ta:=⟨h.pw.pt⟩
theorem jR(ha:JT X a ta):JW X (.BoolOp .And [a] pos) ta:=⟨iM ha.pt⟩
theorem Pq(ha:JT X a ta):JW X (.BoolOp .Or [a] pos) ta:=⟨mV ha.pt⟩
theorem Zw(ha:JT X a ta)(hb:JW X (.BoolOp .And (b::rest) pos) tb):JW X (.BoolOp .And (a::b::rest) pos) (PJ ta tb):=⟨PW.imp (mW ha.pt hb.pw) fun σ H Q h=>by
 obtain⟨Γ,μ,env,S,d,S',hK,R,e,q⟩:=h
 obtain⟨⟨x,S1⟩,e1,e⟩:=bind_some e
 refine⟨Γ,μ,env,S,x,S1,hK,R,e1,fun μ1 H1 x1 R1=>?_⟩
 dsimp only at e
 by_cases hx:x=true
 .rw[if_pos hx] at e ⊢
  exact⟨Γ,μ1,env,S1,d,S',hK,R1,e,fun μ' H' x' R'=>q μ' H' (x1.trans x') R'⟩
 .rw[if_neg hx] at e ⊢
  cases e
  exact q μ1 H1 x1 R1⟩
theorem S8(ha:JT X a ta)(hb:JW X (.BoolOp .Or (b::rest) pos) tb):JW X (.BoolOp .Or (a::b::rest) pos) (tOr ta tb):=⟨PW.imp (qR ha.pt hb.pw) fun σ H Q h=>by
 obtain⟨Γ,μ,env,S,d,S',hK,R,e,q⟩:=h
 obtain⟨⟨x,S1⟩,e1,e⟩:=bind_some e
 refine⟨Γ,μ,env,S,x,S1,hK,R,e1,fun μ1 H1 x1 R1=>?_⟩
 dsimp only at e
 by_cases hx:x=true
 .rw[if_pos hx] at e ⊢
  cases e
  exact q μ1 H1 x1 R1
 .rw[if_neg hx] at e ⊢
  exact⟨Γ,μ1,env,S1,d,S',hK,R1,e,fun μ' H' x' R'=>q μ' H' (x1.trans x') R'⟩⟩
theorem Pu(ha:JT X a ta):JT X (.UnaryOp .Not a pos) (K1 ta):=⟨PT.imp (mY ha.pt) fun σ H Q h=>by
 obtain⟨Γ,μ,env,S,d,S',hK,R,e,q⟩:=h
 obtain⟨⟨x,S1⟩,e1,e⟩:=bind_some e
 cases e
 exact⟨Γ,μ,env,S,x,S1,hK,R,e1,fun μ1 H1 x1 R1=>q μ1 H1 x1 R1⟩⟩
theorem GZ:JTs X [] HJ:=⟨PTs.imp iT fun σ H Q h=>by
 obtain⟨Γ,μ,env,S,d,S',hK,R,e,q⟩:=h
 cases e
 exact q μ H (Ext.refl _ _) R⟩
theorem Ub(h:JT X c ta):JTs X [c] ta:=⟨iR h.pt⟩
variable{lo hi:Option Expr}{ol oh:RT}{p2:Pos}
theorem K9:JO X none GR:=⟨PO.imp iu fun σ H Q h=>by
 obtain⟨Γ,μ,env,S,d,S',hK,R,e,q⟩:=h
 cases e
 exact q μ H (Ext.refl _ _) R⟩
theorem K8(h:JE X a fa):JO X (some a) (GQ fa):=⟨PO.imp (ig h.pe) fun σ H Q h=>by
 obtain⟨Γ,μ,env,S,d,S',hK,R,e,q⟩:=h
 obtain⟨⟨x,S1⟩,e1,e⟩:=bind_some e
 refine⟨Γ,μ,env,S,x,S1,hK,R,e1,fun v1 μ1 H1 x1 R1 r1=>?_⟩
 dsimp only at e
 split at e
 .cases r1
  cases e
  exact⟨_,rfl,q μ1 H1 x1 R1⟩
 .cases e⟩
theorem Je{r:V->Option Int->Option Int->Hp->VK->Prop}{g:Store->D->Option Int->Option Int->Option D}(hr:SlR X r)(hs:gC X.K r g)(ha:JE X a fa)(hl:JO X lo ol)(hh:JO X hi oh) :
  JE X (.Subscript a (.Slice lo hi none p2) pos) (eSl g fa ol oh):=⟨PE.imp (dU hr ha.pe hl.po hh.po) fun σ H Q h=>by
 obtain⟨Γ,μ,env,S,d,S',hK,R,e,q⟩:=h
 obtain⟨⟨x,S1⟩,e1,e⟩:=bind_some e
 obtain⟨⟨l,S2⟩,e2,e⟩:=bind_some e
 obtain⟨⟨u,S3⟩,e3,e⟩:=bind_some e
 obtain⟨z,e4,e⟩:=map_some e
 cases e
 refine⟨Γ,μ,env,S,x,S1,hK,R,e1,fun v1 μ1 H1 x1 R1 r1=>?_⟩
 refine⟨Γ,μ1,env,S1,l,S2,hK,R1,e2,fun μ2 H2 x2 R2=>?_⟩
 refine⟨Γ,μ2,env,S2,u,S3,hK,R2,e3,fun μ3 H3 x3 R3=>?_⟩
 refine hs Γ μ3 σ H3 env S3 v1 x _ l u hK R3 (r1.ext (x2.trans x3)) e4 Q fun v H' sm rv=>?_
 obtain⟨R4,x4⟩:=R3.grow sm
 exact q v μ3 H' (x1.trans (x2.trans (x3.trans x4))) R4 rv⟩
theorem fO{K:U0b}{r:List V->Hp->VK->Prop}{g:Store->List D->Option D}{f:Bl}(hs:M8 K r g){σ:St}{H:Hp}{Q:VK}(h:wpE K (eCB g f) σ H Q):tCB r (wpA K f) σ H Q:=by
 obtain⟨Γ,μ,env,S,d,S',hK,R,e,q⟩:=h
 obtain⟨⟨x,S1⟩,e1,e⟩:=bind_some e
 obtain⟨z,e4,e⟩:=map_some e
 cases e
 refine⟨Γ,μ,env,S,x,S1,hK,R,e1,fun v1 μ1 H1 x1 R1 r1=>?_⟩
 refine hs Γ μ1 σ H1 env S1 v1 x _ hK R1 r1 e4 Q fun v H' sm rv=>?_
 obtain⟨R4,x4⟩:=R1.grow sm
 exact q v μ1 H' (x1.trans x4) R4 rv
variable{x:Str}{p:Pos}{e:Expr}{es:List Expr}{id T:String}{f:Bl}
theorem CQ{r:List V->Hp->VK->Prop}{g:Store->List D->Option D}(hc:Dv X (.builtin id) r)(hsm:M8 X.K r g)(hg:Gl X x)(hm:X.mg x=none)(hv:bootBuiltins x=some (.builtin id))(ha:JA X (e::es) f)(hn:x≠"__name__":=by decide)(hdb:(x==("__debug__":Str))=false:=by decide)
  (he:starEach (e::es) X.env=(false,eval e X.env)::starEach es X.env:=by rfl) (hpl:(backTo pos (starEach es X.env)).any (·.1)=false:=by rfl):JE X (.Call (.Name x p) (e::es) [] pos) (eCB g f) :=
 ⟨PE.imp (WT hc hg hm hv ha.pa hn hdb he hpl) fun _ _ _ h=>fO hsm h⟩
theorem Uw{r:List V->Hp->VK->Prop}{g:Store->List D->Option D}(hc:Dv X (.type T) r)(hsm:M8 X.K r g)(hg:Gl X x)(hm:X.mg x=none)(hv:bootBuiltins x=some (.type T))(ha:JA X (e::es) f)(hn:x≠"__name__":=by decide)(hdb:(x==("__debug__":Str))=false:=by decide)
  (he:starEach (e::es) X.env=(false,eval e X.env)::starEach es X.env:=by rfl) (hpl:(backTo pos (starEach es X.env)).any (·.1)=false:=by rfl):JE X (.Call (.Name x p) (e::es) [] pos) (eCB g f) :=
 ⟨PE.imp (Q8 hc hg hm hv ha.pa hn hdb he hpl) fun _ _ _ h=>fO hsm h⟩
end
section
variable{X:Cx}{st:Stmt}{sts:List Stmt}{f g:Bb}{fa:BP}{a:Expr}{pos:Pos}{K:U0b}
theorem pY{E:Ends}{σ:St}{H:Hp}{fl:Fl}(h:wpS K (fun env S=>some (fl,env,S)) E σ H):∃Γ μ,FlQ Γ μ E σ H fl:=by
 obtain⟨Γ,μ,env,S,fl',env',S',hK,R,e,q⟩:=h
 cases e
 exact⟨Γ,μ,q μ σ H (Ext.refl _ _) R⟩
theorem FQ:JSs X [] G8:=⟨PSs.imp iW fun E σ H h=>let ⟨_,_,q⟩:=pY (fl:=.nx) h;q⟩
theorem eO:JS X st Zk:=⟨PS.imp dN fun E σ H h=>by obtain⟨_,_,_,_,_,_,_,_,_,e,_⟩:=h;cases e⟩
theorem Aw(h1:JS X st f)(h2:JSs X sts g):JSs X (st::sts) (Bt f g):=⟨PSs.imp (dJ h1.ps h2.ps) fun E σ H h=>by
 obtain⟨Γ,μ,env,S,fl,env',S',hK,R,e,q⟩:=h
 obtain⟨⟨fl1,env1,S1⟩,e1,e⟩:=bind_some e
 refine⟨Γ,μ,env,S,fl1,env1,S1,hK,R,e1,fun μ1 σ1 H1 x1 R1=>?_⟩
 dsimp only at e
 cases fl1 with
 |nx=>exact⟨Γ,μ1,env1,S1,fl,env',S',hK,R1,e,fun μ' σ' H' x' R'=>q μ' σ' H' (x1.trans x') R'⟩
 |brk=>cases e;exact q μ1 σ1 H1 x1 R1
 |cnt=>cases e;exact q μ1 σ1 H1 x1 R1
 |ret d=>cases e;exact q μ1 σ1 H1 x1 R1⟩
theorem BR(h1:JS X st f):JSs X [st] f:=⟨iV h1.ps⟩
theorem JH(he:JE X a fa)(hs:swapsWith a none pos.line X.env=pure false:=by rfl):JS X (.Expr a pos) (HS fa):=⟨PS.imp (iZ he.pe hs) fun E σ H h=>by
 obtain⟨Γ,μ,env,S,fl,env',S',hK,R,e,q⟩:=h
 obtain⟨⟨x,S1⟩,e1,e⟩:=bind_some e
 cases e
 exact⟨Γ,μ,env,S,x,S1,hK,R,e1,fun v1 μ1 H1 x1 R1 r1=>q μ1 σ H1 x1 R1⟩⟩
theorem Ci(he:JE X a fa):JS X (.Return (some a) pos) (DR fa):=⟨PS.imp (mj he.pe) fun E σ H h=>by
 obtain⟨Γ,μ,env,S,fl,env',S',hK,R,e,q⟩:=h
 obtain⟨⟨x,S1⟩,e1,e⟩:=bind_some e
 cases e
 exact⟨Γ,μ,env,S,x,S1,hK,R,e1,fun v1 μ1 H1 x1 R1 r1=>q μ1 σ H1 x1 R1 v1 r1⟩⟩
theorem HY{c:Expr}{A B:List Stmt}{tc:FJ}(hc:JT X c tc)(ha:JSs X A f)(hb:JSs X B g):JS X (.If c A B pos) (sIf tc f g):=⟨PS.imp (qT hc.pt ha.ps hb.ps) fun E σ H h=>by
 obtain⟨Γ,μ,env,S,fl,env',S',hK,R,e,q⟩:=h
 obtain⟨⟨x,S1⟩,e1,e⟩:=bind_some e
 refine⟨Γ,μ,env,S,x,S1,hK,R,e1,fun μ1 H1 x1 R1=>?_⟩
 dsimp only at e
 by_cases hx:x=true
 .rw[if_pos hx] at e ⊢
  exact⟨Γ,μ1,env,S1,fl,env',S',hK,R1,e,fun μ' σ' H' x' R'=>q μ' σ' H' (x1.trans x') R'⟩
 .rw[if_neg hx] at e ⊢
  exact⟨Γ,μ1,env,S1,fl,env',S',hK,R1,e,fun μ' σ' H' x' R'=>q μ' σ' H' (x1.trans x') R'⟩⟩
theorem CT{i:Nat}{x:Str}{pos':Pos}(hN:X.N.Nodup)(he:JE X a fa)(hi:X.N[i]?=some x:=by rfl)(hx:Loc X.env.scope x:=by first|exact U7t rfl|exact U65 rfl)(hs:swapsWith a (some (.Name x pos')) pos.line X.env=pure false:=by rfl)
  (hf:X.fn x=true∨X.env.scope.names.lookup x=some .local:=by first|exact .inl rfl|exact .inr rfl|assumption):JS X (.Assign [.Name x pos'] a pos) (Bk i fa):=⟨PS.imp (mZ hN hi hx he.pe hs hf) fun E σ H h=>by
 obtain⟨Γ,μ,env,S,fl,env',S',hK,R,e,q⟩:=h
 obtain⟨⟨y,S1⟩,e1,e⟩:=bind_some e
 cases e
 exact⟨Γ,μ,env,S,y,S1,hK,R,e1,fun v1 μ1 H1 x1 R1 r1=>q μ1 _ H1 x1 (R1.bf i r1)⟩⟩
theorem Ba{i:Nat}{x:Str}(hN:X.N.Nodup)(hi:X.N[i]?=some x:=by rfl)(hx:Loc X.env.scope x:=by first|exact U7t rfl|exact U65 rfl)
  (hf:X.fn x=true∨X.env.scope.names.lookup x=some .local:=by first|exact .inl rfl|exact .inr rfl|assumption):JG X (.Name x pos) (.nm i):=⟨by rw[Pat.raw];exact iy hN hi hx hf⟩
theorem GC:JGs X [] []:=⟨by rw[JV];exact iw⟩
theorem Bo{e:Expr}{es:List Expr}{t:Pat}{u:List Pat}(h1:JG X e t)(h2:JGs X es u)
  (hs:(assignEach (e::es) X.env).map (·.2)=assign e X.env::(assignEach es X.env).map (·.2):=by rfl):JGs X (e::es) (t::u):=⟨by rw[JV];exact dR h1.pg h2.pg hs⟩
theorem Gx{es:List Expr}{k:Nat}{gs:List Pat}(hc:X.calm=true)(h:JGs X es gs)(hn:(assignEach es X.env).length=gs.length:=by rfl)(hst:(assignEach es X.env).findIdx? (·.1)=none:=by rfl):JG X (.Tuple es k pos) (.tp gs) :=
 ⟨by rw[Pat.raw];exact n6 hc h.pg hn hst⟩
theorem oH{tg:Expr}{gg:Pat}(he:JE X a fa)(hg:JG X tg gg)(hs:swapsWithSole [tg] a pos.line X.env=pure false:=by rfl)(hw:swappedStores [tg] a X.env=pure none:=by rfl)
  (h1:(assignEach [tg] X.env).map (·.2)=[assign tg X.env]:=by rfl):JS X (.Assign [tg] a pos) (Yn fa gg.sem):=⟨PS.imp (Zn he.pe hg.pg hs hw h1) fun E σ H h=>by
 obtain⟨Γ,μ,env,S,fl,env',S',hK,R,e,q⟩:=h
 obtain⟨⟨y,S1⟩,e1,e⟩:=bind_some e
 obtain⟨env1,e2,e⟩:=bind_some e
 cases e
 exact⟨Γ,μ,env,S,y,S1,hK,R,e1,fun v1 μ1 H1 x1 R1 r1=>gg.run X.K R1 r1 e2 fun σ' R'=>q μ1 σ' H1 x1 R'⟩⟩
theorem JF{tg iter:Expr}{body:List Stmt}{it:K4}{gg:Pat}(hc:X.calm=true)(hi:JI X tg iter it)(hg:JG X tg gg)(hb:JSs X body f)(hp:PassesOwn (model X.prog X.w) X.A X.env X.xe)
  (hs:∀x,foldedSetIterable iter X.env x=pure x:=by intro _;rfl):JS X (.For tg iter body [] pos) (Kv it gg.sem f):=⟨PS.imp (mq hp hc hi.pi hg.pg hb.ps hs) fun E σ H h=>by
 obtain⟨Γ,μ,env,S,fl,env',S',hK,R,e,q⟩:=h
 obtain⟨⟨⟨ds,w⟩,S1⟩,e1,e⟩:=bind_some e
 refine⟨Γ,μ,env,S,ds,w,S1,hK,R,e1,fun J μ1 H1 x1 R1 ok=>?_⟩
 refine⟨fun i m σ2 H2=>∃μ2 env2 S2,m=ds.length-i/\i<=ds.length/\Ext μ1 H1 μ2 H2/\Rep Γ μ2 σ2 H2 env2 S2/\loop w gg.sem f (ds.drop i) env2 S2=some (fl,env',S'),⟨ds.length,μ1,env,S1,rfl,U3f _,Ext.refl _ _,R1,by rw[U5v];exact e⟩,?_⟩
 rintro i m σ2 H2 ⟨μ2,env2,S2,rfl,hi,x2,R2,el⟩
 by_cases hlt:i<ds.length
 .rw[U3 hlt] at el
  unfold loop at el
  by_cases hcm:calm w S2
  .rw[if_pos hcm] at el
   obtain⟨env3,e3,el⟩:=bind_some el
   obtain⟨⟨fl4,env4,S4⟩,e4,el⟩:=bind_some el
   obtain⟨go,yl⟩:=ok.step i ds[i] μ2 H2 σ2 env2 S2 (U02 hlt) x2 R2 hcm
   refine .inr ⟨go,fun σ5 H5=>∃μ5 env5 S5,Ext μ1 H1 μ5 H5/\Rep Γ μ5 σ5 H5 env5 S5/\loop w gg.sem f (ds.drop (i+1)) env5 S5=some (fl,env',S'),fun σ5 H5 ⟨μ5,env5,S5,x5,R5,e5⟩=>⟨ds.length-(i+1),by omega,μ5,env5,S5,rfl,hlt,x5,R5,e5⟩,fun x H3 y=>?_⟩
   obtain⟨sm,rx⟩:=yl x H3 y
   obtain⟨R3,x3⟩:=R2.grow sm
   refine gg.run X.K R3 rx e3 fun σ3 R3'=>?_
   refine⟨Γ,μ2,env3,S2,fl4,env4,S4,hK,R3',e4,fun μ4 σ4 H4 x4 R4=>?_⟩
   have x14:=x2.trans (x3.trans x4)
   dsimp only at el
   cases fl4 with
   |nx=>exact⟨μ4,env4,S4,x14,R4,el⟩
   |cnt=>exact⟨μ4,env4,S4,x14,R4,el⟩
   |brk=>cases el;exact q μ4 σ4 H4 (x1.trans x14) R4
   |ret d=>cases el;exact q μ4 σ4 H4 (x1.trans x14) R4
  .rw[if_neg hcm] at el;cases el
 .have hi':i=ds.length:=by omega
  subst hi'
  rw[List.drop_length] at el
  unfold loop at el
  by_cases hcm:calm w S2
  .rw[if_pos hcm] at el
   cases el
   exact .inl ⟨ok.stop μ2 H2 σ2 _ _ x2 R2 hcm,q μ2 σ2 H2 (x1.trans x2) R2⟩
  .rw[if_neg hcm] at el;cases el⟩
end
end VS
end
section
namespace VS
open PySem PySem.Spec L2
theorem Rep.cap{Γ:Fr}{μ:Mu}{σ:St}{H:Hp}{env:Env}{S:Store}(R:Rep Γ μ σ H env S)(k:Nat)(caps:List Nat):Rep Γ μ (J6 k caps σ) H (Jo k caps env) S:=by
 refine⟨fun i d h=>?_,?_,R.sto,R.liv,R.inj,R.slen,R.ent,R.new⟩
 .unfold Jo at h
  by_cases hi:i<k
  .rw[U04 (by simpa using hi),U4p,if_pos hi] at h
   cases h
  .rw[U1h (by simpa using hi),U11,U0y] at h
   cases e:caps[i-k]? with
   |none=>rw[e] at h;cases h
   |some a =>
    rw[e] at h
    have h':(env[a]?).join=some d:=U00 h
    have h2:env[a]?=some (some d):=by
     cases q:env[a]? with
     |none=>rw[q] at h';cases h'
     |some o=>rw[q] at h';exact congrArg some h'
    obtain⟨v,h3,h4⟩:=R.vals a d h2
    refine⟨v,?_,h4⟩
    unfold J6
    rw[U1h (by simpa using hi),U11,U0y,e]
    show some (σ[a]?).join=some (some v)
    rw[h3];rfl
 .unfold J6 Jo
  rw[U0h,U0h,U0f,U0f,U11,U11]
section
variable{X:Cx}
theorem Y7{K:U0b}{k:Nat}{caps:List Nat}{it:K4}{p:Pat}{t:FJ}{f:BP}{σ:St}{H:Hp}{Q:VK} (h:∃Γ μ env S ys S',Γ.K=K/\Rep Γ μ σ H env S/\DN k caps it p.sem t f env S=some (ys,S') /\
  ∀xs μ' H',Ext μ H μ' H'->Rep Γ μ' σ H' env S'->VRs Γ μ' H' xs ys->∀q,H' q=none->Q (.ref q) (upd H' q (.lst xs))):Yv k caps (wpI K it) (p.raw K) (wpT K t) (wpE K f) σ H Q:=by
 obtain⟨Γ,μ,env,S,ys,S',hK,R,e,q⟩:=h
 obtain⟨⟨⟨ds,w⟩,S1⟩,e1,e⟩:=bind_some e
 refine⟨Γ,μ,env,S,ds,w,S1,hK,R,e1,fun J μ1 H1 x1 R1 ok=>?_⟩
 refine⟨fun i m zs H2=>∃μ2 S2 dzs,m=ds.length-i/\i<=ds.length/\Ext μ1 H1 μ2 H2/\Rep Γ μ2 σ H2 env S2/\VRs Γ μ2 H2 zs dzs/\KQ w (Jo k caps env) p.sem t f (ds.drop i) dzs S2=some (ys,S'),
  ⟨ds.length,μ1,S1,[],rfl,U3f _,Ext.refl _ _,R1,.nil,by rw[U5v];exact e⟩,?_⟩
 rintro i m zs H2 ⟨μ2,S2,dzs,rfl,hi,x2,R2,rz,el⟩
 by_cases hlt:i<ds.length
 .rw[U3 hlt] at el
  unfold KQ at el
  by_cases hcm:calm w S2/\dzs.length<=1000000
  .rw[if_pos hcm] at el
   obtain⟨env3,e3,el⟩:=bind_some el
   obtain⟨⟨b,S4⟩,e4,el⟩:=bind_some el
   have R2c:=R2.cap k caps
   obtain⟨go,yl⟩:=ok.step i ds[i] μ2 H2 _ _ S2 (U02 hlt) x2 R2c hcm.1
   refine .inr ⟨go,by rw[rz.length];exact big hcm.2,fun x H3 y=>?_⟩
   obtain⟨sm,rx⟩:=yl x H3 y
   obtain⟨R3,x3⟩:=R2c.grow sm
   obtain⟨R3o,_⟩:=R2.grow sm
   refine p.run K R3 rx e3 fun σ3 R3'=>?_
   refine⟨Γ,μ2,env3,S2,b,S4,hK,R3',e4,fun μ4 H4 x4 R4=>?_⟩
   dsimp only at el
   by_cases hb:b=true
   .rw[if_pos hb] at el ⊢
    obtain⟨⟨d5,S5⟩,e5,el⟩:=bind_some el
    refine⟨Γ,μ4,env3,S4,d5,S5,hK,R4,e5,fun v μ5 H5 x5 R5 r5=>?_⟩
    exact⟨ds.length-(i+1),by omega,μ5,S5,dzs++[d5],rfl,hlt,x2.trans (x3.trans (x4.trans x5)),R3o.back (x4.trans x5) R5,((rz.ext (x3.trans (x4.trans x5)))).append (.cons r5 .nil),el⟩
   .rw[if_neg hb] at el ⊢
    exact⟨ds.length-(i+1),by omega,μ4,S4,dzs,rfl,hlt,x2.trans (x3.trans x4),R3o.back x4 R4,rz.ext (x3.trans x4),el⟩
  .rw[if_neg hcm] at el;cases el
 .have hi':i=ds.length:=by omega
  subst hi'
  rw[List.drop_length] at el
  unfold KQ at el
  by_cases hcm:calm w S2/\dzs.length<=1000000
  .rw[if_pos hcm] at el
   cases el
   exact .inl ⟨ok.stop μ2 H2 σ env _ x2 R2 hcm.1,fun p hp=>q zs μ2 H2 (x1.trans x2) R2 rz p hp⟩
  .rw[if_neg hcm] at el;cases el
structure JC(X:Cx)(N2:List Str)(scope:Scope)(tg:Expr)(ifs:List Expr)(elt:Expr)(p:Pat)(t:FJ)(f:BP):Prop where
 all:∀(cl:List (Str×Addr))(C:Addr)(s:Shared)(H:Hp)(ex:List Addr),JG (Di X N2 scope cl C s H ex) tg p/\JTs (Di X N2 scope cl C s H ex) ifs t/\JE (Di X N2 scope cl C s H ex) elt f
theorem FW{elt tg iter:Expr}{ifs:List Expr}{scope:Scope}{pos:Pos}{N2:List Str}{k:Nat}{caps:List Nat}{it:K4}{p:Pat}{t:FJ}{f:BP}
  (hc:X.calm=true) (hS:Ed X.env.scope X.N N2 k caps scope) (hlow:p.low k=true) (hi:JI X tg iter it) (hb:JC X N2 scope tg ifs elt p t f)
  (hs:∀x,foldedSetIterable iter X.env x=pure x:=by intro _;rfl):JE X (.ListComp elt [⟨tg,iter,ifs,0⟩] scope pos) (BK (DN k caps it p.sem t f)) :=
 ⟨PE.imp (j4 hc hS (p.Z0 X.K hlow) hi.pi (fun cl C s H ex=>let ⟨a,b,c⟩:=hb.all cl C s H ex;⟨a.pg,b.pt,c.pe⟩) hs) fun σ H Q h=>by
  obtain⟨Γ,μ,env,S,d,S',hK,R,e,q⟩:=h
  obtain⟨⟨ys,S1⟩,e1,e⟩:=bind_some e
  cases e
  refine Y7 ⟨Γ,μ,env,S,ys,S1,hK,R,e1,fun xs μ1 H1 x1 R1 r1 z hz=>?_⟩
  obtain⟨R2,x2⟩:=R1.grow (Dw hz (.lst xs))
  exact q _ μ1 _ (x1.trans x2) R2 (.lst (R1.ok hz true) (R1.dead hz) Cg (r1.ext x2))⟩
theorem R6{elt tg iter:Expr}{ifs:List Expr}{scope:Scope}{pos py spos:Pos}{N2:List Str}{k i:Nat}{y:Str}{caps:List Nat}{it:K4}{p:Pat}{t:FJ}{f:BP}
  (hc:X.calm=true) (hN:X.N.Nodup) (hS:Ed X.env.scope X.N N2 k caps scope) (hlow:p.low k=true) (hi:JI X tg iter it) (hb:JC X N2 scope tg ifs elt p t f) (hi':X.N[i]?=some y:=by rfl)
  (hx:X.env.scope.names.lookup y=some .local:=by rfl) (hsw:swapsWith (.ListComp elt [⟨tg,iter,ifs,0⟩] scope pos) (some (.Name y py)) spos.line X.env=pure true:=by rfl)
  (hs:∀x,foldedSetIterable iter X.env x=pure x:=by intro _;rfl):JS X (.Assign [.Name y py] (.ListComp elt [⟨tg,iter,ifs,0⟩] scope pos) spos) (Bk i (BK (DN k caps it p.sem t f))) :=
 ⟨PS.imp (iY hc hN hi' hS (p.Z0 X.K hlow) hi.pi (fun cl C s H ex=>let ⟨a,b,c⟩:=hb.all cl C s H ex;⟨a.pg,b.pt,c.pe⟩) hx hsw hs) fun E σ H h=>by
  obtain⟨Γ,μ,env,S,fl,env',S',hK,R,e,q⟩:=h
  obtain⟨⟨d,S1⟩,e1,e⟩:=bind_some e
  cases e
  obtain⟨⟨ys,S2⟩,e2,e1⟩:=bind_some e1
  cases e1
  refine Y7 ⟨Γ,μ,env,S,ys,_,hK,R,e2,fun xs μ1 H1 x1 R1 r1 z hz=>?_⟩
  obtain⟨R2,x2⟩:=R1.grow (Dw hz (.lst xs))
  exact q μ1 _ _ (x1.trans x2) (R2.bf i (.lst (R1.ok hz true) (R1.dead hz) Cg (r1.ext x2)))⟩
end
def listOf(S:Store):D->Option (List D)
 |.lst _ ds=>some ds
 |.ref i=>(S[i]?).join
 |_=>none
def G9(S:Store):D->Option (List D)
 |.tup ds=>some ds
 |.scr ns=>some (ns.map .int)
 |d=>listOf S d
def idOf(ds:List D):D->List (Nat×List D)
 |.ref i=>[(i,ds)]
 |_=>[]
section
variable{Γ:Fr}{μ:Mu}{σ:St}{H:Hp}{env:Env}{S:Store}{v:V}{d:D}{ds:List D}
theorem join_some{α:Type}{a:Option (Option α)}{b:α}(h:a.join=some b):a=some (some b):=by
 cases a with
 |none=>cases h
 |some o=>exact congrArg some h
theorem VR.list(R:Rep Γ μ σ H env S)(r:VR Γ μ H v d)(h:listOf S d=some ds):∃a xs,v=.ref a/\H a=some (.lst xs)/\VRs Γ μ H xs ds:=by
 cases r with
 |lst o n hb rs=>cases h;exact⟨_,_,rfl,hb,rs⟩
 |@ref i v hi f =>
  obtain⟨a,h1,hc⟩:=R.sto i ds (join_some h)
  obtain⟨f1,f2⟩:=f a h1
  obtain⟨xs,h2,h3⟩:=hc.list f2
  exact⟨a,xs,f1,h2,h3⟩
 |_=>cases h
theorem VR.seq(hK:Γ.K=K)(R:Rep Γ μ σ H env S)(r:VR Γ μ H v d)(h:G9 S d=some ds):∃a xs,v=.ref a/\(SqL K H a xs∨SqT K H a xs)/\VRs Γ μ H xs ds:=by
 subst hK
 cases d with
 |tup es=>cases r with|tup hb rs=>cases h;exact⟨_,_,rfl,.inr (SqT.of hb),rs⟩
 |scr ns =>
  cases h
  cases r with
  |scrK hk=>exact⟨_,_,rfl,.inl (hk H),VRs.ints ns⟩
  |scrR n hb=>exact⟨_,_,rfl,.inl (.inl (.inr ⟨_,hb⟩)),VRs.ints ns⟩
 |lst m es=>obtain⟨a,xs,e1,e2,e3⟩:=VR.list R r h;exact⟨a,xs,e1,.inl (SqL.of e2),e3⟩
 |ref i=>obtain⟨a,xs,e1,e2,e3⟩:=VR.list R r h;exact⟨a,xs,e1,.inl (SqL.of e2),e3⟩
 |_=>cases h
end
def Dh(a:BP):K4:=fun env S=>(a env S).bind fun p=>(G9 p.2 p.1).map fun ds=>((ds,idOf ds p.1),p.2)
section
variable{X:Cx}{tg:Expr}
def qC(K:U0b)(tl:TE):TI:=fun σ H R=>tl σ H fun x H1=>∃a,x=.ref a/\(((∃xs,SqL K H1 a xs)/\R (Itl K a) H1)∨((∃xs,SqT K H1 a xs)/\R (Itt K a) H1))
theorem mz{l:Expr}{tl:TE}(hl:PE X l tl):PI X tg l (qC X.K tl):=by
 intro pins s σ H R I h
 refine thn (hl pins s σ H _ I h) fun v s1 ⟨x,H1,I1,r1,q1⟩=>?_
 obtain⟨a,e,⟨⟨xs,hq⟩,q⟩|⟨⟨xs,hq⟩,q⟩⟩:=q1
 .subst e
  cases r1
  obtain⟨its,rv,p,hz⟩:=I1.list hq
  refine U41 p.isList ?_
  refine⟨s1.heap.objs.size,[s1.heap.objs.size],_,_,H1,rfl,I1.kept (t':=s1.toks) fun b o e=>U0c _ e,aF a _,⟨_,U0u _ rfl,rfl,rfl⟩,fun b hb=>?_,q⟩
  have e:b=s1.heap.objs.size:=by simpa using hb
  subst e
  exact I1.Yr (U0o _) (I1.hok.fresh (U0o _))
 .subst e
  cases r1
  obtain⟨its,rv,p,hz⟩:=I1.tuple hq
  refine U5s (show s1.heap.IsTuple a its.toArray from p) ?_
  refine⟨s1.heap.objs.size,[s1.heap.objs.size],_,_,H1,rfl,I1.kept (t':=s1.toks) fun b o e=>U0c _ e,Z7 a _,⟨_,U0u _ rfl,rfl,rfl⟩,fun b hb=>?_,q⟩
  have e:b=s1.heap.objs.size:=by simpa using hb
  subst e
  exact I1.Yr (U0o _) (I1.hok.fresh (U0o _))
theorem aN{d:D}{ds:List D}{S S':Store}(h:G9 S d=some ds)(c:calm (idOf ds d) S'):G9 S' d=some ds:=by
 cases d with
 |ref i =>
  have c':S'[i]?=some (some ds):=c (i,ds) (U1f.mpr rfl)
  show(S'[i]?).join=some ds
  rw[c'];rfl
 |_=>exact h
theorem VR.bh{K:U0b}{Γ:Fr}{μ:Mu}{σ:St}{H:Hp}{env:Env}{S:Store}{v:V}{d:D}{ds:List D}(hK:Γ.K=K)(R:Rep Γ μ σ H env S)(r:VR Γ μ H v d)(h:G9 S d=some ds):(∃es,d=.tup es)∨∃a xs,v=.ref a/\SqL K H a xs/\VRs Γ μ H xs ds:=by
 subst hK
 cases d with
 |tup es=>exact .inl ⟨es,rfl⟩
 |scr ns =>
  cases h
  cases r with
  |scrK hk=>exact .inr ⟨_,_,rfl,hk H,VRs.ints ns⟩
  |scrR n hb=>exact .inr ⟨_,_,rfl,.inl (.inr ⟨_,hb⟩),VRs.ints ns⟩
 |lst m es=>obtain⟨a,xs,e1,e2,e3⟩:=VR.list R r h;exact .inr ⟨a,xs,e1,SqL.of e2,e3⟩
 |ref i=>obtain⟨a,xs,e1,e2,e3⟩:=VR.list R r h;exact .inr ⟨a,xs,e1,SqL.of e2,e3⟩
 |_=>cases h
theorem jV{Γ:Fr}{μ:Mu}{H:Hp}{a:Addr}{ds:List D}{K:U0b}{w:List (Nat×List D)}(hr:∀μ' H' σ' env' S',Ext μ H μ' H'->Rep Γ μ' σ' H' env' S'->calm w S'->∃xs,SqL K H' a xs/\VRs Γ μ' H' xs ds):Vo Γ μ H (Itl K a) ds w:=by
 refine⟨fun i d μ' H' σ' env' S' hi x R c=>?_,fun μ' H' σ' env' S' x R c=>?_⟩
 .obtain⟨xs,h1,h2⟩:=hr μ' H' σ' env' S' x R c
  obtain⟨y,e1,e2⟩:=h2.get hi
  refine⟨⟨xs,y,h1,e1⟩,fun z H'' yl=>?_⟩
  obtain⟨e,f⟩:=yl
  subst e
  have:=f xs h1
  rw[e1] at this;cases this
  exact⟨Same.refl _,e2⟩
 .obtain⟨xs,h1,h2⟩:=hr μ' H' σ' env' S' x R c
  exact⟨xs,h1,by rw[h2.length];exact U0o _⟩
theorem Zx{Γ:Fr}{μ:Mu}{H:Hp}{a:Addr}{ds:List D}{K:U0b}{w:List (Nat×List D)}(hr:∀μ' H' σ' env' S',Ext μ H μ' H'->Rep Γ μ' σ' H' env' S'->calm w S'->∃xs,SqT K H' a xs/\VRs Γ μ' H' xs ds):Vo Γ μ H (Itt K a) ds w:=by
 refine⟨fun i d μ' H' σ' env' S' hi x R c=>?_,fun μ' H' σ' env' S' x R c=>?_⟩
 .obtain⟨xs,h1,h2⟩:=hr μ' H' σ' env' S' x R c
  obtain⟨y,e1,e2⟩:=h2.get hi
  refine⟨⟨xs,y,h1,e1⟩,fun z H'' yl=>?_⟩
  obtain⟨e,f⟩:=yl
  subst e
  have:=f xs h1
  rw[e1] at this;cases this
  exact⟨Same.refl _,e2⟩
 .obtain⟨xs,h1,h2⟩:=hr μ' H' σ' env' S' x R c
  exact⟨xs,h1,by rw[h2.length];exact U0o _⟩
theorem Eo{l:Expr}{f:BP}(hl:JE X l f):JI X tg l (Dh f):=⟨PI.imp (mz hl.pe) fun σ H Q h=>by
 obtain⟨Γ,μ,env,S,ds,w,S',hK,R,e,q⟩:=h
 obtain⟨⟨d,S1⟩,e1,e⟩:=bind_some e
 obtain⟨ds',e2,e⟩:=map_some e
 cases e
 refine⟨Γ,μ,env,S,d,S1,hK,R,e1,fun v μ1 H1 x1 R1 r1=>?_⟩
 rcases VR.bh hK R1 r1 e2 with ⟨es,rfl⟩|⟨a,xs,rfl,hq,rs⟩
 .cases r1 with
  |@tup a xs _ hb rs =>
   refine⟨a,rfl,.inr ⟨⟨xs,SqT.of hb⟩,q _ μ1 H1 x1 R1 (Zx fun μ' H' σ' env' S' x' R' c=>?_)⟩⟩
   have e2':es=ds:=U00 e2
   subst e2'
   exact⟨xs,SqT.of (x'.tups _ _ hb),rs.ext x'⟩
 .by_cases ht:∃es,d=.tup es
  .obtain⟨es,rfl⟩:=ht
   cases r1 with
   |@tup b ys _ hb rs' =>
    refine⟨a,rfl,.inr ⟨⟨ys,SqT.of hb⟩,q _ μ1 H1 x1 R1 (Zx fun μ' H' σ' env' S' x' R' c=>?_)⟩⟩
    have e2':es=ds:=U00 e2
    subst e2'
    exact⟨ys,SqT.of (x'.tups _ _ hb),rs'.ext x'⟩
  .refine⟨a,rfl,.inl ⟨⟨xs,hq⟩,q _ μ1 H1 x1 R1 (jV fun μ' H' σ' env' S' x' R' c=>?_)⟩⟩
   rcases VR.bh hK R' (r1.ext x') (aN e2 c) with z|⟨b,ys,e,h1,h2⟩
   .exact absurd z ht
   .cases e
    exact⟨ys,h1,h2⟩⟩
def upD(lo:Int)(n:Nat):List D:=(U4b n).map fun(i:Nat)=>.int (lo+i)
theorem Wi{Γ:Fr}{μ:Mu}{H:Hp}(lo:Int)(n:Nat):Vo Γ μ H (Itr lo n) (upD lo n) []:=by
 have len:(upD lo n).length=n:=by unfold upD;rw[U0f,U60]
 refine⟨fun i d μ' H' σ' env' S' hi x R c=>?_,fun μ' H' σ' env' S' x R c=>?_⟩
 .have hi':i<n:=by rw[←len];exact(U0k.mp hi).1
  refine⟨hi',fun y H'' yl=>?_⟩
  obtain⟨e1,e2⟩:=yl
  subst e1 e2
  unfold upD at hi
  rw[U0y,List.getElem?_range hi'] at hi
  cases hi
  exact⟨Same.refl _,.int _⟩
 .show n<=(upD lo n).length
  rw[len];exact U0o _
def r62(j:Int):Prop:=-(2^62)<=j/\j<2^62
instance(j:Int):Decidable (r62 j):=by unfold r62;infer_instance
def KD(a:Bl):K4:=fun env S=>(a env S).bind fun p=>match p.1 with|[.int j]=>if r62 j then some ((upD 0 j.toNat,[]),p.2) else none|_=>none
def O5(a:Bl):K4:=fun env S=>(a env S).bind fun p=>match p.1 with|[.int i,.int j]=>if r62 i/\r62 j then some ((upD i (j-i).toNat,[]),p.2) else none|_=>none
theorem VRs.one{Γ:Fr}{μ:Mu}{H:Hp}{vs:List V}{d:D}(h:VRs Γ μ H vs [d]):∃v,vs=[v]/\VR Γ μ H v d:=by
 cases h with|cons r t=>cases t;exact⟨_,rfl,r⟩
theorem VRs.two{Γ:Fr}{μ:Mu}{H:Hp}{vs:List V}{d e:D}(h:VRs Γ μ H vs [d,e]):∃v u,vs=[v,u]/\VR Γ μ H v d/\VR Γ μ H u e:=by
 cases h with|cons r t=>cases t with|cons r' t=>cases t;exact⟨_,_,rfl,r,r'⟩
theorem Uv{a:Expr}{f:Bl}{p pos:Pos}(hg:Gl X "range")(hm:X.mg "range"=none)(ha:JA X [a] f)(hs:starEach [a] X.env=[(false,eval a X.env)]:=by rfl):JI X tg (.Call (.Name "range" p) [a] [] pos) (KD f) :=
 ⟨PI.imp (aX hg hm ha.pa hs) fun σ H Q h=>by
  obtain⟨Γ,μ,env,S,ds,w,S',hK,R,e,q⟩:=h
  obtain⟨⟨d,S1⟩,e1,e⟩:=bind_some e
  refine⟨Γ,μ,env,S,d,S1,hK,R,e1,fun v μ1 H1 x1 R1 r1=>?_⟩
  dsimp only at e
  split at e
  .rename_i j
   by_cases hj:r62 j
   .rw[if_pos hj] at e
    cases e
    obtain⟨v,rfl,r⟩:=r1.one
    cases r
    exact⟨j,rfl,hj.1,hj.2,q _ μ1 H1 x1 R1 (Wi 0 _)⟩
   .rw[if_neg hj] at e;cases e
  .cases e⟩
theorem au{a b:Expr}{f:Bl}{p pos:Pos}(hg:Gl X "range")(hm:X.mg "range"=none)(ha:JA X [a,b] f)(hs:starEach [a,b] X.env=[(false,eval a X.env),(false,eval b X.env)]:=by rfl)(hs2:starEach [b] X.env=[(false,eval b X.env)]:=by rfl) :
  JI X tg (.Call (.Name "range" p) [a,b] [] pos) (O5 f) :=
 ⟨PI.imp (aW hg hm ha.pa hs hs2) fun σ H Q h=>by
  obtain⟨Γ,μ,env,S,ds,w,S',hK,R,e,q⟩:=h
  obtain⟨⟨d,S1⟩,e1,e⟩:=bind_some e
  refine⟨Γ,μ,env,S,d,S1,hK,R,e1,fun v μ1 H1 x1 R1 r1=>?_⟩
  dsimp only at e
  split at e
  .rename_i i j
   by_cases hj:r62 i/\r62 j
   .rw[if_pos hj] at e
    cases e
    obtain⟨v,u,rfl,r,r'⟩:=r1.two
    cases r
    cases r'
    exact⟨i,j,rfl,⟨hj.1.1,hj.1.2,hj.2.1,hj.2.2⟩,q _ μ1 H1 x1 R1 (Wi i _)⟩
   .rw[if_neg hj] at e;cases e
  .cases e⟩
end
end VS
end
section
namespace VS
open PySem PySem.Spec L2
section
variable{X:Cx}{tg:Expr}
def GF:List D->List D->List D
 |x::xs,y::ys=>.tup [x,y]::GF xs ys
 |_,_=>[]
theorem W6:∀{xs ys:List D} {i:Nat} {d:D},(GF xs ys)[i]?=some d->∃x y,xs[i]?=some x/\ys[i]?=some y/\d=.tup [x,y]
 |[],_,_,_,h=>by simp[GF] at h
 |_::_,[],_,_,h=>by simp[GF] at h
 |x::xs,y::ys,0,d,h=>by simp[GF] at h;exact⟨x,y,rfl,rfl,h.symm⟩
 |x::xs,y::ys,i+1,d,h=>by
  simp[GF] at h
  obtain⟨a,b,h1,h2,h3⟩:=W6 h
  exact⟨a,b,by simpa using h1,by simpa using h2,h3⟩
theorem W5:∀(xs ys:List D),((GF xs ys).length=xs.length/\xs.length<=ys.length)∨((GF xs ys).length<xs.length/\(GF xs ys).length=ys.length)
 |[],_=>.inl ⟨rfl,U3f _⟩
 |_::_,[]=>.inr ⟨by simp[GF],rfl⟩
 |x::xs,y::ys=>by
  rcases W5 xs ys with ⟨h1,h2⟩|⟨h1,h2⟩
  .left;simp[GF];omega
  .right;simp[GF];omega
def Qc(a:Bl):K4:=fun env S=>(a env S).bind fun p=>match p.1 with
 |[.tup xs,.tup ys]=>some ((GF xs ys,[]),p.2)
 |[x,.tup ys]=>(listOf p.2 x).bind fun xs=>some ((GF xs ys,idOf xs x),p.2)
 |[x,y]=>(listOf p.2 x).bind fun xs=>(listOf p.2 y).bind fun ys=>some ((GF xs ys,idOf xs x++idOf ys y),p.2)
 |_=>none
theorem Oo{d:D}{ds:List D}{S S':Store}(h:listOf S d=some ds)(c:calm (idOf ds d) S'):listOf S' d=some ds:=by
 cases d with
 |ref i =>
  have c':S'[i]?=some (some ds):=c (i,ds) (U1f.mpr rfl)
  show(S'[i]?).join=some ds
  rw[c'];rfl
 |_=>exact h
theorem Vx{Γ:Fr}{μ:Mu}{H:Hp}{L M:Bool}{a b:Addr}{xs ys:List D}{w:List (Nat×List D)}(hr:∀μ' H' σ' env' S',Ext μ H μ' H'->Rep Γ μ' σ' H' env' S'->calm w S'->∃us vs,H' a=some (HB L us)/\VRs Γ μ' H' us xs/\H' b=some (HB M vs)/\VRs Γ μ' H' vs ys) :
  Vo Γ μ H (Itz L M a b) (GF xs ys) w:=by
 refine⟨fun i d μ' H' σ' env' S' hi x R c=>?_,fun μ' H' σ' env' S' x R c=>?_⟩
 .obtain⟨us,vs,h1,h2,h3,h4⟩:=hr μ' H' σ' env' S' x R c
  obtain⟨p,q,e1,e2,e3⟩:=W6 hi
  obtain⟨u,f1,f2⟩:=h2.get e1
  obtain⟨v,g1,g2⟩:=h4.get e2
  refine⟨⟨us,vs,u,v,h1,h3,f1,g1⟩,fun z H'' yl=>?_⟩
  obtain⟨t,u',v',ht,rfl,rfl,k1,k2⟩:=yl
  have k1':=k1 us h1
  have k2':=k2 vs h3
  rw[f1] at k1';cases k1'
  rw[g1] at k2';cases k2'
  subst e3
  have sm:=Dw ht (.tup [u,v])
  obtain⟨_,x2⟩:=R.grow sm
  exact⟨sm,.tup Cg (.cons (f2.ext x2) (.cons (g2.ext x2) .nil))⟩
 .obtain⟨us,vs,h1,h2,h3,h4⟩:=hr μ' H' σ' env' S' x R c
  refine⟨us,vs,h1,h3,?_⟩
  rw[h2.length,h4.length]
  rcases W5 xs ys with z|z
  .exact .inl z.1
  .exact .inr z
theorem PI.or{e:Expr}{t u:TI}(h:PI X tg e t)(k:PI X tg e u):PI X tg e (fun σ H R=>t σ H R∨u σ H R):=fun pins s σ H R I q=>q.elim (fun z=>h pins s σ H R I z) fun z=>k pins s σ H R I z
theorem Vw{a b:Expr}{f:Bl}{p pos:Pos}{elts:List Expr}{x1:Nat}{tpos:Pos}(hg:Gl X "zip")(hm:X.mg "zip"=none)(ha:JA X [a,b] f)(hs:starEach [a,b] X.env=[(false,eval a X.env),(false,eval b X.env)]:=by rfl)(hs2:starEach [b] X.env=[(false,eval b X.env)]:=by rfl) :
  JI X (.Tuple elts x1 tpos) (.Call (.Name "zip" p) [a,b] [] pos) (Qc f) :=
 ⟨PI.imp (PI.or (Vt true true (.inl rfl) hg hm ha.pa hs hs2) (PI.or (Vt false false (.inl rfl) hg hm ha.pa hs hs2) (Vt true false (.inr ⟨rfl,rfl⟩) hg hm ha.pa hs hs2))) fun σ H Q h=>by
  obtain⟨Γ,μ,env,S,ds,w,S',hK,R,e,q⟩:=h
  obtain⟨⟨d,S1⟩,e1,e⟩:=bind_some e
  dsimp only at e
  split at e
  .rename_i xs ys
   cases e
   refine .inr (.inl ⟨Γ,μ,env,S,_,_,hK,R,e1,fun v μ1 H1 x1 R1 r1=>?_⟩)
   obtain⟨u,v,rfl,r,r'⟩:=r1.two
   cases r with
   |@tup a us _ ha ra =>
    cases r' with
    |@tup b vs _ hb rb =>
     exact⟨a,b,us,vs,rfl,ha,hb,q _ μ1 H1 x1 R1 (Vx fun μ' H' σ' env' S' x' R' c=>⟨us,vs,x'.tups _ _ ha,ra.ext x',x'.tups _ _ hb,rb.ext x'⟩)⟩
  .rename_i x ys _
   obtain⟨xs,e2,e⟩:=bind_some e
   cases e
   refine .inr (.inr ⟨Γ,μ,env,S,_,_,hK,R,e1,fun v μ1 H1 x1 R1 r1=>?_⟩)
   obtain⟨u,v,rfl,r,r'⟩:=r1.two
   obtain⟨a,us,rfl,ha,ra⟩:=VR.list R1 r e2
   cases r' with
   |@tup b vs _ hb rb =>
    refine⟨a,b,us,vs,rfl,ha,hb,q _ μ1 H1 x1 R1 (Vx fun μ' H' σ' env' S' x' R' c=>?_)⟩
    obtain⟨a',us',e4,ha',ra'⟩:=VR.list R' (r.ext x') (Oo e2 c)
    cases e4
    exact⟨us',vs,ha',ra',x'.tups _ _ hb,rb.ext x'⟩
  .rename_i x y _ _
   obtain⟨xs,e2,e⟩:=bind_some e
   obtain⟨ys,e3,e⟩:=bind_some e
   cases e
   refine .inl ⟨Γ,μ,env,S,_,_,hK,R,e1,fun v μ1 H1 x1 R1 r1=>?_⟩
   obtain⟨u,v,rfl,r,r'⟩:=r1.two
   obtain⟨a,us,rfl,ha,ra⟩:=VR.list R1 r e2
   obtain⟨b,vs,rfl,hb,rb⟩:=VR.list R1 r' e3
   refine⟨a,b,us,vs,rfl,ha,hb,q _ μ1 H1 x1 R1 (Vx fun μ' H' σ' env' S' x' R' c=>?_)⟩
   obtain⟨a',us',e4,ha',ra'⟩:=VR.list R' (r.ext x') (Oo e2 fun p hp=>c p (U2h _ hp))
   obtain⟨b',vs',e5,hb',rb'⟩:=VR.list R' (r'.ext x') (Oo e3 fun p hp=>c p (U0x _ hp))
   cases e4
   cases e5
   exact⟨us',vs',ha',ra',hb',rb'⟩
  .cases e⟩
def cO(K:U0b)(r:V->List V->Hp->VK->Prop)(g:Store->D->List D->Option (D×Store)):Prop:=∀(Γ:Fr)(μ:Mu)(σ:St)(H:Hp)(env:Env)(S:Store)(x:V)(xs:List V)(dx:D)(ds:List D)(d:D)(S':Store),Γ.K=K->Rep Γ μ σ H env S->VR Γ μ H x dx->VRs Γ μ H xs ds->g S dx ds=some (d,S') ->
 ∀Q:VK,(∀v μ' H',Ext μ H μ' H'->Rep Γ μ' σ H' env S'->VR Γ μ' H' v d->Q v H')->r x xs H Q
def Hf(g:Store->D->List D->Option (D×Store))(o:BP)(a:Bl):BP:=fun env S=>(o env S).bind fun p=>if (listOf p.2 p.1).isSome then (a env p.2).bind fun q=>g q.2 p.1 q.1 else none
theorem gM{K:U0b}{r:V->List V->Hp->VK->Prop}{g:Store->D->List D->Option (D×Store)}{o:BP}{a:Bl}(hs:cO K r g){σ:St}{H:Hp}{Q:VK}(h:wpE K (Hf g o a) σ H Q):tBM K "list" r (wpE K o) (wpA K a) σ H Q:=by
 obtain⟨Γ,μ,env,S,d,S',hK,R,e,q⟩:=h
 obtain⟨⟨x,S1⟩,e1,e⟩:=bind_some e
 refine⟨Γ,μ,env,S,x,S1,hK,R,e1,fun v1 μ1 H1 x1 R1 r1=>?_⟩
 dsimp only at e
 by_cases hl:(listOf S1 x).isSome=true
 .rw[if_pos hl] at e
  obtain⟨⟨ds,S2⟩,e2,e⟩:=bind_some e
  obtain⟨xs,hx⟩:=U5p.mp hl
  obtain⟨b,us,rfl,hb,rb⟩:=VR.list R1 r1 hx
  refine⟨.inl ⟨rfl,us,SqL.of hb⟩,Γ,μ1,env,S1,ds,S2,hK,R1,e2,fun vs μ2 H2 x2 R2 r2=>?_⟩
  exact hs Γ μ2 σ H2 env S2 _ vs x ds d S' hK R2 (r1.ext x2) r2 e Q fun v μ' H' x' R' rv=>q v μ' H' (x1.trans (x2.trans x')) R' rv
 .rw[if_neg hl] at e;cases e
variable{o e:Expr}{es:List Expr}{fo:BP}{fa:Bl}{name:Str}{apos cpos:Pos}{id:String}{r:V->List V->Hp->VK->Prop}{g:Store->D->List D->Option (D×Store)}
theorem KC(pa:PlainAttrs "list")(slot:Slot "list" name id)(hty:typeOf (.builtin id)=pure (.type "method_descriptor"))(hm:MtR X id r)(hsm:cO X.K r g)(ho:JE X o fo)(ha:JA X (e::es) fa)
  (hbase:attributeBase o name X.env (eval o X.env)=eval o X.env:=by rfl)
  (hfew:((backTo cpos (starEach (e::es) X.env)).all (fun x=>!x.1)&&(backToKw cpos (keywordEach [] X.env)).all (fun x=>x.1.isSome)
   && decide ((e::es).length+([]:List Keyword).length+(if ([]:List Keyword).isEmpty then 0 else 1)<30))=true:=by rfl)
  (hline:(apos.endLine==cpos.line)=true:=by rfl) (hs:starEach (e::es) X.env=(false,eval e X.env)::starEach es X.env:=by rfl) (hplain:(backTo cpos (starEach es X.env)).any (·.1)=false:=by rfl) :
  JE X (.Call (.Attribute o name apos) (e::es) [] cpos) (Hf g fo fa) :=
 ⟨PE.imp (qY pa slot hty hm ho.pe ha.pa hbase hfew hline hs hplain) fun _ _ _ h=>gM hsm h⟩
theorem VR.bw{Γ:Fr}{μ:Mu}{σ:St}{H:Hp}{env:Env}{S:Store}{v:V}{i:Nat}{ds:List D}(R:Rep Γ μ σ H env S)(r:VR Γ μ H v (.ref i))(h:S[i]?=some (some ds)):∃a xs,v=.ref a/\μ[i]?=some (some a)/\H a=some (.lst xs)/\VRs Γ μ H xs ds:=by
 cases r with
 |ref hi f =>
  obtain⟨a,h1,hc⟩:=R.sto i ds h
  obtain⟨f1,f2⟩:=f a h1
  obtain⟨xs,h2,h3⟩:=hc.list f2
  exact⟨a,xs,f1,h1,h2,h3⟩
def FP(S:Store):D->List D->Option (D×Store)
 |.ref i,[d]=>match S[i]? with
  |some (some ds)=>if ds.length<1000000 then some (.non,S.set i (some (ds++[d]))) else none
  |_=>none
 |_,_=>none
theorem Ij{K:U0b}:cO K YJ FP:=by
 intro Γ μ σ H env S x xs dx ds d S' hK R rx rs e Q q
 unfold FP at e
 split at e
 .rename_i i d1
  split at e
  .rename_i es he
   by_cases hl:es.length<1000000
   .rw[if_pos hl] at e
    cases e
    obtain⟨a,us,rfl,h1,h2,h3⟩:=VR.bw R rx he
    obtain⟨y,rfl,ry⟩:=rs.one
    obtain⟨R2,x2⟩:=R.put h1 ⟨_,h2⟩ (h3.append (.cons ry .nil))
    exact⟨a,us,y,rfl,rfl,h2,by rw[h3.length];exact big (U2r hl),q _ μ _ x2 R2 .non⟩
   .rw[if_neg hl] at e;cases e
  .cases e
 .cases e
def uI(S:Store):D->List D->Option (D×Store)
 |.ref i,[.int k]=>match S[i]? with
  |some (some ds)=>if -(2^63)<=k/\k<2^63 then (PySem.seqIndex? k ds.length).bind fun j=>(ds[j]?).bind fun d=>some (d,S.set i (some (ds.eraseIdx j))) else none
  |_=>none
 |_,_=>none
def SQ(v o i:BP):Bb:=fun env S=>(v env S).bind fun p=>(o env p.2).bind fun q=>(i env q.2).bind fun r=>match q.1,r.1 with
 |.ref j,.int k=>(match r.2[j]? with
  |some (some ds)=>(ixN ds.length k).bind fun n=>some (.nx,env,r.2.set j (some (ds.set n p.1)))
  |_=>none)
 |_,_=>none
theorem Wh{a i:Expr}{fv fi:BP}{pos tpos:Pos}(he:JE X a fv)(ho:JE X o fo)(hi:JE X i fi)
  (ha:∀v,assign (.Subscript o i tpos) X.env v=(do
   let ov ←holding [v] (eval o X.env)
   let iv ←holding [v,ov] (eval i X.env)
   standAt tpos
   holding [v,ov,iv] (setItem ov iv v)
   release [v,ov,iv] []):=by intro _;rfl)
  (hs:swapsWithSole [.Subscript o i tpos] a pos.line X.env=pure false:=by rfl) (hw:swappedStores [.Subscript o i tpos] a X.env=pure none:=by rfl)
  (h1:(assignEach [.Subscript o i tpos] X.env).map (·.2)=[assign (.Subscript o i tpos) X.env]:=by rfl):JS X (.Assign [.Subscript o i tpos] a pos) (SQ fv fo fi) :=
 ⟨PS.imp (Zn he.pe (n8 ho.pe hi.pe set_list ha) hs hw h1) fun E σ H h=>by
  obtain⟨Γ,μ,env,S,fl,env',S',hK,R,e,q⟩:=h
  obtain⟨⟨x,S1⟩,e1,e⟩:=bind_some e
  obtain⟨⟨y,S2⟩,e2,e⟩:=bind_some e
  obtain⟨⟨z,S3⟩,e3,e⟩:=bind_some e
  refine⟨Γ,μ,env,S,x,S1,hK,R,e1,fun v1 μ1 H1 x1 R1 r1=>?_⟩
  refine⟨Γ,μ1,env,S1,y,S2,hK,R1,e2,fun v2 μ2 H2 x2 R2 r2=>?_⟩
  refine⟨Γ,μ2,env,S2,z,S3,hK,R2,e3,fun v3 μ3 H3 x3 R3 r3=>?_⟩
  dsimp only at e
  split at e
  .rename_i j k
   split at e
   .rename_i ds hd
    obtain⟨n,e4,e⟩:=bind_some e
    cases e
    obtain⟨b,us,rfl,g1,g2,g3⟩:=VR.bw R3 (r2.ext x3) hd
    cases r3
    have r1':=r1.ext (x2.trans x3)
    obtain⟨R4,x4⟩:=R3.put g1 ⟨_,g2⟩ (g3.set r1' n)
    exact⟨b,us,_,n,rfl,rfl,g2,by rw[g3.length];exact e4,q μ3 σ _ (x1.trans (x2.trans (x3.trans x4))) R4⟩
   .cases e
  .cases e⟩
end
end VS
end
section
namespace VS
open PySem PySem.Spec L2
mutual
def Bx:D->Bool
 |.ref _=>false
 |.dref _=>false
 |.dcm _=>false
 |.tup ds=>Bh ds
 |.lst _ ds=>Bh ds
 |_=>true
def Bh:List D->Bool
 |[]=>true
 |d::r=>Bx d&&Bh r
end
mutual
def CJ:D->Bool
 |.ref _=>false
 |.dref _=>false
 |.dcf _=>false
 |.dcm _=>false
 |.lst _ _=>false
 |.scr _=>false
 |.emp=>false
 |.tup ds=>Du ds
 |_=>true
def Du:List D->Bool
 |[]=>true
 |d::r=>CJ d&&Du r
end
mutual
def newD:D->Bool
 |.ref _=>false
 |.dref _=>false
 |.dcf _=>false
 |.dcm _=>false
 |.lst m ds=>m&&newL ds
 |.scr _=>false
 |.emp=>false
 |.tup ds=>newL ds
 |_=>true
def newL:List D->Bool
 |[]=>true
 |d::r=>newD d&&newL r
end
mutual
def den(k:Nat)(S:Store):D->Option D
 |.tup ds=>(DK k S ds).map .tup
 |.lst m ds=>(DK k S ds).map (.lst m)
 |.ref i=>if i<k then none else match S[i]? with|some (some ds)=>if Bh ds=true then some (.lst true ds) else none|_=>none
 |.non=>some .non
 |.bl b=>some (.bl b)
 |.int i=>some (.int i)
 |.str x=>some (.str x)
 |.ty n=>some (.ty n)
 |.scr ns=>some (.scr ns)
 |.emp=>some .emp
 |.dref i=>if i<k then none else match S[i]? with|some (some [.dcm kvs])=>some (.dcf kvs)|_=>none
 |.dcf kvs=>some (.dcf kvs)
 |.dcm _=>none
def DK(k:Nat)(S:Store):List D->Option (List D)
 |[]=>some []
 |d::r=>(den k S d).bind fun x=>(DK k S r).bind fun xs=>some (x::xs)
end
mutual
def age:D->D
 |.tup ds=>.tup (Cr ds)
 |.lst _ ds=>.lst false (Cr ds)
 |.ref i=>.ref i
 |.non=>.non
 |.bl b=>.bl b
 |.int i=>.int i
 |.str x=>.str x
 |.ty n=>.ty n
 |.scr ns=>.scr ns
 |.emp=>.emp
 |.dref i=>.dref i
 |.dcf kvs=>.dcf kvs
 |.dcm kvs=>.dcm kvs
def Cr:List D->List D
 |[]=>[]
 |d::r=>age d::Cr r
end
mutual
theorem Il:∀{d:D},CJ d=true->Bx d=true
 |.ref _,h=>by simp[CJ] at h
 |.lst _ _,h=>by simp[CJ] at h
 |.scr _,h=>by simp[CJ] at h
 |.emp,h=>by simp[CJ] at h
 |.dref _,h=>by simp[CJ] at h
 |.dcf _,h=>by simp[CJ] at h
 |.dcm _,h=>by simp[CJ] at h
 |.tup ds,h=>by rw[CJ] at h;rw[Bx];exact BX h
 |.non,_=>rfl
 |.bl _,_=>rfl
 |.int _,_=>rfl
 |.str _,_=>rfl
 |.ty _,_=>rfl
theorem BX:∀{ds:List D},Du ds=true->Bh ds=true
 |[],_=>rfl
 |d::r,h=>by
  rw[Du,U0s] at h
  rw[Bh,Il h.1,BX h.2];rfl
end
mutual
theorem Oi:∀{d:D},CJ d=true->newD d=true
 |.ref _,h=>by simp[CJ] at h
 |.lst _ _,h=>by simp[CJ] at h
 |.scr _,h=>by simp[CJ] at h
 |.emp,h=>by simp[CJ] at h
 |.dref _,h=>by simp[CJ] at h
 |.dcf _,h=>by simp[CJ] at h
 |.dcm _,h=>by simp[CJ] at h
 |.tup ds,h=>by rw[CJ] at h;rw[newD];exact Kr h
 |.non,_=>rfl
 |.bl _,_=>rfl
 |.int _,_=>rfl
 |.str _,_=>rfl
 |.ty _,_=>rfl
theorem Kr:∀{ds:List D},Du ds=true->newL ds=true
 |[],_=>rfl
 |d::r,h=>by
  rw[Du,U0s] at h
  rw[newL,Oi h.1,Kr h.2];rfl
end
mutual
theorem Mh(k:Nat)(S:Store):∀{d:D},Bx d=true->den k S d=some d
 |.ref _,h=>by simp[Bx] at h
 |.lst m ds,h=>by rw[Bx] at h;rw[den,CN k S h];rfl
 |.tup ds,h=>by rw[Bx] at h;rw[den,CN k S h];rfl
 |.non,_=>by rw[den]
 |.bl _,_=>by rw[den]
 |.int _,_=>by rw[den]
 |.str _,_=>by rw[den]
 |.ty _,_=>by rw[den]
 |.scr _,_=>by rw[den]
 |.emp,_=>by rw[den]
 |.dref _,h=>by simp[Bx] at h
 |.dcf _,_=>by rw[den]
 |.dcm _,h=>by simp[Bx] at h
theorem CN(k:Nat)(S:Store):∀{ds:List D},Bh ds=true->DK k S ds=some ds
 |[],_=>by rw[DK]
 |d::r,h=>by
  rw[Bh,U0s] at h
  rw[DK,Mh k S h.1,CN k S h.2];rfl
end
mutual
theorem Rp:∀{d:D},CJ d=true->age d=d
 |.ref _,h=>by simp[CJ] at h
 |.lst _ _,h=>by simp[CJ] at h
 |.scr _,h=>by simp[CJ] at h
 |.emp,h=>by simp[CJ] at h
 |.dref _,h=>by simp[CJ] at h
 |.dcf _,h=>by simp[CJ] at h
 |.dcm _,h=>by simp[CJ] at h
 |.tup ds,h=>by rw[CJ] at h;rw[age,El h]
 |.non,_=>by rw[age]
 |.bl _,_=>by rw[age]
 |.int _,_=>by rw[age]
 |.str _,_=>by rw[age]
 |.ty _,_=>by rw[age]
theorem El:∀{ds:List D},Du ds=true->Cr ds=ds
 |[],_=>by rw[Cr]
 |d::r,h=>by
  rw[Du,U0s] at h
  rw[Cr,Rp h.1,El h.2]
end
section
variable{Γ Γ':Fr}{μ μ':Mu}{H:Hp}
mutual
theorem VR.age(hK:Γ'.K=Γ.K)(hN:∀a,¬CZ μ a->Γ.N a∨Γ.H0 a=none->Γ'.N a)(hl:∀a o,H a=some o->¬CZ μ a->¬CZ μ' a):∀{v:V} {d:D},Bx d=true->VR Γ μ H v d->VR Γ' μ' H v (VS.age d)
 |_,_,_,.non=>by rw[VS.age];exact .non
 |_,_,_,.bl b=>by rw[VS.age];exact .bl b
 |_,_,_,.int i=>by rw[VS.age];exact .int i
 |_,_,_,.str x=>by rw[VS.age];exact .str x
 |_,_,_,.ty n=>by rw[VS.age];exact .ty n
 |_,_,h,.tup hb t=>by rw[Bx] at h;rw[VS.age];exact .tup hb (VRs.age hK hN hl h t)
 |_,_,h,.lst o n hb t=>by rw[Bx] at h;rw[VS.age];exact .lst ⟨fun z=>(by cases z),.inl (hN _ n o.2)⟩ (hl _ _ hb n) hb (VRs.age hK hN hl h t)
 |_,_,h,.ref _ _=>by simp[Bx] at h
 |_,_,_,.scrK k=>by rw[VS.age];exact .scrK (by rw[hK];exact k)
 |_,_,_,.scrR n hb=>by rw[VS.age];exact .scrR (hl _ _ hb n) hb
 |_,_,_,.emp o n hb=>by rw[VS.age];exact .emp ⟨fun z=>(by cases z),.inl (hN _ n o.2)⟩ (hl _ _ hb n) hb
 |_,_,h,.dref _ _=>by simp[Bx] at h
 |_,_,_,.dcf o n hb=>by rw[VS.age];exact .dcf ⟨fun z=>(by cases z),.inl (hN _ n o.2)⟩ (hl _ _ hb n) hb
theorem VRs.age(hK:Γ'.K=Γ.K)(hN:∀a,¬CZ μ a->Γ.N a∨Γ.H0 a=none->Γ'.N a)(hl:∀a o,H a=some o->¬CZ μ a->¬CZ μ' a):∀{v:List V} {d:List D},Bh d=true->VRs Γ μ H v d->VRs Γ' μ' H v (Cr d)
 |_,_,_,.nil=>by rw[Cr];exact .nil
 |_,_,h,.cons r t=>by
  rw[Bh,U0s] at h
  rw[Cr];exact .cons (VR.age hK hN hl h.1 r) (VRs.age hK hN hl h.2 t)
end
mutual
theorem VR.pure(hK:Γ'.K=Γ.K)(hN:∀m a xs,¬CZ μ a->Γ.Ok m a->H a=some xs->Γ'.Ok m a/\¬CZ μ' a)(ho:∀a o,H a=some o->¬CZ μ a->(∀xs,o≠.lst xs)->(∀xs,o≠.dK xs)->¬CZ μ' a):∀{v:V} {d:D},Bx d=true->VR Γ μ H v d->VR Γ' μ' H v d
 |_,_,_,.non=>.non
 |_,_,_,.bl b=>.bl b
 |_,_,_,.int i=>.int i
 |_,_,_,.str x=>.str x
 |_,_,_,.ty n=>.ty n
 |_,_,h,.tup hb t=>by rw[Bx] at h;exact .tup hb (VRs.pure hK hN ho h t)
 |_,_,h,.lst o n hb t=>by rw[Bx] at h;exact .lst (hN _ _ _ n o hb).1 (hN _ _ _ n o hb).2 hb (VRs.pure hK hN ho h t)
 |_,_,h,.ref _ _=>by simp[Bx] at h
 |_,_,_,.scrK k=>.scrK (by rw[hK];exact k)
 |_,_,_,.scrR n hb=>.scrR (ho _ _ hb n (fun _ z=>by cases z) fun _ z=>by cases z) hb
 |_,_,_,.emp o n hb=>.emp (hN _ _ _ n o hb).1 (hN _ _ _ n o hb).2 hb
 |_,_,h,.dref _ _=>by simp[Bx] at h
 |_,_,_,.dcf o n hb=>.dcf (hN _ _ _ n o hb).1 (hN _ _ _ n o hb).2 hb
theorem VRs.pure(hK:Γ'.K=Γ.K)(hN:∀m a xs,¬CZ μ a->Γ.Ok m a->H a=some xs->Γ'.Ok m a/\¬CZ μ' a)(ho:∀a o,H a=some o->¬CZ μ a->(∀xs,o≠.lst xs)->(∀xs,o≠.dK xs)->¬CZ μ' a):∀{v:List V} {d:List D},Bh d=true->VRs Γ μ H v d->VRs Γ' μ' H v d
 |_,_,_,.nil=>.nil
 |_,_,h,.cons r t=>by
  rw[Bh,U0s] at h
  exact .cons (VR.pure hK hN ho h.1 r) (VRs.pure hK hN ho h.2 t)
end
mutual
theorem VR.den{σ:St}{env:Env}{S S0:Store}{k:Nat}(R:Rep Γ μ σ H env S)(hK:Γ'.K=Γ.K)(h0:∀(i:Nat)(ds:List D)(a:Addr),k<=i->S0[i]?=some (some ds)->S[i]?=some (some ds)/\(μ[i]?=some (some a)->¬CZ μ' a/\Γ'.Ok true a))
  (hN:∀m a,¬CZ μ a->Γ.Ok m a->Γ'.Ok m a) (hl:∀a o,H a=some o->¬CZ μ a->¬CZ μ' a):∀{v:V} {d e:D},VR Γ μ H v d->VS.den k S0 d=some e->VR Γ' μ' H v e
 |_,_,_,.non,h=>by rw[VS.den] at h;cases h;exact .non
 |_,_,_,.bl b,h=>by rw[VS.den] at h;cases h;exact .bl b
 |_,_,_,.int i,h=>by rw[VS.den] at h;cases h;exact .int i
 |_,_,_,.str x,h=>by rw[VS.den] at h;cases h;exact .str x
 |_,_,_,.ty n,h=>by rw[VS.den] at h;cases h;exact .ty n
 |_,_,_,.tup hb t,h=>by
  rw[VS.den] at h
  obtain⟨es,e1,e2⟩:=map_some h
  subst e2
  exact .tup hb (VRs.den R hK h0 hN hl t e1)
 |_,_,_,.lst o n hb t,h=>by
  rw[VS.den] at h
  obtain⟨es,e1,e2⟩:=map_some h
  subst e2
  exact .lst (hN _ _ n o) (hl _ _ hb n) hb (VRs.den R hK h0 hN hl t e1)
 |_,.ref i,_,.ref hi f,h=>by
  rw[VS.den] at h
  by_cases hk:i<k
  .rw[if_pos hk] at h;cases h
  .rw[if_neg hk] at h
   split at h
   .rename_i ds hd
    by_cases hp:Bh ds=true
    .rw[if_pos hp] at h
     cases h
     have hS:=(h0 i ds 0 (by omega) hd).1
     obtain⟨a,h1,hc⟩:=R.sto i ds hS
     obtain⟨hv,f2⟩:=f a h1
     obtain⟨xs,h2,h3⟩:=hc.list f2
     subst hv
     obtain⟨z1,z2⟩:=(h0 i ds a (by omega) hd).2 h1
     exact .lst z2 z1 h2 (VRs.pure hK (fun m b ys n o hb=>⟨hN m b n o,hl b _ hb n⟩) (fun b o hb n _ _=>hl b o hb n) hp h3)
    .rw[if_neg hp] at h;cases h
   .cases h
 |_,_,_,.scrK k,h=>by rw[VS.den] at h;cases h;exact .scrK (by rw[hK];exact k)
 |_,_,_,.scrR n hb,h=>by rw[VS.den] at h;cases h;exact .scrR (hl _ _ hb n) hb
 |_,_,_,.emp o n hb,h=>by rw[VS.den] at h;cases h;exact .emp (hN _ _ n o) (hl _ _ hb n) hb
 |_,.dref i,_,.dref hi f,h=>by
  rw[VS.den] at h
  by_cases hk:i<k
  .rw[if_pos hk] at h;cases h
  .rw[if_neg hk] at h
   split at h
   .rename_i kvs hd
    cases h
    have hS:=(h0 i _ 0 (by omega) hd).1
    obtain⟨a,h1,hc⟩:=R.sto i _ hS
    obtain⟨hv,f2⟩:=f a h1
    obtain⟨kvs',q1,h2⟩:=hc.dict f2
    cases q1
    subst hv
    have z:=(h0 i _ a (by omega) hd).2 h1
    exact .dcf ⟨fun z=>(by cases z),z.2.2⟩ z.1 h2
   .cases h
 |_,_,_,.dcf o n hb,h=>by rw[VS.den] at h;cases h;exact .dcf (hN _ _ n o) (hl _ _ hb n) hb
theorem VRs.den{σ:St}{env:Env}{S S0:Store}{k:Nat}(R:Rep Γ μ σ H env S)(hK:Γ'.K=Γ.K)(h0:∀(i:Nat)(ds:List D)(a:Addr),k<=i->S0[i]?=some (some ds)->S[i]?=some (some ds)/\(μ[i]?=some (some a)->¬CZ μ' a/\Γ'.Ok true a))
  (hN:∀m a,¬CZ μ a->Γ.Ok m a->Γ'.Ok m a) (hl:∀a o,H a=some o->¬CZ μ a->¬CZ μ' a):∀{v:List V} {d e:List D},VRs Γ μ H v d->VS.DK k S0 d=some e->VRs Γ' μ' H v e
 |_,_,_,.nil,h=>by rw[DK] at h;cases h;exact .nil
 |_,_,_,.cons r t,h=>by
  rw[DK] at h
  obtain⟨x,e1,h⟩:=bind_some h
  obtain⟨xs,e2,h⟩:=bind_some h
  cases h
  exact .cons (VR.den R hK h0 hN hl r e1) (VRs.den R hK h0 hN hl t e2)
end
mutual
theorem VR.new(hN:∀a xs,¬CZ μ a->Γ.Ok true a->H a=some (.lst xs)->Γ'.Ok true a/\¬CZ μ' a):∀{v:V} {d:D},newD d=true->VR Γ μ H v d->VR Γ' μ' H v d
 |_,_,_,.non=>.non
 |_,_,_,.bl b=>.bl b
 |_,_,_,.int i=>.int i
 |_,_,_,.str x=>.str x
 |_,_,_,.ty n=>.ty n
 |_,_,h,.tup hb t=>by rw[newD] at h;exact .tup hb (VRs.new hN h t)
 |_,.lst m ds,h,.lst o n hb t=>by
  rw[newD,U0s] at h
  obtain⟨rfl,h⟩:=h
  exact .lst (hN _ _ n o hb).1 (hN _ _ n o hb).2 hb (VRs.new hN h t)
 |_,_,h,.ref _ _=>by simp[newD] at h
 |_,_,h,.scrK _=>by simp[newD] at h
 |_,_,h,.scrR _ _=>by simp[newD] at h
 |_,_,h,.emp _ _ _=>by simp[newD] at h
 |_,_,h,.dref _ _=>by simp[newD] at h
 |_,_,h,.dcf _ _ _=>by simp[newD] at h
theorem VRs.new(hN:∀a xs,¬CZ μ a->Γ.Ok true a->H a=some (.lst xs)->Γ'.Ok true a/\¬CZ μ' a):∀{v:List V} {d:List D},newL d=true->VRs Γ μ H v d->VRs Γ' μ' H v d
 |_,_,_,.nil=>.nil
 |_,_,h,.cons r t=>by
  rw[newL,U0s] at h
  exact .cons (VR.new hN h.1 r) (VRs.new hN h.2 t)
end
mutual
theorem VR.flat:∀{v:V} {d:D},CJ d=true->VR Γ μ H v d->VR Γ' μ' H v d
 |_,_,_,.non=>.non
 |_,_,_,.bl b=>.bl b
 |_,_,_,.int i=>.int i
 |_,_,_,.str x=>.str x
 |_,_,_,.ty n=>.ty n
 |_,_,h,.tup hb t=>by rw[CJ] at h;exact .tup hb (VRs.flat h t)
 |_,_,h,.lst _ _ _ _=>by simp[CJ] at h
 |_,_,h,.ref _ _=>by simp[CJ] at h
 |_,_,h,.scrK _=>by simp[CJ] at h
 |_,_,h,.scrR _ _=>by simp[CJ] at h
 |_,_,h,.emp _ _ _=>by simp[CJ] at h
 |_,_,h,.dref _ _=>by simp[CJ] at h
 |_,_,h,.dcf _ _ _=>by simp[CJ] at h
theorem VRs.flat:∀{v:List V} {d:List D},Du d=true->VRs Γ μ H v d->VRs Γ' μ' H v d
 |_,_,_,.nil=>.nil
 |_,_,h,.cons r t=>by
  rw[Du,U0s] at h
  exact .cons (VR.flat h.1 r) (VRs.flat h.2 t)
end
mutual
theorem Ru{k:Nat}{S:Store}:∀{d e:D},den k S d=some e->Bx e=true
 |.tup ds,e,h=>by
  rw[den] at h
  obtain⟨es,e1,e2⟩:=map_some h
  subst e2
  rw[Bx];exact N6 e1
 |.lst m ds,e,h=>by
  rw[den] at h
  obtain⟨es,e1,e2⟩:=map_some h
  subst e2
  rw[Bx];exact N6 e1
 |.ref i,e,h=>by
  rw[den] at h
  by_cases hk:i<k
  .rw[if_pos hk] at h;cases h
  .rw[if_neg hk] at h
   split at h
   .rename_i ds hd
    by_cases hp:Bh ds=true
    .rw[if_pos hp] at h;cases h;rw[Bx];exact hp
    .rw[if_neg hp] at h;cases h
   .cases h
 |.non,e,h=>by rw[den] at h;cases h;rfl
 |.bl _,e,h=>by rw[den] at h;cases h;rfl
 |.int _,e,h=>by rw[den] at h;cases h;rfl
 |.str _,e,h=>by rw[den] at h;cases h;rfl
 |.ty _,e,h=>by rw[den] at h;cases h;rfl
 |.scr _,e,h=>by rw[den] at h;cases h;rfl
 |.emp,e,h=>by rw[den] at h;cases h;rfl
 |.dref i,e,h=>by
  rw[den] at h
  by_cases hk:i<k
  .rw[if_pos hk] at h;cases h
  .rw[if_neg hk] at h
   split at h
   .cases h;rfl
   .cases h
 |.dcf _,e,h=>by rw[den] at h;cases h;rfl
 |.dcm _,e,h=>by rw[den] at h;cases h
theorem N6{k:Nat}{S:Store}:∀{d e:List D},DK k S d=some e->Bh e=true
 |[],e,h=>by rw[DK] at h;cases h;rfl
 |d::r,e,h=>by
  rw[DK] at h
  obtain⟨x,e1,h⟩:=bind_some h
  obtain⟨xs,e2,h⟩:=bind_some h
  cases h
  rw[Bh,Ru e1,N6 e2];rfl
end
end
end VS
end
section
namespace VS
open PySem PySem.Spec L2
abbrev Ef:=List D->Option D
abbrev Kz:=List Int->List D->Option (D×List Int)
def intsOf:List D->Option (List Int)
 |[]=>some []
 |.int i::r=>(intsOf r).map (i::·)
 |_=>none
theorem IK:∀{ds:List D} {ns:List Int},intsOf ds=some ns->ds=ns.map D.int
 |[],_,h=>by cases h;rfl
 |.int i::r,ns,h=>by
  obtain⟨ms,e1,e2⟩:=map_some h
  subst e2
  rw[U0r,IK e1]
 |.non::_,_,h=>by cases h
 |.bl _::_,_,h=>by cases h
 |.str _::_,_,h=>by cases h
 |.ty _::_,_,h=>by cases h
 |.tup _::_,_,h=>by cases h
 |.lst _ _::_,_,h=>by cases h
 |.ref _::_,_,h=>by cases h
 |.scr _::_,_,h=>by cases h
 |.emp::_,_,h=>by cases h
 |.dref _::_,_,h=>by cases h
 |.dcf _::_,_,h=>by cases h
 |.dcm _::_,_,h=>by cases h
@[simp] theorem Jv(ns:List Int):intsOf (ns.map D.int)=some ns:=by
 induction ns with
 |nil=>rfl
 |cons n r ih=>rw[U0r,intsOf,ih];rfl
def Fy(np n:Nat)(f:Bb):Ef:=fun ds=>if ds.length=np then (f (ds.map some++U0w (n-ds.length) none) []).bind fun p=>match p.1 with|.ret d=>den 0 p.2.2 d|.nx=>some .non|_=>none else none
def runM(np n:Nat)(f:Bb):Kz:=fun ns ds=>if ds.length+1=np then (f (some (.ref 0)::(ds.map some++U0w (n-1-ds.length) none)) [some (ns.map D.int)]).bind fun p=>match p.2.2[0]? with
 |some (some cs)=>(intsOf cs).bind fun ms=>(match p.1 with|.ret d=>(den 1 p.2.2 d).map fun r=>(r,ms)|.nx=>some (.non,ms)|_=>none)
 |_=>none
 else none
def spP(K:U0b)(sem:Ef)(n:Nat):Sp:=fun vs H Q _=>∃(N:Addr->Prop)(ds:List D)(r:D),vs.length=n/\VRs ⟨K,H,N,[]⟩ [] H vs ds/\sem ds=some r/\∀v H',Same H H'->VR ⟨K,H,N,[]⟩ [] H' v r->Q v H'
def spM(K:U0b)(sem:Kz)(n:Nat):Sp:=fun vs H Q _=>∃(N:Addr->Prop)(a:Addr)(us:List V)(ns:List Int)(ds:List D)(r:D)(ms:List Int),vs=.ref a::us/\vs.length=n/\H a=some (.lst (ns.map V.int))/\VRs ⟨K,H,N,[a]⟩ [some a] H us ds/\sem ns ds=some (r,ms) /\
 ∀v H',(∀b o,b≠a->H b=some o->H' b=some o)->H' a=some (.lst (ms.map V.int))->VR ⟨K,H,N,[a]⟩ [some a] H' v r->Q v H'
section
variable{P:Program}{w:World}{K:U0b}{mg:Str->Option Value}{base:Heap}
theorem Uo{N:List Str}{vs:List V}{ds:List D}{Γ:Fr}{μ:Mu}{H:Hp}(r:VRs Γ μ H vs ds){i:Nat}{d:D}{n:Nat}(h:(ds.map some++U0w n none:Env)[i]?=some (some d)):∃v,(vs.map some++U0w (N.length-vs.length) none:St)[i]?=some (some v)/\VR Γ μ H v d:=by
 have hi:i<ds.length:=by
  by_cases hi:i<ds.length
  .exact hi
  .rw[U1h (by simpa using hi),U4p] at h
   split at h<;>cases h
 rw[U04 (by simpa using hi),U0y] at h
 have h2:ds[i]?=some d:=by
  cases q:ds[i]? with
  |none=>rw[q] at h;cases h
  |some e=>rw[q] at h;cases h;rfl
 obtain⟨v,e1,e2⟩:=r.get h2
 refine⟨v,?_,e2⟩
 rw[U04 (by rw[U0f,r.length];exact hi),U0y,e1]
 rfl
theorem Ii{a:Addr}:¬CZ [] a:=fun z=>by simp[CZ] at z
theorem Oh{a b:Addr}:CZ [some b] a↔a=b:=by simp[CZ]
theorem fnP{x qual:Str}{st:Stmt}{f:Addr}{fd:FuncData}{N ps:List Str}{k:Nat}{fs:Bb}(F:Fun K x qual st f fd)(Sc:CW N ps (Aq st))
  (hb:∀(cdv:Value)(A:Around)(outer:List PySem.Env)(s:Shared)(H:Hp)(E:XK),Em k (A.deeper (PyProof.Rows.envOfC qual (Aq st) s.heap.objs.size f cdv))->JSs (PL CX0 P w K mg base N qual (Aq st) f cdv A outer s H E).nox (CG st) fs) :
  Cy P w K mg base CX0 (k+1) f fd ps (spP K (Fy ps.length N.length fs) ps.length):=by
 refine F.ok Sc (fun vs H Q E h=>?_) (fun cdv A outer s H vs Q E hr h=>?_)
 .obtain⟨_,_,_,hl,_⟩:=h;exact hl
 obtain⟨Nn,ds,r,hl,rs,e,q⟩:=h
 refine⟨_,(hb cdv A outer s H E hr).ps,?_⟩
 have hdl:=rs.length
 unfold Fy at e
 rw[if_pos (by omega)] at e
 obtain⟨⟨fl,env',S'⟩,e1,e⟩:=bind_some e
 have hpl:ps.length<=N.length:=by have:=congrArg U3r Sc.pre;rw[U1i] at this;omega
 refine⟨⟨K,H,Nn,[]⟩,[],_,[],fl,env',S',rfl,⟨fun i d h=>Uo rs h,?_,fun i ds h=>by simp at h,fun i a h=>by simp at h,fun i j a h=>by simp at h,rfl,Ext.refl _ _,fun i a _ h=>by simp at h⟩,e1,fun μ' σ' H' x' R'=>?_⟩
 .unfold L2.start
  rw[U0h,U0f,U11,U0h,U0f,U11,hdl]
 have sm:Same H H':=fun b o hb=>(x'.keep b o hb Ii).1
 dsimp only at e
 cases fl with
 |nx=>cases e;exact q _ H' sm .non
 |brk=>cases e
 |cnt=>cases e
 |ret d =>
  intro v rv
  refine q v H' sm (VR.den R' rfl (fun i ds a _ hs=>⟨hs,fun hm=>⟨Ii,?_⟩⟩) (fun m a _ o=>o) (fun a o _ _=>Ii) rv e)
  have hn:=R'.new i a (U3f _) hm
  exact⟨fun _=>hn,.inr hn⟩
theorem fnM{x qual:Str}{st:Stmt}{f:Addr}{fd:FuncData}{N ps:List Str}{k:Nat}{fs:Bb}(F:Fun K x qual st f fd)(Sc:CW N ps (Aq st))
  (hb:∀(cdv:Value)(A:Around)(outer:List PySem.Env)(s:Shared)(H:Hp)(E:XK),Em k (A.deeper (PyProof.Rows.envOfC qual (Aq st) s.heap.objs.size f cdv))->JSs (PL CX0 P w K mg base N qual (Aq st) f cdv A outer s H E).nox (CG st) fs) :
  Cy P w K mg base CX0 (k+1) f fd ps (spM K (runM ps.length N.length fs) ps.length):=by
 refine F.ok Sc (fun vs H Q E h=>?_) (fun cdv A outer s H vs Q E hr h=>?_)
 .obtain⟨_,_,_,_,_,_,_,_,hl,_⟩:=h;exact hl
 obtain⟨Nn,a,us,ns,ds,r,ms,rfl,hl,ha,rs,e,q⟩:=h
 refine⟨_,(hb cdv A outer s H E hr).ps,?_⟩
 have hdl:=rs.length
 rw[U0e] at hl
 unfold runM at e
 rw[if_pos (by omega)] at e
 obtain⟨⟨fl,env',S'⟩,e1,e⟩:=bind_some e
 have hpl:ps.length<=N.length:=by have:=congrArg U3r Sc.pre;rw[U1i] at this;omega
 refine⟨⟨K,H,Nn,[a]⟩,[some a],_,[some (ns.map D.int)],fl,env',S',rfl,⟨fun i d h=>?_,?_,fun i es h=>?_,fun i b h=>?_,fun i j b h1 h2=>?_,rfl,Ext.refl _ _,fun i b hi h=>?_⟩,e1,fun μ' σ' H' x' R'=>?_⟩
 .cases i with
  |zero =>
   simp at h
   subst h
   refine⟨.ref a,by simp[L2.start],.ref (by simp) fun b hb=>?_⟩
   simp at hb;rw[←hb];exact⟨rfl,⟨_,ha⟩⟩
  |succ i =>
   rw[List.getElem?_cons_succ] at h
   obtain⟨v,e1,e2⟩:=Uo (N:=U0w (N.length-1) "") rs h
   refine⟨v,?_,e2⟩
   unfold L2.start
   rw[U0r,U18,List.getElem?_cons_succ,U0e]
   rw[U11] at e1
   rw[show N.length-(us.length+1)=N.length-1-us.length by omega]
   exact e1
 .unfold L2.start
  rw[U0h,U0f,U11,U0e,U0e,U0h,U0f,U11,hdl]
  omega
 .cases i with
  |zero=>simp at h;subst h;exact⟨a,by simp,.inl ⟨_,ha,VRs.ints ns⟩⟩
  |succ i=>simp at h
 .cases i with
  |zero=>exact⟨_,rfl⟩
  |succ i=>simp at h
 .cases i with
  |zero=>cases j with
   |zero=>rfl
   |succ j=>simp at h2
  |succ i=>simp at h1
 .cases i with
  |zero=>simp at hi
  |succ i=>simp at h
 have sm:∀b o,b≠a->H b=some o->H' b=some o:=fun b o hb h=>(x'.keep b o h fun z=>hb (Oh.mp z)).1
 dsimp only at e
 split at e
 .rename_i cs hc
  obtain⟨ms',e3,e5⟩:=bind_some e
  clear e
  obtain⟨a',g1,gc⟩:=R'.sto 0 cs hc
  obtain⟨xs',g2,g3⟩:∃xs,H' a'=some (.lst xs)/\VRs _ μ' H' xs cs:=by
   rcases gc with z|⟨kvs,q,_⟩
   .exact z
   .rw[q] at e3;cases e3
  have ea:a'=a:=by
   have:=x'.ids 0 a' (by simp) g1
   simp at this;exact this.symm
  subst ea
  have ec:=IK e3
  subst ec
  have ex:=g3.Qa
  subst ex
  cases fl with
  |nx=>cases e5;exact q _ H' sm g2 .non
  |brk=>cases e5
  |cnt=>cases e5
  |ret d =>
   intro v rv
   dsimp only at e5
   obtain⟨r',e4,e6⟩:=map_some e5
   cases e6
   refine q v H' sm g2 (VR.den R' rfl (fun i es b hi hs=>⟨hs,fun hm=>⟨fun z=>?_,?_⟩⟩) (fun m b _ o=>o) (fun b o _ n z=>n ?_) rv e4)
   .have:b=a':=Oh.mp z
    subst this
    have:=R'.inj 0 i b g1 hm
    omega
   .have hn:=R'.new i b hi hm
    exact⟨fun _=>hn,.inr hn⟩
   .have:b=a':=Oh.mp z
    subst this
    exact U2e g1
 .cases e
end
theorem Ea{np n:Nat}{f:Bb}{ds:List D}{r:D}(h:Fy np n f ds=some r):ds.length=np/\Bx r=true:=by
 unfold Fy at h
 by_cases hl:ds.length=np
 .rw[if_pos hl] at h
  obtain⟨⟨fl,env',S'⟩,e1,e⟩:=bind_some h
  refine⟨hl,?_⟩
  dsimp only at e
  cases fl with
  |nx=>cases e;rfl
  |brk=>cases e
  |cnt=>cases e
  |ret d=>exact Ru e
 .rw[if_neg hl] at h;cases h
theorem O1{np n:Nat}{f:Bb}{ns:List Int}{ds:List D}{r:D×List Int}(h:runM np n f ns ds=some r):ds.length+1=np/\Bx r.1=true:=by
 unfold runM at h
 by_cases hl:ds.length+1=np
 .rw[if_pos hl] at h
  obtain⟨⟨fl,env',S'⟩,e1,e⟩:=bind_some h
  refine⟨hl,?_⟩
  dsimp only at e
  split at e
  .rename_i cs hc
   obtain⟨ms',e3,e⟩:=bind_some e
   cases fl with
   |nx=>cases e;rfl
   |brk=>cases e
   |cnt=>cases e
   |ret d =>
    dsimp only at e
    obtain⟨r',e4,e⟩:=map_some e
    cases e
    exact Ru e4
  .cases e
 .rw[if_neg hl] at h;cases h
end VS
end
section
namespace VS
open PySem PySem.Spec L2
structure Ck(P:Program)(w:World)(K:U0b)(mg:Str->Option Value)(base:Heap)(x:Str)(k:Nat)(sem:Ef):Prop where
 cal:∃ps,Cal P w K mg base x k ps (spP K sem ps.length)/\∀ds r,sem ds=some r->ds.length=ps.length/\Bx r=true
structure Jb(P:Program)(w:World)(K:U0b)(mg:Str->Option Value)(base:Heap)(x:Str)(k:Nat)(sem:Kz):Prop where
 cal:∃ps,Cal P w K mg base x k ps (spM K sem ps.length)/\∀ns ds r,sem ns ds=some r->ds.length+1=ps.length/\Bx r.1=true
def Ao(sem:Ef)(a:Bl):BP:=fun env S=>(a env S).bind fun p=>(DK 0 p.2 p.1).bind fun ds=>(sem (Cr ds)).bind fun r=>if (Bh p.1||newD r)=true then some (r,p.2) else none
def Ay(sem:Kz)(a:Bl):BP:=fun env S=>(a env S).bind fun p=>match p.1 with
 |.ref i::rest=>(match p.2[i]? with
  |some (some cs)=>(intsOf cs).bind fun ns=>(DK 0 (p.2.set i none) rest).bind fun ds=>(sem ns (Cr ds)).bind fun r=>if (Bh rest||newD r.1)=true then some (r.1,p.2.set i (some (r.2.map D.int))) else none
  |_=>none)
 |_=>none
def Vc(n:Nat):List D->Option (List D×List D)
 |[]=>none
 |d::r=>if CJ d=true then (Vc n r).map fun p=>(d::p.1,p.2) else match d with
  |.lst true ds=>if (Du ds&&Du r)=true then some (.ref n::r,ds) else none
  |_=>none
def O8(n:Nat):D->Option (D×List D)
 |.lst true ds=>if Du ds=true then some (.ref n,ds) else none
 |.tup es=>(Vc n es).map fun p=>(.tup p.1,p.2)
 |_=>none
def Ih(sem:Ef)(a:Bl):BP:=fun env S=>(Ao sem a env S).bind fun p=>(O8 p.2.length p.1).bind fun q=>some (q.1,p.2++[some q.2])
section
variable{Γ:Fr}{μ:Mu}{σ:St}{H H':Hp}{env:Env}{S:Store}
theorem lend{K:U0b}(hK:Γ.K=K)(R:Rep Γ μ σ H env S){S0:Store}{m0:List Addr}{vs:List V}{ds es:List D}(r:VRs Γ μ H vs ds)(e:DK 0 S0 ds=some es)(h0:∀(i:Nat)(ds:List D)(a:Addr),S0[i]?=some (some ds)->S[i]?=some (some ds)/\(μ[i]?=some (some a)->¬CZ (m0.map some) a))(hm:∀a∈m0,CZ μ a)
  (c:Bool) (hc:(Bh ds||c)=true):∃N:Addr->Prop,VRs ⟨K,H,N,m0⟩ (m0.map some) H vs (Cr es)/\(c=true∨∀a,N a->¬CZ μ a/\(Γ.N a∨Γ.H0 a=none)):=by
 subst hK
 have hl:∀a o,H a=some o->¬CZ μ a->¬CZ (m0.map some) a:=fun a o _ n z=>n (hm a (by simpa [CZ] using z))
 by_cases hp:Bh ds=true
 .rw[CN 0 S0 hp] at e
  cases e
  exact⟨fun a=>¬CZ μ a/\(Γ.N a∨Γ.H0 a=none),VRs.age (Γ:=Γ) (Γ':=⟨Γ.K,H,fun a=>¬CZ μ a/\(Γ.N a∨Γ.H0 a=none),m0⟩) rfl (fun a n o=>⟨n,o⟩) hl hp r,.inr fun a z=>z⟩
 .have hc':c=true:=by simpa [hp] using hc
  refine⟨fun _=>True,?_,.inl hc'⟩
  have r1:VRs ⟨Γ.K,fun _=>none,fun _=>True,m0⟩ (m0.map some) H vs es:=VRs.den (Γ':=⟨Γ.K,fun _=>none,fun _=>True,m0⟩) R rfl (fun i ds a _ hs=>⟨(h0 i ds a hs).1,fun z=>⟨(h0 i ds a hs).2 z,⟨fun _=>rfl,.inl trivial⟩⟩⟩) (fun m a _ _=>⟨fun _=>rfl,.inl trivial⟩) hl r e
  exact VRs.age (Γ:=⟨Γ.K,fun _=>none,fun _=>True,m0⟩) (Γ':=⟨Γ.K,H,fun _=>True,m0⟩) (μ:=m0.map some) rfl (fun a _ _=>trivial) (fun a o _ n=>n) (N6 e) r1
theorem home{K:U0b}(hK:Γ.K=K)(R:Rep Γ μ σ H env S){N:Addr->Prop}{m0:List Addr}{v:V}{r:D}(lv:∀a,CZ μ a->IsL H' a∨IsK H' a)(hp:Bx r=true)(c:newD r=true∨∀a,N a->¬CZ μ a/\(Γ.N a∨Γ.H0 a=none))
  (rv:VR ⟨K,H,N,m0⟩ (m0.map some) H' v r):VR Γ μ H' v r:=by
 subst hK
 rcases c with c|c
 .exact VR.new (fun a xs n o hb=>⟨R.ok (o.1 rfl) true,R.dead (o.1 rfl)⟩) c rv
 .refine VR.pure (Γ:=⟨Γ.K,H,N,m0⟩) (Γ':=Γ) rfl (fun m a xs n o hb=>?_) (fun a o hb n hx hy z=>?_) hp rv
  .rcases o.2 with z|z
   .refine⟨⟨fun hm=>R.fresh (o.1 hm),(c a z).2⟩,(c a z).1⟩
   .exact⟨R.ok z m,R.dead z⟩
  .rcases lv a z with ⟨xs,q⟩|⟨xs,q⟩
   .rw[q] at hb
    exact hx xs (U00 hb).symm
   .rw[q] at hb
    exact hy xs (U00 hb).symm
theorem Rep.adopt(R:Rep Γ μ σ H env S)(sm:Same H H'){a:Addr}{xs:List V}{ds:List D}(hn:H a=none)(ha:H' a=some (.lst xs))(hf:Du ds=true){Γ':Fr}{μ':Mu}(rs:VRs Γ' μ' H' xs ds) :
  Rep Γ (μ++[some a]) σ H' env (S++[some ds])/\Ext μ H (μ++[some a]) H':=by
 have ne:∀b o,H b=some o->b≠a:=fun b o h z=>by rw[z,hn] at h;cases h
 have x:Ext μ H (μ++[some a]) H':=by
  refine⟨fun b o h n=>⟨sm b o h,fun z=>?_⟩,fun b ys h=>sm b _ h,fun b h=>sm.free h,fun i b hi h=>?_,by rw[U0h];omega,fun b _ ⟨ys,h⟩=>⟨ys,sm b _ h⟩,fun b _ ⟨ys,h⟩=>⟨ys,sm b _ h⟩⟩
  .rcases U1e.mp z with z|z
   .exact n z
   .have z':b=a:=by simpa using z
    exact ne b o h z'
  .rw[U04 hi] at h;exact h
 have idx:∀i b,(μ++[some a])[i]?=some (some b)->(i<μ.length/\μ[i]?=some (some b))∨(i=μ.length/\b=a):=fun i b h=>by
  by_cases hi:i<μ.length
  .rw[U04 hi] at h;exact .inl ⟨hi,h⟩
  .rw[U1h (by omega)] at h
   have hl:=(U0k.mp h).1
   have hi':i=μ.length:=by simp at hl;omega
   subst hi'
   simp at h
   exact .inr ⟨rfl,h.symm⟩
 have no:∀i,μ[i]?=some (some a)->False:=fun i h=>R.dead hn (U2e h)
 refine⟨⟨fun i d h=>?_,R.len,fun i es h=>?_,fun i b h=>?_,fun i j b h1 h2=>?_,by rw[U0h,U0h,R.slen];rfl,R.ent.trans x,fun i b hi h=>?_⟩,x⟩
 .obtain⟨v,h1,h2⟩:=R.vals i d h
  exact⟨v,h1,h2.ext x⟩
 .by_cases hi:i<S.length
  .rw[U04 hi] at h
   obtain⟨b,h1,h2⟩:=R.sto i es h
   exact⟨b,by rw[U04 (by rw[←R.slen];exact hi)];exact h1,h2.to x fun o q=>sm _ _ q⟩
  .rw[U1h (by omega)] at h
   have hl:=(U0k.mp h).1
   have hi':i=S.length:=by simp at hl;omega
   subst hi'
   simp at h
   subst h
   exact⟨a,by rw[R.slen];simp,.inl ⟨xs,ha,VRs.flat hf rs⟩⟩
 .rcases idx i b h with ⟨hi,h⟩|⟨rfl,rfl⟩
  .obtain⟨ds',q⟩:=R.liv i b h
   exact⟨ds',by rw[U04 (by rw[R.slen];exact hi)];exact q⟩
  .exact⟨ds,by rw[←R.slen];simp⟩
 .rcases idx i b h1 with ⟨_,g1⟩|⟨e1,e2⟩
  .rcases idx j b h2 with ⟨_,g2⟩|⟨e3,e4⟩
   .exact R.inj i j b g1 g2
   .exact(no i (e4 ▸ g1)).elim
  .rcases idx j b h2 with ⟨_,g2⟩|⟨e3,_⟩
   .exact(no j (e2 ▸ g2)).elim
   .rw[e1,e3]
 .rcases idx i b h with ⟨_,h⟩|⟨rfl,rfl⟩
  .exact R.new i b hi h
  .exact R.fresh hn
end
theorem W8{Γ:Fr}{μ:Mu}{H:Hp}{n:Nat}:∀{vs:List V} {ds:List D} {p:List D×List D},Vc n ds=some p->VRs Γ μ H vs ds ->
  ∃a xs,Γ.Ok true a/\H a=some (.lst xs)/\VRs Γ μ H xs p.2/\Du p.2=true/\∀(Γ':Fr)(μ':Mu),μ'[n]?=some (some a)->VRs Γ' μ' H vs p.1
 |_,[],_,h,_=>by cases h
 |_,d::r,p,h,.cons (xs:=vr) rd rr=>by
  unfold Vc at h
  by_cases hf:CJ d=true
  .rw[if_pos hf] at h
   obtain⟨q,e1,e2⟩:=map_some h
   subst e2
   obtain⟨a,xs,h1,h2,h3,h4,h5⟩:=W8 e1 rr
   exact⟨a,xs,h1,h2,h3,h4,fun Γ' μ' z=>.cons (VR.flat hf rd) (h5 Γ' μ' z)⟩
  .rw[if_neg hf] at h
   split at h
   .rename_i ds
    by_cases hg:(Du ds&&Du r)=true
    .rw[if_pos hg] at h
     cases h
     rw[U0s] at hg
     cases rd with
     |@lst _ a xs _ o nl hb t =>
      refine⟨a,xs,o,hb,t,hg.1,fun Γ' μ' z=>.cons (.ref (U0k.mp z).1 fun b hb'=>?_) (VRs.flat hg.2 rr)⟩
      rw[z] at hb';cases hb';exact⟨rfl,⟨_,hb⟩⟩
    .rw[if_neg hg] at h;cases h
   .cases h
theorem gY{Γ:Fr}{μ:Mu}{H:Hp}{n:Nat}{v:V}{d:D}{p:D×List D}(h:O8 n d=some p)(r:VR Γ μ H v d) :
  ∃a xs,Γ.Ok true a/\H a=some (.lst xs)/\VRs Γ μ H xs p.2/\Du p.2=true/\∀(Γ':Fr)(μ':Mu),μ'[n]?=some (some a)->VR Γ' μ' H v p.1:=by
 unfold O8 at h
 split at h
 .rename_i ds
  by_cases hg:Du ds=true
  .rw[if_pos hg] at h
   cases h
   cases r with
   |@lst _ a xs _ o nl hb t =>
    refine⟨a,xs,o,hb,t,hg,fun Γ' μ' z=>.ref (U0k.mp z).1 fun b hb'=>?_⟩
    rw[z] at hb';cases hb';exact⟨rfl,⟨_,hb⟩⟩
  .rw[if_neg hg] at h;cases h
 .rename_i es
  obtain⟨q,e1,e2⟩:=map_some h
  subst e2
  cases r with
  |@tup b xs _ hb t =>
   obtain⟨a,ys,h1,h2,h3,h4,h5⟩:=W8 e1 t
   exact⟨a,ys,h1,h2,h3,h4,fun Γ' μ' z=>.tup hb (h5 Γ' μ' z)⟩
 .cases h
section
variable{X:Cx}{x:Str}{k k':Nat}{e:Expr}{es:List Expr}{f:Bl}{p pos:Pos}
theorem Bg{sem:Ef}(c:Ck X.prog X.w X.K X.mg X.base x k sem)(hr:Em k' X.A)(hk:k<=k')(hg:Gl X x)(ha:JA X (e::es) f)
  (hdb:(x==("__debug__":Str))=false:=by decide) (he:starEach (e::es) X.env=(false,eval e X.env)::starEach es X.env:=by rfl) (hpl:(backTo pos (starEach es X.env)).any (·.1)=false:=by rfl) :
  JE X (.Call (.Name x p) (e::es) [] pos) (Ao sem f):=by
 obtain⟨ps,c,hok⟩:=c.cal
 refine⟨PE.imp (Rc c hr hk hg ha.pa hdb he hpl) fun σ H Q h=>?_⟩
 obtain⟨Γ,μ,env,S,d,S',hK,R,e,q⟩:=h
 obtain⟨⟨as,S1⟩,e1,e⟩:=bind_some e
 obtain⟨ds,e2,e⟩:=bind_some e
 obtain⟨r,e3,e⟩:=bind_some e
 refine⟨Γ,μ,env,S,as,S1,hK,R,e1,fun vs μ1 H1 x1 R1 r1=>?_⟩
 show spP X.K sem ps.length (vs++[]) H1 Q E0
 rw[U1k]
 dsimp only at e e2
 by_cases hc:(Bh as||newD r)=true
 .rw[if_pos hc] at e
  cases e
  obtain⟨hl,hp⟩:=hok _ _ e3
  obtain⟨N,rs,cN⟩:=lend hK R1 (m0:=[]) r1 e2 (fun i ds a hs=>⟨hs,fun _=>Ii⟩) (fun a z=>by simp at z) (newD d) hc
  refine⟨N,_,d,?_,rs,e3,fun v H' sm rv=>?_⟩
  .rw[rs.length,hl]
  obtain⟨R2,x2⟩:=R1.grow sm
  exact q v μ1 H' (x1.trans x2) R2 (home hK R1 (fun a z=>R2.live z) hp cN rv)
 .rw[if_neg hc] at e;cases e
theorem Rk{sem:Ef}(c:Ck X.prog X.w X.K X.mg X.base x k sem)(hr:Em k' X.A)(hk:k<=k')(hg:Gl X x)(ha:JA X (e::es) f)
  (hdb:(x==("__debug__":Str))=false:=by decide) (he:starEach (e::es) X.env=(false,eval e X.env)::starEach es X.env:=by rfl) (hpl:(backTo pos (starEach es X.env)).any (·.1)=false:=by rfl) :
  JE X (.Call (.Name x p) (e::es) [] pos) (Ih sem f):=by
 obtain⟨ps,c,hok⟩:=c.cal
 refine⟨PE.imp (Rc c hr hk hg ha.pa hdb he hpl) fun σ H Q h=>?_⟩
 obtain⟨Γ,μ,env,S,d,S',hK,R,e,q⟩:=h
 obtain⟨⟨d0,S0⟩,e0,e⟩:=bind_some e
 obtain⟨t,et,e⟩:=bind_some e
 cases e
 obtain⟨⟨as,S1⟩,e1,e⟩:=bind_some e0
 obtain⟨ds,e2,e⟩:=bind_some e
 obtain⟨r,e3,e⟩:=bind_some e
 refine⟨Γ,μ,env,S,as,S1,hK,R,e1,fun vs μ1 H1 x1 R1 r1=>?_⟩
 show spP X.K sem ps.length (vs++[]) H1 Q E0
 rw[U1k]
 dsimp only at e e2
 by_cases hc:(Bh as||newD r)=true
 .rw[if_pos hc] at e
  cases e
  obtain⟨hl,hp⟩:=hok _ _ e3
  obtain⟨N,rs,cN⟩:=lend hK R1 (m0:=[]) r1 e2 (fun i ds a hs=>⟨hs,fun _=>Ii⟩) (fun a z=>by simp at z) (newD d0) hc
  refine⟨N,_,d0,?_,rs,e3,fun v H' sm rv=>?_⟩
  .rw[rs.length,hl]
  obtain⟨a,xs,h1,h2,h3,h4,h5⟩:=gY et rv
  obtain⟨R2,x2⟩:=R1.adopt sm (h1.1 rfl) h2 h4 h3
  exact q v _ H' (x1.trans x2) R2 (h5 _ _ (by rw[R1.slen];simp))
 .rw[if_neg hc] at e;cases e
theorem Dc{sem:Kz}(c:Jb X.prog X.w X.K X.mg X.base x k sem)(hr:Em k' X.A)(hk:k<=k')(hg:Gl X x)(ha:JA X (e::es) f)
  (hdb:(x==("__debug__":Str))=false:=by decide) (he:starEach (e::es) X.env=(false,eval e X.env)::starEach es X.env:=by rfl) (hpl:(backTo pos (starEach es X.env)).any (·.1)=false:=by rfl) :
  JE X (.Call (.Name x p) (e::es) [] pos) (Ay sem f):=by
 obtain⟨ps,c,hok⟩:=c.cal
 refine⟨PE.imp (Rc c hr hk hg ha.pa hdb he hpl) fun σ H Q h=>?_⟩
 obtain⟨Γ,μ,env,S,d,S',hK,R,e,q⟩:=h
 obtain⟨⟨as,S1⟩,e1,e⟩:=bind_some e
 refine⟨Γ,μ,env,S,as,S1,hK,R,e1,fun vs μ1 H1 x1 R1 r1=>?_⟩
 show spM X.K sem ps.length (vs++[]) H1 Q E0
 rw[U1k]
 dsimp only at e
 split at e
 .rename_i i rest
  split at e
  .rename_i cs hcs
   obtain⟨ns,e4,e⟩:=bind_some e
   obtain⟨ds,e2,e⟩:=bind_some e
   obtain⟨⟨r,ms⟩,e3,e⟩:=bind_some e
   dsimp only at e
   by_cases hc:(Bh rest||newD r)=true
   .rw[if_pos hc] at e
    cases e
    obtain⟨hl,hp⟩:=hok _ _ _ e3
    have ecs:=IK e4
    subst ecs
    cases r1 with
    |@cons v0 _ us _ r0 rr =>
     obtain⟨a,xs,rfl,h1,h2,h3⟩:=VR.bw R1 r0 hcs
     have ex:=h3.Qa
     subst ex
     have hi:i<S1.length:=(U0k.mp hcs).1
     obtain⟨N,rs,cN⟩:=lend hK R1 (S0:=S1.set i none) (m0:=[a]) rr e2 (fun j es b hs=>by
      have hj:i≠j:=fun z=>by
       subst z
       rw[U27 hi] at hs;cases hs
      rw[U3g hj] at hs
      exact⟨hs,fun hm z=>hj (R1.inj i j a h1 (by rw[show a=b from (Oh.mp z).symm];exact hm))⟩) (fun b z=>by
       have:b=a:=by simpa using z
       rw[this];exact U2e h1) (newD d) hc
     refine⟨N,a,us,ns,_,d,ms,rfl,?_,h2,rs,e3,fun v H' sm ha' rv=>?_⟩
     .rw[U0e,rs.length,hl]
     obtain⟨R2,x2⟩:=R1.put h1 ⟨_,h2⟩ (VRs.ints ms)
     have sm2:Same (upd H1 a (.lst (ms.map V.int))) H':=fun b o hb=>by
      by_cases z:b=a
      .rw[z,Cg] at hb;cases hb;rw[z];exact ha'
      .rw[Bf z] at hb;exact sm b o z hb
     obtain⟨R3,x3⟩:=R2.grow sm2
     exact q v μ1 H' (x1.trans (x2.trans x3)) R3 (home hK R1 (fun a z=>R3.live z) hp cN rv)
   .rw[if_neg hc] at e;cases e
  .cases e
 .cases e
end
end VS
end
section
namespace VS
open PySem PySem.Spec L2
theorem OpR.or{X:Cx}{f:Value->Value->Sem Value}{r r':R2}(h:OpR X f r)(h':OpR X f r'):OpR X f (fun x y H Q=>r x y H Q∨r' x y H Q):=fun pins s σ H x y v u Q I rx ry q=>q.elim (fun z=>h pins s σ H x y v u Q I rx ry z) fun z=>h' pins s σ H x y v u Q I rx ry z
theorem Dv.or{X:Cx}{f:Value}{r r':List V->Hp->VK->Prop}(h:Dv X f r)(h':Dv X f r'):Dv X f (fun xs H Q=>r xs H Q∨r' xs H Q):=fun pins s σ H xs us Q I rs q=>q.elim (fun z=>h pins s σ H xs us Q I rs z) fun z=>h' pins s σ H xs us Q I rs z
def oI(c:Int->Int->Bool)(g:Int->Int->D)(_:Store):D->D->Option D
 |.int i,.int j=>if c i j=true then some (g i j) else none
 |_,_=>none
def Ie(_ _:Int):Bool:=true
theorem Yw{K:U0b}{C:Int->Int->Prop}{c:Int->Int->Bool}(g:Int->Int->Int)(hc:∀i j,c i j=true->C i j):Fg K (rI C fun i j=>.int (g i j)) (oI c fun i j=>.int (g i j)):=by
 intro Γ μ σ H env S x y dx dy d hK R rx ry e Q q
 unfold oI at e
 split at e
 .rename_i i j
  by_cases h:c i j=true
  .rw[if_pos h] at e;cases e;cases rx;cases ry
   exact⟨i,j,rfl,rfl,hc i j h,q _ H (Same.refl H) (.int _)⟩
  .rw[if_neg h] at e;cases e
 .cases e
theorem mL{K:U0b}(g:Int->Int->Int):Fg K (rI0 fun i j=>.int (g i j)) (oI Ie fun i j=>.int (g i j)):=by
 intro Γ μ σ H env S x y dx dy d hK R rx ry e Q q
 unfold oI at e
 split at e
 .rename_i i j
  rw[if_pos (show Ie i j=true from rfl)] at e;cases e;cases rx;cases ry
  exact⟨i,j,rfl,rfl,q _ H (Same.refl H) (.int _)⟩
 .cases e
theorem SN{K:U0b}(g:Int->Int->Bool):Fg K (rI0 fun i j=>.bl (g i j)) (oI Ie fun i j=>.bl (g i j)):=by
 intro Γ μ σ H env S x y dx dy d hK R rx ry e Q q
 unfold oI at e
 split at e
 .rename_i i j
  rw[if_pos (show Ie i j=true from rfl)] at e;cases e;cases rx;cases ry
  exact⟨i,j,rfl,rfl,q _ H (Same.refl H) (.bl _)⟩
 .cases e
def HW:=oI Ie fun i j=>.int (i-j)
def J7(i j:Int):Bool:=(decide (-(2^64)<i)&&decide (i<2^64))||(decide (-(2^64)<j)&&decide (j<2^64))
def Tv(_ j:Int):Bool:=decide (0<j)&&decide (j<2^64)
def Tt(_ j:Int):Bool:=decide (0<j)
def Nb(i j:Int):Bool:=decide (0<=j)&&decide (j<=1000000)&&decide (i.natAbs<2^64)
def oDiv:=oI Tv fun i j=>.int (i/j)
def oMod:=oI Tt fun i j=>.int (i%j)
def Fz:=oI Nb fun i j=>.int (i^j.toNat)
def oLt:=oI Ie fun i j=>.bl (decide (i<j))
def oLe:=oI Ie fun i j=>.bl (decide (i<=j))
def oGt:=oI Ie fun i j=>.bl (decide (j<i))
def oGe:=oI Ie fun i j=>.bl (decide (j<=i))
theorem Ny{K:U0b}:Fg K (rI0 fun i j=>.int (i-j)) HW:=mL _
theorem YH{K:U0b}:Fg K (rI (fun _ j=>0<j/\j<2^64) fun i j=>.int (i/j)) oDiv:=Yw _ fun i j h=>by simpa [Tv] using h
theorem Lp{K:U0b}:Fg K (rI (fun _ j=>0<j) fun i j=>.int (i%j)) oMod:=Yw _ fun i j h=>by simpa [Tt] using h
theorem K5{K:U0b}:Fg K (rI cR fun i j=>.int (i^j.toNat)) Fz:=Yw _ fun i j h=>by simpa [Nb,cR,and_assoc] using h
theorem SM{K:U0b}:Fg K (rI0 fun i j=>.bl (decide (i<j))) oLt:=SN _
theorem Zj{K:U0b}:Fg K (rI0 fun i j=>.bl (decide (i<=j))) oLe:=SN _
theorem Nm{K:U0b}:Fg K (rI0 fun i j=>.bl (decide (j<i))) oGt:=SN _
theorem Vr{K:U0b}:Fg K (rI0 fun i j=>.bl (decide (j<=i))) oGe:=SN _
def HX(_:Store):D->Option D
 |.int i=>some (.int (-i))
 |_=>none
theorem Nz{K:U0b}:m9 K (rU fun i=>.int (-i)) HX:=by
 intro Γ μ σ H env S x dx d hK R rx e Q q
 unfold HX at e
 split at e
 .cases e;cases rx;exact⟨_,rfl,q _ H (Same.refl H) (.int _)⟩
 .cases e
def Br(S:Store):D->D->Option D
 |.int i,.int j=>some (.int (i+j))
 |.tup a,.tup b=>if a.length+b.length<=1000000 then some (.tup (a++b)) else none
 |.str x,.str y=>if x.length+y.length<=1000000 then some (.str (x++y)) else none
 |x,y=>(listOf S x).bind fun a=>(listOf S y).bind fun b=>if a.length+b.length<=1000000 then some (.lst true (a++b)) else none
def fW:R2:=fun x y H Q=>∃(a b:Addr)(xs ys:List V),x=.ref a/\y=.ref b/\H a=some (.tup xs)/\H b=some (.tup ys)/\xs.length+ys.length<=sizeLine/\∀p H',Same H H'->H' p=some (.tup (xs++ys))->Q (.ref p) H'
def qQ:R2:=fun x y H Q=>∃i j,x=.str i/\y=.str j/\i.length+j.length<=sizeLine/\Q (.str (i++j)) H
def fX:R2:=fun x y H Q=>(rI0 fun i j=>.int (i+j)) x y H Q∨fW x y H Q∨qQ x y H Q∨lW x y H Q
theorem DY{X:Cx}:OpR X (binaryOp .Add) fX:=OpR.or nT (OpR.or jB (OpR.or ZK nR))
theorem DX{K:U0b}:Fg K fX Br:=by
 intro Γ μ σ H env S x y dx dy d hK R rx ry e Q q
 unfold Br at e
 split at e
 .cases e;cases rx;cases ry;exact .inl ⟨_,_,rfl,rfl,q _ H (Same.refl H) (.int _)⟩
 .rename_i a b
  by_cases h:a.length+b.length<=1000000
  .rw[if_pos h] at e;cases e
   cases rx with
   |@tup p xs _ hp rp =>
    cases ry with
    |@tup p2 ys _ hp2 rp2 =>
     refine .inr (.inl ⟨p,p2,xs,ys,rfl,rfl,hp,hp2,by rw[rp.length,rp2.length];exact U2r (big h),fun t H' sm ht=>?_⟩)
     obtain⟨R2,x2⟩:=R.grow sm
     exact q _ H' sm (.tup ht ((rp.append rp2).ext x2))
  .rw[if_neg h] at e;cases e
 .rename_i a b
  by_cases h:a.length+b.length<=1000000
  .rw[if_pos h] at e;cases e;cases rx;cases ry
   exact .inr (.inr (.inl ⟨_,_,rfl,rfl,U2r (big h),q _ H (Same.refl H) (.str _)⟩))
  .rw[if_neg h] at e;cases e
 .obtain⟨a,e1,e⟩:=bind_some e
  obtain⟨b,e2,e⟩:=bind_some e
  by_cases h:a.length+b.length<=1000000
  .rw[if_pos h] at e;cases e
   obtain⟨p,xs,rfl,hp,rp⟩:=VR.list R rx e1
   obtain⟨p2,ys,rfl,hp2,rp2⟩:=VR.list R ry e2
   refine .inr (.inr (.inr ⟨p,p2,xs,ys,rfl,rfl,hp,hp2,by rw[rp.length,rp2.length];exact U2r (big h),fun t ht=>?_⟩))
   obtain⟨R2,x2⟩:=R.grow (Dw ht (.lst (xs++ys)))
   exact q _ _ (Dw ht _) (.lst (R.ok ht true) (R.dead ht) Cg ((rp.append rp2).ext x2))
  .rw[if_neg h] at e;cases e
def Gk(S:Store):D->D->Option D
 |.int i,.int j=>if J7 i j=true then some (.int (i*j)) else none
 |.tup a,.int k=>if a≠[]/\1<=k/\k<2^60/\a.length*k.toNat<=1000000 then some (.tup (U0w k.toNat a).flatten) else none
 |x,.int k=>(listOf S x).bind fun a=>if -(2^63)<=k/\k<2^63/\a.length*k.toNat<=1000000 then some (.lst true (U0w k.toNat a).flatten) else none
 |_,_=>none
def fV:R2:=fun x y H Q=>(rI Vp fun i j=>.int (i*j)) x y H Q∨fU x y H Q∨lO x y H Q
theorem Hr{X:Cx}:OpR X (binaryOp .Mult) fV:=OpR.or nP (OpR.or j9 nM)
theorem Ho{K:U0b}:Fg K fV Gk:=by
 intro Γ μ σ H env S x y dx dy d hK R rx ry e Q q
 unfold Gk at e
 split at e
 .rename_i i j
  by_cases h:J7 i j=true
  .rw[if_pos h] at e;cases e;cases rx;cases ry
   exact .inl ⟨_,_,rfl,rfl,by simpa [J7,Vp] using h,q _ H (Same.refl H) (.int _)⟩
  .rw[if_neg h] at e;cases e
 .rename_i a k
  by_cases h:a≠[]/\1<=k/\k<2^60/\a.length*k.toNat<=1000000
  .rw[if_pos h] at e;cases e
   cases ry
   cases rx with
   |@tup p xs _ hp rp =>
    have hl:=rp.length
    refine .inr (.inl ⟨p,k,xs,rfl,rfl,hp,fun z=>h.1 (U23.mp (by rw[←hl,z];rfl)),h.2.1,h.2.2.1,by rw[hl];exact U2r (big h.2.2.2),fun t H' sm ht=>?_⟩)
    obtain⟨R2,x2⟩:=R.grow sm
    exact q _ H' sm (.tup ht ((rp.rep _).ext x2))
  .rw[if_neg h] at e;cases e
 .rename_i k _ _
  obtain⟨a,e1,e⟩:=bind_some e
  by_cases h:-(2^63)<=k/\k<2^63/\a.length*k.toNat<=1000000
  .rw[if_pos h] at e;cases e
   cases ry
   obtain⟨p,xs,rfl,hp,rp⟩:=VR.list R rx e1
   refine .inr (.inr ⟨p,k,xs,rfl,rfl,hp,h.1,h.2.1,by rw[rp.length];exact U2r (big h.2.2),fun t ht=>?_⟩)
   obtain⟨R2,x2⟩:=R.grow (Dw ht (.lst (U0w k.toNat xs).flatten))
   exact q _ _ (Dw ht _) (.lst (R.ok ht true) (R.dead ht) Cg ((rp.rep _).ext x2))
  .rw[if_neg h] at e;cases e
 .cases e
def oIx(S:Store):D->D->Option D
 |x,.int i=>(G9 S x).bind fun ds=>atI ds i
 |_,_=>none
theorem jk{Γ:Fr}{μ:Mu}{H:Hp}{xs:List V}{ds:List D}{i:Int}{d:D}(r:VRs Γ μ H xs ds)(h:atI ds i=some d):∃x,atI xs i=some x/\VR Γ μ H x d:=by
 unfold atI at h ⊢
 obtain⟨j,e1,e2⟩:=bind_some h
 obtain⟨x,f1,f2⟩:=r.get e2
 exact⟨x,by rw[r.length,e1];exact f1,f2⟩
theorem Az{K:U0b}:Fg K (rIx K) oIx:=by
 intro Γ μ σ H env S x y dx dy d hK R rx ry e Q q
 unfold oIx at e
 split at e
 .rename_i i
  obtain⟨ds,e1,e⟩:=bind_some e
  cases ry
  obtain⟨a,xs,rfl,hq,rs⟩:=VR.seq hK R rx e1
  obtain⟨v,f1,f2⟩:=jk rs e
  rcases hq with hq|hq
  .exact .inl ⟨a,xs,i,v,rfl,rfl,hq,f1,q _ H (Same.refl H) f2⟩
  .exact .inr (.inl ⟨a,xs,i,v,rfl,rfl,hq,f1,q _ H (Same.refl H) f2⟩)
 .cases e
def cut(xs:List D)(lo hi:Option Int):List D:=(xs.drop (HT.sIx xs.length 0 lo)).take (HT.sIx xs.length xs.length hi-HT.sIx xs.length 0 lo)
def oSl(S:Store)(x:D)(lo hi:Option Int):Option D:=match x with
 |.tup ds=>some (.tup (cut ds lo hi))
 |x=>(G9 S x).map fun ds=>.lst true (cut ds lo hi)
def lM:V->Option Int->Option Int->Hp->VK->Prop:=fun x lo hi H Q=>∃(a:Addr)(xs:List V),x=.ref a/\H a=some (.tup xs)/\∀p H',Same H H'->H' p=some (.tup (Jm xs lo hi))->Q (.ref p) H'
def lN(K:U0b):V->Option Int->Option Int->Hp->VK->Prop:=fun x lo hi H Q=>lM x lo hi H Q∨lK K x lo hi H Q
theorem MF{X:Cx}:SlR X (lN X.K):=SlR.or iB iC
theorem MJ{K:U0b}:gC K (lN K) oSl:=by
 intro Γ μ σ H env S x dx d l h hK R rx e Q q
 have key:∀{xs:List V} {ds:List D} {H':Hp},VRs Γ μ H' xs ds->VRs Γ μ H' (Jm xs l h) (cut ds l h):=fun r=>by
  unfold Jm cut
  rw[r.length]
  exact(r.drop _).take _
 unfold oSl at e
 split at e
 .cases e
  cases rx with
  |@tup p xs _ hp rp =>
   refine .inl ⟨p,xs,rfl,hp,fun t H' sm ht=>?_⟩
   obtain⟨R2,x2⟩:=R.grow sm
   exact q _ H' sm (.tup ht (key (rp.ext x2)))
 .rename_i ht
  obtain⟨ds,e1,e2⟩:=map_some e
  subst e2
  rcases VR.bh hK R rx e1 with ⟨es,z⟩|⟨a,xs,rfl,hq,rs⟩
  .exact absurd z (ht es)
  .refine .inr ⟨a,xs,rfl,hq,fun t htt=>?_⟩
   obtain⟨R2,x2⟩:=R.grow (Dw htt (.lst (Jm xs l h)))
   exact q _ _ (Dw htt _) (.lst (R.ok htt true) (R.dead htt) Cg (key (rs.ext x2)))
def K3(S:Store):List D->Option D
 |[x]=>(G9 S x).map fun ds=>.int ds.length
 |_=>none
theorem Qh{K:U0b}:M8 K (sS K) K3:=by
 intro Γ μ σ H env S xs ds d hK R rs e Q q
 unfold K3 at e
 split at e
 .obtain⟨es,e1,e2⟩:=map_some e
  subst e2
  obtain⟨v,rfl,r⟩:=rs.one
  obtain⟨a,xs,rfl,hq,rx⟩:=VR.seq hK R r e1
  refine⟨a,xs,rfl,hq,?_⟩
  rw[rx.length]
  exact q _ H (Same.refl H) (.int _)
 .cases e
def JX(S:Store):List D->Option D
 |[x]=>(listOf S x).bind fun ds=>(boolsOf ds).map fun bs=>.bl (bs.all id)
 |_=>none
where boolsOf:List D->Option (List Bool)
 |[]=>some []
 |.bl b::r=>(boolsOf r).map (b::·)
 |_=>none
@[simp] theorem Xz(bs:List Bool):JX.boolsOf (bs.map D.bl)=some bs:=by
 induction bs with
 |nil=>rfl
 |cons b r ih=>rw[U0r,JX.boolsOf,ih];rfl
theorem RP{Γ:Fr}{μ:Mu}{H:Hp}:∀{xs:List V} {ds:List D} {bs:List Bool},VRs Γ μ H xs ds->JX.boolsOf ds=some bs->xs=bs.map V.bl
 |_,[],_,.nil,h=>by cases h;rfl
 |_,.bl b::r,bs,.cons q t,h=>by
  rw[JX.boolsOf] at h
  obtain⟨cs,e1,e2⟩:=map_some h
  subst e2
  cases q
  rw[U0r,RP t e1]
 |_,.non::_,_,_,h=>by cases h
 |_,.int _::_,_,_,h=>by cases h
 |_,.str _::_,_,_,h=>by cases h
 |_,.ty _::_,_,_,h=>by cases h
 |_,.tup _::_,_,_,h=>by cases h
 |_,.lst _ _::_,_,_,h=>by cases h
 |_,.ref _::_,_,_,h=>by cases h
 |_,.scr _::_,_,_,h=>by cases h
 |_,.emp::_,_,_,h=>by cases h
def sW(K:U0b):List V->Hp->VK->Prop:=fun xs H Q=>∃(p:Addr)(bs:List Bool),xs=[.ref p]/\SqL K H p (bs.map V.bl)/\Q (.bl (bs.all id)) H
theorem U9{K:U0b}:M8 K (sW K) JX:=by
 intro Γ μ σ H env S xs ds d hK R rs e Q q
 unfold JX at e
 split at e
 .obtain⟨es,e1,e⟩:=bind_some e
  obtain⟨bs,e2,e3⟩:=map_some e
  subst e3
  obtain⟨v,rfl,r⟩:=rs.one
  obtain⟨a,xs,rfl,ha,rx⟩:=VR.list R r e1
  have:=RP rx e2
  subst this
  exact⟨a,bs,rfl,SqL.of ha,q _ H (Same.refl H) (.bl _)⟩
 .cases e
def Jp(_:Store):List D->Option D
 |[.int i,.int j]=>some (.int (if j>i then j else i))
 |_=>none
def Ft(_:Store):List D->Option D
 |[.int i,.int j]=>some (.int (if j<i then j else i))
 |_=>none
def OJ(_:Store):List D->Option D
 |[.int i]=>some (.int i)
 |[.bl k]=>some (.int (if k then 1 else 0))
 |_=>none
theorem Od{K:U0b}:M8 K (fun xs H Q=>∃i j,xs=[.int i,.int j]/\Q (.int (if j>i then j else i)) H) Jp:=by
 intro Γ μ σ H env S xs ds d hK R rs e Q q
 unfold Jp at e
 split at e
 .cases e
  obtain⟨v,u,rfl,r1,r2⟩:=rs.two
  cases r1;cases r2
  exact⟨_,_,rfl,q _ H (Same.refl H) (.int _)⟩
 .cases e
theorem Jd{K:U0b}:M8 K (fun xs H Q=>∃i j,xs=[.int i,.int j]/\Q (.int (if j<i then j else i)) H) Ft:=by
 intro Γ μ σ H env S xs ds d hK R rs e Q q
 unfold Ft at e
 split at e
 .cases e
  obtain⟨v,u,rfl,r1,r2⟩:=rs.two
  cases r1;cases r2
  exact⟨_,_,rfl,q _ H (Same.refl H) (.int _)⟩
 .cases e
theorem YG{K:U0b}:M8 K (fun xs H Q=>(∃i,xs=[.int i]/\Q (.int i) H)∨∃k,xs=[.bl k]/\Q (.int (if k then 1 else 0)) H) OJ:=by
 intro Γ μ σ H env S xs ds d hK R rs e Q q
 unfold OJ at e
 split at e
 .cases e
  obtain⟨v,rfl,r1⟩:=rs.one
  cases r1
  exact .inl ⟨_,rfl,q _ H (Same.refl H) (.int _)⟩
 .cases e
  obtain⟨v,rfl,r1⟩:=rs.one
  cases r1
  exact .inr ⟨_,rfl,q _ H (Same.refl H) (.int _)⟩
 .cases e
def M5:List Int->Option Int
 |[]=>none
 |n::r=>some (r.foldl (fun a b=>if a<b then b else a) n)
theorem jY(r:List Int):∀n:Int,(r.foldl (fun a b=>if a<b then b else a) n=n∨r.foldl (fun a b=>if a<b then b else a) n∈r)/\n<=r.foldl (fun a b=>if a<b then b else a) n/\∀m∈r,m<=r.foldl (fun a b=>if a<b then b else a) n:=by
 induction r with
 |nil=>intro n;exact⟨.inl rfl,U2n _,fun m h=>by simp at h⟩
 |cons x r ih =>
  intro n
  rw[U3k]
  by_cases h:n<x
  .rw[if_pos h]
   obtain⟨h1,h2,h3⟩:=ih x
   refine⟨.inr (by rcases h1 with z|z;(rw[z];exact U0p);exact U0n _ z),by omega,fun m hm=>?_⟩
   rcases U0q.mp hm with z|z
   .rw[z];exact h2
   .exact h3 m z
  .rw[if_neg h]
   obtain⟨h1,h2,h3⟩:=ih n
   refine⟨by rcases h1 with z|z;exact .inl z;exact .inr (U0n _ z),h2,fun m hm=>?_⟩
   rcases U0q.mp hm with z|z
   .rw[z];omega
   .exact h3 m z
theorem UW{ns:List Int}{m:Int}(h:M5 ns=some m):m∈ns/\∀n∈ns,n<=m:=by
 cases ns with
 |nil=>cases h
 |cons x r =>
  cases h
  obtain⟨h1,h2,h3⟩:=jY r x
  refine⟨by rcases h1 with z|z;(rw[z];exact U0p);exact U0n _ z,fun n hn=>?_⟩
  rcases U0q.mp hn with z|z
  .rw[z];exact h2
  .exact h3 n z
def cM(K:U0b)(r:List V->Hp->VK->Prop)(g:Store->List D->Option (List D)):Prop:=∀(Γ:Fr)(μ:Mu)(σ:St)(H:Hp)(env:Env)(S:Store)(xs:List V)(ds es:List D),Γ.K=K->Rep Γ μ σ H env S->VRs Γ μ H xs ds->g S ds=some es ->
 ∀Q:VK,(∀l ys,H l=none->VRs Γ μ H ys es->Q (.ref l) (upd H l (.lst ys)))->r xs H Q
def Oa(g:Store->List D->Option (List D))(a:Bl):BP:=fun env S=>(a env S).bind fun p=>(g p.2 p.1).map fun es=>(.lst true es,p.2)
theorem gK{K:U0b}{r:List V->Hp->VK->Prop}{g:Store->List D->Option (List D)}{f:Bl}(hs:cM K r g){σ:St}{H:Hp}{Q:VK}(h:wpE K (Oa g f) σ H Q):tCB r (wpA K f) σ H Q:=by
 obtain⟨Γ,μ,env,S,d,S',hK,R,e,q⟩:=h
 obtain⟨⟨x,S1⟩,e1,e⟩:=bind_some e
 obtain⟨z,e4,e⟩:=map_some e
 cases e
 refine⟨Γ,μ,env,S,x,S1,hK,R,e1,fun v1 μ1 H1 x1 R1 r1=>?_⟩
 refine hs Γ μ1 σ H1 env S1 v1 x _ hK R1 r1 e4 Q fun l ys hl ry=>?_
 obtain⟨R4,x4⟩:=R1.grow (Dw hl (.lst ys))
 exact q _ μ1 _ (x1.trans x4) R4 (.lst (R1.ok hl true) (R1.dead hl) Cg (ry.ext x4))
section
variable{X:Cx}{x:Str}{p pos:Pos}{e:Expr}{es:List Expr}{T:String}{f:Bl}{r:List V->Hp->VK->Prop}{g:Store->List D->Option (List D)}
theorem Yb(hc:Dv X (.type T) r)(hsm:cM X.K r g)(hg:Gl X x)(hm:X.mg x=none)(hv:bootBuiltins x=some (.type T))(ha:JA X (e::es) f)(hn:x≠"__name__":=by decide)(hdb:(x==("__debug__":Str))=false:=by decide)
  (he:starEach (e::es) X.env=(false,eval e X.env)::starEach es X.env:=by rfl) (hpl:(backTo pos (starEach es X.env)).any (·.1)=false:=by rfl):JE X (.Call (.Name x p) (e::es) [] pos) (Oa g f) :=
 ⟨PE.imp (Q8 hc hg hm hv ha.pa hn hdb he hpl) fun _ _ _ h=>gK hsm h⟩
end
def nList(S:Store):List D->Option (List D)
 |[x]=>G9 S x
 |_=>none
theorem WK{K:U0b}:cM K (iK K) nList:=by
 intro Γ μ σ H env S xs ds es hK R rs e Q q
 unfold nList at e
 split at e
 .obtain⟨v,rfl,r⟩:=rs.one
  obtain⟨a,ys,rfl,hq,ry⟩:=VR.seq hK R r e
  exact⟨a,ys,rfl,hq,fun l hl=>q l ys hl ry⟩
 .cases e
end VS
end
section
namespace VS
open PySem PySem.Spec L2
mutual
def toP:D->Option PyData
 |.non=>some .none
 |.bl b=>some (.bool b)
 |.int i=>some (.int i)
 |.str x=>some (.str x)
 |.tup ds=>(Gv ds).map .tuple
 |.lst _ ds=>(Gv ds).map .list
 |.emp=>some (.dict [])
 |.ref _=>none
 |.scr _=>none
 |.ty _=>none
 |.dref _=>none
 |.dcf _=>none
 |.dcm _=>none
def Gv:List D->Option (List PyData)
 |[]=>some []
 |d::r=>(toP d).bind fun x=>(Gv r).bind fun xs=>some (x::xs)
end
mutual
theorem VR.tr{Γ:Fr}{μ:Mu}{H:Hp}:∀{v:V} {d:D} {p:PyData},VR Γ μ H v d->toP d=some p->Tr (fun _=>True) H v p
 |_,_,_,.non,h=>by rw[toP] at h;cases h;exact .non
 |_,_,_,.bl b,h=>by rw[toP] at h;cases h;exact .bl b
 |_,_,_,.int i,h=>by rw[toP] at h;cases h;exact .int i
 |_,_,_,.str x,h=>by rw[toP] at h;cases h;exact .str x
 |_,_,_,.ty _,h=>by rw[toP] at h;cases h
 |_,_,_,.tup hb t,h=>by
  rw[toP] at h
  obtain⟨ps,e1,e2⟩:=map_some h
  subst e2
  exact .tup trivial hb (VRs.tr t e1)
 |_,_,_,.lst _ _ hb t,h=>by
  rw[toP] at h
  obtain⟨ps,e1,e2⟩:=map_some h
  subst e2
  exact .lst trivial hb (VRs.tr t e1)
 |_,_,_,.ref _ _,h=>by rw[toP] at h;cases h
 |_,_,_,.scrK _,h=>by rw[toP] at h;cases h
 |_,_,_,.scrR _ _,h=>by rw[toP] at h;cases h
 |_,_,_,.emp _ _ hb,h=>by rw[toP] at h;cases h;exact .dct trivial hb
 |_,_,_,.dref _ _,h=>by rw[toP] at h;cases h
 |_,_,_,.dcf _ _ _,h=>by rw[toP] at h;cases h
theorem VRs.tr{Γ:Fr}{μ:Mu}{H:Hp}:∀{v:List V} {d:List D} {p:List PyData},VRs Γ μ H v d->Gv d=some p->Jq (fun _=>True) H v p
 |_,_,_,.nil,h=>by rw[Gv] at h;cases h;exact .nil
 |_,_,_,.cons r t,h=>by
  rw[Gv] at h
  obtain⟨x,e1,h⟩:=bind_some h
  obtain⟨xs,e2,h⟩:=bind_some h
  cases h
  exact .cons (VR.tr r e1) (VRs.tr t e2)
end
def Cj(S:Store)(d:D):Option PyData:=(den 0 S d).bind toP
theorem VR.see{Γ:Fr}{μ:Mu}{σ:St}{H:Hp}{env:Env}{S:Store}{v:V}{d:D}{p:PyData}(R:Rep Γ μ σ H env S)(r:VR Γ μ H v d)(h:Cj S d=some p):Tr (fun _=>True) H v p:=by
 obtain⟨e,e1,e2⟩:=bind_some h
 have r1:VR ⟨Γ.K,fun _=>none,fun _=>True,[]⟩ [] H v e:=VR.den (Γ':=⟨Γ.K,fun _=>none,fun _=>True,[]⟩) R rfl (fun i ds a _ hs=>⟨hs,fun z=>⟨Ii,⟨fun _=>rfl,.inl trivial⟩⟩⟩) (fun m a _ _=>⟨fun _=>rfl,.inl trivial⟩) (fun a o _ _=>Ii) r e1
 exact r1.tr e2
def eqP(neg:Bool)(S:Store)(x y:D):Option D:=(Cj S x).bind fun p=>(Cj S y).bind fun q=>if (U2j p&&U2j q)=true then some (.bl (neg ^^ U7l p q)) else none
def oEq(neg:Bool)(S:Store):D->D->Option D
 |.int i,.int j=>some (.bl (neg ^^ decide (i=j)))
 |x,y=>eqP neg S x y
def sV:R2:=fun x y H Q=>∃(N N':Addr->Prop)(d e:PyData),Tr N H x d/\Tr N' H y e/\U2j d=true/\U2j e=true/\Q (.bl (U7l d e)) H
def sO:R2:=fun x y H Q=>∃(N N':Addr->Prop)(d e:PyData),Tr N H x d/\Tr N' H y e/\U2j d=true/\U2j e=true/\Q (.bl (!PyData.eqv d e)) H
def lV:R2:=fun x y H Q=>rEq x y H Q∨sV x y H Q
def cC:R2:=fun x y H Q=>rNe x y H Q∨sO x y H Q
theorem Ko{X:Cx}{k:Nat}(hr:Em k X.A):OpR X (compareOp .Eq) lV:=OpR.or qg (nQ hr)
theorem MP{X:Cx}{k:Nat}(hr:Em k X.A):OpR X (compareOp .NotEq) cC:=OpR.or qe (nO hr)
theorem Kl{K:U0b}:Fg K lV (oEq false):=by
 intro Γ μ σ H env S x y dx dy d hK R rx ry e Q q
 unfold oEq at e
 split at e
 .rename_i i j
  cases e;cases rx;cases ry
  refine .inl ⟨rfl,?_⟩
  have:decide (V.int i=V.int j)=decide (i=j):=by simp
  rw[this]
  exact q _ H (Same.refl H) (by simpa using VR.bl (decide (i=j)))
 .unfold eqP at e
  obtain⟨p,e1,e⟩:=bind_some e
  obtain⟨p2,e2,e⟩:=bind_some e
  by_cases h:(U2j p&&U2j p2)=true
  .rw[if_pos h] at e
   cases e
   rw[U0s] at h
   exact .inr ⟨_,_,p,p2,rx.see R e1,ry.see R e2,h.1,h.2,q _ H (Same.refl H) (by simpa using VR.bl (U7l p p2))⟩
  .rw[if_neg h] at e;cases e
theorem Ph{K:U0b}:Fg K cC (oEq true):=by
 intro Γ μ σ H env S x y dx dy d hK R rx ry e Q q
 unfold oEq at e
 split at e
 .rename_i i j
  cases e;cases rx;cases ry
  refine .inl ⟨rfl,?_⟩
  have:decide (V.int i=V.int j)=decide (i=j):=by simp
  rw[this]
  exact q _ H (Same.refl H) (by simpa using VR.bl (!decide (i=j)))
 .unfold eqP at e
  obtain⟨p,e1,e⟩:=bind_some e
  obtain⟨p2,e2,e⟩:=bind_some e
  by_cases h:(U2j p&&U2j p2)=true
  .rw[if_pos h] at e
   cases e
   rw[U0s] at h
   exact .inr ⟨_,_,p,p2,rx.see R e1,ry.see R e2,h.1,h.2,q _ H (Same.refl H) (by simpa using VR.bl (!PyData.eqv p p2))⟩
  .rw[if_neg h] at e;cases e
section
variable{X:Cx}{a:Expr}{fa:BP}{x:Str}{p pos:Pos}{dM:Addr}{D:List (PyData×PyData)}
end
def isT(T:String)(d:PyData):Bool:=match T with
 |"str"=>(match d with|.str _=>true|_=>false)
 |T=>Vk T d
theorem jO{K:U0b}(d:PyData):U3h K (.type (tyName d)) (.type "str")=some (isT "str" d):=by
 cases d with
 |none=>exact Ca (a:="NoneType") (r:=false) (by decide +kernel)
 |bool _=>exact Ca (a:="bool") (r:=false) (by decide +kernel)
 |int _=>exact Ca (a:="int") (r:=false) (by decide +kernel)
 |str _=>exact Ca (a:="str") (r:=true) (by decide +kernel)
 |list _=>exact Ca (a:="list") (r:=false) (by decide +kernel)
 |tuple _=>exact Ca (a:="tuple") (r:=false) (by decide +kernel)
 |dict _=>exact Ca (a:="dict") (r:=false) (by decide +kernel)
def J8(S:Store):List D->Option D
 |[x,.ty "int"]=>(Cj S x).map fun p=>.bl (isT "int" p)
 |[x,.ty "bool"]=>(Cj S x).map fun p=>.bl (isT "bool" p)
 |[x,.ty "tuple"]=>(Cj S x).map fun p=>.bl (isT "tuple" p)
 |[x,.ty "list"]=>(Cj S x).map fun p=>.bl (isT "list" p)
 |[x,.ty "str"]=>(Cj S x).map fun p=>.bl (isT "str" p)
 |[x,.tup [.ty "tuple",.ty "list"]]=>(Cj S x).bind fun p=>if noDict p=true then some (.bl (isSeq p)) else none
 |_=>none
def sU(K:U0b):List V->Hp->VK->Prop:=fun xs H Q=>∃(x:V)(T:String)(t:Value)(b:Bool),xs=[x,.ty T]/\JZ K H x t/\U3h K t (.type T)=some b/\Q (.bl b) H
def qO:List V->Hp->VK->Prop:=fun xs H Q=>∃(N:Addr->Prop)(x:V)(d:PyData)(p:Addr),xs=[x,.ref p]/\H p=some (.tup [.ty "tuple",.ty "list"])/\Tr N H x d/\noDict d=true/\Q (.bl (isSeq d)) H
def Yx(K:U0b):List V->Hp->VK->Prop:=fun xs H Q=>sU K xs H Q∨qO xs H Q
theorem Ol{X:Cx}:Dv X (.builtin "isinstance") (Yx X.K):=Dv.or Xy Va
theorem Qi{K:U0b}:M8 K (Yx K) J8:=by
 intro Γ μ σ H env S xs ds d hK R rs e Q q
 have go:∀(T:String)(x:D),(∀p:PyData,U3h K (.type (tyName p)) (.type T)=some (isT T p))->ds=[x,.ty T]->((Cj S x).map fun p=>D.bl (isT T p))=some d->Yx K xs H Q:=fun T x hk hd e'=>by
  subst hd
  obtain⟨p,e1,e2⟩:=map_some e'
  subst e2
  obtain⟨v,u,rfl,r1,r2⟩:=rs.two
  cases r2
  exact .inl ⟨v,T,_,_,rfl,(r1.see R e1).ty,hk p,q _ H (Same.refl H) (.bl _)⟩
 unfold J8 at e
 split at e
 .exact go "int" _ jP rfl e
 .exact go "bool" _ eH rfl e
 .exact go "tuple" _ kit_tuple rfl e
 .exact go "list" _ eG rfl e
 .exact go "str" _ jO rfl e
 .obtain⟨p,e1,e⟩:=bind_some e
  by_cases h:noDict p=true
  .rw[if_pos h] at e
   cases e
   obtain⟨v,u,rfl,r1,r2⟩:=rs.two
   cases r2 with
   |@tup a ys _ ha ry =>
    cases ry with
    |cons q1 t1 =>
     cases t1 with
     |cons q2 t2 =>
      cases t2;cases q1;cases q2
      exact .inr ⟨_,v,p,a,rfl,ha,r1.see R e1,h,q _ H (Same.refl H) (.bl _)⟩
  .rw[if_neg h] at e;cases e
 .cases e
def FN(S:Store):List D->Option D
 |[x]=>(Cj S x).bind fun p=>if (p.showable&&decide (p.depth<=60)&&decide (p.shown.length<=1000000))=true then some (.str p.shown) else none
 |_=>none
def qN:List V->Hp->VK->Prop:=fun xs H Q=>∃(N:Addr->Prop)(v:V)(d:PyData),xs=[v]/\Tr N H v d/\d.showable=true/\d.depth<=60/\d.shown.length<=sizeLine/\Q (.str d.shown) H
theorem Oc{K:U0b}:M8 K qN FN:=by
 intro Γ μ σ H env S xs ds d hK R rs e Q q
 unfold FN at e
 split at e
 .obtain⟨p,e1,e⟩:=bind_some e
  by_cases h:(p.showable&&decide (p.depth<=60)&&decide (p.shown.length<=1000000))=true
  .rw[if_pos h] at e
   cases e
   simp only[U0s,decide_eq_true_eq] at h
   obtain⟨v,rfl,r1⟩:=rs.one
   exact⟨_,v,p,rfl,r1.see R e1,h.1.1,h.1.2,U2r (big h.2),q _ H (Same.refl H) (.str _)⟩
  .rw[if_neg h] at e;cases e
 .cases e
def Fq(ns:List Int):List Int:=(SetP.once ns).mergeSort fun a b=>decide (a<=b)
theorem ZC{ns ms:List Int}(h:ms.Perm (SetP.once ns))(s:ms.Pairwise (·<=·)):ms=Fq ns:=by
 have h2:(Fq ns).Perm (SetP.once ns):=U2k _ _
 have s2:(Fq ns).Pairwise (·<=·):=by
  have:=List.pairwise_mergeSort (le:=fun a b:Int=>decide (a<=b)) (by intro a b c h1 h2;simp at *;omega) (by intro a b;simp;omega) (SetP.once ns)
  exact this.imp fun h=>by simpa using h
 exact U2g.eq_of_pairwise (fun a b _ _ h1 h2=>Int.le_antisymm h1 h2) s s2 (h.trans h2.symm)
def ZX(a:Bl):BP:=fun env S=>(a env S).bind fun p=>match p.1 with
 |[.int j]=>if r62 j/\j.toNat<=1000 then some (.lst true (upD 0 j.toNat),p.2) else none
 |[.int i,.int j]=>if r62 i/\r62 j/\(j-i).toNat<=1000 then some (.lst true (upD i (j-i).toNat),p.2) else none
 |_=>none
section
variable{X:Cx}{a:Expr}{as:List Expr}{f:Bl}{p p2 pos pos2:Pos}
end
end VS
end
section
namespace VS
open PySem PySem.Spec L2
def SJ(K:U0b):Sp:=fun vs H Q _=>∃(l:Addr)(ns:List Int),vs=[.ref l]/\Only H/\ns.length<=63/\SqL K H l (ns.map V.int)/\∀H',Q (.bl true) H'
theorem o9{K:U0b}{sem:Ef}(h:∀ns:List Int,ns.length<=63->sem [.scr ns]=some (.bl true)):∀vs H Q E,SJ K vs H Q E->spP K sem 1 vs H Q E:=by
 intro vs H Q E ⟨l,ns,e,hO,hl,hq,q⟩
 subst e
 refine⟨fun _=>False,[.scr ns],.bl true,rfl,.cons ?_ .nil,h ns hl,fun v H' sm rv=>?_⟩
 .rcases hq with hq|hq
  .rcases hq with hq|⟨o,hq⟩
   .rcases hO l with z|⟨o,xs,z⟩
    .rw[z] at hq;cases hq
    .rw[z] at hq;cases hq
   .exact .scrR Ii hq
  .exact .scrK fun H'=>.inr hq
 .cases rv;exact q H'
end VS
end
section
namespace VS
open PySem L2
theorem GX(a b:Bb)(env:VS.Env)(S:Store):VS.Bt a b env S=(a env S).bind fun p=>match p.1 with|.nx=>b p.2.1 p.2.2|f=>some (f,p.2.1,p.2.2):=rfl
theorem Cd(i:Nat)(a:BP)(env:VS.Env)(S:Store):VS.Bk i a env S=(a env S).bind fun p=>some (.nx,env.set i (some p.1),p.2):=rfl
theorem Cm(a:BP)(env:VS.Env)(S:Store):VS.DR a env S=(a env S).bind fun p=>some (.ret p.1,env,p.2):=rfl
theorem Np(c:FJ)(a b:Bb)(env:VS.Env)(S:Store):VS.sIf c a b env S=(c env S).bind fun p=>if p.1=true then a env p.2 else b env p.2:=rfl
theorem iJ(a:BP)(g:M9)(env:VS.Env)(S:Store):VS.Yn a g env S=(a env S).bind fun p=>(g p.1 env).bind fun e=>some (.nx,e,p.2):=rfl
theorem Lr(a:BP)(env:VS.Env)(S:Store):VS.HS a env S=(a env S).bind fun p=>some (.nx,env,p.2):=rfl
theorem Lq(env:VS.Env)(S:Store):VS.G8  env S=some (.nx,env,S):=rfl
theorem Hq(it:K4)(g:M9)(b:Bb)(env:VS.Env)(S:Store):VS.Kv it g b env S=(it env S).bind fun p=>loop p.1.2 g b p.1.1 env p.2:=rfl
theorem Q0(v o i:BP)(env:VS.Env)(S:Store):VS.SQ v o i env S=(v env S).bind fun p=>(o env p.2).bind fun q=>(i env q.2).bind fun r=>match q.1,r.1 with
 |.ref j,.int k=>(match r.2[j]? with
  |some (some ds)=>(ixN ds.length k).bind fun n=>some (.nx,env,r.2.set j (some (ds.set n p.1)))
  |_=>none)
 |_,_=>none:=rfl
theorem Cq(i:Nat)(env:VS.Env)(S:Store):VS.Ae i env S=(env[i]?.join).map fun d=>(d,S):=rfl
theorem IW(d:D)(env:VS.Env)(S:Store):VS.eC d env S=some (d,S):=rfl
theorem BZ(g:Store->D->D->Option D)(a b:BP)(env:VS.Env)(S:Store):VS.eOp g a b env S=(a env S).bind fun p=>(b env p.2).bind fun q=>(g q.2 p.1 q.1).map fun d=>(d,q.2):=rfl
theorem oV(g:Store->D->Option D)(a:BP)(env:VS.Env)(S:Store):VS.eUn g a env S=(a env S).bind fun p=>(g p.2 p.1).map fun d=>(d,p.2):=rfl
theorem Cz(env:VS.Env)(S:Store):VS.Ah  env S=some ([],S):=rfl
theorem Av(a:BP)(r:Bl)(env:VS.Env)(S:Store):VS.Ac a r env S=(a env S).bind fun p=>(r env p.2).bind fun q=>some (p.1::q.1,q.2):=rfl
theorem Ec(g:Store->List D->Option D)(a:Bl)(env:VS.Env)(S:Store):VS.eCB g a env S=(a env S).bind fun p=>(g p.2 p.1).map fun d=>(d,p.2):=rfl
theorem Ly(a b:BP)(env:VS.Env)(S:Store):VS.OD a b env S=(a env S).bind fun p=>match p.1 with|.bl true=>b env p.2|.bl false=>some (.bl false,p.2)|_=>none:=rfl
theorem je(a:BP)(env:VS.Env)(S:Store):VS.cH a env S=(a env S).bind fun p=>match p.1 with|.bl c=>some (.bl (!c),p.2)|_=>none:=rfl
theorem bL(g g':Store->D->D->Option D)(a b c:BP)(env:VS.Env)(S:Store):VS.Sv g g' a b c env S=(a env S).bind fun p=>(b env p.2).bind fun q=>(g q.2 p.1 q.1).bind fun z=>match z with
 |.bl true=>(c env q.2).bind fun r=>(g' r.2 q.1 r.1).map fun d=>(d,r.2)
 |.bl false=>some (.bl false,q.2)
 |_=>none:=rfl
theorem Dm(a:BP)(env:VS.Env)(S:Store):VS.Bv a env S=(a env S).bind fun p=>match p.1 with|.bl c=>some (c,p.2)|_=>none:=rfl
theorem YB(a b:FJ)(env:VS.Env)(S:Store):VS.PJ a b env S=(a env S).bind fun p=>if p.1=true then b env p.2 else some (false,p.2):=rfl
theorem Pb(a b:FJ)(env:VS.Env)(S:Store):VS.tOr a b env S=(a env S).bind fun p=>if p.1=true then some (true,p.2) else b env p.2:=rfl
theorem Nv(a:FJ)(env:VS.Env)(S:Store):VS.K1 a env S=(a env S).bind fun p=>some (!p.1,p.2):=rfl
theorem oW(g:Store->D->Option Int->Option Int->Option D)(a:BP)(l h:RT)(env:VS.Env)(S:Store):VS.eSl g a l h env S=(a env S).bind fun p=>(l env p.2).bind fun q=>(h env q.2).bind fun r=>(g r.2 p.1 q.1 r.1).map fun d=>(d,r.2):=rfl
theorem Cv(a:Bl)(env:VS.Env)(S:Store):VS.BK a env S=(a env S).bind fun p=>some (.lst true p.1,p.2):=rfl
theorem jd(a:Bl)(env:VS.Env)(S:Store):VS.Kw a env S=(a env S).bind fun p=>some (.ref p.2.length,p.2++[some p.1]):=rfl
theorem Ir(a:Bl)(env:VS.Env)(S:Store):VS.Ce a env S=(a env S).bind fun p=>some (.tup p.1,p.2):=rfl
theorem Ks(sem:Ef)(a:Bl)(env:VS.Env)(S:Store):VS.Ao sem a env S=(a env S).bind fun p=>(DK 0 p.2 p.1).bind fun ds=>(sem (Cr ds)).bind fun r=>if (Bh p.1||newD r)=true then some (r,p.2) else none:=rfl
theorem Q9(sem:Kz)(a:Bl)(env:VS.Env)(S:Store):VS.Ay sem a env S=(a env S).bind fun p=>match p.1 with
 |.ref i::rest=>(match p.2[i]? with
  |some (some cs)=>(intsOf cs).bind fun ns=>(DK 0 (p.2.set i none) rest).bind fun ds=>(sem ns (Cr ds)).bind fun r=>if (Bh rest||newD r.1)=true then some (r.1,p.2.set i (some (r.2.map D.int))) else none
  |_=>none)
 |_=>none:=rfl
theorem bK(sem:Ef)(a:Bl)(env:VS.Env)(S:Store):VS.Ih sem a env S=(Ao sem a env S).bind fun p=>(O8 p.2.length p.1).bind fun q=>some (q.1,p.2++[some q.2]):=rfl
theorem Wr(g:Store->D->List D->Option (D×Store))(o:BP)(a:Bl)(env:VS.Env)(S:Store):VS.Hf g o a env S=(o env S).bind fun p=>if (listOf p.2 p.1).isSome then (a env p.2).bind fun q=>g q.2 p.1 q.1 else none:=rfl
theorem fB(g:Store->List D->Option (List D))(a:Bl)(env:VS.Env)(S:Store):VS.Oa g a env S=(a env S).bind fun p=>(g p.2 p.1).map fun es=>(.lst true es,p.2):=rfl
theorem lA(a:Bl)(env:VS.Env)(S:Store):VS.ZX a env S=(a env S).bind fun p=>match p.1 with
 |[.int j]=>if r62 j/\j.toNat<=1000 then some (.lst true (upD 0 j.toNat),p.2) else none
 |[.int i,.int j]=>if r62 i/\r62 j/\(j-i).toNat<=1000 then some (.lst true (upD i (j-i).toNat),p.2) else none
 |_=>none:=rfl
theorem Jh(a:BP)(env:VS.Env)(S:Store):VS.Dh a env S=(a env S).bind fun p=>(G9 p.2 p.1).map fun ds=>((ds,idOf ds p.1),p.2):=rfl
theorem eV(a:Bl)(env:VS.Env)(S:Store):VS.Qc a env S=(a env S).bind fun p=>match p.1 with
 |[.tup xs,.tup ys]=>some ((GF xs ys,[]),p.2)
 |[x,.tup ys]=>(VS.listOf p.2 x).bind fun xs=>some ((GF xs ys,VS.idOf xs x),p.2)
 |[x,y]=>(listOf p.2 x).bind fun xs=>(listOf p.2 y).bind fun ys=>some ((GF xs ys,idOf xs x++idOf ys y),p.2)
 |_=>none:=rfl
theorem Dn(np n:Nat)(f:Bb)(ds:List D):VS.Fy np n f ds=if ds.length=np then (f (ds.map some++U0w (n-ds.length) none) []).bind fun p=>match p.1 with|.ret d=>den 0 p.2.2 d|.nx=>some .non|_=>none else none:=rfl
theorem K6(np n:Nat)(f:Bb)(ns:List Int)(ds:List D):VS.runM np n f ns ds=if ds.length+1=np then (f (some (.ref 0)::(ds.map some++U0w (n-1-ds.length) none)) [some (ns.map D.int)]).bind fun p=>match p.2.2[0]? with
 |some (some cs)=>(intsOf cs).bind fun ms=>(match p.1 with|.ret d=>(den 1 p.2.2 d).map fun r=>(r,ms)|.nx=>some (.non,ms)|_=>none)
 |_=>none
 else none:=rfl
theorem Dq(i:Nat)(d:D)(env:VS.Env):Pat.sem (.nm i) d env=some (env.set i (some d)):=by rw[Pat.sem]
theorem Hi(ps:List Pat)(ds:List D)(env:VS.Env):Pat.sem (.tp ps) (.tup ds) env=HN ps ds env:=by rw[Pat.sem]
theorem G5(env:VS.Env):HN [] [] env=some env:=by rw[HN]
theorem Et(p:Pat)(ps:List Pat)(d:D)(ds:List D)(env:VS.Env):HN (p::ps) (d::ds) env=(Pat.sem p d env).bind fun e=>HN ps ds e:=by rw[HN]
@[simp] theorem tZ(S:Store):calm [] S=True:=by simp[calm]
@[simp] theorem tY(i:Nat)(ds:List D)(S:Store):calm [(i,ds)] S=(S[i]?=some (some ds)):=by simp[calm]
@[simp] theorem uJ{α:Type}(S:List α)(a:α):(S++[a])[S.length]?=some a:=by simp
@[simp] theorem uF{α:Type}(S:List α)(a b:α):(S++[a]).set S.length b=S++[b]:=by simp
theorem Qo{n k:Nat}(h:k<n):ixN n (k:Int)=some k:=by
 unfold ixN
 rw[if_pos (by omega),if_pos (by omega)];simp
@[simp] theorem qx{n:Nat}:ixN (n+1) 0=some 0:=Qo (k:=0) (by omega)
@[simp] theorem qw{n:Nat}:ixN (n+2) 1=some 1:=Qo (k:=1) (by omega)
@[simp] theorem qu{n:Nat}:ixN (n+3) 2=some 2:=Qo (k:=2) (by omega)
@[simp] theorem qt{n:Nat}:ixN (n+4) 3=some 3:=Qo (k:=3) (by omega)
@[simp] theorem uP{α:Type}(a:α)(l:List α):atI (a::l) 0=some a:=by unfold atI;rw[U0e,qx];rfl
@[simp] theorem uO{α:Type}(a b:α)(l:List α):atI (a::b::l) 1=some b:=by unfold atI;rw[U0e,U0e,qw];rfl
@[simp] theorem uN{α:Type}(a b c:α)(l:List α):atI (a::b::c::l) 2=some c:=by unfold atI;rw[U0e,U0e,U0e,qu];rfl
@[simp] theorem uM{α:Type}(a b c d:α)(l:List α):atI (a::b::c::d::l) 3=some d:=by unfold atI;rw[U0e,U0e,U0e,U0e,qt];rfl
theorem jJ{w:List (Nat×List D)}{g:M9}{b:Bb}(I:Nat->Env->Store->Prop)(R:D->Store->Prop){ds:List D}{env:Env}{S:Store}(h0:I 0 env S)(hc:∀i env S,I i env S->calm w S)
  (step:∀i d env S,ds[i]?=some d->I i env S->∃env1,g d env=some env1/\((∃env2 S2,(b env1 S=some (.nx,env2,S2)∨b env1 S=some (.cnt,env2,S2))/\I (i+1) env2 S2)∨∃r env2 S2,b env1 S=some (.ret r,env2,S2)/\R r S2)) :
  (∃env' S',loop w g b ds env S=some (.nx,env',S')/\I ds.length env' S')∨∃r env' S',loop w g b ds env S=some (.ret r,env',S')/\R r S':=by
 have key:∀(l:List D)(i:Nat)(env:Env)(S:Store),ds.drop i=l->i<=ds.length->I i env S->(∃env' S',loop w g b l env S=some (.nx,env',S')/\I ds.length env' S')∨∃r env' S',loop w g b l env S=some (.ret r,env',S')/\R r S':=by
  intro l
  induction l with
  |nil =>
   intro i env S hd hi h
   have:i=ds.length:=by
    have:=congrArg U3r hd
    simp at this;omega
   subst this
   exact .inl ⟨env,S,by unfold loop;rw[if_pos (hc _ _ _ h)],h⟩
  |cons d r ih =>
   intro i env S hd hi h
   have hlt:i<ds.length:=by
    have:=congrArg U3r hd
    simp at this;omega
   have e:ds[i]?=some d:=by
    rw[U3 hlt] at hd
    rw[U02 hlt,(List.cons.inj hd).1]
   have hr:ds.drop (i+1)=r:=by
    rw[U3 hlt] at hd
    exact(List.cons.inj hd).2
   obtain⟨env1,e1,q⟩:=step i d env S e h
   rcases q with ⟨env2,S2,e2,q⟩|⟨v,env2,S2,e2,q⟩
   .have e3:loop w g b (d::r) env S=loop w g b r env2 S2:=by
     rcases e2 with e2|e2<;>(rw[loop,if_pos (hc _ _ _ h),e1];show(b env1 S).bind _=_;rw[e2];rfl)
    rw[e3]
    exact ih (i+1) env2 S2 hr hlt q
   .refine .inr ⟨v,env2,S2,?_,q⟩
    rw[loop,if_pos (hc _ _ _ h),e1]
    show(b env1 S).bind _=_
    rw[e2];rfl
 exact key ds 0 env S (by simp) (U3f _) h0
theorem Gn{w:List (Nat×List D)}{g:M9}{b:Bb}(I:Nat->Env->Store->Prop){ds:List D}{env:Env}{S:Store}(h0:I 0 env S)(hc:∀i env S,I i env S->calm w S)
  (step:∀i d env S,ds[i]?=some d->I i env S->∃env1,g d env=some env1/\∃env2 S2,b env1 S=some (.nx,env2,S2)/\I (i+1) env2 S2) :
  ∃env' S',loop w g b ds env S=some (.nx,env',S')/\I ds.length env' S':=by
 rcases jJ I (fun _ _=>False) h0 hc (fun i d env S e h=>by
  obtain⟨env1,e1,env2,S2,e2,q⟩:=step i d env S e h
  exact⟨env1,e1,.inl ⟨env2,S2,.inl e2,q⟩⟩) with h|⟨_,_,_,_,h⟩
 .exact h
 .exact h.elim
theorem Lz{α:Type}{w:List (Nat×List D)}{e0:VS.Env}{g:M9}{t:FJ}{f:BP}{S:Store}(hc:calm w S)(enc:α->D)(p:α->Bool)(F:α->D):∀(l:List α)(ys:List D),ys.length+l.length<=1000000 ->
  (∀a∈l,∃e1,g (enc a) e0=some e1/\t e1 S=some (p a,S)/\(p a=true->f e1 S=some (F a,S)))->KQ w e0 g t f (l.map enc) ys S=some (ys++(l.filter p).map F,S)
 |[],ys,hl,_=>by rw[U1n,KQ,if_pos ⟨hc,by simpa using hl⟩];simp
 |d::r,ys,hl,h=>by
  rw[U0e] at hl
  obtain⟨e1,h1,h2,h3⟩:=h d U0p
  have hr:∀x∈r,_:=fun x hx=>h x (U0n _ hx)
  rw[U0r,KQ,if_pos ⟨hc,by omega⟩,h1]
  simp only[U0a,h2]
  by_cases hp:p d=true
  .simp only[hp,if_true,h3 hp,U0a]
   rw[Lz hc enc p F r (ys++[F d]) (by rw[U0h];simp;omega) hr,List.filter_cons_of_pos hp]
   simp
  .rw[if_neg hp,List.filter_cons_of_neg hp]
   exact Lz hc enc p F r ys (by omega) hr
theorem Ht{α:Type}{w:List (Nat×List D)}{e0:VS.Env}{g:M9}{f:BP}{S:Store}(hc:calm w S)(enc F:α->D)(l:List α)(hl:l.length<=1000000)(h:∀a∈l,∃e1,g (enc a) e0=some e1/\f e1 S=some (F a,S)):KQ w e0 g VS.HJ f (l.map enc) [] S=some (l.map F,S):=by
 have:=Lz (t:=VS.HJ) hc enc (fun _=>true) F l [] (by simpa using hl) (fun d hd=>let ⟨e1,h1,h2⟩:=h d hd;⟨e1,h1,rfl,fun _=>h2⟩)
 rw[this,U1x,List.filter_eq_self.mpr (by simp)]
theorem Tw(lo:Int)(n:Nat):(upD lo n).length=n:=by unfold upD;rw[U0f,U60]
theorem Tz{lo:Int}{n i:Nat}{d:D}(h:(upD lo n)[i]?=some d):i<n/\d=.int (lo+i):=by
 have hi:i<n:=by rw[←Tw lo n];exact(U0k.mp h).1
 unfold upD at h
 rw[U0y,List.getElem?_range hi] at h
 cases h
 exact⟨hi,rfl⟩
theorem aR{j:Int}(h0:-1000000<=j)(h1:j<=1000000):r62 j:=⟨U68 (by decide) h0,Int.lt_of_le_of_lt h1 (by decide)⟩
theorem Zm{f:Bl}{env:VS.Env}{S S':Store}{j:Int}(n:Nat)(hf:f env S=some ([.int j],S'))(hn:j.toNat=n)(h0:-1000000<=j)(h1:j<=1000000):KD f env S=some ((upD 0 n,[]),S'):=by
 unfold KD
 rw[hf,U0a]
 show(if r62 j then some ((upD 0 j.toNat,([]:List (Nat×List D))),S') else none)=_
 rw[if_pos (aR h0 h1),hn]
theorem mU{f:Bl}{env:VS.Env}{S S':Store}{i j:Int}(n:Nat)(hf:f env S=some ([.int i,.int j],S'))(hn:(j-i).toNat=n)(h0:r62 i)(h1:r62 j):O5 f env S=some ((upD i n,[]),S'):=by
 unfold O5
 rw[hf,U0a]
 show(if r62 i/\r62 j then some ((upD i (j-i).toNat,([]:List (Nat×List D))),S') else none)=_
 rw[if_pos ⟨h0,h1⟩,hn]
theorem HF{α:Type}{F:α->D}(l:List α)(h:∀a∈l,CJ (F a)=true):Du (l.map F)=true:=by
 induction l with
 |nil=>rfl
 |cons a r ih=>rw[U0r,Du,h a U0p,ih fun b hb=>h b (U0n _ hb)];rfl
theorem cj{α:Type}{F:α->D}{G:α->PyData}(l:List α)(h:∀a∈l,toP (F a)=some (G a)):Gv (l.map F)=some (l.map G):=by
 induction l with
 |nil=>rw[U1n,Gv];rfl
 |cons a r ih=>rw[U0r,Gv,h a U0p,ih fun b hb=>h b (U0n _ hb)];rfl
abbrev St2:=Int×Int
def Ad(p:St2):D:=.tup [.int p.1,.int p.2]
def Gw(b:List St2):D:=.tup (b.map Ad)
def PK(m:Bool)(n:Nat)(bs:List (List St2)):D:=.tup [.int n,.lst m (bs.map Gw)]
@[simp] theorem Gf(p:St2):CJ (Ad p)=true:=rfl
@[simp] theorem Jk(b:List St2):CJ (Gw b)=true:=by rw[Gw,CJ];exact HF b fun p _=>Gf p
theorem Gh(bs:List (List St2)):Du (bs.map Gw)=true:=HF bs fun b _=>Jk b
def pS(p:St2):PyData:=.tuple [.int p.1,.int p.2]
def pB(b:List St2):PyData:=.tuple (b.map pS)
theorem RX(p:St2):toP (Ad p)=some (pS p):=by simp[Ad,toP,Gv,pS]
theorem cg(b:List St2):toP (Gw b)=some (pB b):=by rw[Gw,toP,cj b fun p _=>RX p];rfl
@[simp] theorem u6(S:Store)(x:D):J8 S [x,.ty "int"]=(Cj S x).map fun p=>.bl (isT "int" p):=rfl
@[simp] theorem pI:isT "int" (.none)=false:=rfl
@[simp] theorem pL(b:Bool):isT "int" (.bool b)=true:=rfl
@[simp] theorem pW(i:Int):isT "int" (.int i)=true:=rfl
@[simp] theorem pU(s:Str):isT "int" (.str s)=false:=rfl
@[simp] theorem pJ(l:List PyData):isT "int" (.list l)=false:=rfl
@[simp] theorem kW(l:List PyData):isT "int" (.tuple l)=false:=rfl
@[simp] theorem pK(l:List (PyData×PyData)):isT "int" (.dict l)=false:=rfl
@[simp] theorem rQ(S:Store)(x:D):J8 S [x,.ty "bool"]=(Cj S x).map fun p=>.bl (isT "bool" p):=rfl
@[simp] theorem kY:isT "bool" (.none)=false:=rfl
@[simp] theorem kj(b:Bool):isT "bool" (.bool b)=true:=rfl
@[simp] theorem pO(i:Int):isT "bool" (.int i)=false:=rfl
@[simp] theorem pN(s:Str):isT "bool" (.str s)=false:=rfl
@[simp] theorem kZ(l:List PyData):isT "bool" (.list l)=false:=rfl
@[simp] theorem jw(l:List PyData):isT "bool" (.tuple l)=false:=rfl
@[simp] theorem kh(l:List (PyData×PyData)):isT "bool" (.dict l)=false:=rfl
@[simp] theorem Zf(S:Store)(x:D):J8 S [x,.ty "tuple"]=(Cj S x).map fun p=>.bl (isT "tuple" p):=rfl
@[simp] theorem jo:isT "tuple" (.none)=false:=rfl
@[simp] theorem jt(b:Bool):isT "tuple" (.bool b)=false:=rfl
@[simp] theorem jy(i:Int):isT "tuple" (.int i)=false:=rfl
@[simp] theorem jx(s:Str):isT "tuple" (.str s)=false:=rfl
@[simp] theorem jq(l:List PyData):isT "tuple" (.list l)=false:=rfl
@[simp] theorem gD(l:List PyData):isT "tuple" (.tuple l)=true:=rfl
@[simp] theorem jr(l:List (PyData×PyData)):isT "tuple" (.dict l)=false:=rfl
@[simp] theorem bV(S:Store)(x:D):J8 S [x,.ty "list"]=(Cj S x).map fun p=>.bl (isT "list" p):=rfl
@[simp] theorem kE:isT "list" (.none)=false:=rfl
@[simp] theorem kO(b:Bool):isT "list" (.bool b)=false:=rfl
@[simp] theorem pH(i:Int):isT "list" (.int i)=false:=rfl
@[simp] theorem pG(s:Str):isT "list" (.str s)=false:=rfl
@[simp] theorem kI(l:List PyData):isT "list" (.list l)=true:=rfl
@[simp] theorem ju(l:List PyData):isT "list" (.tuple l)=false:=rfl
@[simp] theorem kJ(l:List (PyData×PyData)):isT "list" (.dict l)=false:=rfl
@[simp] theorem tu(S:Store)(x:D):J8 S [x,.ty "str"]=(Cj S x).map fun p=>.bl (isT "str" p):=rfl
@[simp] theorem pA:isT "str" (.none)=false:=rfl
@[simp] theorem pF(b:Bool):isT "str" (.bool b)=false:=rfl
@[simp] theorem pR(i:Int):isT "str" (.int i)=false:=rfl
@[simp] theorem pQ(s:Str):isT "str" (.str s)=true:=rfl
@[simp] theorem pC(l:List PyData):isT "str" (.list l)=false:=rfl
@[simp] theorem jz(l:List PyData):isT "str" (.tuple l)=false:=rfl
@[simp] theorem pD(l:List (PyData×PyData)):isT "str" (.dict l)=false:=rfl
@[simp] theorem u5(S:Store)(x:D):J8 S [x,.tup [.ty "tuple",.ty "list"]]=(Cj S x).bind fun p=>if noDict p=true then some (.bl (isSeq p)) else none:=rfl
@[simp] theorem tO(S:Store)(i:Int):Cj S (.int i)=some (.int i):=by simp[Cj,den,toP]
@[simp] theorem uG(S:Store)(b:Bool):Cj S (.bl b)=some (.bool b):=by simp[Cj,den,toP]
@[simp] theorem tM(S:Store):Cj S .non=some .none:=by simp[Cj,den,toP]
@[simp] theorem tL(S:Store)(x:Str):Cj S (.str x)=some (.str x):=by simp[Cj,den,toP]
@[simp] theorem aO(S:Store)(p:St2):Cj S (Ad p)=some (pS p):=by rw[Cj,Mh 0 S (Il (Gf p))];exact RX p
@[simp] theorem rJ(S:Store)(b:List St2):Cj S (Gw b)=some (pB b):=by rw[Cj,Mh 0 S (Il (Jk b))];exact cg b
@[simp] theorem Lh(ns:List Int):Du (ns.map D.int)=true:=HF ns fun _ _=>rfl
@[simp] theorem bM(k:Nat)(S:Store)(ns:List Int):DK k S (ns.map D.int)=some (ns.map D.int):=CN k S (BX (Lh ns))
@[simp] theorem rR(ns:List Int):Cr (ns.map D.int)=ns.map D.int:=El (Lh ns)
@[simp] theorem ZG(ns:List Int):Bh (ns.map D.int)=true:=BX (Lh ns)
@[simp] theorem rP(ns:List Int):newL (ns.map D.int)=true:=Kr (Lh ns)
theorem W7(lo:Int)(n:Nat):upD lo n=((U4b n).map fun(i:Nat)=>lo+(i:Int)).map D.int:=by unfold upD;rw[U0i];rfl
@[simp] theorem tX(k:Nat)(S:Store)(lo:Int)(n:Nat):DK k S (upD lo n)=some (upD lo n):=by rw[W7];exact bM ..
@[simp] theorem rO(lo:Int)(n:Nat):Bh (upD lo n)=true:=by rw[W7];exact ZG _
@[simp] theorem rG(k:Nat)(S:Store)(bs:List (List St2)):DK k S (bs.map Gw)=some (bs.map Gw):=CN k S (BX (Gh bs))
@[simp] theorem rH(bs:List (List St2)):Cr (bs.map Gw)=bs.map Gw:=El (Gh bs)
@[simp] theorem pP(bs:List (List St2)):Bh (bs.map Gw)=true:=BX (Gh bs)
@[simp] theorem rF(bs:List (List St2)):newL (bs.map Gw)=true:=Kr (Gh bs)
@[simp] theorem pX(bs:List (List St2)):Du (bs.map Gw)=true:=Gh bs
@[simp] theorem tU(k:Nat)(S:Store)(p:St2):den k S (Ad p)=some (Ad p):=Mh k S (Il (Gf p))
@[simp] theorem tW(k:Nat)(S:Store)(b:List St2):den k S (Gw b)=some (Gw b):=Mh k S (Il (Jk b))
@[simp] theorem u9(p:St2):age (Ad p)=Ad p:=Rp (Gf p)
@[simp] theorem uE(b:List St2):age (Gw b)=Gw b:=Rp (Jk b)
@[simp] theorem rK(p:St2):Bx (Ad p)=true:=Il (Gf p)
@[simp] theorem rN(b:List St2):Bx (Gw b)=true:=Il (Jk b)
@[simp] theorem tQ(p:St2):newD (Ad p)=true:=Oi (Gf p)
@[simp] theorem tR(b:List St2):newD (Gw b)=true:=Oi (Jk b)
@[simp] theorem tV(k:Nat)(S:Store)(m:Bool)(n:Nat)(bs:List (List St2)):den k S (PK m n bs)=some (PK m n bs):=by simp[PK,den,DK,CN k S (BX (Gh bs))]
@[simp] theorem uD(m:Bool)(n:Nat)(bs:List (List St2)):age (PK m n bs)=PK false n bs:=by simp[PK,age,Cr,El (Gh bs)]
@[simp] theorem rM(m:Bool)(n:Nat)(bs:List (List St2)):Bx (PK m n bs)=true:=by simp[PK,Bx,Bh,BX (Gh bs)]
structure Good(n:Nat)(bs:List (List St2)):Prop where
 ways:n=1∨n=2∨n=3
 most:bs.length<=[0,20,10,6].getD n 0
 box:∀b∈bs,b.length=n/\∀p∈b,p.1<p.2/\-1000000000<=p.1/\p.2<=1000000000
theorem cu{n d:Nat}{a:Int}(h0:0<=a)(h1:a<=n):HT.sIx n d (some a)=a.toNat:=by
 show(if a<0 then (a+(n:Int)).toNat else min a.toNat n)=a.toNat
 rw[if_neg (by omega)]
 omega
theorem fD{xs:List D}{a:Int}(h0:0<=a)(h1:a<=xs.length):cut xs (some a) none=xs.drop a.toNat:=by
 unfold cut
 rw[cu h0 h1]
 simp only[HT.sIx]
 rw[U17]
 simp
def lev:Nat->PyData->Bool
 |_,.none=>true
 |_,.bool _=>true
 |_,.int _=>true
 |k+1,.list xs=>xs.all (lev k)
 |k+1,.tuple xs=>xs.all (lev k)
 |_,_=>false
theorem Ua{k:Nat}(ih:∀d,lev k d=true->U4f d=true/\d.depth<=k):∀xs:List PyData,xs.all (lev k)=true->U53 xs=true/\U38 xs<=k
 |[],_=>⟨by rw[U53],by rw[U38];omega⟩
 |x::xs,h=>by
  rw[List.all_cons,U0s] at h
  obtain⟨h1,h2⟩:=ih x h.1
  obtain⟨h3,h4⟩:=Ua ih xs h.2
  exact⟨by rw[U53,h1,h3];rfl,by rw[U38];omega⟩
theorem Sg:∀(k:Nat)(d:PyData),lev k d=true->U4f d=true/\d.depth<=k
 |k,.none,_=>⟨by rw[U4f],by rw[U3e];omega⟩
 |k,.bool _,_=>⟨by rw[U4f],by rw[U3e];omega⟩
 |k,.int _,_=>⟨by rw[U4f],by rw[U3e];omega⟩
 |0,.list _,h=>by simp[lev] at h
 |0,.tuple _,h=>by simp[lev] at h
 |k,.str _,h=>by cases k<;>simp[lev] at h
 |k,.dict _,h=>by cases k<;>simp[lev] at h
 |k+1,.list xs,h=>by
  rw[lev] at h
  obtain⟨h1,h2⟩:=Ua (Sg k) xs h
  exact⟨by rw[U4f];exact h1,by rw[U3e];omega⟩
 |k+1,.tuple xs,h=>by
  rw[lev] at h
  obtain⟨h1,h2⟩:=Ua (Sg k) xs h
  exact⟨by rw[U4f];exact h1,by rw[U3e];omega⟩
theorem T7{k:Nat}{d:PyData}(h:lev k d=true)(hk:k<=60):U2j d=true:=by
 obtain⟨h1,h2⟩:=Sg k d h
 unfold U2j
 rw[h1,U7n]
 exact decide_eq_true (by omega)
theorem Wo{neg:Bool}{S:Store}{x y:D}{p:PyData}(k:Nat)(hx:Cj S x=some p)(hy:Cj S y=some p)(h:lev k p=true)(hk:k<=60):eqP neg S x y=some (.bl (neg ^^ true)):=by
 unfold eqP
 rw[hx,hy]
 simp only[U0a]
 rw[T7 h hk,SeqAt.eqv_refl _ (Sg k p h).1];rfl
theorem jZ{neg:Bool}{S:Store}{x:D}{m:Bool}{l:List PyData}(k:Nat)(hx:Cj S x=some (.list l))(h:lev k (.list l)=true)(hk:k<=60):eqP neg S x (.lst m [])=some (.bl (neg ^^ l.isEmpty)):=by
 unfold eqP
 have hy:Cj S (.lst m [])=some (.list []):=by simp[Cj,den,DK,toP,Gv]
 rw[hx,hy]
 simp only[U0a]
 rw[T7 h hk]
 cases l with
 |nil=>rfl
 |cons a r=>rfl
theorem o7(k:Nat)(p:St2):lev (k+1) (pS p)=true:=by simp[pS,lev]
theorem Bd{a b:Bb}{env env1:VS.Env}{S S1:Store}(h:a env S=some (.nx,env1,S1)):Bt a b env S=b env1 S1:=by rw[GX,h];rfl
theorem Kp{c:FJ}{a b:Bb}{env:VS.Env}{S S1:Store}(h:c env S=some (true,S1)):sIf c a b env S=a env S1:=by rw[Np,h];rfl
theorem IV{c:FJ}{a b:Bb}{env:VS.Env}{S S1:Store}(h:c env S=some (false,S1)):sIf c a b env S=b env S1:=by rw[Np,h];rfl
end VS
end
section
namespace VS
open PySem PySem.Spec L2
end VS
namespace HT
open PySem PySem.Spec PyProof PyProof.Rows
end HT
namespace L2
open PySem PySem.Spec PyProof PyProof.Rows
end L2
namespace VS
open PySem PySem.Spec L2
end VS
end
section
set_option maxRecDepth 100000
namespace HT
open PySem PySem.Spec PyProof.Rows
section
variable{prog:Program}{w:World}{A:Around}{E:Value->Shared->Prop}{s:Shared}
variable{z TI TO i1 i2 T:Addr}{fp1 fp2:List Addr}{n1 n2 k:Nat}{P1 P2:Nat->Value->Prop}{S1 S2:Nat->Heap->Prop}{c:Bool}
end
end HT
end
section
namespace L2
open PySem PySem.Spec PyProof.Rows
section
variable{X:Cx}{pins:List (Addr×Obj)}{σ:St}{H:Hp}{s:Shared}
end
section
variable{X:Cx}
end
end L2
end
section
namespace VS
open PySem PySem.Spec L2 PyProof.Rows
end VS
end
section
namespace VS
open PySem PySem.Spec L2
end VS
end
section
namespace HT
open PySem PySem.Spec PyProof PyProof.Rows
end HT
namespace L2
open PySem PySem.Spec PyProof PyProof.Rows
end L2
end
section
namespace VS
open PySem PySem.Spec L2
def NZ(neg:Bool)(_:Store):D->D->Option D
 |.str a,.str b=>some (.bl (neg ^^ decide (a=b)))
 |_,_=>none
theorem YF{K:U0b}:Fg K cC (NZ true):=by
 intro Γ μ σ H env S x y dx dy d hK R rx ry e Q q
 unfold NZ at e
 split at e
 .rename_i a b
  cases e;cases rx;cases ry
  refine .inl ⟨rfl,?_⟩
  have:decide (V.str a=V.str b)=decide (a=b):=by simp
  rw[this]
  exact q _ H (Same.refl H) (by simpa using VR.bl (!decide (a=b)))
 .cases e
end VS
end
section
namespace L2
open PySem PySem.Spec PyProof PyProof.Rows
section
variable{X:Cx}
def lJ(K:U0b):List V->Hp->VK->Prop:=fun xs H Q=>∃(p:Addr)(ns:List Int),xs=[.ref p]/\SqL K H p (ns.map V.int)/\Q (.int ns.sum) H
theorem bN(hc:X.calm=true):Dv X (.builtin "sum") (lJ X.K):=by
 intro pins s σ H xs us Q I r h
 obtain⟨p,ns,rfl,hq,q⟩:=h
 obtain⟨u,rfl,rx⟩:=vals1 r
 cases rx
 obtain⟨its,rv,pl,hz⟩:=I.list hq
 have hi:IntsAre its ns:=intsAre_of rv
 obtain⟨ys,hy⟩:=hi.allInts.items
 have hn:=hi.numsOf
 have hl:=pl.isList
 rw[hy] at hl
 refine sum_intListG (I.ok.hd hc) hl fun h' tk t' hk=>⟨.int ns.sum,H,I.kept (h':=h') (t':=tk) hk,⟨t',?_⟩,q⟩
 have e:its=(intItems ys).toList:=by rw[←hy]
 rw[e,nums_intItems] at hn
 rw[preSum_eq,U17 (by simp),hn]
end
end L2
end
section
namespace HT
open PySem PySem.Spec PyProof PyProof.Rows
section
variable{P0:Program}{wd:World}{Ar:Around}{Er:Value->Shared->Prop}{sh:Shared}
theorem bR{nm:String}{bi:Builtin}{xs:List Value}{kv:List (Str×Value)}{Qv:Value->Shared->Prop}(k1:builtinKind nm=none)(k2:plainId nm=true)(k3:entryFor table nm=some bi)(k4:argsOk nm ⟨xs,kv⟩)
  (k5:wpAny (model P0 wd) Ar.in1 (bi ⟨xs,kv⟩) (fun fin t=>match fin with
   |.done f=>(match (Except.ok f:Result) with|.ok (.ret v)=>Qv v t|.ok _=>False|.error e=>Er e t)
   |.again c=>c.quiet=true/\codeAny (model P0 wd) Ar c (fun r t'=>match r with|.ok (.ret v)=>Qv v t'|.ok _=>False|.error e=>Er e t') t) Er sh):wpAny (model P0 wd) Ar (call (.builtin nm) xs kv) Qv Er sh:=by
 apply wpAny_call;apply codeAny_call_builtin k2 k3
 simp only[checkBuiltinCall,k1]
 cases g:Manifest.signature? nm with
 |none=>exact U0d k5
 |some sg =>
  have e:Bind.checkArgs nm sg ⟨xs,kv⟩=pure ():=by simpa only[argsOk,g] using k4
  simp only[e];exact U0d k5
theorem Qm:(toString "max"++toString ".loop":String)="max.loop":=by decide
variable{J:Addr}{fp wr:List Addr}{n:Nat}{P:Nat->Value->Prop}{St:Nat->Heap->Prop}{Rr:Result->Shared->Prop}{dv:Value}
theorem aj(W:Walks P0 wd Ar.in1 J fp wr n P St)(bt:Nat->Nat->Bool)(hG:CmpOf P0 wd Ar.in1 .Gt P bt)(B:Addr)(nB:B ∉ fp) :
  ∀(k j:Nat)(t:Shared)(vb:Value)(c:Nat),n-(j+1)=k->j+1<=n->St (j+1) t.heap->P (argBest bt j) vb->t.heap.get? B=some { cls:=.type "list",dict:=none,data:=.seq #[vb,vb] c,slots:=#[] } ->
  (∀v h' tk,P (argBest bt (n-1)) v->(∀b o,b ∉ wr->b≠B->t.heap.get? b=some o->h'.get? b=some o)->Rr (.ok (.ret v)) { t with heap:=h',toks:=tk }) ->
  codeAny (model P0 wd) Ar (.builtin "max.loop" ⟨[.ref J,.none,.ref B],[("default",dv)]⟩) Rr t:=by
 have wB:B ∉ wr:=fun h=>nB (W.sub _ h)
 intro k
 induction k with
 |zero =>
  intro j t vb c q1 q2 q3 q4 q5 q6
  have jn:j+1=n:=by omega
  apply codeAny_builtin U69;rw[U25 U3y _]
  show wpAny _ Ar.in1 (seqItems? (.ref B) >>= _) _ _ t
  apply U0;apply U2p q5 rfl
  show wpAny _ Ar.in1 (tryCatch (pyNext (.ref J)) _ >>= _) _ _ t
  refine U0 (U5w (W.done t _ _ (jn ▸ q3) fun h1 tk1 kp=>?_))
  have q5':=kp B _ wB q5
  show wpAny _ Ar.in1 (updateSeq B (fun _=>#[]) >>= _) _ _ _
  apply U0;apply U5j q5' rfl
  refine U0 (U5d (U0d (q6 vb _ tk1 (by rw[←jn];exact q4) fun b o n1 n2 e=>(U03 _ _ (U2f n2)).trans (kp b o n1 e))))
 |succ k ih =>
  intro j t vb c q1 q2 q3 q4 q5 q6
  have jn:j+1<n:=by omega
  apply codeAny_builtin U69;rw[U25 U3y _]
  show wpAny _ Ar.in1 (seqItems? (.ref B) >>= _) _ _ t
  apply U0;apply U2p q5 rfl
  show wpAny _ Ar.in1 (tryCatch (pyNext (.ref J)) _ >>= _) _ _ t
  refine U0 (U5w (W.item (j+1) t _ _ jn q3 fun v h1 tk1 pv st1 kp=>?_))
  have q5':=kp B _ wB q5
  show wpAny _ Ar.in1 (tryCatch (holding [v,v] (richCompare .Gt v vb >>= _)) _ >>= _) _ _ _
  refine U0 (U5w (U2x (U0 (hG (j+1) (argBest bt j) v vb _ _ _ pv q4 (U0 (U2x (U29 (U0 (U5d (U0d ?_))))))))))
  cases hb:bt (j+1) (argBest bt j) with
  |true =>
   simp only[if_true]
   apply U0;apply U5j q5' rfl
   refine U0 (U5d ?_)
   rw[Qm]
   refine U0d ⟨plainId_quiet U3y _,ih (j+1) _ v _ (by omega) jn (W.frame _ _ _ st1 fun b hbf o e=>(U03 _ _ (fun h:B=b=>nB (by rw[h];exact hbf))).trans e) (by simp only[argBest,hb,if_true];exact pv) (U2l _ q5' rfl) fun v' h2 tk2 pv' kp2=>?_⟩
   exact q6 v' h2 tk2 pv' fun b o n1 n2 e=>kp2 b o n1 n2 ((U03 _ _ (U2f n2)).trans (kp b o n1 e))
  |false =>
   simp only[U06,if_false]
   refine U0 (U5d ?_)
   rw[Qm]
   exact U0d ⟨plainId_quiet U3y _,ih (j+1) _ vb c (by omega) jn st1 (by simp only[argBest,hb,U06,if_false];exact q4) q5' fun v' h2 tk2 pv' kp2=>q6 v' h2 tk2 pv' fun b o n1 n2 e=>kp2 b o n1 n2 (kp b o n1 e)⟩
theorem jE(W:Walks P0 wd Ar.in1 J fp wr n P St)(bt:Nat->Nat->Bool)(hG:CmpOf P0 wd Ar.in1 .Gt P bt)(B:Addr)(nB:B ∉ fp){t:Shared}{c:Nat}(st:St 0 t.heap)(q5:t.heap.get? B=some { cls:=.type "list",dict:=none,data:=.seq #[] c,slots:=#[] })
  (q6:∀v h' tk,(n=0/\v=dv∨0<n/\P (argBest bt (n-1)) v)->(∀b o,b ∉ wr->b≠B->t.heap.get? b=some o->h'.get? b=some o)->Rr (.ok (.ret v)) { t with heap:=h',toks:=tk }) :
  codeAny (model P0 wd) Ar (.builtin "max.loop" ⟨[.ref J,.none,.ref B],[("default",dv)]⟩) Rr t:=by
 have wB:B ∉ wr:=fun h=>nB (W.sub _ h)
 apply codeAny_builtin U69;rw[U25 U3y _]
 show wpAny _ Ar.in1 (seqItems? (.ref B) >>= _) _ _ t
 apply U0;apply U2p q5 rfl
 show wpAny _ Ar.in1 (tryCatch (pyNext (.ref J)) _ >>= _) _ _ t
 by_cases h0:n=0
 .refine U0 (U5w (W.done t _ _ (h0 ▸ st) fun h1 tk1 kp=>?_))
  show wpAny _ Ar.in1 (rule _ >>= _) _ _ _
  exact U0 (U3i (U0d (q6 dv _ tk1 (.inl ⟨h0,rfl⟩) fun b o n1 n2 e=>kp b o n1 e)))
 .have hn:0<n:=by omega
  refine U0 (U5w (W.item 0 t _ _ hn st fun v h1 tk1 pv st1 kp=>?_))
  have q5':=kp B _ wB q5
  show wpAny _ Ar.in1 (updateSeq B (fun _=>#[v,v]) >>= _) _ _ _
  apply U0;apply U5j q5' rfl
  rw[Qm]
  refine U0d ⟨plainId_quiet U3y _,aj W bt hG B nB _ 0 _ v _ rfl hn (W.frame _ _ _ st1 fun b hbf o e=>(U03 _ _ (fun h:B=b=>nB (by rw[h];exact hbf))).trans e) pv (U2l _ q5' rfl) fun v' h2 tk2 pv' kp2=>?_⟩
  exact q6 v' h2 tk2 (.inr ⟨hn,pv'⟩) fun b o n1 n2 e=>kp2 b o n1 n2 ((U03 _ _ (U2f n2)).trans (kp b o n1 e))
theorem bW(a d:Value):argsOk "max" ⟨[a],[("default",d)]⟩:=by unfold argsOk;kernel_rfl
end
end HT
namespace L2
open PySem PySem.Spec PyProof PyProof.Rows
section
variable{X:Cx}
theorem bQ(hc:X.calm=true){pins:List (Addr×Obj)}{σ:St}{H:Hp}{s:Shared}(I:Inv X pins σ H s){p:Addr}{ns:List Int}{d:Int}{t:Tok}(hq:SqL X.K H p (ns.map V.int)){Q:VK}(q0:ns=[]->Q (.int d) H)(q1:ns≠[]->∀m∈ns,(∀n∈ns,n<=m)->Q (.int m) H) :
  wpAny (model X.prog X.w) X.A (call (.builtin "max") [.ref p] [("default",.int d t)]) (EP X pins σ Q) X.xe s:=by
 obtain⟨its,rv,pl,hz⟩:=I.list hq
 have hlen:=rv.length
 rw[U0f] at hlen
 have hl:=pl.isList
 have hlt:p<s.heap.objs.size:=by obtain⟨o,ho,_⟩:=hl;exact U0j ho
 have hval:∀i v,its.toArray[i]?=some v->∃t,v=U5m (ns.getD i 0) t:=fun i v e=>by
  rw[U44] at e
  have hi:i<ns.length:=by rw[hlen];exact(U0k.mp e).1
  obtain⟨u,e1,ru⟩:=rv.get (i:=i) (x:=.int ns[i]) (by rw[U0y,U02 hi];rfl)
  rw[e] at e1;cases e1
  rw[show ns.getD i 0=ns[i] by rw[U26,U02 hi];rfl]
  exact ru
 refine HT.bR F.kind_max F.plain_max F.entry_max (HT.bW _ _) ?_
 show wpAny _ X.A.in1 (Builtin.Builtins.bindParams "max" ["key","default"] 0 ⟨[],[("default",.int d t)]⟩ >>= _) _ _ s
 refine U0 (wpAny_of_eq (show Builtin.Builtins.bindParams "max" ["key","default"] 0 ⟨[],[("default",.int d t)]⟩=pure [none,some (.int d t)] by kernel_rfl) ?_)
 refine U0 (U0d (U0 (U41 hl (U0 (U2a ?_)))))
 rw[HT.Qm]
 have W:=Walks.list (prog:=X.prog) (w:=X.w) (A:=X.A.in1) (by simpa using I.ok.hd hc) s.heap.objs.size p (U1m hlt) its.toArray
 refine U0d ⟨plainId_quiet U3y _,HT.jE W _ (CmpOf.ints_gt (fun i=>ns.getD i 0) hval) _ ?_ ⟨⟨_,U0c _ (U0u _ rfl),rfl,rfl⟩,(hl.push _).push _⟩ (U0u _ rfl) fun v h' tk hv hk=>?_⟩
 .intro hm
  rw[U2c] at hm
  rcases U0q.mp hm with z|z
  .exact absurd z (U3d (U59 _))
  .exact absurd (U1f.mp z) (U3d (U52 hlt))
 .have J:Inv X pins σ H { s with heap:=h',toks:=tk }:=I.kept (h':=h') (t':=tk) fun b o e=>hk b o (fun z=>absurd (U1f.mp z) (U1m (U0j e))) (fun z=>absurd (U0j e) (by rw[z,U2c];exact U7k.mpr (U4x _))) (U0c _ (U0c _ e))
  rcases hv with ⟨h0,rfl⟩|⟨h0,hP⟩
  .exact⟨.int d,H,J,⟨t,rfl⟩,q0 (U23.mp (by rw[hlen];simpa using h0))⟩
  .obtain⟨g1,g2⟩:=argBest_gt (fun i=>ns.getD i 0) (its.toArray.size-1)
   obtain⟨t',rfl⟩:=hval _ _ hP
   rw[U0m,←hlen] at g1 g2 h0
   have hb:argBest (fun i j=>decide (ns.getD i 0>ns.getD j 0)) (ns.length-1)<ns.length:=by omega
   rw[U0m,←hlen]
   refine⟨.int _,H,J,⟨t',rfl⟩,q1 (fun z=>by rw[z] at h0;simp at h0) _ ?_ fun n hn=>?_⟩
   .rw[U26,U02 hb]
    exact U4i hb
   .obtain⟨j,hj,rfl⟩:=U4n hn
    have:=g2 j (by omega)
    rw[U26,U02 hj] at this
    exact this
def qI(K:U0b)(d:Int)(te:TE):TE:=fun σ H Q=>te σ H fun x H1=>∃(p:Addr)(ns:List Int),x=.ref p/\SqL K H1 p (ns.map V.int)/\(ns=[]->Q (.int d) H1)/\(ns≠[]->∀m∈ns,(∀n∈ns,n<=m)->Q (.int m) H1)
theorem iz{e:Expr}{te:TE}{d:Int}{j:Nat}{p pos kp kp0:Pos}(hc:X.calm=true)(hg:Gl X "max")(hm:X.mg "max"=none)(he:PE X e te)(hs:starEach [e] X.env=[(false,eval e X.env)]:=by rfl) :
  PE X (.Call (.Name "max" p) [e] [⟨some "default",.Constant (.int d) j kp0,kp⟩] pos) (qI X.K d te):=by
 intro pins s σ H Q I h
 refine U5o (Ma I hg hm (by decide +kernel:bootBuiltins "max"=some (.builtin "max")) ?_)
 refine PyProof.Rows.callWith_kw ?_ (by rw[hs];rfl) (by rw[hs];rfl) rfl rfl
 refine thn (Qk he SX hs pos pins s σ H (fun vs H1=>match vs with
  |[x]=>∃(p:Addr)(ns:List Int),x=.ref p/\SqL X.K H1 p (ns.map V.int)/\(ns=[]->Q (.int d) H1)/\(ns≠[]->∀m∈ns,(∀n∈ns,n<=m)->Q (.int m) H1)
  |_=>False) I h) fun us s1 ⟨vs,H1,I1,r1,q1⟩=>?_
 cases r1 with
 |nil=>exact q1.elim
 |cons rx rr =>
  cases rr with
  |cons _ _=>exact q1.elim
  |nil =>
   obtain⟨a,ns,rfl,hq,q0,q2⟩:=q1
   cases rx
   refine PyProof.Rows.kws_cons (thn (Zr pins s1 σ H1 (fun y H2=>y=.int d/\H2=H1) I1 ⟨rfl,rfl⟩) fun u s2 ⟨y,H2,I2,r2,e1,e2⟩=>PyProof.Rows.kws_nil ?_)
   subst e1 e2
   obtain⟨t0,rfl⟩:=(show ∃t,u=U5m d t from r2)
   exact bQ hc I2 hq q0 q2
end
end L2
end
section
namespace VS
open PySem PySem.Spec L2
theorem oZ:bootBuiltins "sum"=some (.builtin "sum"):=by decide +kernel
def Ys(S:Store):List D->Option D
 |[x]=>(listOf S x).bind fun ds=>(intsOf ds).map fun ns=>.int ns.sum
 |_=>none
theorem iH{K:U0b}:M8 K (lJ K) Ys:=by
 intro Γ μ σ H env S xs ds d hK R rs e Q q
 unfold Ys at e
 split at e
 .obtain⟨es,e1,e⟩:=bind_some e
  obtain⟨ns,e2,e4⟩:=map_some e
  subst e4
  obtain⟨v,rfl,r⟩:=rs.one
  obtain⟨a,ys,rfl,ha,rx⟩:=VR.list R r e1
  have:=IK e2
  subst this
  have:=rx.Qa
  subst this
  exact⟨a,ns,rfl,SqL.of ha,q _ H (Same.refl H) (.int _)⟩
 .cases e
def Z4(d:Int)(a:BP):BP:=fun env S=>(a env S).bind fun p=>(listOf p.2 p.1).bind fun ds=>(intsOf ds).map fun ns=>(.int ((M5 ns).getD d),p.2)
theorem fC(d:Int)(a:BP)(env:VS.Env)(S:Store):Z4 d a env S=(a env S).bind fun p=>(listOf p.2 p.1).bind fun ds=>(intsOf ds).map fun ns=>(.int ((M5 ns).getD d),p.2):=rfl
theorem jT{X:Cx}{e:Expr}{f:BP}{d:Int}{j:Nat}{p pos kp kp0:Pos}(hc:X.calm=true)(hg:Gl X "max")(hm:X.mg "max"=none)(he:JE X e f)(hs:starEach [e] X.env=[(false,eval e X.env)]:=by rfl) :
  JE X (.Call (.Name "max" p) [e] [⟨some "default",.Constant (.int d) j kp0,kp⟩] pos) (Z4 d f) :=
 ⟨PE.imp (iz hc hg hm he.pe hs) fun σ H Q h=>by
  obtain⟨Γ,μ,env,S,y,S',hK,R,e,q⟩:=h
  obtain⟨⟨x,S1⟩,e1,e⟩:=bind_some e
  obtain⟨ds,e2,e⟩:=bind_some e
  obtain⟨ns,e3,e⟩:=map_some e
  cases e
  refine⟨Γ,μ,env,S,x,S1,hK,R,e1,fun v1 μ1 H1 x1 R1 r1=>?_⟩
  obtain⟨a,xs,rfl,ha,rs⟩:=VR.list R1 r1 e2
  have:=IK e3
  subst this
  have:=rs.Qa
  subst this
  refine⟨a,ns,rfl,SqL.of ha,fun z=>?_,fun z m h1 h2=>?_⟩
  .have:=q (.int ((M5 ns).getD d)) μ1 H1 x1 R1 (.int _)
   rw[z] at this
   exact this
  .cases hm:M5 ns with
   |none =>
    cases ns with
    |nil=>exact absurd rfl z
    |cons a r=>simp[M5] at hm
   |some m' =>
    obtain⟨g1,g2⟩:=UW hm
    have e:m=m':=Int.le_antisymm (g2 _ h1) (h2 _ g1)
    have:=q (.int ((M5 ns).getD d)) μ1 H1 x1 R1 (.int _)
    rw[hm] at this
    rw[e]
    exact this⟩
end VS
end
section
namespace VS
open PySem PySem.Spec L2
end VS
end
section
set_option maxRecDepth 100000
namespace HT
open PySem PySem.Spec PyProof.Rows
section
variable{prog:Program}{w:World}{A:Around}{E:Value->Shared->Prop}{s:Shared}
structure uL(z TI TO i1 i2 i3:Addr)(fp1 fp2 fp3:List Addr):Prop where
 a1:TI≠z
 a2:TO≠z
 a3:TI≠TO
 b1:∀b∈fp1,b≠z/\b≠TO/\b≠i2/\b≠i3
 b2:∀b∈fp2,b≠z/\b≠TO/\b≠i1/\b≠i3
 b3:∀b∈fp3,b≠z/\b≠TO/\b≠i1/\b≠i2
 c1:i1≠z/\i1≠TO/\i1≠TI
 c2:i2≠z/\i2≠TO/\i2≠TI
 c3:i3≠z/\i3≠TO/\i3≠TI
section
variable{z TI TO i1 i2 i3:Addr}{fp1 fp2 fp3:List Addr}{n1 n2 n3 k:Nat}{P1 P2 P3:Nat->Value->Prop}{S1 S2 S3:Nat->Heap->Prop}{a b c:Value}
end
set_option maxHeartbeats 4000000 in
end
end HT
end
section
namespace HT
open PySem PySem.Spec PyProof.Rows
section
variable{prog:Program}{w:World}{A:Around}{E:Value->Shared->Prop}{s:Shared}
end
end HT
namespace L2
open PySem PySem.Spec PyProof.Rows
end L2
end
section
namespace L2
open PySem PySem.Spec PyProof.Rows
section
variable{X:Cx}
end
end L2
end
section
namespace VS
open PySem PySem.Spec L2
section
variable{X:Cx}
end
end VS
end
section
set_option maxRecDepth 100000
namespace L2
open PySem PySem.Spec PyProof.Rows
section
variable{κ:Type}[DecidableEq κ]
end
section
variable{P:Program}{w:World}{H:Hp}{h:Heap}{a:Addr}
end
section
variable{X:Cx}{pins:List (Addr×Obj)}{σ:St}{H:Hp}{s:Shared}{a:Addr}{y v:V}{u r:Value}{o:Option V}{A:Around}{E:Value->Shared->Prop}
end
section
variable{X:Cx}{pins:List (Addr×Obj)}{σ:St}{H:Hp}{s:Shared}{a:Addr}{kvs:List (Key×V)}{k:Key}{u:Value}{A:Around}{E:Value->Shared->Prop}
end
section
variable{X:Cx}{o i e value:Expr}{pos pos' tpos:Pos}{td ty tv:TE}
end
section
variable{X:Cx}{pos:Pos}
end
structure M1(X:Cx)(o:Expr)(m:Str)(apos:Pos)(e:Expr)(cpos:Pos):Prop where
 base:attributeBase o m X.env (eval o X.env)=eval o X.env
 few:((backTo cpos (starEach [e] X.env)).all (fun x=>!x.1)&&(backToKw cpos (keywordEach [] X.env)).all (fun x=>x.1.isSome)
  && decide (([e]:List Expr).length+([]:List Keyword).length+(if ([]:List Keyword).isEmpty then 0 else 1)<30))=true
 line:(apos.endLine==cpos.line)=true
 trees:backTo cpos (starEach [e] X.env)=[(false,eval e X.env)]
structure M2(X:Cx)(o:Expr)(m:Str)(apos:Pos)(e f:Expr)(cpos:Pos):Prop where
 base:attributeBase o m X.env (eval o X.env)=eval o X.env
 few:((backTo cpos (starEach [e,f] X.env)).all (fun x=>!x.1)&&(backToKw cpos (keywordEach [] X.env)).all (fun x=>x.1.isSome)
  && decide (([e,f]:List Expr).length+([]:List Keyword).length+(if ([]:List Keyword).isEmpty then 0 else 1)<30))=true
 line:(apos.endLine==cpos.line)=true
 trees:backTo cpos (starEach [e,f] X.env)=[(false,eval e X.env),(false,eval f X.env)]
section
variable{X:Cx}{pins:List (Addr×Obj)}{σ:St}{H:Hp}{s:Shared}{a:Addr}{y d:V}{u r:Value}{o:Option V}{A:Around}{E:Value->Shared->Prop}
end
section
variable{X:Cx}{o e f:Expr}{apos cpos:Pos}{td ty tx:TE}
end
section
variable{X:Cx}{pins:List (Addr×Obj)}{σ:St}{H:Hp}{s:Shared}{a:Addr}{kvs:List (Key×V)}{A:Around}{E:Value->Shared->Prop}
end
section
variable{X:Cx}{pins:List (Addr×Obj)}{σ:St}{H:Hp}{s:Shared}{a:Addr}{y:V}{u:Value}{A:Around}{E:Value->Shared->Prop}
end
section
variable{X:Cx}
end
section
variable{κ:Type}[DecidableEq κ]
end
end L2
end
section
namespace VS
open PySem PySem.Spec L2
section
variable{Γ:Fr}{μ:Mu}{σ:St}{H:Hp}{env:Env}{S:Store}{v:V}{d:D}
end
section
variable{X:Cx}{o i e f value:Expr}{pos pos' apos cpos:Pos}{fo fi fe fv ft:BP}
end
end VS
end
section
namespace SetP
open PySem PySem.Spec PyProof.Rows
section
variable{prog:Program}{w:World}{K:Type}[DecidableEq K]{knd:KeyKind prog w K}{A:Around}{E:Value->Shared->Prop}{s:Shared}
end
end SetP
namespace L2
open PySem PySem.Spec PyProof.Rows
variable{X:Cx}
end L2
end
section
namespace VS
open PySem PySem.Spec L2
end VS
end
section
set_option maxRecDepth 100000
namespace HT
open PySem PySem.Spec PyProof.Rows
section
variable{prog:Program}{w:World}{K:Type}[DecidableEq K]{knd:KeyKind prog w K}{A:Around}{E:Value->Shared->Prop}{s:Shared}
end
end HT
namespace L2
open PySem PySem.Spec PyProof.Rows
section
variable{X:Cx}{o:Expr}{td:TE}{p pos apos cpos:Pos}
end
end L2
end
section
namespace VS
open PySem PySem.Spec L2
end VS
end
section
namespace Tm
open PySem PyProof.Rows
def Yg:Bool->Keyed->Array Keyed->Nat->Nat->Nat->StateT SortSt Sem (Option Nat):=sortPriv% PySem.Builtin.gallop
def kv(p:Keyed):Int:=numOf p.1
def IsI(p:Keyed):Prop:=∃n t q,p=(.int n t,q)
def Jc(xs:Array Keyed):Prop:=∀p∈xs.toList,IsI p
theorem Jc.get{xs:Array Keyed}(h:Jc xs){i:Nat}(hi:i<xs.size):IsI xs[i]/\kv xs[i]=K xs i:=by
 refine⟨h _ (by simp),?_⟩
 unfold K
 rw[getElem?_pos xs i hi];rfl
section
variable{prog:Program}{w:World}{A:Around}{E:Value->Shared->Prop}{s:Shared}
theorem PX{st:SortSt}{x y:Keyed}{Q:Option Bool->SortSt->Prop}(hx:IsI x)(hy:IsI y)(hk:kindOf st=oneType')(h:Q (some (decide (kv x<kv y))) st) :
  wpS (model prog w) A E s (lt' x y) Q st:=by
 obtain⟨a,t,p,rfl⟩:=hx
 obtain⟨b,u,q,rfl⟩:=hy
 rw[lt'_eq]
 refine wpS_bind (wpS_get ?_)
 rw[hk,keyLt'_oneType]
 refine wpS_bind (wpS_lift (U57 (oneLt_int ⟨rfl,?_⟩)))
 exact wpS_pure h
theorem Cp{xs:Array Keyed}{i:Nat}{Q:Keyed->SortSt->Prop}{st:SortSt}(hi:i<xs.size)(h:Q xs[i] st):wpS (model prog w) A E s (elem' xs i) Q st:=by
 rw[elem'_eq,getElem?_pos xs i hi]
 exact wpS_pure h
def bey(left:Bool)(k x:Int):Bool:=if left then decide (x<k) else !decide (k<x)
theorem Nu{left:Bool}{key:Keyed}{arr:Array Keyed}{j:Nat}{Q:Option Bool->SortSt->Prop}{st:SortSt}(hk:kindOf st=oneType')(hkey:IsI key)(hI:Jc arr)(hj:j<arr.size)(h:Q (some (bey left (kv key) (K arr j))) st) :
  wpS (model prog w) A E s (elem' arr j >>= fun x=>if left=true then lt' x key else lt' key x >>= fun y=>pure (U1z (fun z=>!z) y)) Q st:=by
 obtain⟨g1,g2⟩:=hI.get hj
 refine wpS_bind (Cp hj ?_)
 cases left with
 |true =>
  rw[if_pos rfl]
  refine PX g1 hkey hk ?_
  rw[g2];exact h
 |false =>
  rw[if_neg (by decide)]
  refine wpS_bind (PX hkey g1 hk (wpS_pure ?_))
  rw[g2];exact h
theorem Iu{left:Bool}{key:Keyed}{arr:Array Keyed}{base n hint:Nat}{Q:Option Nat->SortSt->Prop}{st:SortSt}(hk:kindOf st=oneType')(hkey:IsI key)(hI:Jc arr)(hb:base+n<=arr.size)(hh:hint<n)
  (hm:∀i j,i<=j->j<n->bey left (kv key) (K arr (base+j))=true->bey left (kv key) (K arr (base+i))=true)
  (h:∀k,k<=n->(∀i,i<k->bey left (kv key) (K arr (base+i))=true)->(∀i,k<=i->i<n->bey left (kv key) (K arr (base+i))=false)->Q (some k) st) :
  wpS (model prog w) A E s (Yg left key arr base n hint) Q st:=by
 have hm':∀i j,i<=j->j<n->bey left (kv key) (K arr (base+i))=false->bey left (kv key) (K arr (base+j))=false:=fun i j h1 h2 h3=>by
  cases e:bey left (kv key) (K arr (base+j)) with
  |false=>rfl
  |true=>rw[hm i j h1 h2 e] at h3;cases h3
 have fin:∀(f:Nat->Option (Option Nat)×Nat×Nat->StateT SortSt Sem (ForInStep (Option (Option Nat)×Nat×Nat)))(R:Option (Option Nat)×Nat×Nat->SortSt->Prop)(lo hi:Nat),lo<=hi->hi<=n->(∀i,i<lo->bey left (kv key) (K arr (base+i))=true)->(∀i,hi<=i->i<n->bey left (kv key) (K arr (base+i))=false) ->
   (∀x lo hi,lo≥hi->f x (none,lo,hi)=pure (ForInStep.done (none,lo,hi))) ->
   (∀x lo hi Q',lo<hi->hi<=n->Q' (U37 (if bey left (kv key) (K arr (base+(lo+(hi-lo)/2)))=true then (none,lo+(hi-lo)/2+1,hi) else (none,lo,lo+(hi-lo)/2))) st->wpS (model prog w) A E s (f x (none,lo,hi)) Q' st) ->
   (∀lo k,Q (some k) st->R (none,lo,k) st)->wpS (model prog w) A E s (forIn [0:n] (none,lo,hi) f) R st:=fun f R lo hi h1 h2 h3 h4 f1 f2 f3=>by
  refine wpS_forRange (I:=fun x c st'=>st'=st/\∃lo hi,c=(none,lo,hi)/\lo<=hi/\hi<=n/\hi-lo<=n-x/\(∀i,i<lo->bey left (kv key) (K arr (base+i))=true)/\(∀i,hi<=i->i<n->bey left (kv key) (K arr (base+i))=false)) ?step ?fin ⟨rfl,lo,hi,rfl,h1,h2,by omega,h3,h4⟩
  case fin =>
   rintro c st' ⟨rfl,lo,hi,rfl,h1,h2,h5,h3,h4⟩
   have:lo=hi:=by omega
   subst this
   exact f3 lo lo (h lo h2 h3 h4)
  case step =>
   rintro x c st' _ hx ⟨rfl,lo,hi,rfl,h1,h2,h5,h3,h4⟩
   by_cases hge:lo≥hi
   .rw[f1 x lo hi hge]
    have:lo=hi:=by omega
    subst this
    exact wpS_pure (f3 lo lo (h lo h2 h3 h4))
   .refine f2 x lo hi _ (by omega) h2 ?_
    cases e:bey left (kv key) (K arr (base+(lo+(hi-lo)/2))) with
    |true=>exact⟨rfl,lo+(hi-lo)/2+1,hi,rfl,by omega,h2,by omega,fun i hi'=>hm i (lo+(hi-lo)/2) (by omega) (by omega) e,h4⟩
    |false=>exact⟨rfl,lo,lo+(hi-lo)/2,rfl,by omega,by omega,by omega,h3,fun i h6 h7=>hm' (lo+(hi-lo)/2) i h6 h7 e⟩
 unfold Yg
 refine wpS_bind (Nu hk hkey hI (by omega) ?_)
 cases e:bey left (kv key) (K arr (base+hint)) with
 |true =>
  refine wpS_bind (wpS_mono (wpS_forRange (I:=fun x c st'=>st'=st/\∃l o,c=(none,l,o)/\l<o/\hint+l<n/\x+1<=o/\bey left (kv key) (K arr (base+(hint+l)))=true)
   (Q:=fun c st'=>st'=st/\∃l o,c=(none,l,o)/\l<o/\hint+l<n/\bey left (kv key) (K arr (base+(hint+l)))=true/\(n-hint<=o∨(o<n-hint/\bey left (kv key) (K arr (base+(hint+o)))=false))) ?step ?fin ⟨rfl,0,1,rfl,by omega,by omega,by omega,e⟩) ?post)
  case fin =>
   rintro c st' ⟨rfl,l,o,rfl,h1,h2,h3,h4⟩
   exact⟨rfl,l,o,rfl,h1,h2,h4,.inl (by omega)⟩
  case step =>
   rintro x c st' _ hx ⟨rfl,l,o,rfl,h1,h2,h3,h4⟩
   dsimp only
   by_cases hge:o≥n-hint
   .rw[if_pos hge]
    exact wpS_pure ⟨rfl,l,o,rfl,h1,h2,h4,.inl hge⟩
   .rw[if_neg hge]
    refine wpS_bind (Nu hk hkey hI (by omega) ?_)
    cases e2:bey left (kv key) (K arr (base+(hint+o))) with
    |true=>exact wpS_pure ⟨rfl,o,2*o+1,rfl,by omega,by omega,by omega,e2⟩
    |false=>exact wpS_pure ⟨rfl,l,o,rfl,h1,h2,h4,.inr ⟨by omega,e2⟩⟩
  case post =>
   rintro c st' ⟨rfl,l,o,rfl,h1,h2,h4,h5⟩
   refine wpS_bind (fin _ _ (hint+l+1) (hint+min o (n-hint)) (by omega) (by omega) (fun i hi=>hm i (hint+l) (by omega) h2 h4) (fun i h6 h7=>by
    rcases h5 with z|⟨z1,z2⟩
    .omega
    .exact hm' (hint+o) i (by omega) h7 z2) (fun x lo hi hge=>if_pos hge) (fun x lo hi Q' hlt hle hq=>?_) fun lo k hq=>wpS_pure hq)
   dsimp only
   rw[if_neg (by omega)]
   refine wpS_bind (Nu hk hkey hI (by omega) ?_)
   cases e2:bey left (kv key) (K arr (base+(lo+(hi-lo)/2)))<;>(rw[e2] at hq;exact wpS_pure hq)
 |false =>
  refine wpS_bind (wpS_mono (wpS_forRange (I:=fun x c st'=>st'=st/\∃l o,c=(none,l,o)/\l<o/\l<=hint/\x+1<=o/\bey left (kv key) (K arr (base+(hint-l)))=false)
   (Q:=fun c st'=>st'=st/\∃l o,c=(none,l,o)/\l<o/\l<=hint/\bey left (kv key) (K arr (base+(hint-l)))=false/\(hint+1<=o∨(o<=hint/\bey left (kv key) (K arr (base+(hint-o)))=true))) ?step ?fin ⟨rfl,0,1,rfl,by omega,by omega,by omega,e⟩) ?post)
  case fin =>
   rintro c st' ⟨rfl,l,o,rfl,h1,h2,h3,h4⟩
   exact⟨rfl,l,o,rfl,h1,h2,h4,.inl (by omega)⟩
  case step =>
   rintro x c st' _ hx ⟨rfl,l,o,rfl,h1,h2,h3,h4⟩
   dsimp only
   by_cases hge:o≥hint+1
   .rw[if_pos hge]
    exact wpS_pure ⟨rfl,l,o,rfl,h1,h2,h4,.inl hge⟩
   .rw[if_neg hge]
    refine wpS_bind (Nu hk hkey hI (by omega) ?_)
    cases e2:bey left (kv key) (K arr (base+(hint-o))) with
    |false=>exact wpS_pure ⟨rfl,o,2*o+1,rfl,by omega,by omega,by omega,e2⟩
    |true=>exact wpS_pure ⟨rfl,l,o,rfl,h1,h2,h4,.inr ⟨by omega,e2⟩⟩
  case post =>
   rintro c st' ⟨rfl,l,o,rfl,h1,h2,h4,h5⟩
   refine wpS_bind (fin _ _ (hint+1-min o (hint+1)) (hint-l) (by omega) (by omega) (fun i hi=>by
    rcases h5 with z|⟨z1,z2⟩
    .omega
    .exact hm i (hint-o) (by omega) (by omega) z2) (fun i h6 h7=>hm' (hint-l) i h6 h7 h4) (fun x lo hi hge=>if_pos hge) (fun x lo hi Q' hlt hle hq=>?_) fun lo k hq=>wpS_pure hq)
   dsimp only
   rw[if_neg (by omega)]
   refine wpS_bind (Nu hk hkey hI (by omega) ?_)
   cases e2:bey left (kv key) (K arr (base+(lo+(hi-lo)/2)))<;>(rw[e2] at hq;exact wpS_pure hq)
end
end Tm
end
section
namespace Tm
open PySem PyProof.Rows
def Wa:Array Keyed->Array Keyed->StateT SortSt Sem (Array Keyed):=sortPriv% PySem.Builtin.mergeLo
def srt(l:List Keyed):Prop:=l.Pairwise fun p q=>kv p<=kv q
theorem Mf{a:Array Keyed}{i:Nat}(hi:i<a.size):kv a[i]=K a i:=by
 unfold K
 rw[getElem?_pos a i hi];rfl
theorem Rh{a:Array Keyed}{n:Nat}{p:Keyed}(h:p∈a.toList.drop n):∃i,n<=i/\i<a.size/\kv p=K a i:=by
 obtain⟨j,hj,rfl⟩:=U4n h
 rw[U10,U0g] at hj
 refine⟨n+j,by omega,by omega,?_⟩
 rw[List.getElem_drop,U3t]
 exact Mf _
theorem Wc{a:Array Keyed}{n k:Nat}{p:Keyed}(h:p∈(a.toList.drop n).take k):∃i,n<=i/\i<n+k/\i<a.size/\kv p=K a i:=by
 obtain⟨j,hj,rfl⟩:=U4n h
 rw[U1i,U10,U0g] at hj
 refine⟨n+j,by omega,by omega,by omega,?_⟩
 rw[List.getElem_take,List.getElem_drop,U3t]
 exact Mf _
structure ML(a b out:Array Keyed)(ia ib:Nat):Prop where
 perm:out.toList.Perm (a.toList.take ia++b.toList.take ib)
 sa:srt (out.toList++a.toList.drop ia)
 sb:srt (out.toList++b.toList.drop ib)
theorem chunk{out x r y:List Keyed}(h1:srt (out++(x++r)))(h2:srt (out++y))(h3:∀p∈x,∀q∈y,kv p<=kv q):srt (out++x++r)/\srt (out++x++y):=by
 unfold srt at *
 refine⟨by rw[U0z];exact h1,?_⟩
 obtain⟨o1,o2,o3⟩:=U1g.mp h1
 obtain⟨x1,x2,x3⟩:=U1g.mp o2
 obtain⟨p1,p2,p3⟩:=U1g.mp h2
 refine U1g.mpr ⟨U1g.mpr ⟨o1,x1,fun p hp q hq=>o3 p hp q (U2h _ hq)⟩,p2,fun p hp q hq=>?_⟩
 rcases U1e.mp hp with z|z
 .exact p3 p z q hq
 .exact h3 p z q hq
theorem ML.KJ{a b out out':Array Keyed}{ia ib:Nat}(h:ML a b out ia ib)(k:Nat)(ho:out'.toList=out.toList++(a.toList.drop ia).take k)(hle:∀i j,ia<=i->i<ia+k->i<a.size->ib<=j->j<b.size->K a i<=K b j):ML a b out' (ia+k) ib:=by
 have e:(a.toList.drop ia).take k++a.toList.drop (ia+k)=a.toList.drop ia:=by rw[←U46];exact U1t ..
 obtain⟨c1,c2⟩:=chunk (x:=(a.toList.drop ia).take k) (r:=a.toList.drop (ia+k)) (by rw[e];exact h.sa) h.sb fun p hp q hq=>by
  obtain⟨i,i1,i2,i3,i4⟩:=Wc hp
  obtain⟨j,j1,j2,j3⟩:=Rh hq
  rw[i4,j3]
  exact hle i j i1 i2 i3 j1 j2
 refine⟨?_,by rw[ho];exact c1,by rw[ho];exact c2⟩
 rw[ho,List.take_add]
 refine(h.perm.append_right _).trans ?_
 rw[U0z,U0z]
 exact U13 _ U14
theorem ML.swap{a b out:Array Keyed}{ia ib:Nat}(h:ML a b out ia ib):ML b a out ib ia:=⟨h.perm.trans U14,h.sb,h.sa⟩
theorem ML.Mw{a b out out':Array Keyed}{ia ib:Nat}(h:ML a b out ia ib)(k:Nat)(ho:out'.toList=out.toList++(b.toList.drop ib).take k)(hle:∀i j,ib<=i->i<ib+k->i<b.size->ia<=j->j<a.size->K b i<=K a j):ML a b out' ia (ib+k):=(h.swap.KJ k ho hle).swap
theorem Jj{a out:Array Keyed}{i:Nat}(hi:i<a.size):(out.push a[i]).toList=out.toList++(a.toList.drop i).take 1:=by
 have:(a.toList.drop i).take 1=[a[i]]:=by
  rw[U3 (by rw[U0g];exact hi)];rfl
 rw[this];simp
theorem Rq{a out:Array Keyed}{i k:Nat}:(out++a.extract i (i+k)).toList=out.toList++(a.toList.drop i).take k:=by
 rw[U1y,U3u,U3a,U5z]
theorem Wn(a out:Array Keyed)(i:Nat):out++a.extract i (i+0)=out:=Array.toList_inj.mp (by rw[Rq,List.take_zero,U1k])
theorem Lx(a:Array Keyed)(i:Nat):(a.extract i a.size).toList=a.toList.drop i:=by
 rw[U3u,U3a,U17 (by rw[U10,U0g];omega)]
theorem Oj(a:Array Keyed):a.toList.drop a.size=[]:=List.drop_eq_nil_of_le (by rw[U0g];exact U0o _)
theorem ML.gA{a b out r:Array Keyed}{ia ib:Nat}(h:ML a b out ia ib)(hb:ib=b.size)(hr:r.toList=out.toList++a.toList.drop ia):r.toList.Perm (a.toList++b.toList)/\srt r.toList:=by
 refine⟨?_,by rw[hr];exact h.sa⟩
 have e:b.toList.take ib=b.toList:=U17 (by rw[U0g];omega)
 have p:=h.perm
 rw[e] at p
 rw[hr]
 refine(p.append_right _).trans ?_
 rw[U0z]
 refine(U13 _ U14).trans ?_
 rw[←U0z,U1t]
theorem ML.qm{a b out r:Array Keyed}{ia ib:Nat}(h:ML a b out ia ib)(ha:ia+1=a.size)(hmax:∀j,j<b.size->K b j<=K a (a.size-1))(hr:r.toList=out.toList++b.toList.drop ib++a.toList.drop ia):r.toList.Perm (a.toList++b.toList)/\srt r.toList:=by
 constructor
 .rw[hr,U0z]
  refine(h.perm.append_right _).trans ?_
  have e1:=U1t ia a.toList
  have e2:=U1t ib b.toList
  generalize a.toList.take ia=x at *
  generalize a.toList.drop ia=x' at *
  generalize b.toList.take ib=y at *
  generalize b.toList.drop ib=y' at *
  rw[←e1,←e2,U0z,U0z]
  refine U13 _ ?_
  rw[←U0z]
  exact U14
 .rw[hr]
  have sa:=h.sa
  unfold srt at *
  obtain⟨_,a2,a3⟩:=U1g.mp sa
  refine U1g.mpr ⟨h.sb,a2,fun p hp q hq=>?_⟩
  obtain⟨i,i1,i2,i3⟩:=Rh hq
  have:i=a.size-1:=by omega
  subst this
  rcases U1e.mp hp with z|z
  .exact a3 p z q hq
  .obtain⟨j,j1,j2,j3⟩:=Rh z
   rw[i3,j3]
   exact hmax j j2
theorem Lf{a:Array Keyed}(h:SortedTo a a.size):srt a.toList:=by
 unfold srt
 rw[U3q]
 intro i j hi hj hij
 rw[U0g] at hi hj
 rw[U3t,U3t,Mf,Mf]
 exact h i j (by omega) hj
structure EqG(st st':SortSt):Prop where
 kind:kindOf st'=kindOf st
 arr:arrOf st'=arrOf st
 pend:pendingOf st'=pendingOf st
 failed:failedOf st'=failedOf st
theorem EqG.refl(st:SortSt):EqG st st:=⟨rfl,rfl,rfl,rfl⟩
section
variable{prog:Program}{w:World}{A:Around}{E:Value->Shared->Prop}{s:Shared}
theorem CP{σ α:Type}{M:Model}{c:Prop}[Decidable c]{x y:StateT σ Sem α}{Q:α->σ->Prop}{st:σ}(hx:c->wpS M A E s x Q st)(hy:¬c->wpS M A E s y Q st):wpS M A E s (if c then x else y) Q st:=by
 by_cases h:c
 .rw[if_pos h];exact hx h
 .rw[if_neg h];exact hy h
theorem Xe{a b:Array Keyed}{Q:Array Keyed->SortSt->Prop}{st:SortSt}(hk:kindOf st=oneType')(Ia:Jc a)(Ib:Jc b)(Sa:SortedTo a a.size)(Sb:SortedTo b b.size)(na:0<a.size)(nb:0<b.size)
  (hmin:∀i,i<a.size->K b 0<=K a i) (hmax:∀j,j<b.size->K b j<=K a (a.size-1))
  (h:∀r st',EqG st st'->r.toList.Perm (a.toList++b.toList)->srt r.toList->Q r st'):wpS (model prog w) A E s (Wa a b) Q st:=by
 have kL:∀out ia ib r,ML a b out ia ib->ib=b.size->r=out++a.extract ia a.size++b.extract ib b.size->r.toList.Perm (a.toList++b.toList)/\srt r.toList:=fun out ia ib r m e hr=>m.gA e (by
  rw[hr,e,U1y,U1y,Lx,Lx,Oj,U1k])
 have kR:∀out ia ib r,ML a b out ia ib->ia=a.size->r=out++a.extract ia a.size++b.extract ib b.size->r.toList.Perm (a.toList++b.toList)/\srt r.toList:=fun out ia ib r m e hr=>by
  obtain⟨q1,q2⟩:=m.swap.gA (r:=r) e (by rw[hr,e,U1y,U1y,Lx,Lx,Oj,U1k])
  exact⟨q1.trans U14,q2⟩
 have kM:∀out ia ib r,ML a b out ia ib->ia+1=a.size->r=out++b.extract ib b.size++a.extract ia a.size->r.toList.Perm (a.toList++b.toList)/\srt r.toList:=fun out ia ib r m e hr=>m.qm e hmax (by
  rw[hr,U1y,U1y,Lx,Lx])
 have m0:ML a b #[b[0]] 0 1:=by
  have:ML a b #[] 0 0:=⟨by simp,by
   show srt a.toList
   exact Lf Sa,by
   show srt b.toList
   exact Lf Sb⟩
  refine this.Mw (out':=#[b[0]]) 1 (Jj (out:=#[]) nb) fun i j h1 h2 h3 h4 h5=>?_
  have:i=0:=by omega
  subst this
  exact hmin j h5
 unfold Wa
 refine wpS_bind (wpS_lift (U3i ⟨rfl,?_⟩))
 refine wpS_bind (Cp nb ?_)
 dsimp only
 by_cases e1:1=b.size
 .rw[if_pos (by simpa using e1)]
  obtain⟨q1,q2⟩:=kL _ _ _ _ m0 e1 rfl
  exact wpS_pure (h _ _ (EqG.refl st) q1 q2)
 rw[if_neg (by simpa using e1)]
 by_cases e2:0+1=a.size
 .rw[if_pos (by simpa using e2)]
  obtain⟨q1,q2⟩:=kM _ _ _ _ m0 e2 rfl
  exact wpS_pure (h _ _ (EqG.refl st) q1 q2)
 rw[if_neg (by simpa using e2)]
 refine wpS_bind (wpS_get ?_)
 refine wpS_bind (wpS_mono (wpS_forRange
  (I:=fun x c st'=>EqG st st'/\∃out ia ib g,c=(none,out,ia,ib,g)/\ML a b out ia ib/\ia+1<a.size/\ib<b.size/\x<=ia+ib)
  (Q:=fun c st'=>EqG st st'/\∃r y,c=(some r,y)/\r.toList.Perm (a.toList++b.toList)/\srt r.toList) ?step ?fin ⟨EqG.refl st,_,0,1,_,rfl,m0,by omega,by omega,by omega⟩) ?post)
 case fin =>
  rintro c st' ⟨_,out,ia,ib,g,rfl,_,h1,h2,h3⟩
  omega
 case post =>
  rintro c st' ⟨hE,r,y,rfl,q1,q2⟩
  exact wpS_pure (h r st' hE q1 q2)
 case step =>
  rintro x c st1 _ hx ⟨hE,out,ia,ib,g,rfl,m,h1,h2,h3⟩
  dsimp only
  refine wpS_bind (wpS_mono (wpS_forRange
   (I:=fun y c st'=>EqG st st'/\∃out ia' ib' ac bc,c=(none,out,ia',ib',ac,bc)/\ML a b out ia' ib'/\ia'+1<a.size/\ib'<b.size/\ia+ib+y<=ia'+ib')
   (Q:=fun c st'=>EqG st st'/\((∃r y,c=(some r,y)/\r.toList.Perm (a.toList++b.toList)/\srt r.toList)∨∃out ia' ib' ac bc,c=(none,out,ia',ib',ac,bc)/\ML a b out ia' ib'/\ia'+1<a.size/\ib'<b.size/\ia+ib+1<=ia'+ib')) ?step1 ?fin1 ⟨hE,out,ia,ib,0,0,rfl,m,h1,h2,by omega⟩) ?post1)
  case fin1 =>
   rintro c st' ⟨_,out,ia',ib',ac,bc,rfl,_,h4,h5,h6⟩
   omega
  case step1 =>
   rintro y c st' _ hy ⟨hE',out',ia',ib',ac,bc,rfl,m',h4,h5,h6⟩
   dsimp only
   have gb:=Ib.get h5
   have ga:=Ia.get (show ia'<a.size by omega)
   refine wpS_bind (Cp h5 (wpS_bind (Cp (show ia'<a.size by omega) (wpS_bind (PX gb.1 ga.1 (hE'.kind.trans hk) ?_)))))
   rw[gb.2,ga.2]
   by_cases hw:K b ib'<K a ia'
   .simp only[hw,decide_true,if_true]
    refine wpS_bind (Cp h5 ?_)
    have m2:ML a b (out'.push b[ib']) ia' (ib'+1):=m'.Mw 1 (Jj h5) fun i j i1 i2 i3 j1 j2=>by
     have:i=ib':=by omega
     subst this
     have:=Sa ia' j j1 j2
     omega
    by_cases e3:ib'+1=b.size
    .rw[if_pos (by simpa using e3)]
     exact wpS_pure ⟨hE',.inl ⟨_,_,rfl,kL _ _ _ _ m2 e3 rfl⟩⟩
    .rw[if_neg (by simpa using e3)]
     by_cases e4:bc+1≥g
     .rw[if_pos e4]
      exact wpS_pure ⟨hE',.inr ⟨_,_,_,_,_,rfl,m2,h4,by omega,by omega⟩⟩
     .rw[if_neg e4]
      exact wpS_pure ⟨hE',_,_,_,_,_,rfl,m2,h4,by omega,by omega⟩
   .simp only[hw,decide_false,U06,if_false]
    refine wpS_bind (Cp (show ia'<a.size by omega) ?_)
    have m2:ML a b (out'.push a[ia']) (ia'+1) ib':=m'.KJ 1 (Jj (show ia'<a.size by omega)) fun i j i1 i2 i3 j1 j2=>by
     have:i=ia':=by omega
     subst this
     have:=Sb ib' j j1 j2
     omega
    by_cases e3:ia'+1+1=a.size
    .rw[if_pos (by simpa using e3)]
     exact wpS_pure ⟨hE',.inl ⟨_,_,rfl,kM _ _ _ _ m2 e3 rfl⟩⟩
    .rw[if_neg (by simpa using e3)]
     by_cases e4:ac+1≥g
     .rw[if_pos e4]
      exact wpS_pure ⟨hE',.inr ⟨_,_,_,_,_,rfl,m2,by omega,h5,by omega⟩⟩
     .rw[if_neg e4]
      exact wpS_pure ⟨hE',_,_,_,_,_,rfl,m2,by omega,h5,by omega⟩
  case post1 =>
   rintro c st' ⟨hE',⟨r,y,rfl,q⟩|⟨out',ia',ib',ac,bc,rfl,m',h4,h5,h6⟩⟩
   .exact wpS_pure ⟨hE',r,_,rfl,q⟩
   .dsimp only
    refine wpS_bind (wpS_lift (U3i ⟨rfl,?_⟩))
    refine wpS_bind (wpS_mono (wpS_forRange
     (I:=fun y c st'=>EqG st st'/\∃out ia ib g ac bc,c=(none,out,ia,ib,g,ac,bc)/\ML a b out ia ib/\ia+1<a.size/\ib<b.size/\ia'+ib'+y<=ia+ib)
     (Q:=fun c st'=>EqG st st'/\((∃r y,c=(some r,y)/\r.toList.Perm (a.toList++b.toList)/\srt r.toList)∨∃out ia ib g ac bc,c=(none,out,ia,ib,g,ac,bc)/\ML a b out ia ib/\ia+1<a.size/\ib<b.size/\ia'+ib'<=ia+ib)) ?step2 ?fin2 ⟨hE',out',ia',ib',_,ac,bc,rfl,m',h4,h5,by omega⟩) ?post2)
    case fin2 =>
     rintro c st' ⟨_,out,ia,ib,g,ac,bc,rfl,_,h7,h8,h9⟩
     omega
    case post2 =>
     rintro c st' ⟨hE2,⟨r,y,rfl,q⟩|⟨out,ia2,ib2,g2,ac,bc,rfl,m2,h7,h8,h9⟩⟩
     .exact wpS_pure ⟨hE2,r,_,rfl,q⟩
     .dsimp only
      refine wpS_bind (wpS_modify (wpS_pure ⟨⟨hE2.kind,hE2.arr,hE2.pend,hE2.failed⟩,_,_,_,_,rfl,m2,h7,h8,by omega⟩))
    case step2 =>
     rintro y c st2 _ hy ⟨hE2,out2,ia2,ib2,g2,ac2,bc2,rfl,m2,h7,h8,h9⟩
     refine CP (fun _=>?_) (fun _=>?_)
     all_goals
      refine wpS_bind (wpS_modify ?_)
      refine wpS_bind (Cp h8 ?_)
      have gb:=Ib.get h8
      have hE3:∀g,EqG st (SortSt.mk' (kindOf st2) (arrOf st2) (pendingOf st2) g (failedOf st2)):=fun g=>⟨hE2.kind,hE2.arr,hE2.pend,hE2.failed⟩
      refine wpS_bind (Iu (base:=ia2) (n:=a.size-ia2) (hint:=0) (hE2.kind.trans hk) gb.1 Ia (by omega) (by omega) (fun i j i1 i2 i3=>?_) fun k k1 k2 k3=>?_)
      .unfold bey at *
       have:=Sa (ia2+i) (ia2+j) (by omega) (by omega)
       simp at i3 ⊢
       omega
      have k2':∀i,ia2<=i->i<ia2+k->K a i<=K b ib2:=fun i i1 i2=>by
       have:=k2 (i-ia2) (by omega)
       rw[show ia2+(i-ia2)=i by omega,gb.2] at this
       unfold bey at this
       simp at this
       omega
      have k3':∀i,ia2+k<=i->i<a.size->K b ib2<K a i:=fun i i1 i2=>by
       have:=k3 (i-ia2) (by omega) (by omega)
       rw[show ia2+(i-ia2)=i by omega,gb.2] at this
       unfold bey at this
       simp at this
       omega
      have m3:ML a b (out2++a.extract ia2 (ia2+k)) (ia2+k) ib2:=m2.KJ k Rq fun i j i1 i2 i3 j1 j2=>U68 (k2' i i1 i2) (Sb ib2 j j1 j2)
      clear k2 k3 k2' m2
      apply CP
      case' hx =>
       intro hk0
       refine CP (fun e3=>?_) (fun e3=>?_)
       .exact wpS_pure ⟨hE3 _,.inl ⟨_,_,rfl,kM _ _ _ _ m3 (by simpa using e3) rfl⟩⟩
       have e3:¬ia2+k+1=a.size:=fun z=>e3 (by simpa using z)
       refine CP (fun e4=>?_) (fun e4=>?_)
       .exact wpS_pure ⟨hE3 _,.inl ⟨_,_,rfl,kR _ _ _ _ m3 (by simpa using e4) rfl⟩⟩
       have e4:¬ia2+k=a.size:=fun z=>e4 (by simpa using z)
       have h10:ia2+k+1<a.size:=by omega
       have h11:ia'+ib'+y<=ia2+k+ib2:=by omega
       have hga:ia2+k<a.size:=by omega
       have ga:=Ia.get hga
       obtain⟨z,hz⟩:∃z,K a (ia2+k)=z:=⟨_,rfl⟩
      case' hy =>
       intro hk0
       have:k=0:=by
        have:¬k>0:=hk0
        omega
       subst this
       have h10:ia2+1<a.size:=by omega
       have h11:ia'+ib'+y<=ia2+ib2:=by omega
       rw[Wn,U5t] at m3
       have hga:ia2<a.size:=by omega
       have ga:=Ia.get hga
       obtain⟨z,hz⟩:∃z,K a ia2=z:=⟨_,rfl⟩
       rw[U5t] at k3'
      all_goals
       refine wpS_bind (Cp h8 ?_)
       have m4:=m3.Mw 1 (Jj h8) fun i j i1 i2 i3 j1 j2=>(by
        have:i=ib2:=by omega
        subst this
        have:=k3' j j1 j2
        omega)
       refine CP (fun e5=>?_) (fun e5=>?_)
       .exact wpS_pure ⟨hE3 _,.inl ⟨_,_,rfl,kL _ _ _ _ m4 (by simpa using e5) rfl⟩⟩
       have e5:¬ib2+1=b.size:=fun z=>e5 (by simpa using z)
       refine wpS_bind (Cp hga ?_)
       refine wpS_bind (Iu (base:=ib2+1) (n:=b.size-(ib2+1)) (hint:=0) (hE2.kind.trans hk) ga.1 Ib (by omega) (by omega) (fun i j i1 i2 i3=>?_) fun k' k1' k2 k3=>?_)
       .unfold bey at *
        have:=Sb (ib2+1+i) (ib2+1+j) (by omega) (by omega)
        simp at i3 ⊢
        omega
       have gk:=ga.2.trans hz
       have k2':∀i,ib2+1<=i->i<ib2+1+k'->K b i<z:=fun i i1 i2=>by
        have:=k2 (i-(ib2+1)) (by omega)
        rw[show ib2+1+(i-(ib2+1))=i by omega,gk] at this
        unfold bey at this
        exact of_decide_eq_true this
       have k3':∀i,ib2+1+k'<=i->i<b.size->z<=K b i:=fun i i1 i2=>by
        have:=k3 (i-(ib2+1)) (by omega) (by omega)
        rw[show ib2+1+(i-(ib2+1))=i by omega,gk] at this
        unfold bey at this
        have:=of_decide_eq_false this
        omega
       have m5:=m4.Mw k' (Rq (a:=b)) fun i j i1 i2 i3 j1 j2=>U33 (Int.lt_of_lt_of_le (k2' i i1 i2) (by rw[←hz];exact Sa _ j j1 j2))
       clear k2 k3 k2' m4
       apply CP
       case' hx =>
        intro hk0
        refine CP (fun e6=>?_) (fun e6=>?_)
        .exact wpS_pure ⟨hE3 _,.inl ⟨_,_,rfl,kL _ _ _ _ m5 (by simpa using e6) rfl⟩⟩
        have e6:¬ib2+1+k'=b.size:=fun z=>e6 (by simpa using z)
        have h12:ib2+1+k'<b.size:=by omega
       case' hy =>
        intro hk0
        have:k'=0:=by
         have:¬k'>0:=hk0
         omega
        subst this
        have h12:ib2+1<b.size:=by omega
        rw[Wn,U5t] at m5
        rw[U5t] at k3'
       all_goals
        refine wpS_bind (Cp hga ?_)
        have m6:=m5.KJ 1 (Jj hga) fun i j i1 i2 i3 j1 j2=>(by
         rw[Nat.le_antisymm (Nat.lt_succ_iff.mp i2) i1,hz]
         exact k3' j j1 j2)
        refine CP (fun e7=>?_) (fun e7=>?_)
        .exact wpS_pure ⟨hE3 _,.inl ⟨_,_,rfl,kM _ _ _ _ m6 (by simpa using e7) rfl⟩⟩
        have e7:¬_:=fun z=>e7 (beq_iff_eq.mpr z)
        try dsimp only at e7
        refine CP (fun _=>?_) (fun _=>?_)
        .exact wpS_pure ⟨hE3 _,.inr ⟨_,_,_,_,_,_,rfl,m6,(by first|omega|(dsimp only;omega)),(by first|omega|(dsimp only;omega)),(by first|omega|(dsimp only;omega))⟩⟩
        .exact wpS_pure ⟨hE3 _,_,_,_,_,_,_,rfl,m6,(by first|omega|(dsimp only;omega)),(by first|omega|(dsimp only;omega)),(by first|omega|(dsimp only;omega))⟩
end
end Tm
end
section
namespace Tm
open PySem PyProof.Rows
def Wb:Array Keyed->Array Keyed->StateT SortSt Sem (Array Keyed):=sortPriv% PySem.Builtin.mergeHi
theorem Rg{a:Array Keyed}{n:Nat}{p:Keyed}(h:p∈a.toList.take n):∃i,i<n/\i<a.size/\kv p=K a i:=by
 obtain⟨j,hj,rfl⟩:=U4n h
 rw[U1i,U0g] at hj
 refine⟨j,by omega,by omega,?_⟩
 rw[List.getElem_take,U3t]
 exact Mf _
structure MH(a b out:Array Keyed)(na nb:Nat):Prop where
 perm:out.toList.Perm (a.toList.drop na++b.toList.drop nb)
 sa:srt (a.toList.take na++out.toList.reverse)
 sb:srt (b.toList.take nb++out.toList.reverse)
theorem oY{R x r y:List Keyed}(h1:srt (r++x++R))(h2:srt (y++R))(h3:∀q∈y,∀p∈x,kv q<=kv p):srt (r++(x++R))/\srt (y++(x++R)):=by
 unfold srt at *
 refine⟨by rw[←U0z];exact h1,?_⟩
 obtain⟨o1,o2,o3⟩:=U1g.mp h1
 obtain⟨x1,x2,x3⟩:=U1g.mp o1
 obtain⟨p1,p2,p3⟩:=U1g.mp h2
 refine U1g.mpr ⟨p1,U1g.mpr ⟨x2,o2,fun p hp q hq=>o3 p (U0x _ hp) q hq⟩,fun p hp q hq=>?_⟩
 rcases U1e.mp hq with z|z
 .exact h3 p hp q z
 .exact p3 p hp q z
theorem MH.KJ{a b out out':Array Keyed}{na nb:Nat}(h:MH a b out na nb)(n':Nat)(hn:n'<=na)(hs:na<=a.size)(ho:out'.toList=out.toList++((a.toList.drop n').take (na-n')).reverse)(hle:∀i j,n'<=i->i<na->j<nb->j<b.size->K b j<=K a i):MH a b out' n' nb:=by
 have e:a.toList.take n'++(a.toList.drop n').take (na-n')=a.toList.take na:=by
  rw[←List.take_add];congr 1;omega
 have e2:(a.toList.drop n').take (na-n')++a.toList.drop na=a.toList.drop n':=by
  have:=U1t (na-n') (a.toList.drop n')
  rw[U46,show n'+(na-n')=na by omega] at this
  exact this
 obtain⟨c1,c2⟩:=oY (x:=(a.toList.drop n').take (na-n')) (r:=a.toList.take n') (by rw[e];exact h.sa) h.sb fun q hq p hp=>by
  obtain⟨i,i1,i2,i3,i4⟩:=Wc hp
  obtain⟨j,j1,j2,j3⟩:=Rg hq
  rw[i4,j3]
  exact hle i j i1 (by omega) j1 j2
 refine⟨?_,by rw[ho,List.reverse_append,List.reverse_reverse];exact c1,by rw[ho,List.reverse_append,List.reverse_reverse];exact c2⟩
 generalize (a.toList.drop n').take (na-n')=x at *
 rw[ho,←e2]
 refine(h.perm.append_right _).trans ?_
 refine(U13 _ (U61 _)).trans ?_
 refine U14.trans ?_
 rw[←U0z]
theorem MH.swap{a b out:Array Keyed}{na nb:Nat}(h:MH a b out na nb):MH b a out nb na:=⟨h.perm.trans U14,h.sb,h.sa⟩
theorem MH.Mw{a b out out':Array Keyed}{na nb:Nat}(h:MH a b out na nb)(n':Nat)(hn:n'<=nb)(hs:nb<=b.size)(ho:out'.toList=out.toList++((b.toList.drop n').take (nb-n')).reverse)(hle:∀i j,n'<=i->i<nb->j<na->j<a.size->K a j<=K b i):MH a b out' na n':=(h.swap.KJ n' hn hs ho hle).swap
theorem Jt{a out:Array Keyed}{n:Nat}(hn:n-1<a.size)(h0:0<n):(out.push a[n-1]).toList=out.toList++((a.toList.drop (n-1)).take (n-(n-1))).reverse:=by
 rw[Jj hn,show n-(n-1)=1 by omega]
 have:(a.toList.drop (n-1)).take 1=[a[n-1]]:=by
  rw[U3 (by rw[U0g];exact hn)];rfl
 rw[this];rfl
theorem Uz{a out:Array Keyed}{n' n:Nat}:(out++(a.extract n' n).reverse).toList=out.toList++((a.toList.drop n').take (n-n')).reverse:=by
 rw[U1y,U5,U3u,U3a]
theorem Jl(a:Array Keyed)(n:Nat):(a.extract 0 n).toList=a.toList.take n:=by
 rw[U3u,U3a,U5v,Nat.sub_zero]
theorem MH.gB{a b out r:Array Keyed}{na nb:Nat}(h:MH a b out na nb)(ha:na=0)(hr:r.toList=b.toList.take nb++out.toList.reverse):r.toList.Perm (a.toList++b.toList)/\srt r.toList:=by
 refine⟨?_,by rw[hr];exact h.sb⟩
 have p:=h.perm
 rw[ha,U5v] at p
 rw[hr]
 refine(U13 _ ((U61 _).trans p)).trans ?_
 refine U14.trans ?_
 rw[U0z]
 refine U13 _ (U14.trans ?_)
 rw[U1t]
theorem MH.oU{a b out r:Array Keyed}{na nb:Nat}(h:MH a b out na nb)(hb:nb=1)(hmin:∀i,i<a.size->K b 0<=K a i)(hr:r.toList=b.toList.take nb++a.toList.take na++out.toList.reverse):r.toList.Perm (a.toList++b.toList)/\srt r.toList:=by
 constructor
 .rw[hr]
  refine(U13 _ ((U61 _).trans h.perm)).trans ?_
  have e1:=U1t na a.toList
  have e2:=U1t nb b.toList
  generalize a.toList.take na=x at *
  generalize a.toList.drop na=x' at *
  generalize b.toList.take nb=y at *
  generalize b.toList.drop nb=y' at *
  rw[←e1,←e2,U0z]
  refine U14.trans ?_
  rw[U0z,U0z,U0z]
  refine U13 _ (U13 _ U14)
 .rw[hr,U0z]
  have sb:=h.sb
  unfold srt at *
  obtain⟨b1,b2,b3⟩:=U1g.mp sb
  refine U1g.mpr ⟨b1,h.sa,fun p hp q hq=>?_⟩
  obtain⟨i,i1,i2,i3⟩:=Rg hp
  have:i=0:=by omega
  subst this
  rcases U1e.mp hq with z|z
  .obtain⟨j,j1,j2,j3⟩:=Rg z
   rw[i3,j3]
   exact hmin j j2
  .exact b3 p hp q z
section
variable{prog:Program}{w:World}{A:Around}{E:Value->Shared->Prop}{s:Shared}
theorem Xf{a b:Array Keyed}{Q:Array Keyed->SortSt->Prop}{st:SortSt}(hk:kindOf st=oneType')(Ia:Jc a)(Ib:Jc b)(Sa:SortedTo a a.size)(Sb:SortedTo b b.size)(na:0<a.size)(nb:0<b.size)
  (hmin:∀i,i<a.size->K b 0<=K a i) (hmax:∀j,j<b.size->K b j<=K a (a.size-1))
  (h:∀r st',EqG st st'->r.toList.Perm (a.toList++b.toList)->srt r.toList->Q r st'):wpS (model prog w) A E s (Wb a b) Q st:=by
 have kA:∀out na nb r,MH a b out na nb->na=0->r=a.extract 0 na++b.extract 0 nb++out.reverse->r.toList.Perm (a.toList++b.toList)/\srt r.toList:=fun out na nb r m e hr=>m.gB e (by
  rw[hr,e,U1y,U1y,U5,Jl,Jl];rfl)
 have kB:∀out na nb r,MH a b out na nb->nb=0->r=a.extract 0 na++b.extract 0 nb++out.reverse->r.toList.Perm (a.toList++b.toList)/\srt r.toList:=fun out na nb r m e hr=>by
  obtain⟨q1,q2⟩:=m.swap.gB (r:=r) e (by
   rw[hr,e,U1y,U1y,U5,Jl,Jl,List.take_zero,U1k])
  exact⟨q1.trans U14,q2⟩
 have kF:∀out na nb r,MH a b out na nb->nb=1->r=b.extract 0 nb++a.extract 0 na++out.reverse->r.toList.Perm (a.toList++b.toList)/\srt r.toList:=fun out na nb r m e hr=>m.oU e hmin (by
  rw[hr,U1y,U1y,U5,Jl,Jl])
 have hl:a.size-1<a.size:=by omega
 have m0:MH a b #[a[a.size-1]] (a.size-1) b.size:=by
  have:MH a b #[] a.size b.size:=⟨by rw[Oj,Oj];exact .nil,by
   show srt (a.toList.take a.size++[])
   rw[U1k,U17 (by rw[U0g];exact U0o _)]
   exact Lf Sa,by
   show srt (b.toList.take b.size++[])
   rw[U1k,U17 (by rw[U0g];exact U0o _)]
   exact Lf Sb⟩
  refine this.KJ (out':=#[a[a.size-1]]) (a.size-1) (by omega) (U0o _) (Jt (out:=#[]) hl na) fun i j h1 h2 h3 h4=>?_
  have:i=a.size-1:=by omega
  subst this
  exact hmax j h4
 unfold Wb
 refine wpS_bind (wpS_lift (U3i ⟨rfl,?_⟩))
 refine wpS_bind (Cp hl ?_)
 refine CP (fun e1=>?_) (fun e1=>?_)
 .obtain⟨q1,q2⟩:=kA _ _ _ _ m0 (by simpa using e1) rfl
  exact wpS_pure (h _ _ (EqG.refl st) q1 q2)
 have e1:¬a.size-1=0:=fun z=>e1 (by simpa using z)
 refine CP (fun e2=>?_) (fun e2=>?_)
 .obtain⟨q1,q2⟩:=kF _ _ _ _ m0 (by simpa using e2) rfl
  exact wpS_pure (h _ _ (EqG.refl st) q1 q2)
 have e2:¬b.size=1:=fun z=>e2 (by simpa using z)
 refine wpS_bind (wpS_get ?_)
 refine wpS_bind (wpS_mono (wpS_forRange
  (I:=fun x c st'=>EqG st st'/\∃na nb out g,c=(none,na,nb,out,g)/\MH a b out na nb/\0<na/\1<nb/\na<=a.size/\nb<=b.size/\x+na+nb<=a.size+b.size)
  (Q:=fun c st'=>EqG st st'/\∃r y,c=(some r,y)/\r.toList.Perm (a.toList++b.toList)/\srt r.toList) ?step ?fin ⟨EqG.refl st,_,_,_,_,rfl,m0,by omega,by omega,by omega,by omega,by omega⟩) ?post)
 case fin =>
  rintro c st' ⟨_,na,nb,out,g,rfl,_,h1,h2,h3,h4,h5⟩
  omega
 case post =>
  rintro c st' ⟨hE,r,y,rfl,q1,q2⟩
  exact wpS_pure (h r st' hE q1 q2)
 case step =>
  rintro x c st1 _ hx ⟨hE,na0,nb0,out,g,rfl,m,h1,h2,s1,s2,h3⟩
  refine wpS_bind (wpS_mono (wpS_forRange
   (I:=fun y c st'=>EqG st st'/\∃na nb out ac bc,c=(none,na,nb,out,ac,bc)/\MH a b out na nb/\0<na/\1<nb/\na<=a.size/\nb<=b.size/\y+na+nb<=na0+nb0)
   (Q:=fun c st'=>EqG st st'/\((∃r y,c=(some r,y)/\r.toList.Perm (a.toList++b.toList)/\srt r.toList)∨∃na nb out ac bc,c=(none,na,nb,out,ac,bc)/\MH a b out na nb/\0<na/\1<nb/\na<=a.size/\nb<=b.size/\1+na+nb<=na0+nb0)) ?step1 ?fin1 ⟨hE,na0,nb0,out,0,0,rfl,m,h1,h2,s1,s2,by omega⟩) ?post1)
  case fin1 =>
   rintro c st' ⟨_,na,nb,out,ac,bc,rfl,_,h4,h5,s3,s4,h6⟩
   omega
  case step1 =>
   rintro y c st' _ hy ⟨hE',na',nb',out',ac,bc,rfl,m',h4,h5,s3,s4,h6⟩
   have ib:nb'-1<b.size:=by omega
   have ia:na'-1<a.size:=by omega
   have gb:=Ib.get ib
   have ga:=Ia.get ia
   refine wpS_bind (Cp ib (wpS_bind (Cp ia (wpS_bind (PX gb.1 ga.1 (hE'.kind.trans hk) ?_)))))
   rw[gb.2,ga.2]
   by_cases hw:K b (nb'-1)<K a (na'-1)
   .simp only[hw,decide_true,if_true]
    refine wpS_bind (Cp ia ?_)
    have m2:MH a b (out'.push a[na'-1]) (na'-1) nb':=m'.KJ (na'-1) (by omega) s3 (Jt ia h4) fun i j i1 i2 j1 j2=>by
     have:i=na'-1:=by omega
     subst this
     have:=Sb j (nb'-1) (by omega) (by omega)
     omega
    by_cases e3:na'-1=0
    .rw[if_pos (by simpa using e3)]
     exact wpS_pure ⟨hE',.inl ⟨_,_,rfl,kA _ _ _ _ m2 e3 rfl⟩⟩
    .rw[if_neg (by simpa using e3)]
     by_cases e4:ac+1≥g
     .rw[if_pos e4]
      exact wpS_pure ⟨hE',.inr ⟨_,_,_,_,_,rfl,m2,by omega,h5,by omega,by omega,by omega⟩⟩
     .rw[if_neg e4]
      exact wpS_pure ⟨hE',_,_,_,_,_,rfl,m2,by omega,h5,by omega,by omega,by omega⟩
   .simp only[hw,decide_false,U06,if_false]
    refine wpS_bind (Cp ib ?_)
    have m2:MH a b (out'.push b[nb'-1]) na' (nb'-1):=m'.Mw (nb'-1) (by omega) s4 (Jt ib (by omega)) fun i j i1 i2 j1 j2=>by
     have:i=nb'-1:=by omega
     subst this
     have:=Sa j (na'-1) (by omega) (by omega)
     omega
    by_cases e3:nb'-1=1
    .rw[if_pos (by simpa using e3)]
     exact wpS_pure ⟨hE',.inl ⟨_,_,rfl,kF _ _ _ _ m2 e3 rfl⟩⟩
    .rw[if_neg (by simpa using e3)]
     by_cases e4:bc+1≥g
     .rw[if_pos e4]
      exact wpS_pure ⟨hE',.inr ⟨_,_,_,_,_,rfl,m2,h4,by omega,by omega,by omega,by omega⟩⟩
     .rw[if_neg e4]
      exact wpS_pure ⟨hE',_,_,_,_,_,rfl,m2,h4,by omega,by omega,by omega,by omega⟩
  case post1 =>
   rintro c st' ⟨hE',⟨r,y,rfl,q⟩|⟨na',nb',out',ac,bc,rfl,m',h4,h5,s3,s4,h6⟩⟩
   .exact wpS_pure ⟨hE',r,_,rfl,q⟩
   .refine wpS_bind (wpS_lift (U3i ⟨rfl,?_⟩))
    refine wpS_bind (wpS_mono (wpS_forRange
     (I:=fun y c st'=>EqG st st'/\∃na nb out g ac bc,c=(none,na,nb,out,g,ac,bc)/\MH a b out na nb/\0<na/\1<nb/\na<=a.size/\nb<=b.size/\y+na+nb<=na'+nb')
     (Q:=fun c st'=>EqG st st'/\((∃r y,c=(some r,y)/\r.toList.Perm (a.toList++b.toList)/\srt r.toList)∨∃na nb out g ac bc,c=(none,na,nb,out,g,ac,bc)/\MH a b out na nb/\0<na/\1<nb/\na<=a.size/\nb<=b.size/\na+nb<=na'+nb')) ?step2 ?fin2 ⟨hE',na',nb',out',_,ac,bc,rfl,m',h4,h5,s3,s4,by omega⟩) ?post2)
    case fin2 =>
     rintro c st' ⟨_,na,nb,out,g,ac,bc,rfl,_,h7,h8,s5,s6,h9⟩
     omega
    case post2 =>
     rintro c st' ⟨hE2,⟨r,y,rfl,q⟩|⟨na2,nb2,out,g2,ac,bc,rfl,m2,h7,h8,s5,s6,h9⟩⟩
     .exact wpS_pure ⟨hE2,r,_,rfl,q⟩
     .refine wpS_bind (wpS_modify (wpS_pure ⟨⟨hE2.kind,hE2.arr,hE2.pend,hE2.failed⟩,na2,nb2,out,_,rfl,m2,h7,h8,s5,s6,by omega⟩))
    case step2 =>
     rintro y c st2 _ hy ⟨hE2,na2,nb2,out2,g2,ac2,bc2,rfl,m2,h7,h8,s5,s6,h9⟩
     refine CP (fun _=>?_) (fun _=>?_)
     all_goals
      have ib:nb2-1<b.size:=by omega
      refine wpS_bind (wpS_modify ?_)
      refine wpS_bind (Cp ib ?_)
      have gb:=Ib.get ib
      have hE3:∀g,EqG st (SortSt.mk' (kindOf st2) (arrOf st2) (pendingOf st2) g (failedOf st2)):=fun g=>⟨hE2.kind,hE2.arr,hE2.pend,hE2.failed⟩
      refine wpS_bind (Iu (base:=0) (n:=na2) (hint:=na2-1) (hE2.kind.trans hk) gb.1 Ia (by omega) (by omega) (fun i j i1 i2 i3=>?_) fun k k1 k2 k3=>?_)
      .unfold bey at *
       have:=Sa (0+i) (0+j) (by omega) (by omega)
       simp at i3 ⊢
       simp at this
       omega
      have k2':∀i,i<k->K a i<=K b (nb2-1):=fun i i1=>by
       have:=k2 i i1
       rw[U4j,gb.2] at this
       unfold bey at this
       simp at this
       omega
      have k3':∀i,k<=i->i<na2->K b (nb2-1)<K a i:=fun i i1 i2=>by
       have:=k3 i i1 i2
       rw[U4j,gb.2] at this
       unfold bey at this
       simp at this
       omega
      have m3:MH a b (out2++(a.extract k na2).reverse) k nb2:=m2.KJ k k1 s5 Uz fun i j i1 i2 j1 j2=>(by
       have:=Sb j (nb2-1) (by omega) (by omega)
       have:=k3' i i1 i2
       omega)
      clear k2 k3 k3'
      apply CP
      case' hx =>
       intro hk0
       refine CP (fun e3=>?_) (fun e3=>?_)
       .exact wpS_pure ⟨hE3 _,.inl ⟨_,_,rfl,kA _ _ _ _ m3 (by simpa using e3) rfl⟩⟩
       have e3:¬k=0:=fun z=>e3 (by simpa using z)
       have hga:k-1<a.size:=by omega
       have h10:0<k:=by omega
       have s7:k<=a.size:=by omega
       have h11:y+k+nb2<=na'+nb':=by omega
       have ga:=Ia.get hga
       obtain⟨z,hz⟩:∃z,K a (k-1)=z:=⟨_,rfl⟩
       have hz2:∀j,j<k->K a j<=z:=fun j hj=>by rw[←hz];exact Sa j (k-1) (by omega) (by omega)
      case' hy =>
       intro hk0
       have:k=na2:=by
        have:¬na2-k>0:=hk0
        omega
       subst this
       have m3:=m2
       have hga:k-1<a.size:=by omega
       have h10:0<k:=by omega
       have s7:k<=a.size:=by omega
       have h11:y+k+nb2<=na'+nb':=by omega
       have ga:=Ia.get hga
       obtain⟨z,hz⟩:∃z,K a (k-1)=z:=⟨_,rfl⟩
       have hz2:∀j,j<k->K a j<=z:=fun j hj=>by rw[←hz];exact Sa j (k-1) (by omega) (by omega)
      all_goals
       refine wpS_bind (Cp ib ?_)
       have m4:=m3.Mw (nb2-1) (by omega) s6 (Jt ib (by omega)) fun i j i1 i2 j1 j2=>(by
        have:i=nb2-1:=by omega
        subst this
        exact k2' j j1)
       refine CP (fun e5=>?_) (fun e5=>?_)
       .exact wpS_pure ⟨hE3 _,.inl ⟨_,_,rfl,kF _ _ _ _ m4 (by simpa using e5) rfl⟩⟩
       have e5:¬nb2-1=1:=fun z=>e5 (by simpa using z)
       refine wpS_bind (Cp hga ?_)
       refine wpS_bind (Iu (base:=0) (n:=nb2-1) (hint:=nb2-1-1) (hE2.kind.trans hk) ga.1 Ib (by omega) (by omega) (fun i j i1 i2 i3=>?_) fun k' k1' k2 k3=>?_)
       .unfold bey at *
        have:=Sb (0+i) (0+j) (by omega) (by omega)
        simp at i3 ⊢
        simp at this
        omega
       have gk:=ga.2.trans hz
       have q2':∀i,i<k'->K b i<z:=fun i i1=>by
        have:=k2 i i1
        rw[U4j,gk] at this
        unfold bey at this
        exact of_decide_eq_true this
       have q3':∀i,k'<=i->i<nb2-1->z<=K b i:=fun i i1 i2=>by
        have:=k3 i i1 i2
        rw[U4j,gk] at this
        unfold bey at this
        have:=of_decide_eq_false this
        omega
       have m5:=m4.Mw k' k1' (by omega) (Uz (a:=b)) fun i j i1 i2 j1 j2=>U68 (hz2 j j1) (q3' i i1 i2)
       clear k2 k3 q3'
       apply CP
       case' hx =>
        intro hk0
        refine CP (fun e6=>?_) (fun e6=>?_)
        .exact wpS_pure ⟨hE3 _,.inl ⟨_,_,rfl,kF _ _ _ _ m5 (by simpa using e6) rfl⟩⟩
        have e6:¬k'=1:=fun z=>e6 (by simpa using z)
        refine CP (fun e8=>?_) (fun e8=>?_)
        .exact wpS_pure ⟨hE3 _,.inl ⟨_,_,rfl,kB _ _ _ _ m5 (by simpa using e8) rfl⟩⟩
        have e8:¬k'=0:=fun z=>e8 (by simpa using z)
        have h12:1<k':=by omega
       case' hy =>
        intro hk0
        have:k'=nb2-1:=by
         have:¬nb2-1-k'>0:=hk0
         omega
        subst this
        have m5:=m4
        have h12:1<nb2-1:=by omega
       all_goals
        refine wpS_bind (Cp hga ?_)
        have m6:=m5.KJ (k-1) (by omega) s7 (Jt hga h10) fun i j i1 i2 j1 j2=>(by
         have:i=k-1:=by omega
         subst this
         rw[hz]
         exact U33 (q2' j j1))
        refine CP (fun e7=>?_) (fun e7=>?_)
        .exact wpS_pure ⟨hE3 _,.inl ⟨_,_,rfl,kA _ _ _ _ m6 (by simpa using e7) rfl⟩⟩
        have e7:¬k-1=0:=fun z=>e7 (by simpa using z)
        refine CP (fun _=>?_) (fun _=>?_)
        .exact wpS_pure ⟨hE3 _,.inr ⟨_,_,_,_,_,_,rfl,m6,(by first|omega|(dsimp only;omega)),(by first|omega|(dsimp only;omega)),(by first|omega|(dsimp only;omega)),(by first|omega|(dsimp only;omega)),(by first|omega|(dsimp only;omega))⟩⟩
        .exact wpS_pure ⟨hE3 _,_,_,_,_,_,_,rfl,m6,(by first|omega|(dsimp only;omega)),(by first|omega|(dsimp only;omega)),(by first|omega|(dsimp only;omega)),(by first|omega|(dsimp only;omega)),(by first|omega|(dsimp only;omega))⟩
end
end Tm
end
section
namespace Tm
open PySem PyProof.Rows
structure RB(a₀:Array Keyed)(st0:SortSt)(lo:Nat)(st:SortSt):Prop where
 perm:(arrOf st).Perm a₀
 pre:∀i,i<lo->(arrOf st)[i]?=(arrOf st0)[i]?
 kind:kindOf st=oneType'
 failed:failedOf st=none
 pend:pendingOf st=pendingOf st0
structure Keys(a₀:Array Keyed):Prop where
 allI:Jc a₀
 uniq:(a₀.toList.map kv).Nodup
theorem WR{a₀ xs:Array Keyed}(h:Jc a₀)(hp:xs.Perm a₀):Jc xs:=fun p hm=>h p ((U5c.mp hp).mem_iff.mp hm)
theorem mD{a₀ xs:Array Keyed}(h:Keys a₀)(hp:xs.Perm a₀){i j:Nat}(hi:i<a₀.size)(hj:j<a₀.size)(hij:i≠j):K xs i≠K xs j:=by
 have hn:(xs.toList.map kv).Nodup:=((U5c.mp hp).map kv).nodup_iff.mpr h.uniq
 have sz:=hp.size_eq
 have h1:i<xs.size:=by omega
 have h2:j<xs.size:=by omega
 intro z
 rw[←Mf h1,←Mf h2] at z
 have g:∀k (hk:k<xs.size),(xs.toList.map kv)[k]'(by rw[U0f,U0g];exact hk)=kv xs[k]:=fun k hk=>by rw[List.getElem_map,U3t]
 have P:=U3q.mp hn
 rcases Nat.lt_or_gt_of_ne hij with l|l
 .exact P i j (by rw[U0f,U0g];exact h1) (by rw[U0f,U0g];exact h2) l (by rw[g i h1,g j h2];exact z)
 .exact P j i (by rw[U0f,U0g];exact h2) (by rw[U0f,U0g];exact h1) l (by rw[g i h1,g j h2];exact z.symm)
variable{a₀:Array Keyed}{st0:SortSt}{lo:Nat}
theorem RB.size{st:SortSt}(h:RB a₀ st0 lo st):(arrOf st).size=a₀.size:=h.perm.size_eq
theorem RB.mirror{st:SortSt}(h:RB a₀ st0 lo st){j:Nat}(hj:j<=a₀.size):RB a₀ st0 lo (setArr st (mirror (arrOf st) lo j ((j-lo)/2))) :=
 ⟨(mirror_perm _ _ _ _).trans h.perm,fun i hi=>by
  show(PyProof.Rows.mirror (arrOf st) lo j ((j-lo)/2))[i]?=_
  rw[getElem?_mirror_all (by rw[h.size];exact hj),if_neg (by omega)]
  exact h.pre i hi,h.kind,h.failed,h.pend⟩
theorem RB.bubble{st:SortSt}(h:RB a₀ st0 lo st){k d:Nat}(hk:lo+k<a₀.size)(hd:d<=k):RB a₀ st0 lo (setArr st (bubble (arrOf st) (lo+k) d)) :=
 ⟨(bubble_perm _ _ _).trans h.perm,fun i hi=>by
  show(PyProof.Rows.bubble (arrOf st) (lo+k) d)[i]?=_
  rw[getElem?_bubble (by rw[h.size];exact hk) d (by omega),if_neg (by omega),if_neg (by omega)]
  exact h.pre i hi,h.kind,h.failed,h.pend⟩
def KY(xs:Array Keyed)(lo m:Nat):Prop:=∀i j,i<=j->j<m->K xs (lo+i)<=K xs (lo+j)
section
variable{prog:Program}{w:World}{A:Around}{E:Value->Shared->Prop}{s:Shared}
theorem Lk{st:SortSt}{i j:Nat}{Q:Option Bool->SortSt->Prop}(hB:RB a₀ st0 lo st)(h0:Keys a₀)(hi:i<a₀.size)(hj:j<a₀.size)
  (h:Q (some (decide (K (arrOf st) i<K (arrOf st) j))) st):wpS (model prog w) A E s (ltAt' i j) Q st:=by
 have I:=WR h0.allI hB.perm
 have g1:=I.get (show i<(arrOf st).size by rw[hB.size];exact hi)
 have g2:=I.get (show j<(arrOf st).size by rw[hB.size];exact hj)
 rw[ltAt'_eq]
 refine wpS_bind (wpS_get (wpS_bind (Cp (by rw[hB.size];exact hi) (wpS_bind (Cp (by rw[hB.size];exact hj) (PX g1.1 g2.1 hB.kind ?_))))))
 rw[g1.2,g2.2]
 exact h
theorem cU{st:SortSt}{n ok:Nat}{Q:Bool->SortSt->Prop}(h0:Keys a₀)(hn:lo+n<=a₀.size)(hok:ok<=n)(hB:RB a₀ st0 lo st)(hs:KY (arrOf st) lo ok)
  (h:∀st',RB a₀ st0 lo st'->KY (arrOf st') lo n->Q true st'):wpS (model prog w) A E s (binarySort' lo n ok) Q st:=by
 rw[binarySort'_eq]
 refine wpS_bind (wpS_mono (wpS_forRange (I:=fun k c st'=>c=(none,())/\RB a₀ st0 lo st'/\KY (arrOf st') lo (min k n))
  (Q:=fun c st'=>c=(none,())/\RB a₀ st0 lo st'/\KY (arrOf st') lo n) ?step ?fin ?init) ?post)
 case post =>
  rintro c st' ⟨rfl,hB',hs'⟩
  exact wpS_pure (h st' hB' hs')
 case init =>
  refine⟨rfl,hB,fun i j hij hj=>?_⟩
  by_cases h1:ok=0
  .have:i=j:=by omega
   subst this;exact U2n _
  .exact hs i j hij (by omega)
 case fin =>
  rintro c st' ⟨hc,hB',hs'⟩
  refine⟨hc,hB',?_⟩
  rwa [show min (max (max ok 1) n) n=n by omega] at hs'
 case step =>
  rintro k c st' hak hkn ⟨rfl,hB',hs'⟩
  rw[show min k n=k by omega] at hs'
  refine wpS_bind (wpS_mono (wpS_forRange (I:=fun x c st''=>st''=st'/\∃l r,c=(none,l,r)/\l<=r/\r<=k/\r-l<=k-x /\
    (∀i,i<l->K (arrOf st') (lo+i)<=K (arrOf st') (lo+k))/\(∀i,r<=i->i<k->K (arrOf st') (lo+k)<K (arrOf st') (lo+i)))
   (Q:=fun c st''=>st''=st'/\∃l r,c=(none,l,r)/\l<=k /\
    (∀i,i<l->K (arrOf st') (lo+i)<=K (arrOf st') (lo+k))/\(∀i,l<=i->i<k->K (arrOf st') (lo+k)<K (arrOf st') (lo+i))) ?istep ?ifin ?iinit) ?ipost)
  case iinit=>exact⟨rfl,0,k,rfl,by omega,by omega,by omega,fun i hi=>by omega,fun i h1 h2=>by omega⟩
  case ifin =>
   rintro c st'' ⟨rfl,l,r,rfl,hlr,hrk,hm,hlo,hhi⟩
   have:l=r:=by omega
   subst this
   exact⟨rfl,l,l,rfl,hrk,hlo,hhi⟩
  case istep =>
   rintro x c st'' _ hxk ⟨rfl,l,r,rfl,hlr,hrk,hm,hlo,hhi⟩
   dsimp only
   by_cases hge:l≥r
   .rw[if_pos hge]
    have:l=r:=by omega
    subst this
    exact wpS_pure ⟨rfl,l,l,rfl,hrk,hlo,hhi⟩
   .rw[if_neg hge]
    refine wpS_bind (Lk hB' h0 (by omega) (by omega) ?_)
    by_cases hless:K (arrOf st'') (lo+k)<K (arrOf st'') (lo+(l+r)/2)
    .simp only[hless,decide_true,if_true]
     refine wpS_pure ⟨rfl,l,(l+r)/2,rfl,by omega,by omega,by omega,hlo,fun i h1 h2=>?_⟩
     exact Int.lt_of_lt_of_le hless (hs' _ _ h1 h2)
    .simp only[hless,decide_false,U06,if_false]
     refine wpS_pure ⟨rfl,(l+r)/2+1,r,rfl,by omega,by omega,by omega,fun i h1=>?_,hhi⟩
     exact U68 (hs' i ((l+r)/2) (by omega) (by omega)) (Int.not_lt.mp hless)
  case ipost =>
   rintro c st'' ⟨rfl,l,r,rfl,hlk,hlo,hhi⟩
   show wpS _ _ _ _ (do moveDown' (lo+k) (lo+l);pure (U37 (none,()))) _ _
   rw[moveDown'_eq]
   have ed:lo+k-(lo+l)=k-l:=by omega
   rw[ed]
   refine wpS_bind (wpS_modify (wpS_pure ⟨rfl,hB'.bubble (by omega) (by omega),?_⟩))
   rw[show min (k+1) n=k+1 by omega]
   have hks:lo+k<(arrOf st'').size:=by rw[hB'.size];omega
   intro i j hij hj
   show K (bubble (arrOf st'') (lo+k) (k-l)) (lo+i)<=K (bubble (arrOf st'') (lo+k) (k-l)) (lo+j)
   rw[K_bubble hks (by omega),K_bubble hks (by omega),show lo+k-(k-l)=lo+l by omega]
   have e1:∀i,0<i->lo+i-1=lo+(i-1):=fun i h=>by omega
   repeat' split
   all_goals first
    |(exfalso;omega)
    |exact U2n _
    |exact hlo _ (by omega)
    |(rw[e1 _ (by omega)];exact U33 (hhi _ (by omega) (by omega)))
    |(rw[e1 i (by omega),e1 j (by omega)];exact hs' _ _ (by omega) (by omega))
    |(rw[e1 j (by omega)];exact hs' _ _ (by omega) (by omega))
    |(rw[e1 j (by omega)];exact hlo _ (by omega))
    |exact hs' _ _ (by omega) (by omega)
theorem Z6{st:SortSt}{nrem:Nat}{Q:Option Nat->SortSt->Prop}(h0:Keys a₀)(hn:lo+nrem<=a₀.size)(h1:1<=nrem)(hB:RB a₀ st0 lo st)
  (h:∀m st',RB a₀ st0 lo st'->1<=m->m<=nrem->KY (arrOf st') lo m->Q (some m) st') :
  wpS (model prog w) A E s (countRun' lo nrem) Q st:=by
 have up:∀(f:Nat->Option (Option Nat)×Nat->StateT SortSt Sem (ForInStep (Option (Option Nat)×Nat)))(R:Option (Option Nat)×Nat->SortSt->Prop)(a:Nat)(st:SortSt),1<=a->a<=nrem->RB a₀ st0 lo st->KY (arrOf st) lo a ->
   (∀x y Q',1<=y->y<nrem->Q' (if K (arrOf st) (lo+y)<K (arrOf st) (lo+y-1) then ForInStep.done (none,y) else U37 (none,y+1)) st->wpS (model prog w) A E s (f x (none,y)) Q' st) ->
   (∀n,a<=n->n<=nrem->KY (arrOf st) lo n->(n=nrem∨K (arrOf st) (lo+n)<K (arrOf st) (lo+n-1))->R (none,n) st)->wpS (model prog w) A E s (forIn [a:nrem] (none,a) f) R st:=fun f R a st ha han hB hs hf hR=>by
  refine wpS_forRange (I:=fun x c st'=>st'=st/\c=(none,x)/\KY (arrOf st) lo x) ?step ?fin ⟨rfl,rfl,hs⟩
  case fin =>
   rintro c st' ⟨rfl,rfl,hs'⟩
   rw[show max a nrem=nrem by omega] at hs' ⊢
   exact hR nrem han (U0o _) hs' (.inl rfl)
  case step =>
   rintro x c st' hax hxn ⟨rfl,rfl,hs'⟩
   refine hf x x _ (by omega) hxn ?_
   by_cases hless:K (arrOf st') (lo+x)<K (arrOf st') (lo+x-1)
   .rw[if_pos hless]
    exact hR x hax (by omega) hs' (.inr hless)
   .rw[if_neg hless]
    refine⟨rfl,rfl,fun i j hij hj=>?_⟩
    by_cases hjx:j<x
    .exact hs' i j hij hjx
    .have hj':j=x:=by omega
     subst hj'
     by_cases hi':i=j
     .subst hi';exact U2n _
     .have:=hs' i (j-1) (by omega) (by omega)
      rw[show lo+(j-1)=lo+j-1 by omega] at this
      omega
 unfold countRun'
 refine wpS_bind (up _ _ 1 st (U0o _) h1 hB (fun i j hij hj=>by
  have:i=j:=by omega
  subst this;exact U2n _) (fun x y Q' y1 y2 hq=>?_) fun n n1 n2 hsn hor=>?_)
 .refine wpS_bind (Lk hB h0 (by omega) (by omega) ?_)
  by_cases z:K (arrOf st) (lo+y)<K (arrOf st) (lo+y-1)
  .rw[if_pos z] at hq
   simp only[z,decide_true,if_true]
   exact wpS_pure hq
  .rw[if_neg z] at hq
   simp only[z,decide_false,U06,if_false]
   exact wpS_pure hq
 refine CP (fun e1=>?_) (fun e1=>?_)
 .exact wpS_pure (h n st hB n1 n2 hsn)
 have e1:¬n=nrem:=fun z=>e1 (by simpa using z)
 have hlt:=hor.resolve_left e1
 refine CP (fun e2=>?_) (fun e2=>?_)
 .have e2:n>1:=e2
  refine wpS_bind (Lk hB h0 (by omega) (by omega) ?_)
  have rose:K (arrOf st) lo<K (arrOf st) (lo+n-1):=by
   have q1:=hsn 0 (n-1) (by omega) (by omega)
   have q2:=mD h0 hB.perm (i:=lo) (j:=lo+n-1) (by omega) (by omega) (by omega)
   rw[U5t,show lo+(n-1)=lo+n-1 by omega] at q1
   omega
  refine CP (fun _=>?_) (fun e3=>absurd (decide_eq_true rose) e3)
  exact wpS_pure (h n st hB n1 n2 hsn)
 have e2:n=1:=by
  have:¬n>1:=e2
  omega
 subst e2
 have hd0:∀i j,i<j->j<1+1->K (arrOf st) (lo+j)<K (arrOf st) (lo+i):=fun i j h2 h3=>by
  have e3:i=0:=by omega
  have e4:j=1:=by omega
  subst e3 e4
  exact hlt
 refine wpS_bind (wpS_lift (U3i ⟨rfl,?_⟩))
 refine wpS_bind (wpS_mono (wpS_forRange (I:=fun x c st'=>st'=st/\c=(none,x,0)/\∀i j,i<j->j<x->K (arrOf st) (lo+j)<K (arrOf st) (lo+i))
  (Q:=fun c st'=>st'=st/\∃n,c=(none,n,0)/\1<=n/\n<=nrem/\∀i j,i<j->j<n->K (arrOf st) (lo+j)<K (arrOf st) (lo+i)) ?step ?fin ⟨rfl,rfl,hd0⟩) ?post)
 case fin =>
  rintro c st' ⟨rfl,rfl,hd⟩
  rw[show max (1+1) nrem=nrem by omega] at hd
  refine⟨rfl,nrem,?_,by omega,U0o _,hd⟩
  rw[show max (1+1) nrem=nrem by omega]
 case step =>
  rintro x c st' hx1 hx2 ⟨rfl,rfl,hd⟩
  dsimp only
  refine wpS_bind (Lk hB h0 (by omega) (by omega) ?_)
  by_cases z:K (arrOf st') (lo+x)<K (arrOf st') (lo+x-1)
  .simp only[z,decide_true,if_true]
   refine CP (fun e=>by omega) (fun _=>?_)
   refine wpS_pure ⟨rfl,rfl,fun i j h2 h3=>?_⟩
   by_cases hj:j<x
   .exact hd i j h2 hj
   .have:j=x:=by omega
    subst this
    by_cases hi:i=j-1
    .subst hi
     rw[show lo+(j-1)=lo+j-1 by omega];exact z
    .have:=hd i (j-1) (by omega) (by omega)
     rw[show lo+(j-1)=lo+j-1 by omega] at this
     omega
  .simp only[z,decide_false,U06,if_false]
   refine wpS_bind (Lk hB h0 (by omega) (by omega) ?_)
   have larger:K (arrOf st') (lo+x-1)<K (arrOf st') (lo+x):=by
    have:=mD h0 hB.perm (i:=lo+x) (j:=lo+x-1) (by omega) (by omega) (by omega)
    omega
   simp only[larger,decide_true,if_true]
   exact wpS_pure ⟨rfl,x,rfl,by omega,by omega,hd⟩
 case post =>
  rintro c st' ⟨rfl,n,rfl,n1,n2,hd⟩
  refine CP (fun e=>by simp at e) (fun _=>?_)
  refine wpS_bind ?_
  show wpS _ _ _ _ (reverseSlice' _ _) _ _
  have hB2:=hB.mirror (j:=lo+n) (by omega)
  have hsz:lo+n<=(arrOf st').size:=by rw[hB.size];omega
  refine wpS_reverse (wpS_bind (up _ _ n _ n1 n2 hB2 (fun i j hij hj=>?_) (fun x y Q' y1 y2 hq=>?_) fun m m1 m2 hsm _=>wpS_pure (h m _ hB2 (by omega) m2 hsm)))
  .show K (mirror (arrOf st') lo (lo+n) ((lo+n-lo)/2)) (lo+i)<=K (mirror (arrOf st') lo (lo+n) ((lo+n-lo)/2)) (lo+j)
   rw[K_mirror hsz,K_mirror hsz,if_pos (by omega),if_pos (by omega),show lo+(lo+n)-1-(lo+i)=lo+(n-1-i) by omega,show lo+(lo+n)-1-(lo+j)=lo+(n-1-j) by omega]
   by_cases e:i=j
   .subst e;exact U2n _
   .exact U33 (hd _ _ (by omega) (by omega))
  .refine wpS_bind (Lk hB2 h0 (by omega) (by omega) ?_)
   split at hq
   .rename_i z
    simp only[z,decide_true,if_true]
    exact wpS_pure hq
   .rename_i z
    simp only[z,decide_false,U06,if_false]
    exact wpS_pure hq
end
end Tm
end
section
namespace Tm
open PySem PyProof.Rows
def kx(l:List Keyed)(i:Nat):Int:=match l[i]? with
 |some p=>kv p
 |none=>0
theorem PN(xs:Array Keyed)(i:Nat):K xs i=kx xs.toList i:=by
 unfold K kx
 rw[U2m]
 rfl
theorem Rj(a b:List Keyed)(i:Nat):kx (a++b) (a.length+i)=kx b i:=by
 unfold kx
 rw[U1h (by omega),U5z]
theorem YZ{a:List Keyed}(b:List Keyed){i:Nat}(h:i<a.length):kx (a++b) i=kx a i:=by
 unfold kx
 rw[U04 h]
theorem Pn{l:List Keyed}{i:Nat}(h:i<l.length):kx l i=kv l[i]:=by
 unfold kx
 rw[U02 h]
theorem K7(l:List Keyed)(k i:Nat):kx (l.drop k) i=kx l (k+i):=by
 unfold kx
 rw[U6r]
theorem Lw{l:List Keyed}{k i:Nat}(h:i<k):kx (l.take k) i=kx l i:=by
 unfold kx
 rw[U6s,if_pos h]
theorem JD{l:List Keyed}(h:srt l){i j:Nat}(hij:i<=j)(hj:j<l.length):kx l i<=kx l j:=by
 by_cases e:i=j
 .subst e;exact U2n _
 .rw[Pn (by omega),Pn hj]
  exact U3q.mp h i j (by omega) hj (by omega)
theorem Om{a:Array Keyed}(h:srt a.toList):SortedTo a a.size:=fun i j hij hj=>by
 rw[PN,PN]
 exact JD h hij (by rw[U0g];exact hj)
theorem Ig{l:List Keyed}{p:Keyed}(h:p∈l):∃i,i<l.length/\kv p=kx l i:=by
 obtain⟨i,hi,rfl⟩:=U4n h
 exact⟨i,hi,(Pn hi).symm⟩
theorem Qf{a b:List Keyed}(ha:srt a)(hb:srt b)(h:∀p∈a,∀q∈b,kv p<=kv q):srt (a++b):=U1g.mpr ⟨ha,hb,h⟩
theorem laid(s:Nat):∀(l:List Keyed)(n:Nat)(arr:Array Keyed),s+n+l.length<=arr.size->((l.zipIdx n).foldl (fun a q=>a.setIfInBounds (s+q.2) q.1) arr).toList=arr.toList.take (s+n)++l++arr.toList.drop (s+n+l.length)
 |[],n,arr,h=>by simp
 |p::l,n,arr,h=>by
  rw[U0e] at h
  rw[U67,U3k,laid s l (n+1) _ (by rw[Array.size_setIfInBounds];omega),Array.toList_setIfInBounds]
  have hl:s+n<arr.toList.length:=by rw[U0g];omega
  have e1:(arr.toList.set (s+n) p).take (s+(n+1))=arr.toList.take (s+n)++[p]:=by
   rw[List.set_eq_take_append_cons_drop,if_pos hl,List.append_cons]
   rw[U3w (by simp;omega),U17 (by simp;omega)]
  have e2:(arr.toList.set (s+n) p).drop (s+(n+1)+l.length)=arr.toList.drop (s+n+(l.length+1)):=by
   rw[List.drop_set_of_lt (by omega)]
   congr 1
   omega
  rw[e1,e2,U0e]
  simp
section
variable{prog:Program}{w:World}{A:Around}{E:Value->Shared->Prop}{s:Shared}
theorem gO{σ:Type}{M:Model}{st st':σ}{Q:PUnit->σ->Prop}(h:Q ⟨⟩ st'):wpS M A E s (set st':StateT σ Sem PUnit) Q st:=by
 unfold wpS;rw[StateT.run_set];exact U0d ⟨rfl,h⟩
theorem Xg{st:SortSt}{i sa na pw sb nb pw2:Nat}{L1 x y L2:List Keyed}{Q:Bool->SortSt->Prop}(hI:Jc (arrOf st))(hk:kindOf st=oneType')(hf:failedOf st=none)(hp1:(pendingOf st)[i]?=some (sa,na,pw))(hp2:(pendingOf st)[i+1]?=some (sb,nb,pw2))
  (hl:(arrOf st).toList=L1++(x++(y++L2))) (e1:sa=L1.length) (e2:na=x.length) (e3:sb=sa+na) (e4:nb=y.length) (x0:0<na) (y0:0<nb) (sx:srt x) (sy:srt y)
  (h:∀st' z,kindOf st'=oneType'->failedOf st'=none->pendingOf st'=((pendingOf st).setIfInBounds i (sa,na+nb,pw)).eraseIdxIfInBounds (i+1)->(arrOf st').toList=L1++(z++L2)->z.Perm (x++y)->srt z->Q true st') :
  wpS (model prog w) A E s (mergeAt' i) Q st:=by
 have hsz:(arrOf st).size=sa+na+nb+L2.length:=by
  have:(arrOf st).toList.length=_:=congrArg U3r hl
  rw[U0g] at this
  simp only[U0h] at this
  omega
 have Kx:∀i,i<na->K (arrOf st) (sa+i)=kx x i:=fun i hi=>by rw[PN,hl,e1,Rj,YZ _ (by omega)]
 have Ky:∀i,i<nb->K (arrOf st) (sb+i)=kx y i:=fun i hi=>by rw[PN,hl,e3,e1,e2,U7o,Rj,Rj,YZ _ (by omega)]
 unfold mergeAt'
 refine wpS_bind (wpS_get ?_)
 rw[hp1,hp2]
 refine wpS_bind (gO ?_)
 have hsb:sb<(arrOf st).size:=by omega
 have gk:=hI.get hsb
 have hb1:sa+na<=(arrOf st).size:=by omega
 have hb2:sb+nb<=(arrOf st).size:=by omega
 have ky0:K (arrOf st) sb=kx y 0:=Ky 0 y0
 refine wpS_bind (Cp hsb ?_)
 refine wpS_bind (Iu (base:=sa) (n:=na) (hint:=0) hk gk.1 hI hb1 x0 (fun i j i1 i2 i3=>?_) fun k k1 k2 k3=>?_)
 .rw[Kx j i2] at i3
  rw[Kx i (by omega)]
  have:=JD sx i1 (by omega)
  unfold bey at *
  simp at i3 ⊢
  omega
 have k2':∀i,i<k->kx x i<=kx y 0:=fun i i1=>by
  have:=k2 i i1
  rw[Kx i (by omega),gk.2,ky0] at this
  unfold bey at this
  simp at this
  omega
 have k3':∀i,k<=i->i<na->kx y 0<kx x i:=fun i i1 i2=>by
  have:=k3 i i1 i2
  rw[Kx i i2,gk.2,ky0] at this
  unfold bey at this
  simp at this
  omega
 clear k2 k3
 refine CP (fun e5=>?_) (fun e5=>?_)
 .have e5:na-k=0:=by simpa using e5
  refine wpS_pure (h _ (x++y) hk hf rfl (by rw[U0z];exact hl) (U43 _) (Qf sx sy fun p hp q hq=>?_))
  obtain⟨i,i1,i2⟩:=Ig hp
  obtain⟨j,j1,j2⟩:=Ig hq
  have:=k2' i (by omega)
  have:=JD sy (U3f j) j1
  omega
 have e5:¬na-k=0:=fun z=>e5 (by simpa using z)
 have hil:sa+k+(na-k)-1<(arrOf st).size:=by omega
 have gl:=hI.get hil
 have kl:K (arrOf st) (sa+k+(na-k)-1)=kx x (na-1):=by
  rw[show sa+k+(na-k)-1=sa+(na-1) by omega]
  exact Kx _ (by omega)
 refine wpS_bind (Cp hil ?_)
 refine wpS_bind (Iu (base:=sb) (n:=nb) (hint:=nb-1) hk gl.1 hI hb2 (by omega) (fun i j i1 i2 i3=>?_) fun m m1 q2 q3=>?_)
 .rw[Ky j i2] at i3
  rw[Ky i (by omega)]
  have:=JD sy i1 (by omega)
  unfold bey at *
  simp at i3 ⊢
  omega
 have q2':∀i,i<m->kx y i<kx x (na-1):=fun i i1=>by
  have:=q2 i i1
  rw[Ky i (by omega),gl.2,kl] at this
  unfold bey at this
  simp at this
  omega
 have q3':∀i,m<=i->i<nb->kx x (na-1)<=kx y i:=fun i i1 i2=>by
  have:=q3 i i1 i2
  rw[Ky i i2,gl.2,kl] at this
  unfold bey at this
  simp at this
  omega
 clear q2 q3
 refine CP (fun e6=>?_) (fun e6=>?_)
 .have e6:m=0:=by simpa using e6
  refine wpS_pure (h _ (x++y) hk hf rfl (by rw[U0z];exact hl) (U43 _) (Qf sx sy fun p hp q hq=>?_))
  obtain⟨i,i1,i2⟩:=Ig hp
  obtain⟨j,j1,j2⟩:=Ig hq
  have:=q3' j (by omega) (by omega)
  have:=JD sx (show i<=na-1 by omega) (by omega)
  omega
 have e6:¬m=0:=fun z=>e6 (by simpa using z)
 have hA:((arrOf st).extract (sa+k) sb).toList=x.drop k:=by
  rw[U3u,U3a,hl,←U46,e1,U5x,List.drop_append_of_le_length (by omega),U3w (by rw[U10];omega),U17 (by rw[U10];omega)]
 have hBl:((arrOf st).extract sb (sb+m)).toList=y.take m:=by
  rw[U3u,U3a,hl,e3,←U46,e1,U5x,e2,U5x,U3w (by omega)]
  congr 1
  omega
 obtain⟨a,ha⟩:∃a,a=(arrOf st).extract (sa+k) sb:=⟨_,rfl⟩
 obtain⟨b,hb⟩:∃b,b=(arrOf st).extract sb (sb+m):=⟨_,rfl⟩
 rw[←ha] at hA
 rw[←hb] at hBl
 have za:a.size=na-k:=by rw[←U0g,hA,U10];omega
 have zb:b.size=m:=by rw[←U0g,hBl,U1i];omega
 have Ia:Jc a:=fun p hp=>hI p (by
  rw[hA] at hp
  rw[hl]
  exact U0x _ (U2h _ (List.mem_of_mem_drop hp)))
 have Ib:Jc b:=fun p hp=>hI p (by
  rw[hBl] at hp
  rw[hl]
  exact U0x _ (U0x _ (U2h _ (List.mem_of_mem_take hp))))
 have Sa:SortedTo a a.size:=Om (by rw[hA];exact sx.sublist (U6x ..))
 have Sb:SortedTo b b.size:=Om (by rw[hBl];exact sy.sublist (U50 ..))
 have Ka:∀i,K a i=kx x (k+i):=fun i=>by rw[PN,hA,K7]
 have Kb:∀i,i<m->K b i=kx y i:=fun i hi=>by rw[PN,hBl,Lw hi]
 have hmin:∀i,i<a.size->K b 0<=K a i:=fun i hi=>by
  rw[Kb 0 (by omega),Ka]
  exact U33 (k3' _ (by omega) (by omega))
 have hmax:∀j,j<b.size->K b j<=K a (a.size-1):=fun j hj=>by
  rw[Kb j (by omega),Ka,show k+(a.size-1)=na-1 by omega]
  exact U33 (q2' j (by omega))
 have fin:∀(r:Array Keyed)(st':SortSt),EqG (SortSt.mk' (kindOf st) (arrOf st) (((pendingOf st).setIfInBounds i (sa,na+nb,pw)).eraseIdxIfInBounds (i+1)) (gallopOf st) (failedOf st)) st'->r.toList.Perm (a.toList++b.toList)->srt r.toList ->
   ∀st2:SortSt,kindOf st2=kindOf st'->failedOf st2=failedOf st'->pendingOf st2=pendingOf st'->(arrOf st2).toList=((r.toList.zipIdx 0).foldl (fun a q=>a.setIfInBounds (sa+k+q.2) q.1) (arrOf st')).toList->Q true st2:=fun r st' hE p1 p2 st2 z1 z2 z3 z4=>by
  have er:(arrOf st')=arrOf st:=hE.arr
  have hlen:r.toList.length=na-k+m:=by
   rw[p1.length_eq,U0h,U0g,U0g,za,zb]
  rw[er,laid (sa+k) r.toList 0 (arrOf st) (by omega),hl,U5t] at z4
  have t1:(L1++(x++(y++L2))).take (sa+k)=L1++x.take k:=by
   rw[e1,List.take_append,U17 (by omega),U5z,U3w (by omega)]
  have t2:(L1++(x++(y++L2))).drop (sa+k+r.toList.length)=y.drop m++L2:=by
   rw[hlen,show sa+k+(na-k+m)=L1.length+(x.length+m) by omega,←U46,U5x,←U46,U5x,List.drop_append_of_le_length (by omega)]
  rw[t1,t2] at z4
  rw[hA,hBl] at p1
  refine h st2 (x.take k++(r.toList++y.drop m)) (z1.trans (hE.kind.trans hk)) (z2.trans (hE.failed.trans hf)) (z3.trans hE.pend) ?_ ?_ ?_
  .rw[z4];simp
  .refine(U13 _ (p1.append_right _)).trans ?_
   rw[U0z,U1t,←U0z,U1t]
  .refine Qf (sx.sublist (U50 ..)) (Qf p2 (sy.sublist (U6x ..)) fun p hp q hq=>?_) fun p hp q hq=>?_
   .obtain⟨j,j1,j2⟩:=Ig hq
    rw[K7] at j2
    rw[U10] at j1
    have g1:=q3' (m+j) (by omega) (by omega)
    rcases U1e.mp (p1.mem_iff.mp hp) with w|w
    .obtain⟨i,i1,i2⟩:=Ig w
     rw[K7] at i2
     rw[U10] at i1
     have:=JD sx (show k+i<=na-1 by omega) (by omega)
     omega
    .obtain⟨i,i1,i2⟩:=Ig w
     rw[U1i] at i1
     rw[Lw (by omega)] at i2
     have:=JD sy (show i<=m+j by omega) (by omega)
     omega
   .obtain⟨i,i1,i2⟩:=Ig hp
    rw[U1i] at i1
    rw[Lw (by omega)] at i2
    have g1:=k2' i (by omega)
    rcases U1e.mp hq with w|w
    .rcases U1e.mp (p1.mem_iff.mp w) with w|w
     .obtain⟨j,j1,j2⟩:=Ig w
      rw[K7] at j2
      rw[U10] at j1
      have:=JD sx (show i<=k+j by omega) (by omega)
      omega
     .obtain⟨j,j1,j2⟩:=Ig w
      rw[U1i] at j1
      rw[Lw (by omega)] at j2
      have:=JD sy (U3f j) (by omega)
      omega
    .obtain⟨j,j1,j2⟩:=Ig w
     rw[K7] at j2
     rw[U10] at j1
     have:=JD sy (U3f (m+j)) (by omega)
     omega
 refine CP (fun _=>wpS_bind ?_) (fun _=>wpS_bind ?_)
 .refine Xe hk (ha ▸ Ia) (hb ▸ Ib) (ha ▸ Sa) (hb ▸ Sb) (by rw[←ha];omega) (by rw[←hb];omega) (by rw[←ha,←hb];exact hmin) (by rw[←ha,←hb];exact hmax) fun r st' hE p1 p2=>?_
  rw[←ha,←hb] at p1
  refine wpS_bind (wpS_modify (wpS_bind (wpS_get (wpS_pure ?_))))
  have hn:failedOf st'=none:=hE.failed.trans hf
  show Q (failedOf st').isNone _
  rw[hn]
  exact fin r st' hE p1 p2 _ rfl rfl rfl rfl
 .refine Xf hk (ha ▸ Ia) (hb ▸ Ib) (ha ▸ Sa) (hb ▸ Sb) (by rw[←ha];omega) (by rw[←hb];omega) (by rw[←ha,←hb];exact hmin) (by rw[←ha,←hb];exact hmax) fun r st' hE p1 p2=>?_
  rw[←ha,←hb] at p1
  refine wpS_bind (wpS_modify (wpS_bind (wpS_get (wpS_pure ?_))))
  have hn:failedOf st'=none:=hE.failed.trans hf
  show Q (failedOf st').isNone _
  rw[hn]
  exact fin r st' hE p1 p2 _ rfl rfl rfl rfl
end
end Tm
end
section
namespace Tm
open PySem PyProof.Rows
def offs:Nat->List (List Keyed)->List (Nat×Nat)
 |_,[]=>[]
 |s,x::xs=>(s,x.length)::offs (s+x.length) xs
theorem Oe:∀(s:Nat)(xs ys:List (List Keyed)),offs s (xs++ys)=offs s xs++offs (s+xs.flatten.length) ys
 |s,[],ys=>by simp[offs]
 |s,x::xs,ys=>by
  rw[U18,offs,Oe,offs,U2w,U0h,←U7o];rfl
theorem Mi:∀(s:Nat)(xs:List (List Keyed)),(offs s xs).length=xs.length
 |_,[]=>rfl
 |s,x::xs=>by rw[offs,U0e,Mi,U0e]
theorem Uu{α β:Type}(f:α->β):∀(l:List α)(i:Nat),(l.eraseIdx i).map f=(l.map f).eraseIdx i
 |[],i=>by simp
 |a::l,0=>rfl
 |a::l,i+1=>by
  show f a::(l.eraseIdx i).map f=f a::(l.map f).eraseIdx i
  rw[Uu f l i]
structure RI(a₀:Array Keyed)(rest:List Keyed)(lo m:Nat)(st:SortSt):Prop where
 perm:(arrOf st).Perm a₀
 kind:kindOf st=oneType'
 failed:failedOf st=none
 many:(pendingOf st).size=m
 runs:∃xs:List (List Keyed),(arrOf st).toList=xs.flatten++rest/\xs.flatten.length=lo/\(pendingOf st).toList.map (fun e=>(e.1,e.2.1))=offs 0 xs/\∀x∈xs,x≠[]/\srt x
theorem Wm:∀xs:List (List Keyed),(∀x∈xs,x≠[]/\srt x)->xs.length<=xs.flatten.length
 |[],_=>by simp
 |x::xs,h=>by
  have:=Wm xs fun y hy=>h y (U0n _ hy)
  have:=U5f.mpr (h x U0p).1
  rw[U2w,U0h,U0e]
  omega
theorem RI.few{a₀:Array Keyed}{rest:List Keyed}{lo m:Nat}{st:SortSt}(h:RI a₀ rest lo m st):m<=lo:=by
 obtain⟨xs,_,h2,h3,h4⟩:=h.runs
 have:=Wm xs h4
 have e:(pendingOf st).toList.length=xs.length:=by
  have:=congrArg U3r h3
  rw[U0f,Mi] at this
  exact this
 rw[U0g,h.many] at e
 omega
section
variable{prog:Program}{w:World}{A:Around}{E:Value->Shared->Prop}{s:Shared}{a₀:Array Keyed}
theorem Qu{rest:List Keyed}{lo m i:Nat}{st:SortSt}{Q:Bool->SortSt->Prop}(h0:Jc a₀)(hR:RI a₀ rest lo m st)(hi:i+1<m)(h:∀st',RI a₀ rest lo (m-1) st'->Q true st'):wpS (model prog w) A E s (mergeAt' i) Q st:=by
 obtain⟨xs,h1,h2,h3,h4⟩:=hR.runs
 have hlen:xs.length=m:=by
  have:=congrArg U3r h3
  rw[U0f,Mi,U0g,hR.many] at this
  exact this.symm
 obtain⟨x,y,xs2,hd⟩:∃x y xs2,xs.drop i=x::y::xs2:=by
  have e:=U10 (i:=i) (l:=xs)
  match hx:xs.drop i with
  |[]=>rw[hx] at e;simp at e;omega
  |[_]=>rw[hx] at e;simp at e;omega
  |x::y::r=>exact⟨x,y,r,rfl⟩
 obtain⟨xs1,hx1⟩:∃xs1,xs1=xs.take i:=⟨_,rfl⟩
 have hl1:xs1.length=i:=by rw[hx1,U1i];omega
 have hx:xs=xs1++x::y::xs2:=by rw[hx1,←hd,U1t]
 clear hx1 hd
 subst hx
 have ho:offs 0 (xs1++x::y::xs2)=offs 0 xs1++(xs1.flatten.length,x.length)::(xs1.flatten.length+x.length,y.length)::offs (xs1.flatten.length+x.length+y.length) xs2:=by
  rw[Oe,U4j];rfl
 rw[ho] at h3
 have hol:(offs 0 xs1).length=i:=by rw[Mi];exact hl1
 have g:∀j:Nat,((pendingOf st)[j]?).map (fun e:Nat×Nat×Nat=>(e.1,e.2.1))=(offs 0 xs1++(xs1.flatten.length,x.length)::(xs1.flatten.length+x.length,y.length)::offs (xs1.flatten.length+x.length+y.length) xs2)[j]?:=fun j=>by
  rw[←h3,U0y,U2m]
 have g1:=g i
 have g2:=g (i+1)
 rw[U1h (by omega),hol,Nat.sub_self] at g1
 rw[U1h (by omega),hol,show i+1-i=1 by omega] at g2
 obtain⟨⟨sa,na,pw⟩,p1,p2⟩:=U2i.mp g1
 obtain⟨⟨sb,nb,pw2⟩,p3,p4⟩:=U2i.mp g2
 obtain⟨rfl,rfl⟩:=Prod.mk.inj p2
 obtain⟨rfl,rfl⟩:=Prod.mk.inj p4
 have mx:=h4 x (by simp)
 have my:=h4 y (by simp)
 refine Xg (L1:=xs1.flatten) (x:=x) (y:=y) (L2:=xs2.flatten++rest) (WR h0 hR.perm) hR.kind hR.failed p1 p3 (by rw[h1];simp) rfl rfl rfl rfl (U5f.mpr mx.1) (U5f.mpr my.1) mx.2 my.2 fun st' z q1 q2 q3 q4 q5 q6=>h st' ⟨?_,q1,q2,?_,xs1++z::xs2,?_,?_,?_,?_⟩
 .refine Array.Perm.trans (U5c.mpr ?_) hR.perm
  rw[q4,h1]
  have:(xs1++x::y::xs2).flatten++rest=xs1.flatten++((x++y)++(xs2.flatten++rest)):=by simp
  rw[this]
  exact U13 _ (q5.append_right _)
 .rw[q3,←U0g,Array.toList_eraseIdxIfInBounds,List.length_eraseIdx,U0g,Array.size_setIfInBounds,hR.many,if_pos hi]
 .rw[q4];simp
 .have:=q5.length_eq
  simp only[List.flatten_append,U2w,U0h] at *
  omega
 .have hz:=q5.length_eq
  rw[U0h] at hz
  have e5:offs 0 (xs1++z::xs2)=offs 0 xs1++(xs1.flatten.length,x.length+y.length)::offs (xs1.flatten.length+x.length+y.length) xs2:=by
   rw[Oe,U4j,offs,hz,U7o]
  rw[q3,Array.toList_eraseIdxIfInBounds,Array.toList_setIfInBounds,Uu,List.map_set,h3,e5,U6c _ _ (by omega),hol,Nat.sub_self,List.set_cons_zero,List.eraseIdx_append_of_length_le (by omega),hol,show i+1-i=1 by omega]
  rfl
 .intro u hu
  rcases U1e.mp hu with k|k
  .exact h4 u (U2h _ k)
  .rcases U0q.mp k with k|k
   .subst k
    refine⟨fun e=>mx.1 ?_,q6⟩
    rw[e] at q5
    have:=q5.length_eq
    rw[U0h,U08] at this
    exact U23.mp (by omega)
   .exact h4 u (U0x _ (U0n _ (U0n _ k)))
theorem RI.run{rest:List Keyed}{lo m n:Nat}{st st':SortSt}(hR:RI a₀ rest lo m st)(hB:RB a₀ st lo st')(hn:lo+n<=a₀.size)(hs:KY (arrOf st') lo n) :
  ∃x rest',RI a₀ (x++rest') lo m st'/\x.length=n/\srt x:=by
 obtain⟨xs,h1,h2,h3,h4⟩:=hR.runs
 have sz:=hB.size
 have et:(arrOf st').toList.take lo=xs.flatten:=by
  have:(arrOf st).toList.take lo=xs.flatten:=by rw[h1,←h2,List.take_left]
  rw[←this]
  refine U62 fun j=>?_
  rw[U6s,U6s]
  by_cases hj:j<lo
  .rw[if_pos hj,if_pos hj,U2m,U2m]
   exact hB.pre j hj
  .rw[if_neg hj,if_neg hj]
 have e2:(arrOf st').toList=xs.flatten++(((arrOf st').toList.drop lo).take n++((arrOf st').toList.drop lo).drop n):=by
  rw[U1t,←et,U1t]
 have hl:(((arrOf st').toList.drop lo).take n).length=n:=by
  rw[U1i,U10,U0g];omega
 refine⟨((arrOf st').toList.drop lo).take n,((arrOf st').toList.drop lo).drop n,⟨hB.perm,hB.kind,hB.failed,by rw[hB.pend];exact hR.many,xs,e2,h2,by rw[hB.pend];exact h3,h4⟩,hl,?_⟩
 unfold srt
 rw[U3q]
 intro i j hi hj hij
 rw[←Pn hi,←Pn hj,Lw (by omega),Lw (by omega),K7,K7,←PN,←PN]
 exact hs i j (by omega) (by omega)
theorem RI.push{x rest:List Keyed}{lo m n:Nat}{st st':SortSt}(hR:RI a₀ (x++rest) lo m st)(hx:x.length=n)(hn:0<n)(hs:srt x)(h1:kindOf st'=kindOf st)(h2:failedOf st'=failedOf st)(h3:arrOf st'=arrOf st)(h4:pendingOf st'=(pendingOf st).push (lo,n,0)):RI a₀ rest (lo+n) (m+1) st':=by
 obtain⟨xs,g1,g2,g3,g4⟩:=hR.runs
 refine⟨by rw[h3];exact hR.perm,h1.trans hR.kind,h2.trans hR.failed,by rw[h4,Array.size_push,hR.many],xs++[x],by rw[h3,g1];simp,by simp[g2,hx],?_,fun u hu=>?_⟩
 .rw[h4,U6z,U19,g3,Oe,U4j,g2,offs,hx];rfl
 .rcases U1e.mp hu with k|k
  .exact g4 u k
  .rw[U1f.mp k]
   exact⟨U5f.mp (by omega),hs⟩
theorem RI.same{rest:List Keyed}{lo m:Nat}{st st':SortSt}(hR:RI a₀ rest lo m st)(h1:kindOf st'=kindOf st)(h2:failedOf st'=failedOf st)(h3:arrOf st'=arrOf st)(h4:(pendingOf st').toList.map (fun e=>(e.1,e.2.1))=(pendingOf st).toList.map (fun e=>(e.1,e.2.1))):RI a₀ rest lo m st':=by
 obtain⟨xs,g1,g2,g3,g4⟩:=hR.runs
 refine⟨by rw[h3];exact hR.perm,h1.trans hR.kind,h2.trans hR.failed,?_,xs,by rw[h3];exact g1,g2,h4.trans g3,g4⟩
 have:=congrArg U3r h4
 rw[U0f,U0f,U0g,U0g,hR.many] at this
 exact this
end
end Tm
end
section
namespace Tm
open PySem PyProof.Rows
theorem jF{α β:Type}(g:α->β)(f:α->α)(hf:∀a,g (f a)=g a)(l:List α)(i:Nat):(l.modify i f).map g=l.map g:=by
 refine U62 fun j=>?_
 rw[U0y,U0y,List.getElem?_modify]
 cases l[j]? with
 |none=>rfl
 |some a =>
  show some (g (if i=j then f a else a))=some (g a)
  split
  .rw[hf]
  .rfl
theorem ite_le(c:Prop)[Decidable c](a b:Nat):(if c then a else b)<=max a b:=by split<;>omega
section
variable{prog:Program}{w:World}{A:Around}{E:Value->Shared->Prop}{s:Shared}{a₀:Array Keyed}
theorem Xd{st:SortSt}{Q:Unit->SortSt->Prop}(h0:Keys a₀)(hB:SBase a₀ st)(h2:2<=a₀.size)
  (h:∀st',(arrOf st').Perm a₀->failedOf st'=none->SortedTo (arrOf st') a₀.size->Q () st'):wpS (model prog w) A E s sortRuns' Q st:=by
 have base:RI a₀ (arrOf st).toList 0 0 st:=⟨hB.perm,hB.kind,hB.failed,by rw[hB.pend];rfl,[],by simp,rfl,by rw[hB.pend];rfl,fun x hx=>by simp at hx⟩
 rw[sortRuns'_eq]
 refine wpS_bind (wpS_get ?_)
 dsimp only
 rw[hB.size]
 generalize minRun' a₀.size a₀.size 0=mr
 refine wpS_bind (wpS_mono (wpS_forRange
  (I:=fun x c st'=>∃lo rest m,c=(none,lo)/\RI a₀ rest lo m st'/\x<=lo/\lo<=a₀.size)
  (Q:=fun c st'=>∃rest m,c=(none,a₀.size)/\RI a₀ rest a₀.size m st') ?step ?fin ⟨0,_,0,rfl,base,by omega,by omega⟩) ?post)
 case fin =>
  rintro c st' ⟨lo,rest,m,rfl,hR,h3,h4⟩
  have:lo=a₀.size:=by omega
  subst this
  exact⟨rest,m,rfl,hR⟩
 case step =>
  rintro x c st' _ hx ⟨lo,rest,m,rfl,hR,h3,h4⟩
  dsimp only
  by_cases hge:lo≥a₀.size
  .rw[if_pos hge]
   have:lo=a₀.size:=by omega
   subst this
   exact wpS_pure ⟨rest,m,rfl,hR⟩
  rw[if_neg hge]
  have B0:RB a₀ st' lo st':=⟨hR.perm,fun _ _=>rfl,hR.kind,hR.failed,rfl⟩
  have rest_of:∀(st3:SortSt)(n:Nat),RB a₀ st' lo st3->0<n->lo+n<=a₀.size->KY (arrOf st3) lo n->∃x rest',RI a₀ (x++rest') lo m st3/\x.length=n/\srt x:=fun st3 n b1 b2 b3 b4=>hR.run b1 b3 b4
  refine wpS_bind (Z6 h0 (by omega) (by omega) B0 fun k st2 B2 k1 k2 hs2=>?_)
  apply CP
  case' hx =>
   intro hlt
   refine wpS_bind (wpS_lift (U3i ⟨rfl,?_⟩))
   refine wpS_bind (cU (n:=min (a₀.size-lo) mr) h0 (by omega) (by omega) B2 hs2 fun st3 B3 hs3=>?_)
   rw[if_neg (by decide)]
   have n1:0<min (a₀.size-lo) mr:=by omega
   have n2:lo+min (a₀.size-lo) mr<=a₀.size:=by omega
   generalize min (a₀.size-lo) mr=n at *
  case' hy =>
   intro hlt
   obtain⟨n,rfl⟩:∃n,n=k:=⟨_,rfl⟩
   obtain⟨st3,rfl⟩:∃st3,st3=st2:=⟨_,rfl⟩
   have B3:=B2
   have hs3:=hs2
   have n1:0<n:=by omega
   have n2:lo+n<=a₀.size:=by omega
  all_goals
   obtain⟨u,rest',hR3,hu,su⟩:=rest_of st3 n B3 n1 n2 hs3
   refine wpS_bind (wpS_get ?_)
   cases hb:(pendingOf st3).back? with
   |none=>exact wpS_bind (wpS_modify (wpS_pure ⟨lo+n,rest',_,rfl,hR3.push hu n1 su rfl rfl rfl rfl,by omega,n2⟩))
   |some e =>
    obtain⟨s1,l1,p1⟩:=e
    refine wpS_bind (wpS_mono (wpS_forRange (I:=fun _ c st4=>c=(none,())/\∃m,RI a₀ (u++rest') lo m st4) (Q:=fun c st4=>c=(none,())/\∃m,RI a₀ (u++rest') lo m st4) ?_ (fun _ _ hh=>hh) ⟨rfl,m,hR3⟩) ?_)
    .rintro y c st4 _ _ ⟨rfl,m4,hR4⟩
     refine wpS_bind (wpS_get ?_)
     by_cases hp:(pendingOf st4).size>1
     .rw[if_pos hp,getElem?_pos (pendingOf st4) _ (show(pendingOf st4).size-2<(pendingOf st4).size by omega)]
      obtain⟨t1,t2,t3⟩:=(pendingOf st4)[(pendingOf st4).size-2]'(by omega)
      refine CP (fun _=>wpS_pure ⟨rfl,m4,hR4⟩) (fun _=>?_)
      refine wpS_bind (Qu h0.allI hR4 (by have:=hR4.many;omega) fun st5 hR5=>?_)
      rw[if_neg (by decide)]
      exact wpS_pure ⟨rfl,_,hR5⟩
     .rw[if_neg hp]
      exact wpS_pure ⟨rfl,m4,hR4⟩
    .rintro c st4 ⟨rfl,m4,hR4⟩
     refine wpS_bind (wpS_modify ?_)
     refine wpS_bind (wpS_modify (wpS_pure ⟨lo+n,rest',m4+1,rfl,RI.push (st:=setPending st4 ((pendingOf st4).modify ((pendingOf st4).size-1) fun q=>(q.1,q.2.1,_))) (hR4.same rfl rfl rfl ?_) hu n1 su rfl rfl rfl rfl,by omega,n2⟩))
     show((pendingOf st4).modify _ _).toList.map _=_
     rw[Array.toList_modify]
     refine jF _ _ ?_ _ _
     intro q
     rfl
 case post =>
  rintro c st' ⟨rest,m,rfl,hR⟩
  have hm:m<=a₀.size:=hR.few
  refine wpS_bind (wpS_mono (wpS_forRange (I:=fun x c st4=>c=(none,())/\∃m,RI a₀ rest a₀.size m st4/\m+x<=a₀.size+1) (Q:=fun c st4=>c=(none,())/\∃m,RI a₀ rest a₀.size m st4/\m<=1) ?_ (fun c st4 hh=>?_) ⟨rfl,m,hR,by omega⟩) ?_)
  .rintro x c st4 _ hx ⟨rfl,m4,hR4,hm4⟩
   refine wpS_bind (wpS_get ?_)
   have mm:=hR4.many
   refine CP (fun e=>wpS_pure ⟨rfl,m4,hR4,by omega⟩) (fun e=>?_)
   have e:¬(pendingOf st4).size<=1:=e
   refine wpS_bind (Qu h0.allI hR4 ?_ fun st5 hR5=>?_)
   .refine U31 (Nat.succ_le_succ (ite_le _ _ _)) ?_
    omega
   .rw[if_neg (by decide)]
    exact wpS_pure ⟨rfl,_,hR5,by omega⟩
  .obtain⟨rfl,m4,hR4,hm4⟩:=hh
   exact⟨rfl,m4,hR4,by omega⟩
  .rintro c st4 ⟨rfl,m4,hR4,hm4⟩
   obtain⟨xs,g1,g2,g3,g4⟩:=hR4.runs
   have hl:xs.length=m4:=by
    have:=congrArg U3r g3
    rw[U0f,Mi,U0g,hR4.many] at this
    exact this.symm
   have sz:(arrOf st4).size=a₀.size:=hR4.perm.size_eq
   have hr:rest=[]:=by
    have:=congrArg U3r g1
    rw[U0g,U0h] at this
    exact U23.mp (by omega)
   have hs:srt (arrOf st4).toList:=by
    rw[g1,hr,U1k]
    match xs,hl with
    |[],_=>exact .nil
    |[x],_=>rw[U2w,List.flatten_nil,U1k];exact(g4 x (by simp)).2
    |x::y::r,hl=>simp at hl;omega
   have:=Om hs
   rw[sz] at this
   exact wpS_pure (h st4 hR4.perm hR4.failed this)
end
end Tm
end
section
set_option maxRecDepth 100000
namespace SetP
open PySem PyProof.Rows Tm
theorem jQ{vs:List Value}{ns:List Int}(hI:IntsAre vs ns)(hd:ns.Nodup):Keys (pairsOf vs):=by
 refine⟨fun p hp=>?_,?_⟩
 .obtain⟨n,t,e⟩:=hI.intKeys p hp
  exact⟨n,t,p.2,Prod.ext e rfl⟩
 .have e:(pairsOf vs).toList.map kv=((vs.zip vs).map Prod.fst).map numOf:=by rw[pairsOf_toList,U0i];rfl
  rw[e,List.map_fst_zip (U0o _),hI.nums]
  exact hd
section
variable{prog:Program}{w:World}{A:Around}{E:Value->Shared->Prop}{s:Shared}
theorem VP{a:Addr}{vs:List Value}{ns:List Int}{n:Nat}{P:Fin->Shared->Prop}(ho:s.heap.get? a=some (seqObj "list" vs.toArray n))(hI:IntsAre vs ns)(hd:ns.Nodup)(hl:vs.length<1000)
  (h:∀(out:Array Value)(ns':List Int),IntsAre out.toList ns'->ns'.Perm ns->ns'.Pairwise (·<=·)->P (.done (.ret .none)) { s with heap:=sortedHeap s.heap a vs out }) :
  wpAny (model prog w) A (Builtin.«list.sort» ⟨[.ref a],[]⟩) P E s:=by
 by_cases h64:vs.length<64
 .exact list_sort_tree ho hI h64 h
 obtain⟨v₁,v₂,rest,rfl⟩:∃v₁ v₂ rest,vs=v₁::v₂::rest:=by
  match vs,h64 with
  |[],h64=>simp at h64
  |[_],h64=>simp at h64
  |v₁::v₂::rest,_=>exact⟨v₁,v₂,rest,rfl⟩
 have many:¬(v₁::v₂::rest).toArray.size<2:=by simp
 have lt:=U0j ho
 have room:∀xs:Array Value,xs.size=(v₁::v₂::rest).length->xs.size<=sizeLine+1:=fun xs e=>by rw[e,sizeLine_eq];omega
 rw[list_sort_plain]
 refine U0 (listItems_at ho rfl (U0 (listUpdate_at ho rfl ?_ (hsz:=by rw[U0m,sizeLine_eq];omega))))
 obtain⟨e1,o1⟩:∃e1,(s.heap.update a (U2v fun _=>#[])).get? a=some (seqObj "list" #[] e1):=⟨_,get?_update_seq ho (fun _=>#[])⟩
 refine U0 (seqEpoch_at o1 rfl (U0 (wpAny_newTuple (U0 (wpAny_newList (U2x ?_))))))
 have o2:(((s.heap.update a (U2v fun _=>#[])).push (seqObj "tuple" (v₁::v₂::rest).toArray 0)).push (seqObj "list" #[] 0)).get? a=some (seqObj "list" #[] e1) :=
  U0c _ (U0c _ o1)
 show wpAny (model prog w) A _ P E { s with heap:=((s.heap.update a (U2v fun _=>#[])).push (seqObj "tuple" (v₁::v₂::rest).toArray 0)).push (seqObj "list" #[] 0) }
 dsimp only
 rw[if_neg many,if_neg many,keyKind_ints hI]
 refine U0 (U0d (U0 (U48 (Xd (a₀:=pairsOf (v₁::v₂::rest)) (Q:=fun _ st'=>(arrOf st').Perm (pairsOf (v₁::v₂::rest))/\failedOf st'=none/\SortedTo (arrOf st') (pairsOf (v₁::v₂::rest)).size)
  (jQ hI hd) ⟨Array.Perm.refl _,rfl,rfl,rfl⟩ (by rw[pairsOf_size];simp) fun st' a1 a2 a3=>⟨a1,a2,a3⟩) ?_ fun _ _ e=>e)))
 rintro⟨⟨⟩,st'⟩ s' ⟨rfl,hp,hf,hs⟩
 obtain⟨ns',r1,r2,r3⟩:=sorted_out hI hp hs
 dsimp only
 refine U0 (seqEpoch_at o2 rfl (U0 (listUpdate_at o2 rfl ?_ (hsz2:=room _ ((Array.size_map ..).trans (hp.size_eq.trans (pairsOf_size _)))))))
 rw[hf]
 simp only[bne_self_eq_false,U06,if_false]
 exact U0d (h _ ns' r1 r2 r3)
theorem Zb{S:Addr}{ds:List Int}{Q:List Value->Shared->Prop}(hh:A.handled=none)(hS:SetT prog w s.heap S ds)(h64:ds.length<1000)
  (h:∀h' d' tk vs ns,(∀b o,s.heap.get? b=some o->h'.get? b=some o)->IntsAre vs ns->ns.Perm ds->Q vs { s with heap:=h',drawn:=d',toks:=tk }):wpAny (model prog w) A (collect (.ref S)) Q E s:=by
 obtain⟨o,ho,hex⟩:∃o,s.heap.get? S=some o/\o.ExactSet:=by
  obtain⟨_,o,es,ep,t,ho,hex,_⟩:=hS
  exact⟨o,ho,hex⟩
 have hlt:=U0j ho
 unfold collect
 refine U0 (wpAny_runValue (codeAny_builtin F.entry_proto_collect ?_))
 rw[U25 F.plain_proto_collect _]
 show wpAny _ A.in1 (newList [] >>= fun l=>again (.builtin "list.__iadd__" ⟨[l,.ref S],[]⟩)) _ _ s
 refine U0 (U2a (U0d ⟨plainId_quiet F.plain_list_iadd _,codeAny_builtin F.entry_list_iadd ?_⟩))
 rw[U25 F.plain_list_iadd _]
 generalize hL:s.heap.objs.size=L
 generalize hg:s.heap.push { cls:=.type "list",dict:=none,data:=.seq ([]:List Value).toArray }=g
 have k1:∀b o,s.heap.get? b=some o->g.get? b=some o:=fun b o e=>hg ▸ U0c _ e
 have hLg:g.get? L=some { cls:=.type "list",data:=.seq ([]:List Value).toArray }:=hg ▸ hL ▸ U0u _ rfl
 have hsz:g.objs.size=L+1:=by rw[←hg,U2c,hL]
 have hLS:L≠S:=by rw[←hL];exact U3d hlt
 have hT:U6u { s with heap:=g } (.ref S) "set":=⟨o,k1 _ _ ho,hex.1⟩
 show wpAny _ A.in1 (Builtin.List.listExtendWith (.ref L) (.ref S) (.ref L)) _ _ _
 unfold Builtin.List.listExtendWith
 refine U0 (U6f hT ?_)
 have h1:Builtin.List.listSameRef (.ref L) (.ref S)=false:=by simp[Builtin.List.listSameRef,hLS]
 have h2:(U3l "set"==U3l "list")=false:=by decide
 have h3:(U3l "set"==U3l "tuple")=false:=by decide
 simp only[h1,h2,h3,Bool.or_false,U06,if_false]
 refine U0 (oN (s:={ s with heap:=g }) (hS.sameBut fun o e=>k1 _ _ e) fun g2 d2 it T vs k2 hit hTT x ⟨ns,hi,hp⟩=>?_)
 have hT2:U6u { s with heap:=g2,drawn:=d2 } (.ref S) "set":=⟨o,k2 _ _ (k1 _ _ ho),hex.1⟩
 refine U0 (U2x (oO hT2 ?_))
 have hit':L<it:=by
  have hit2:g.objs.size<=it:=hit
  omega
 show wpAny _ A.in1 (rule "list.extend.makes-room" >>= fun _=>Builtin.List.listTouch (.ref L) >>= fun _=>again (.builtin "list.extend.loop" ⟨[.ref L,.ref it,.ref L],[]⟩)) _ _ _
 refine U0 (U3i (U0 ?_))
 have e1:=k2 _ _ hLg
 show wpAny _ A.in1 (updateSeq L (·.push .none) >>= fun _=>updateSeq L (·.pop)) _ _ _
 refine U0 (U5j e1 rfl ?_)
 have e2:=U2l (U2v (·.push U2q)) e1 rfl
 refine U5j e2 rfl ?_
 have e3:=U2l (U2v (·.pop)) e2 rfl
 have oth:∀b o,b≠L->g2.get? b=some o->((g2.update L (U2v (·.push U2q))).update L (U2v (·.pop))).get? b=some o:=fun b o hb e=>(U03 _ _ (U2f hb)).trans ((U03 _ _ (U2f hb)).trans e)
 have hvn:vs.length=ns.length:=IntsAre.length hi
 have hv64:vs.length<1000:=by rw[hvn,hp.length_eq];exact h64
 have hz:vs.length<=sizeLine:=by rw[sizeLine_eq];omega
 have nin:L ∉ [it,S,T]:=fun z=>by
  simp only[U0q,U2t,or_false] at z
  rcases z with z|z|z
  .omega
  .exact hLS z
  .rcases hTT with q|q
   .exact hLS (z.trans q)
   .have q':g.objs.size<=T:=q
    omega
 have W:=(gR (prog:=prog) (w:=w) (A:=A.in1) (by simpa using hh) it S T vs).toS
 have x3:Ld w ((g2.update L (U2v (·.push U2q))).update L (U2v (·.pop))) it S T vs 0:=x.keep fun b hb o e=>oth b o (fun z=>nin (z ▸ hb)) e
 refine U0d ⟨plainId_quiet F.plain_extend_loop _,codeAny_extend_loopS W hz L nin _ vs.length 0 _ _ _ (by omega) (U3f _) x3 e3 (ItemsOf.nil _) fun s' acc c hm hS' hacc=>?_⟩
 show wpAny _ A (load L >>= _) _ _ s'
 refine U0 (wpAny_load hS' ?_)
 have eacc:acc.toList=vs:=by
  apply U62
  intro j
  rw[U2m]
  cases hj:acc[j]? with
  |some v=>exact(hacc.2 j v hj).symm
  |none =>
   have:acc.size<=j:=by simpa using hj
   rw[hacc.1] at this
   exact(U6b this).symm
 obtain⟨h',g',d',tk,os'⟩:=s'
 have q1:g'=s.gens:=hm.gens
 have q2:os'=s.os:=hm.os
 subst q1 q2
 refine U0d ?_
 show Q acc.toList _
 rw[eacc]
 refine h h' d' tk vs ns (fun b o e=>hm.heap b o ?_ (oth b o ?_ (k2 _ _ (k1 _ _ e)))) hi hp
 .have hb:b<L:=by rw[←hL];exact U0j e
  intro z
  rcases U0q.mp z with z|z
  .exact absurd z (U1m hb)
  .exact absurd (U1f.mp z) (U1m (U5n hb hit'))
 .exact U1m (by rw[←hL];exact U0j e)
theorem aK{S:Addr}{ds:List Int}{Q:Value->Shared->Prop}(hh:A.handled=none)(hS:SetT prog w s.heap S ds)(h64:ds.length<1000)
  (h:∀h' d' tk l vs ns n,(∀b o,s.heap.get? b=some o->h'.get? b=some o)->(∀b o,s.heap.get? b=some o->b<l)->h'.get? l=some { cls:=.type "list",data:=.seq vs n }->IntsAre vs.toList ns->ns.Perm ds->ns.Pairwise (·<=·)->Q (.ref l) { s with heap:=h',drawn:=d',toks:=tk }) :
  wpAny (model prog w) A (call (.builtin "sorted") [.ref S]) Q E s:=by
 refine Calls.call_function_entry kind_sorted plain_sorted entry_sorted (args_sorted1 _) ?_
 unfold Builtin.«sorted»
 refine U0 (m:=checkCount "sorted" 1 1 _) (U0d ?_)
 refine U0 (Zb (A:=A.in1) (by simpa using hh) hS h64 fun h1 d1 t1 vs ns k1 hi hp=>?_)
 have hv64:vs.length<1000:=by rw[show vs.length=ns.length from IntsAre.length hi,hp.length_eq];exact h64
 refine U0 (wpAny_newList ?_)
 have hoL:(h1.push (seqObj "list" vs.toArray 0)).get? h1.objs.size=some (seqObj "list" vs.toArray 0):=U0u _ rfl
 show wpAny _ _ _ _ _ { s with heap:=h1.push (seqObj "list" vs.toArray 0),drawn:=d1,toks:=t1 }
 refine U0 (U2x (U2s slot_list_sort ⟨_,hoL,rfl⟩ entry_list_sort (VP hoL hi (hp.nodup_iff.mpr hS.nd) hv64 fun out ns' a1 a2 a3=>⟨_,rfl,?_⟩) (args_list_sort _)))
 refine U0d ⟨_,rfl,?_⟩
 have old:∀b o,s.heap.get? b=some o->b≠h1.objs.size:=fun b o e=>U1m (U0j (k1 b o e))
 obtain⟨n',e'⟩:=Tf (out:=out) hoL
 refine h _ d1 t1 h1.objs.size out ns' n' (fun b o e=>Ry (old b o e) (U0c _ (k1 b o e))) (fun b o e=>U0j (k1 b o e)) e' a1 (a2.trans hp) a3
end
end SetP
end
section
namespace L2
open PySem PySem.Spec PyProof.Rows
variable{X:Cx}
theorem Tn(hc:X.calm=true):Dv X (.builtin "sorted") (fun xs H Q=>∃(a:Addr)(ds:List Int),xs=[.ref a]/\H a=some (Vi X.prog X.w a ds)/\ds.length<1000 /\
  ∀(l:Addr)(ns:List Int),H l=none->ns.Perm ds->ns.Pairwise (·<=·)->Q (.ref l) (upd H l (.lst (ns.map V.int)))):=by
 intro pins s σ H xs us Q I r h
 obtain⟨a,ds,rfl,hH,hl,q⟩:=h
 obtain⟨u,rfl,rx⟩:=vals1 r
 cases rx
 obtain⟨T,_,_⟩:=(show EY X.prog X.w H s.heap a (Vi X.prog X.w a ds) from I.hok a _ hH)
 refine SetP.aK (I.ok.hd hc) T hl fun h' d' tk l vs ns n k hb e hi hp hs=>?_
 have hn:s.heap.get? l=none:=by
  cases q:s.heap.get? l with
  |none=>rfl
  |some o=>exact absurd (hb l o q) (U4q _)
 have hsy:sysModules≠l:=by
  obtain⟨o,_,_,e,_⟩:=I.ok.mod.glob
  exact U1m (U5n (by decide:(1:Nat)<3) (hb _ _ (I.bk _ _ e)))
 have hlen:ns.length<1000:=by rw[hp.length_eq];exact hl
 refine⟨.ref l,_,I.laidN (d':=d') (t':=tk) (o:=.lst (ns.map V.int)) k hn hsy ⟨?_,vs.toList,n,Pz hi,by simpa using e⟩,rfl,q l ns (I.YM hn) hp hs⟩
 rw[U0f]
 exact U2r (aM (by omega))
end L2
end
section
namespace VS
open PySem PySem.Spec L2
def Im(a:BP):BP:=fun env S=>(a env S).bind fun p=>(listOf p.2 p.1).bind fun ds=>(intsOf ds).bind fun ns=>if ns.length<1000/\(SetP.once ns).length<1000 then some (.lst true ((Fq ns).map .int),p.2) else none
theorem R7{X:Cx}{a:Expr}{f:BP}{p p2 pos pos2:Pos}(hc:X.calm=true)(ha:JE X a f)(hg:Gl X "sorted")(hm:X.mg "sorted"=none)(hg2:Gl X "set")(hm2:X.mg "set"=none) 
  (he:starEach [a] X.env=[(false,eval a X.env)]:=by rfl) (he2:starEach [.Call (.Name "set" p2) [a] [] pos2] X.env=[(false,eval (.Call (.Name "set" p2) [a] [] pos2) X.env)]:=by rfl):JE X (.Call (.Name "sorted" p) [.Call (.Name "set" p2) [a] [] pos2] [] pos) (Im f) :=
 ⟨PE.imp (WT (Tn hc) hg hm bU (Qk (Q8 (fH hc) hg2 hm2 ou (Qk ha.pe SX he) (he:=he) (hpl:=rfl)) SX he2) (he:=he2) (hpl:=rfl)) fun σ H Q h=>by
  obtain⟨Γ,μ,env,S,d,S',hK,R,e,q⟩:=h
  obtain⟨⟨y,S1⟩,e1,e⟩:=bind_some e
  obtain⟨ds,e2,e⟩:=bind_some e
  obtain⟨ns,e3,e⟩:=bind_some e
  by_cases hl:ns.length<1000/\(SetP.once ns).length<1000
  .rw[if_pos hl] at e
   cases e
   refine⟨Γ,μ,env,S,y,_,hK,R,e1,fun v1 μ1 H1 x1 R1 r1=>?_⟩
   obtain⟨b,xs,rfl,hb,rb⟩:=VR.list R1 r1 e2
   have:=IK e3
   subst this
   have:=rb.Qa
   subst this
   refine⟨b,ns,rfl,SqL.of hb,hl.1,fun s hs=>?_⟩
   obtain⟨R2,x2⟩:=R1.grow (Dw hs (Vi X.prog X.w s (SetP.once ns)))
   refine⟨s,_,rfl,Cg,hl.2,fun l ms hl' hp hsrt=>?_⟩
   have:=ZC hp hsrt
   subst this
   obtain⟨R3,x3⟩:=R2.grow (Dw hl' (.lst ((Fq ns).map V.int)))
   exact q _ μ1 _ (x1.trans (x2.trans x3)) R3 (.lst (R2.ok hl' true) (R2.dead hl') Cg (VRs.ints _))
  .rw[if_neg hl] at e;cases e⟩
theorem QS(a:BP)(env:VS.Env)(S:Store):Im a env S=(a env S).bind fun p=>(listOf p.2 p.1).bind fun ds=>(intsOf ds).bind fun ns=>if ns.length<1000/\(SetP.once ns).length<1000 then some (.lst true ((Fq ns).map .int),p.2) else none:=rfl
end VS
end
section
namespace VS
def at1(bs:List (List St2))(i w:Nat):St2:=(bs.getD i []).getD w (0,0)
def inS(p:St2)(x:Int):Bool:=decide (p.1<=x)&&decide (x<p.2)
def steps(E:List Int):List St2:=E.zip E.tail
def G4(g:Int->Int)(a:Int):Nat->Int
 |0=>0
 |n+1=>G4 g a n+g (a+n)
theorem Rm(g:Int->Int)(a:Int)(m:Nat):∀n:Nat,G4 g a (m+n)=G4 g a m+G4 g (a+m) n
 |0=>by simp[G4]
 |n+1=>by
  rw[show m+(n+1)=m+n+1 by omega,G4,Rm g a m n,G4,show a+((m+n:Nat):Int)=a+m+n by omega]
  omega
theorem Ju(g:Int->Int)(a v:Int):∀n:Nat,(∀x,a<=x->x<a+n->g x=v)->G4 g a n=n*v
 |0,_=>by simp[G4]
 |n+1,h=>by
  rw[G4,Ju g a v n (fun x h1 h2=>h x h1 (by omega)),h (a+n) (by omega) (by omega)]
  rw[show((n+1:Nat):Int)=n+1 by omega,Int.add_mul,Int.one_mul]
theorem Iv(a b:Int)(r:List Int):steps (a::b::r)=(a,b)::steps (b::r):=rfl
theorem Mz:∀{E:List Int},E.Pairwise (·<·)->∀p∈steps E,p.1<p.2/\p.1∈E/\p.2∈E/\∀e∈E,e<=p.1∨p.2<=e
 |[],_,p,h=>by simp[steps] at h
 |[a],_,p,h=>by simp[steps] at h
 |a::b::r,hp,p,h=>by
  have hab:=(U12.mp hp).1
  have ht:=(U12.mp hp).2
  rw[Iv] at h
  rcases U0q.mp h with z|z
  .subst z
   refine⟨hab b U0p,by simp,by simp,fun e he=>?_⟩
   rcases U0q.mp he with q|q
   .left;show e<=a;omega
   .right
    show b<=e
    rcases U0q.mp q with q|q
    .omega
    .exact U33 ((U12.mp ht).1 e q)
  .obtain⟨h1,h2,h3,h4⟩:=Mz ht p z
   refine⟨h1,U0n _ h2,U0n _ h3,fun e he=>?_⟩
   rcases U0q.mp he with q|q
   .left;rw[q];exact U33 (hab _ h2)
   .exact h4 e q
def Vh(E:List Int)(g:Int->Int):Int:=((steps E).map fun p=>(p.2-p.1)*g p.1).sum
theorem Ur(g:Int->Int)(B:Int):∀(r:List Int)(a:Int),(a::r).Pairwise (·<·)->(∀p∈steps (a::r),∀x,p.1<=x->x<p.2->g x=g p.1)->(∀x,(∀e∈a::r,e<=x)->g x=0)->(∀e∈a::r,e<=B)->Vh (a::r) g=G4 g a (B-a).toNat
 |[],a,hp,hc,ho,hB=>by
  have:G4 g a (B-a).toNat=(B-a).toNat*0:=Ju g a 0 _ fun x h1 _=>ho x (by simpa using h1)
  rw[this];simp[Vh,steps]
 |b::r,a,hp,hc,ho,hB=>by
  have hab:=(U12.mp hp).1 b U0p
  have ht:=(U12.mp hp).2
  have hb:=hB b (by simp)
  have ih:=Ur g B r b ht (fun p h=>hc p (by rw[Iv];exact U0n _ h)) (fun x h=>ho x fun e he=>by
   rcases U0q.mp he with q|q
   .have:=h b U0p;omega
   .exact h e q) fun e he=>hB e (U0n _ he)
  have e1:(B-a).toNat=(b-a).toNat+(B-b).toNat:=by omega
  have e2:G4 g a (b-a).toNat=(b-a).toNat*g a:=Ju g a (g a) _ fun x h1 h2=>hc (a,b) (by rw[Iv];exact U0p) x h1 (by show x<b;omega)
  have e3:(((b-a).toNat:Nat):Int)=b-a:=by omega
  rw[e1,Rm,e2,e3,show a+(b-a)=b by omega,←ih]
  simp[Vh,Iv]
theorem aJ{E:List Int}{g:Int->Int}{A:Int}{N:Nat}(hp:E.Pairwise (·<·))(hc:∀p∈steps E,∀x,p.1<=x->x<p.2->g x=g p.1)(h0:∀x,(∀e∈E,x<e)->g x=0)(h1:∀x,(∀e∈E,e<=x)->g x=0)(hb:∀e∈E,A<=e/\e<=A+N):Vh E g=G4 g A N:=by
 cases E with
 |nil =>
  have:G4 g A N=N*0:=Ju g A 0 _ fun x _ _=>h0 x fun e he=>by simp at he
  rw[this];simp[Vh,steps]
 |cons a r =>
  have ha:=hb a U0p
  rw[Ur g (A+N) r a hp hc h1 fun e he=>(hb e he).2]
  have e1:N=(a-A).toNat+(A+N-a).toNat:=by omega
  have e2:G4 g A (a-A).toNat=(a-A).toNat*0:=Ju g A 0 _ fun x _ h2=>h0 x fun e he=>by
   rcases U0q.mp he with q|q
   .omega
   .have:=(U12.mp hp).1 e q;omega
  have e3:A+(((a-A).toNat:Nat):Int)=a:=by omega
  conv=>rhs;rw[e1,Rm,e2,e3]
  simp
theorem T5(ns:List Int):(Fq ns).Pairwise (·<·):=by
 obtain⟨o1,o2,o3⟩:=SetP.G6 ns
 have hp:(Fq ns).Perm (SetP.once ns):=U2k _ _
 have hs:(Fq ns).Pairwise (·<=·):=by
  have:=List.pairwise_mergeSort (le:=fun a b:Int=>decide (a<=b)) (by intro a b c h1 h2;simp at *;omega) (by intro a b;simp;omega) (SetP.once ns)
  exact this.imp fun h=>by simpa using h
 exact(hs.and (hp.nodup_iff.mpr o1)).imp fun⟨h,n⟩=>by omega
end VS
end
section
namespace VS
end VS
end
section
namespace VS
def S1(vs:List St2):Int:=((steps (Fq (vs.map (fun p=>p.1)++vs.map fun p=>p.2))).map fun p=>(p.2-p.1)*(if vs.any (fun v=>inS v p.1) then 1 else 0)).sum
end VS
end
section
namespace VS
structure Norm(l:List St2):Prop where
 pos:∀p∈l,p.1<p.2
 far:l.Pairwise fun p q=>p.2<q.1
structure Asc(l:List St2):Prop where
 pos:∀p∈l,p.1<p.2
 up:l.Pairwise fun p q=>p.2<=q.1
theorem Qw:∀{E:List Int},E.Pairwise (·<·)->∀{x:Int},(∃a∈E,a<=x)->(∃b∈E,x<b)->∃p∈steps E,p.1<=x/\x<p.2
 |[],_,x,⟨a,ha,_⟩,_=>by simp at ha
 |[a],_,x,⟨c,hc,h1⟩,⟨b,hb,h2⟩=>by
  rw[U1f.mp hc] at h1
  rw[U1f.mp hb] at h2
  omega
 |a::b::r,h,x,⟨c,hc,h1⟩,⟨d,hd,h2⟩=>by
  have hh:=U12.mp h
  have ab:=hh.1 b U0p
  rw[Iv]
  by_cases z:x<b
  .refine⟨(a,b),U0p,?_,z⟩
   rcases U0q.mp hc with w|w
   .rw[w] at h1;exact h1
   .show a<=x
    have:=hh.1 c w;omega
  .obtain⟨p,hp,k⟩:=Qw hh.2 (x:=x) ⟨b,U0p,by omega⟩ ⟨d,by
    rcases U0q.mp hd with w|w
    .omega
    .exact w,h2⟩
   exact⟨p,U0n _ hp,k⟩
theorem Um:∀{E:List Int},E.Pairwise (·<·)->Asc (steps E)
 |[],_=>⟨fun p h=>by simp[steps] at h,by simp[steps]⟩
 |[a],_=>⟨fun p h=>by simp[steps] at h,by simp[steps]⟩
 |a::b::r,h=>by
  have hh:=U12.mp h
  obtain⟨s1,s2⟩:=Um hh.2
  rw[Iv]
  refine⟨fun p hp=>?_,U12.mpr ⟨fun q hq=>?_,s2⟩⟩
  .rcases U0q.mp hp with z|z
   .rw[z];exact hh.1 b U0p
   .exact s1 p z
  .obtain⟨_,hm,_,_⟩:=Mz hh.2 q hq
   show b<=q.1
   rcases U0q.mp hm with z|z
   .omega
   .have:=(U12.mp hh.2).1 _ z;omega
theorem WX:∀{l m:List Int},l.Nodup->(∀x∈l,x∈m)->l.length<=m.length
 |[],_,_,_=>U3f _
 |a::l,m,h,hs=>by
  obtain⟨h1,h2⟩:=U4t.mp h
  have ha:=hs a U0p
  have ih:=WX (l:=l) (m:=m.erase a) h2 fun x hx=>(List.mem_erase_of_ne (show x≠a from fun z=>h1 (by rw[←z];exact hx))).mpr (hs x (U0n _ hx))
  rw[List.length_erase_of_mem ha] at ih
  have:=List.length_pos_of_mem ha
  rw[U0e]
  omega
end VS
end
section
namespace VS
open PySem L2
theorem Q5:∀{a b:List Int},a.Pairwise (·<·)->b.Pairwise (·<·)->(∀x,x∈a↔x∈b)->a=b
 |[],[],_,_,_=>rfl
 |[],y::b,_,_,h=>by have:=(h y).mpr U0p;simp at this
 |x::a,[],_,_,h=>by have:=(h x).mp U0p;simp at this
 |x::a,y::b,ha,hb,h=>by
  obtain⟨a1,a2⟩:=U12.mp ha
  obtain⟨b1,b2⟩:=U12.mp hb
  have e:x=y:=by
   rcases U0q.mp ((h x).mp U0p) with z|z
   .exact z
   .rcases U0q.mp ((h y).mpr U0p) with w|w
    .exact w.symm
    .have:=b1 x z;have:=a1 y w;omega
  subst e
  congr 1
  refine Q5 a2 b2 fun z=>?_
  constructor
  .intro hz
   rcases U0q.mp ((h z).mp (U0n _ hz)) with w|w
   .have:=a1 z hz;omega
   .exact w
  .intro hz
   rcases U0q.mp ((h z).mpr (U0n _ hz)) with w|w
   .have:=b1 z hz;omega
   .exact w
def cnt(ps:List St2)(x:Int):Int:=(ps.map fun p=>if inS p x=true then (1:Int) else 0).sum
end VS
end
section
namespace W30
open PySem L2 VS
def TQ:Bb :=
 (DR (OD (eCB J8 (Ac (Ae 0) (Ac (eC (.ty "int")) Ah))) (cH (eCB J8 (Ac (Ae 0) (Ac (eC (.ty "bool")) Ah))))))
def Gy:Ef:=Fy 1 1 TQ
def LR:Bl :=
 DN 1 [] (Dh (Ae 0)) (Pat.sem (.nm 0)) HJ (Ao Gy (Ac (Ae 0) Ah))
def QM:Bb :=
 (DR (OD (eCB J8 (Ac (Ae 0) (Ac (eC (.ty "tuple")) Ah))) (OD (eOp (oEq false) (eCB K3 (Ac (Ae 0) Ah)) (Ae 1)) (eCB JX (Ac (BK LR) Ah)))))
def Fb:Ef:=Fy 2 2 QM
def Hj:Bl :=
 DN 1 [] (Dh (Ae 0)) (Pat.sem (.nm 0)) HJ (OD (Ao Fb (Ac (Ae 0) (Ac (eC (.int 2)) Ah))) (eOp oGe (eOp oIx (Ae 0) (eC (.int 1))) (eC (.int 0))))
def JN:Bl :=
 DN 2 [] (Qc (Ac (Ae 0) (Ac (eSl oSl (Ae 0) (GQ (eC (.int 1))) GR) Ah))) (Pat.sem (.tp [(.nm 0),(.nm 1)])) HJ (OD (eOp oLt (eOp oIx (Ae 0) (eC (.int 0))) (eOp oIx (Ae 1) (eC (.int 0)))) (eOp (oEq true) (eOp oIx (Ae 0) (eC (.int 1))) (eOp oIx (Ae 1) (eC (.int 1)))))
def QK:Bb :=
 (Bt (sIf (tOr (K1 (Bv (eCB J8 (Ac (Ae 0) (Ac (eC (.ty "list")) Ah))))) (K1 (Bv (eCB JX (Ac (BK Hj) Ah)))))
  (DR (eC (.bl false)))
  G8)
  (Bt (sIf (Bv (eOp (oEq false) (eCB K3 (Ac (Ae 0) Ah)) (eC (.int 0))))
  (DR (eC (.bl true)))
  G8)
  (Bt (sIf (tOr (Bv (eOp (oEq false) (eOp oIx (eOp oIx (Ae 0) (eC (.int 0))) (eC (.int 1))) (eC (.int 0)))) (Bv (eOp (oEq true) (eOp oIx (eOp oIx (Ae 0) (eUn HX (eC (.int 1)))) (eC (.int 1))) (eC (.int 0)))))
  (DR (eC (.bl false)))
  G8)
  (DR (eCB JX (Ac (BK JN) Ah))))))
def FZ:Ef:=Fy 1 1 QK
def O7:Bb :=
 (sIf (K1 (Bv (Ao FZ (Ac (Ae 0) Ah))))
  Zk
  G8)
def Bu:Ef:=Fy 1 1 O7
def LC:Bl :=
 DN 3 [1] (Dh (Ae 0)) (Pat.sem (.tp [(.nm 0),(.nm 1),(.nm 2)])) (Bv (Sv oLe oLt (Ae 0) (Ae 3) (Ae 1))) (Ae 2)
def QH:Bb :=
 (DR (Z4 0 (BK LC)))
def Eb:Ef:=Fy 2 2 QH
def Hh:Bb :=
 (Bt (sIf (Bv (eOp (oEq true) (Ae 4) (Ae 2)))
  (HS (Hf FP (Ae 1) (Ac (Ce (Ac (Ae 3) (Ac (Ae 4) Ah))) Ah)))
  G8)
  (Bk 2 (Ae 4)))
def Jg:Bb :=
 Kv (Dh (Ae 0)) (Pat.sem (.tp [(.nm 3),(.nm 4)]))
  Hh
def NP:Bb :=
 (Bt (Bk 1 (Kw Ah))
  (Bt (Bk 2 (eC (.int 0)))
  (Bt Jg
  (DR (Ae 1)))))
def DQ:Ef:=Fy 1 5 NP
def Gu:Bl :=
 DN 2 [] (Qc (Ac (Ae 0) (Ac (eSl oSl (Ae 0) (GQ (eC (.int 1))) GR) Ah))) (Pat.sem (.tp [(.nm 0),(.nm 1)])) HJ (Ce (Ac (eOp oIx (Ae 0) (eC (.int 0))) (Ac (eOp oIx (Ae 1) (eC (.int 0))) (Ac (eOp oIx (Ae 0) (eC (.int 1))) Ah))))
def J9:Bl :=
 DN 1 [] (Dh (Ae 1)) (Pat.sem (.nm 0)) (Bv (eOp oGt (eOp oIx (Ae 0) (eC (.int 2))) (eC (.int 0)))) (Ae 0)
def Mt:Bb :=
 (Bt (Bk 1 (BK Gu))
  (DR (BK J9)))
def Bq:Ef:=Fy 1 2 Mt
def RL:Bb :=
 (Bt (HS (Ao Bu (Ac (Ae 0) Ah)))
  (DR (Ao Bq (Ac (Ae 0) Ah))))
def Ez:Ef:=Fy 1 1 RL
def JR:Bl :=
 DN 3 [] (Dh (Ao Ez (Ac (Ae 0) Ah))) (Pat.sem (.tp [(.nm 0),(.nm 1),(.nm 2)])) HJ (eOp Gk (eOp HW (Ae 1) (Ae 0)) (Ae 2))
def QL:Bb :=
 (DR (eCB Ys (Ac (BK JR) Ah)))
def Ax:Ef:=Fy 1 1 QL
def Gj:Bl :=
 DN 2 [] (Dh (eOp Br (Ae 0) (Ae 1))) (Pat.sem (.tp [(.nm 0),(.nm 1)])) HJ (Ae 0)
def Ip:Bl :=
 DN 1 [2,3] (Dh (Ae 4)) (Pat.sem (.nm 0)) HJ (Ce (Ac (Ae 0) (Ac (Ao Eb (Ac (Ae 1) (Ac (Ae 0) Ah))) (Ac (Ao Eb (Ac (Ae 2) (Ac (Ae 0) Ah))) Ah))))
def Lb:Bb :=
 (Bt (HS (Ao Bu (Ac (Ae 0) Ah)))
  (Bt (HS (Ao Bu (Ac (Ae 1) Ah)))
  (Bt (Bk 2 (Ao Bq (Ac (Ae 0) Ah)))
  (Bt (Bk 3 (Ao Bq (Ac (Ae 1) Ah)))
  (Bt (Bk 4 (Im (BK Gj)))
  (DR (BK Ip)))))))
def CK:Ef:=Fy 2 5 Lb
def QG:Bl :=
 DN 3 [] (Dh (Ao CK (Ac (Ae 0) (Ac (Ae 1) Ah)))) (Pat.sem (.tp [(.nm 0),(.nm 1),(.nm 2)])) HJ (Ce (Ac (Ae 0) (Ac (eCB Jp (Ac (Ae 1) (Ac (Ae 2) Ah))) Ah)))
def RM:Bb :=
 (DR (Ao DQ (Ac (BK QG) Ah)))
def Dz:Ef:=Fy 2 2 RM
def R0:Bl :=
 DN 3 [] (Dh (Ao CK (Ac (Ae 0) (Ac (Ae 1) Ah)))) (Pat.sem (.tp [(.nm 0),(.nm 1),(.nm 2)])) HJ (Ce (Ac (Ae 0) (Ac (eCB Ft (Ac (Ae 1) (Ac (Ae 2) Ah))) Ah)))
def T9:Bb :=
 (DR (Ao DQ (Ac (BK R0) Ah)))
def Dd:Ef:=Fy 2 2 T9
def RD:Bb :=
 (Bt (Bk 2 (eOp oMod (eOp Br (eOp Br (eOp oMod (Ae 0) (eC (.int 2147483629))) (eOp Gk (eOp Gk (eC (.int 1000003)) (Ae 1)) (Ae 1))) (eOp Gk (eC (.int 7919)) (Ae 1))) (eC (.int 2147483629))))
  (Bt (Bk 2 (eOp oMod (eOp Gk (Ae 2) (Ae 2)) (eC (.int 2147483587))))
  (DR (eOp oDiv (eOp oMod (eOp Gk (Ae 2) (eOp Br (Ae 2) (eC (.int 40961)))) (eC (.int 2147483563))) (eC (.int 4))))))
def Gb:Ef:=Fy 2 3 RD
def Oq:Bb :=
 (DR (BK (Ac (eOp Gk (Ae 0) (eCB OJ (Ac (eOp oGe (Ae 0) (eOp Fz (eC (.int 10)) (eC (.int 18)))) Ah))) (Ac (Ae 0) (Ac (eC (.int 0)) Ah)))))
def Fj:Ef:=Fy 1 1 Oq
def Li:Bb :=
 (Bt (sIf (Bv (eOp oGt (eOp oIx (Ae 0) (eC (.int 0))) (eC (.int 0))))
  (Bt (Bk 2 (eOp oMod (eOp oIx (Ae 0) (eC (.int 0))) (Ae 1)))
  (Bt (SQ (eOp oDiv (eOp oIx (Ae 0) (eC (.int 0))) (Ae 1)) (Ae 0) (eC (.int 0)))
  (DR (Ae 2))))
  G8)
  (Bt (SQ (eOp Br (eOp oIx (Ae 0) (eC (.int 2))) (eC (.int 1))) (Ae 0) (eC (.int 2)))
  (DR (eOp oMod (eOp Gk (Ao Gb (Ac (eOp oIx (Ae 0) (eC (.int 1))) (Ac (eOp oIx (Ae 0) (eC (.int 2))) Ah))) (eOp oIx (BK (Ac (eC (.int 1)) (Ac (eC (.int 8191)) Ah))) (eCB OJ (Ac (eOp oGt (Ae 1) (eOp Fz (eC (.int 10)) (eC (.int 6)))) Ah)))) (Ae 1)))))
def Am:Kz:=runM 2 3 Li
def R9:Bb :=
 (DR (eOp oIx (BK (Ac (Ce (Ac (eC (.int 0)) (Ac (eC (.int 6)) Ah))) (Ac (Ce (Ac (eUn HX (eC (.int 3))) (Ac (eC (.int 8)) Ah))) (Ac (Ce (Ac (eC (.int 0)) (Ac (eC (.int 13)) Ah))) (Ac (Ce (Ac (eUn HX (eC (.int 20))) (Ac (eC (.int 41)) Ah))) (Ac (Ce (Ac (eUn HX (eOp Fz (eC (.int 10)) (eC (.int 9)))) (Ac (eOp Gk (eC (.int 2)) (eOp Fz (eC (.int 10)) (eC (.int 9)))) Ah))) Ah)))))) (Ay Am (Ac (Ae 0) (Ac (eC (.int 5)) Ah)))))
def Eu:Kz:=runM 1 1 R9
def Ow:Bb :=
 (Bt (Bk 2 (eOp Br (eOp oIx (Ae 1) (eC (.int 0))) (Ay Am (Ac (Ae 0) (Ac (eOp oIx (Ae 1) (eC (.int 1))) Ah)))))
  (Bt (Bk 3 (eOp Br (eOp oIx (Ae 1) (eC (.int 0))) (Ay Am (Ac (Ae 0) (Ac (eOp oIx (Ae 1) (eC (.int 1))) Ah)))))
  (Bt (sIf (Bv (eOp (oEq false) (Ae 2) (Ae 3)))
  (Bk 3 (eOp Br (Ae 2) (eC (.int 1))))
  G8)
  (DR (Ce (Ac (eCB Ft (Ac (Ae 2) (Ac (Ae 3) Ah))) (Ac (eCB Jp (Ac (Ae 2) (Ac (Ae 3) Ah))) Ah)))))))
def Eh:Kz:=runM 2 4 Ow
def RJ:Bb :=
 (Bt (Yn (Ay Eh (Ac (Ae 0) (Ac (Ae 1) Ah))) (Pat.sem (.tp [(.nm 3),(.nm 4)])))
  (Bt (Bk 5 (eOp Br (eC (.int 1)) (eOp oIx (BK (Ac (Ay Am (Ac (Ae 0) (Ac (eC (.int 3)) Ah))) (Ac (Ay Am (Ac (Ae 0) (Ac (eC (.int 9)) Ah))) (Ac (Ay Am (Ac (Ae 0) (Ac (eOp Fz (eC (.int 10)) (eC (.int 9))) Ah))) Ah)))) (Ay Am (Ac (Ae 0) (Ac (eC (.int 3)) Ah))))))
  (Bt (Bk 6 (Ay Am (Ac (Ae 0) (Ac (eC (.int 8)) Ah))))
  (Bt (sIf (tOr (Bv (eOp (oEq false) (Ae 2) (BK Ah))) (Bv (eOp oGt (Ae 6) (eC (.int 4)))))
  (DR (Ce (Ac (Ae 3) (Ac (Ae 4) (Ac (Ae 5) Ah)))))
  G8)
  (Bt (Bk 7 (eOp oIx (Ae 2) (Ay Am (Ac (Ae 0) (Ac (eCB K3 (Ac (Ae 2) Ah)) Ah)))))
  (Bt (Bk 8 (eCB Ft (Ac (eOp Fz (eC (.int 10)) (eC (.int 9))) (Ac (eOp Br (eOp Br (eOp oIx (Ae 7) (eC (.int 1))) (eC (.int 1))) (Ay Am (Ac (Ae 0) (Ac (eC (.int 4)) Ah)))) Ah))))
  (Bt (Bk 9 (eOp Br (eOp Br (eOp oIx (Ae 7) (eC (.int 0))) (eC (.int 1))) (Ay Am (Ac (Ae 0) (Ac (eOp HW (eOp oIx (Ae 7) (eC (.int 1))) (eOp oIx (Ae 7) (eC (.int 0)))) Ah)))))
  (Bt (Bk 10 (Kw (Ac (Ae 7) (Ac (Ce (Ac (eOp oIx (Ae 7) (eC (.int 0))) (Ac (eOp oIx (Ae 7) (eC (.int 1))) (Ac (Ae 5) Ah)))) (Ac (Ce (Ac (Ae 3) (Ac (Ae 4) (Ac (eOp oIx (Ae 7) (eC (.int 2))) Ah)))) (Ac (Ce (Ac (eOp oIx (Ae 7) (eC (.int 1))) (Ac (Ae 8) (Ac (Ae 5) Ah)))) Ah))))))
  (Bt (HS (Hf FP (Ae 10) (Ac (Ce (Ac (eOp oIx (Ae 7) (eC (.int 0))) (Ac (Ae 9) (Ac (Ae 5) Ah)))) Ah)))
  (Bt (sIf (Bv (eOp oGe (eOp oIx (eOp oIx (Ae 10) (Ae 6)) (eC (.int 0))) (eOp oIx (eOp oIx (Ae 10) (Ae 6)) (eC (.int 1)))))
  (DR (Ae 7))
  G8)
  (DR (eOp oIx (Ae 10) (Ae 6)))))))))))))
def Ey:Kz:=runM 3 11 RJ
def JM:Bb :=
 (HS (Hf FP (Ae 4) (Ac (Ay Ey (Ac (Ae 0) (Ac (Ae 1) (Ac (Ae 4) Ah)))) Ah)))
def LK:Bb :=
 Kv (KD (Ac (Ae 3) Ah)) (Pat.sem (.nm 5))
  JM
def QJ:Bb :=
 (Bt (Bk 3 (eOp oIx (BK (Ac (Ay Am (Ac (Ae 0) (Ac (eC (.int 4)) Ah))) (Ac (Ay Am (Ac (Ae 0) (Ac (eOp Br (Ae 2) (eC (.int 1))) Ah))) (Ac (Ae 2) Ah)))) (Ay Am (Ac (Ae 0) (Ac (eC (.int 3)) Ah)))))
  (Bt (Bk 4 (Kw Ah))
  (Bt LK
  (DR (Ae 4)))))
def Dg:Kz:=runM 3 6 QJ
def Nj:Bl :=
 DN 1 [] (Dh (Ae 0)) (Pat.sem (.nm 0)) HJ (eOp oIx (Ae 0) (eC (.int 0)))
def Ni:Bl :=
 DN 1 [] (Dh (Ae 0)) (Pat.sem (.nm 0)) HJ (eOp oIx (Ae 0) (eC (.int 1)))
def Ke:Bb :=
 (sIf (PJ (Bv (eOp oLe (eOp oIx (Ae 5) (eC (.int 0))) (Ae 3))) (PJ (Bv (eOp oLt (Ae 3) (eOp oIx (Ae 5) (eC (.int 1))))) (Bv (eOp oGt (eOp oIx (Ae 5) (eC (.int 2))) (Ae 4)))))
  (Bk 4 (eOp oIx (Ae 5) (eC (.int 2))))
  G8)
def Nh:Bb :=
 Kv (Dh (Ae 0)) (Pat.sem (.nm 5))
  Ke
def Kd:Bb :=
 (Bt (Bk 4 (eC (.int 0)))
  (Bt Nh
  (sIf (Bv (eOp (oEq true) (Ae 4) (eOp oIx (eOp oIx (eOp Br (BK (Ac (Ce (Ac (eC (.int 0)) (Ac (eC (.int 0)) Ah))) Ah)) (Ae 2)) (eUn HX (eC (.int 1)))) (eC (.int 1)))))
  (HS (Hf FP (Ae 2) (Ac (Ce (Ac (Ae 3) (Ac (Ae 4) Ah))) Ah)))
  G8)))
def Ng:Bb :=
 Kv (Dh (Ae 1)) (Pat.sem (.nm 3))
  Kd
def TF:Bb :=
 (Bt (Bk 1 (Im (eOp Br (BK Nj) (BK Ni))))
  (Bt (Bk 2 (Kw Ah))
  (Bt Ng
  (DR (Ae 2)))))
def Bw:Ef:=Fy 1 6 TF
def Mr:Bl :=
 DN 2 [] (Qc (Ac (Ae 0) (Ac (eSl oSl (Ae 0) (GQ (eC (.int 1))) GR) Ah))) (Pat.sem (.tp [(.nm 0),(.nm 1)])) (Bv (eOp oGt (eOp oIx (Ae 0) (eC (.int 1))) (eC (.int 0)))) (Ce (Ac (eOp oIx (Ae 0) (eC (.int 0))) (Ac (eOp oIx (Ae 1) (eC (.int 0))) (Ac (eOp oIx (Ae 0) (eC (.int 1))) Ah))))
def RK:Bb :=
 (DR (BK Mr))
def Bj:Ef:=Fy 1 1 RK
def Jx:Bb :=
 (sIf (Bv (eOp oLt (eCB Jp (Ac (Ae 3) (Ac (Ae 6) Ah))) (eCB Ft (Ac (Ae 4) (Ac (Ae 7) Ah)))))
  (HS (Hf FP (Ae 2) (Ac (Ce (Ac (eCB Jp (Ac (Ae 3) (Ac (Ae 6) Ah))) (Ac (eCB Ft (Ac (Ae 4) (Ac (Ae 7) Ah))) (Ac (eCB Ft (Ac (Ae 5) (Ac (Ae 8) Ah))) Ah)))) Ah)))
  G8)
def Mq:Bb :=
 Kv (Dh (Ao Bj (Ac (Ae 1) Ah))) (Pat.sem (.tp [(.nm 6),(.nm 7),(.nm 8)]))
  Jx
def QF:Bb :=
 Mq
def Mp:Bb :=
 Kv (Dh (Ao Bj (Ac (Ae 0) Ah))) (Pat.sem (.tp [(.nm 3),(.nm 4),(.nm 5)]))
  QF
def RG:Bb :=
 (Bt (Bk 2 (Kw Ah))
  (Bt Mp
  (DR (Ao Bw (Ac (Ae 2) Ah)))))
def Ew:Ef:=Fy 2 9 RG
def Kf:Bb :=
 (Bk 1 (eOp Br (Ae 1) (eOp Gk (eOp HW (eOp oIx (eOp oIx (Ae 0) (Ae 2)) (eC (.int 0))) (eOp oIx (eOp oIx (Ae 0) (eOp HW (Ae 2) (eC (.int 1)))) (eC (.int 0)))) (eOp oIx (eOp oIx (Ae 0) (eOp HW (Ae 2) (eC (.int 1)))) (eC (.int 1))))))
def Nk:Bb :=
 Kv (O5 (Ac (eC (.int 1)) (Ac (eCB K3 (Ac (Ae 0) Ah)) Ah))) (Pat.sem (.nm 2))
  Kf
def TJ:Bb :=
 (Bt (Bk 1 (eC (.int 0)))
  (Bt Nk
  (DR (Ae 1))))
def Df:Ef:=Fy 1 3 TJ
def Jw:Bb :=
 (Bt (Bk 6 (BK (Ac (Ih Dz (Ac (eOp oIx (Ae 2) (eC (.int 0))) (Ac (eOp oIx (Ae 2) (eC (.int 1))) Ah))) (Ac (Ih Dd (Ac (eOp oIx (Ae 2) (eC (.int 0))) (Ac (eOp oIx (Ae 2) (eC (.int 1))) Ah))) Ah))))
  (Bt (sIf (tOr (Bv (eOp (NZ true) (eCB FN (Ac (Ae 6) Ah)) (eCB FN (Ac (BK (Ac (Ae 3) (Ac (Ae 4) Ah))) Ah)))) (Bv (eOp (oEq true) (Ae 2) (BK (Ac (Ae 0) (Ac (Ae 1) Ah))))))
  (DR (eC (.bl false)))
  G8)
  (Bt (HS (Hf FP (eOp oIx (Ae 6) (eC (.int 0))) (Ac (eC (.int 0)) Ah)))
  (Bt (HS (Hf FP (eOp oIx (Ae 6) (eC (.int 1))) (Ac (eC (.int 0)) Ah)))
  (sIf (Bv (eOp (NZ true) (eCB FN (Ac (Ao Ax (Ac (eOp oIx (Ae 2) (Ae 5)) Ah)) Ah)) (eCB FN (Ac (Ao Df (Ac (eOp oIx (BK (Ac (Ae 0) (Ac (Ae 1) Ah))) (Ae 5)) Ah)) Ah))))
  (DR (eC (.bl false)))
  G8)))))
def Ml:Bb :=
 Kv (KD (Ac (eC (.int 2)) Ah)) (Pat.sem (.nm 5))
  Jw
def R8:Bb :=
 (Bt (Bk 2 (BK (Ac (Oa nList (Ac (Ae 0) Ah)) (Ac (Oa nList (Ac (Ae 1) Ah)) Ah))))
  (Bt (Bk 3 (Ao Bw (Ac (eOp Br (Ao Bj (Ac (Ae 0) Ah)) (Ao Bj (Ac (Ae 1) Ah))) Ah)))
  (Bt (Bk 4 (Ao Ew (Ac (Ae 0) (Ac (Ae 1) Ah))))
  (Bt Ml
  (DR (eOp (oEq false) (eOp Br (Ao Ax (Ac (Ae 3) Ah)) (Ao Ax (Ac (Ae 4) Ah))) (eOp Br (Ao Ax (Ac (Ae 0) Ah)) (Ao Ax (Ac (Ae 1) Ah)))))))))
def Ej:Ef:=Fy 2 7 R8
def Sh:Bl :=
 DN 3 [] (Dh (Ae 4)) (Pat.sem (.tp [(.nm 0),(.nm 1),(.nm 2)])) HJ (Ce (Ac (Ae 0) (Ac (Ae 1) (Ac (eCB Ft (Ac (eOp Fz (eC (.int 10)) (eC (.int 9))) (Ac (eOp Br (Ae 2) (eC (.int 1))) Ah))) Ah))))
def Ss:Bb :=
 (sIf (tOr (K1 (Bv (Ao Ej (Ac (Ae 5) (Ac (Ao Bw (Ac (Ae 8) Ah)) Ah))))) (K1 (Bv (Ao Ej (Ac (Ao Bw (Ac (Ae 8) Ah)) (Ac (Ae 5) Ah))))))
  (DR (eC (.bl false)))
  G8)
def Zv:Bb :=
 Kv (Dh (BK (Ac (Ae 6) (Ac (eSl oSl (Ae 4) (GQ (eC (.int 1))) GR) (Ac (eOp Br (eSl oSl (Ae 4) GR (GQ (eC (.int 2)))) (eSl oSl (Ae 6) GR (GQ (eC (.int 2))))) (Ac (BK Ah) (Ac (Ae 7) Ah))))))) (Pat.sem (.nm 8))
  Ss
def Sq:Bb :=
 (Bt (Bk 2 (Ih Fj (Ac (Ae 1) Ah)))
  (Bt (Bk 3 (Ay Eu (Ac (Ae 2) Ah)))
  (Bt (Bk 4 (Ay Dg (Ac (Ae 2) (Ac (Ae 3) (Ac (eOp oIx (BK (Ac (eC (.int 40)) (Ac (eC (.int 12)) Ah))) (Ay Am (Ac (Ae 2) (Ac (eC (.int 2)) Ah)))) Ah)))))
  (Bt (Bk 5 (Ao Bw (Ac (Ae 4) Ah)))
  (Bt (Bk 6 (Ay Dg (Ac (Ae 2) (Ac (Ae 3) (Ac (eC (.int 12)) Ah)))))
  (Bt (Bk 7 (BK Sh))
  Zv))))))
def Vv:Bb :=
 Kv (Dh (eOp Br (BK (Ac (eC (.int 0)) Ah)) (eSl oSl (Ae 0) GR (GQ (eC (.int 15)))))) (Pat.sem (.nm 1))
  Sq
def fu:Bb :=
 (Bt Vv
  (DR (OD (eOp (oEq false) (Ao Dd (Ac (BK (Ac (Ce (Ac (eC (.int 0)) (Ac (eC (.int 3)) Ah))) (Ac (Ce (Ac (eC (.int 4)) (Ac (eC (.int 0)) Ah))) Ah))) (Ac (BK (Ac (Ce (Ac (eC (.int 2)) (Ac (eC (.int 5)) Ah))) (Ac (Ce (Ac (eC (.int 6)) (Ac (eC (.int 0)) Ah))) Ah))) Ah))) (BK (Ac (Ce (Ac (eC (.int 2)) (Ac (eC (.int 3)) Ah))) (Ac (Ce (Ac (eC (.int 4)) (Ac (eC (.int 0)) Ah))) Ah)))) (eOp (oEq false) (Ao Ax (Ac (BK Ah) Ah)) (eC (.int 0))))))
def U8:Ef:=Fy 1 9 fu
end W30
end
section
namespace W30
open PySem PySem.Spec L2 VS
def top (i : Nat) : Stmt := PySem.Challenge.pw_boxcover_k30_areas_and_both_skylines.main.body.getD i (.Pass ⟨0, 0, 0, 0⟩)
abbrev J4:Stmt:=top 4
abbrev GP:Stmt:=top 6
abbrev Fp:Stmt:=top 7
abbrev GD:Stmt:=top 8
abbrev GJ:Stmt:=top 9
abbrev Fx:Stmt:=top 10
abbrev Dy:Stmt:=top 11
abbrev Hz:Stmt:=top 12
abbrev GK:Stmt:=top 13
abbrev Dp:Stmt:=top 14
abbrev Gs:Stmt:=top 15
abbrev Hg:Stmt:=top 16
abbrev Hw:Stmt:=top 18
abbrev Iw:Stmt:=top 19
abbrev Iz:Stmt:=top 20
abbrev Hv:Stmt:=top 21
abbrev Gd:Stmt:=top 22
abbrev Hy:Stmt:=top 23
abbrev HD:Stmt:=top 24
abbrev Gg:Stmt:=top 25
abbrev Gq:Stmt:=top 26
abbrev Hx:Stmt:=top 27
abbrev J3:Stmt:=top 28
abbrev Hu:Stmt:=top 29
abbrev KN:Stmt:=top 30
theorem Xl:CW ["thing"] ["thing"] (Aq J4):=⟨rfl,rfl,rfl,by decide +kernel,rfl,by decide +kernel,by decide +kernel⟩
theorem VF:CW ["thing","many"] ["thing","many"] (Aq GP):=⟨rfl,rfl,rfl,by decide +kernel,rfl,by decide +kernel,by decide +kernel⟩
theorem VB:CW ["thing"] ["thing"] (Aq Fp):=⟨rfl,rfl,rfl,by decide +kernel,rfl,by decide +kernel,by decide +kernel⟩
theorem Tg:CW ["skyline"] ["skyline"] (Aq GD):=⟨rfl,rfl,rfl,by decide +kernel,rfl,by decide +kernel,by decide +kernel⟩
theorem V9:CW ["houses","number"] ["houses","number"] (Aq GJ):=⟨rfl,rfl,rfl,by decide +kernel,rfl,by decide +kernel,by decide +kernel⟩
theorem Fd:CW ["heights","skyline","height_ahead","number","height"] ["heights"] (Aq Fx):=⟨rfl,rfl,rfl,by decide +kernel,rfl,by decide +kernel,by decide +kernel⟩
theorem La:CW ["skyline","steps"] ["skyline"] (Aq Dy):=⟨rfl,rfl,rfl,by decide +kernel,rfl,by decide +kernel,by decide +kernel⟩
theorem X6:CW ["skyline"] ["skyline"] (Aq Hz):=⟨rfl,rfl,rfl,by decide +kernel,rfl,by decide +kernel,by decide +kernel⟩
theorem VD:CW ["skyline"] ["skyline"] (Aq GK):=⟨rfl,rfl,rfl,by decide +kernel,rfl,by decide +kernel,by decide +kernel⟩
theorem Gi:CW ["one","other","mine","yours","numbers"] ["one","other"] (Aq Dp):=⟨rfl,rfl,rfl,by decide +kernel,rfl,by decide +kernel,by decide +kernel⟩
theorem X7:CW ["one","other"] ["one","other"] (Aq Gs):=⟨rfl,rfl,rfl,by decide +kernel,rfl,by decide +kernel,by decide +kernel⟩
theorem Xj:CW ["one","other"] ["one","other"] (Aq Hg):=⟨rfl,rfl,rfl,by decide +kernel,rfl,by decide +kernel,by decide +kernel⟩
theorem Mj:CW ["cell","k","number"] ["cell","k"] (Aq Hw):=⟨rfl,rfl,rfl,by decide +kernel,rfl,by decide +kernel,by decide +kernel⟩
theorem Xk:CW ["cell"] ["cell"] (Aq Iw):=⟨rfl,rfl,rfl,by decide +kernel,rfl,by decide +kernel,by decide +kernel⟩
theorem Qx:CW ["well","many","got"] ["well","many"] (Aq Iz):=⟨rfl,rfl,rfl,by decide +kernel,rfl,by decide +kernel,by decide +kernel⟩
theorem X4:CW ["well"] ["well"] (Aq Hv):=⟨rfl,rfl,rfl,by decide +kernel,rfl,by decide +kernel,by decide +kernel⟩
theorem J5:CW ["well","reach","one","other"] ["well","reach"] (Aq Gd):=⟨rfl,rfl,rfl,by decide +kernel,rfl,by decide +kernel,by decide +kernel⟩
theorem Ep:CW ["well","reach","houses","low","high","height","kind","here","beside","within","some"] ["well","reach","houses"] (Aq Hy):=⟨rfl,rfl,rfl,by decide +kernel,rfl,by decide +kernel,by decide +kernel⟩
theorem JL:CW ["well","reach","most","many","found","k"] ["well","reach","most"] (Aq HD):=⟨rfl,rfl,rfl,by decide +kernel,rfl,by decide +kernel,by decide +kernel⟩
theorem Gp:CW ["houses","marks","found","mark","height","house"] ["houses"] (Aq Gg):=⟨rfl,rfl,rfl,by decide +kernel,rfl,by decide +kernel,by decide +kernel⟩
theorem X5:CW ["skyline"] ["skyline"] (Aq Gq):=⟨rfl,rfl,rfl,by decide +kernel,rfl,by decide +kernel,by decide +kernel⟩
theorem Fo:CW ["one","other","found","low","high","height","begin","end","there"] ["one","other"] (Aq Hx):=⟨rfl,rfl,rfl,by decide +kernel,rfl,by decide +kernel,by decide +kernel⟩
theorem Kc:CW ["skyline","found","k"] ["skyline"] (Aq J3):=⟨rfl,rfl,rfl,by decide +kernel,rfl,by decide +kernel,by decide +kernel⟩
theorem Gz:CW ["one","other","handed","higher","lower","turn","told"] ["one","other"] (Aq Hu):=⟨rfl,rfl,rfl,by decide +kernel,rfl,by decide +kernel,by decide +kernel⟩
theorem Jr:CW ["script","cell","well","reach","some","one","others","taller","houses"] ["script"] (Aq KN):=⟨rfl,rfl,rfl,by decide +kernel,rfl,by decide +kernel,by decide +kernel⟩
section
variable{P:Program}{w:World}{K:U0b}{mg:Str->Option Value}{base:Heap}
set_option maxHeartbeats 4000000 in
theorem Xu{f:Addr}{fd:FuncData}(F:Fun K "is_whole" "is_whole" J4 f fd)(B:Blt mg):Cy P w K mg base CX0 1 f fd ["thing"] (spP K Gy 1) :=
 fnP F Xl fun cdv A outer s H E hr =>
  (BR (Ci (Nr (CQ Ol Qi rfl (B.is "isinstance") JQ (Af (Ai 0) (Af (Ve (n:="int") rfl (B.is "int") W3) Aj))) (Px (oJ (CQ Ol Qi rfl (B.is "isinstance") JQ (Af (Ai 0) (Af (Ve (n:="bool") rfl (B.is "bool") ji) Aj))))))))
set_option maxHeartbeats 4000000 in
theorem VN{f:Addr}{fd:FuncData}(F:Fun K "are_wholes" "are_wholes" GP f fd)(B:Blt mg)(c_is_whole:Ck P w K mg base "is_whole" 1 Gy):Cy P w K mg base CX0 2 f fd ["thing","many"] (spP K Fb 2) :=
 fnP F VF fun cdv A outer s H E hr =>
  (BR (Ci (Nr (CQ Ol Qi rfl (B.is "isinstance") JQ (Af (Ai 0) (Af (Ve (n:="tuple") rfl (B.is "tuple") fL) Aj))) (Nr (Js (Ko hr) Kl (CQ Jz Qh rfl (B.is "len") Sy (Af (Ai 0) Aj)) (Ai 1) (DG _)) (Px (CQ (Rv rfl) U9 rfl (B.is "all") W4 (Af (FW rfl (Ed.of (sc:=Aq GP) (N:=["thing","many"]) (N2:=["part"]) (k:=1) (caps:=[]) (by decide +kernel)) rfl (Eo (Ai 0)) ⟨fun _ _ _ _ _=>⟨(Ba (i:=0) (show U1q (["part"]:List Str) by decide +kernel)),GZ,(Bg c_is_whole hr (by omega) rfl (Af (Ai 0) Aj))⟩⟩) Aj)))))))
set_option maxHeartbeats 4000000 in
theorem VJ{f:Addr}{fd:FuncData}(F:Fun K "is_skyline" "is_skyline" Fp f fd)(B:Blt mg)(Bz:mg "zip"=none)(c_are_wholes:Ck P w K mg base "are_wholes" 2 Fb):Cy P w K mg base CX0 3 f fd ["thing"] (spP K FZ 1) :=
 fnP F VB fun cdv A outer s H E hr =>
  (Aw (HY (QX (S8 (Pu (Pr (CQ Ol Qi rfl (B.is "isinstance") JQ (Af (Ai 0) (Af (Ve (n:="list") rfl (B.is "list") Uh) Aj))))) (Pq (Pu (Pr (CQ (Rv rfl) U9 rfl (B.is "all") W4 (Af (FW rfl (Ed.of (sc:=Aq Fp) (N:=["thing"]) (N2:=["part"]) (k:=1) (caps:=[]) (by decide +kernel)) rfl (Eo (Ai 0)) ⟨fun _ _ _ _ _=>⟨(Ba (i:=0) (show U1q (["part"]:List Str) by decide +kernel)),GZ,(Nr (Bg c_are_wholes hr (by omega) rfl (Af (Ai 0) (Af Ak Aj))) (Px (Js Yy Vr (BW BJ Az (Ai 0) Ak (fun _ _=>rfl)) Ak (DG _))))⟩⟩) Aj)))))))
   (BR (Ci QZ))
   FQ)
   (Aw (HY (En (Ko hr) Kl (CQ Jz Qh rfl (B.is "len") Sy (Af (Ai 0) Aj)) Ak (DG _))
   (BR (Ci QZ))
   FQ)
   (Aw (HY (QX (S8 (En (Ko hr) Kl (BW BJ Az (BW BJ Az (Ai 0) Ak (fun _ _=>rfl)) Ak (fun _ _=>rfl)) Ak (DG _)) (Pq (En (MP hr) Ph (BW BJ Az (BW BJ Az (Ai 0) (S9 Pa Nz Ak) (fun _ _=>rfl)) Ak (fun _ _=>rfl)) Ak (DG _)))))
   (BR (Ci QZ))
   FQ)
   (BR (Ci (CQ (Rv rfl) U9 rfl (B.is "all") W4 (Af (FW rfl (Ed.of (sc:=Aq Fp) (N:=["thing"]) (N2:=["before","behind"]) (k:=2) (caps:=[]) (by decide +kernel)) rfl (Vw rfl Bz (Af (Ai 0) (Af (Je MF MJ (Ai 0) (K8 Ak) K9) Aj))) ⟨fun _ _ _ _ _=>⟨(Gx rfl (Bo (Ba (i:=0) (show U1q (["before","behind"]:List Str) by decide +kernel)) (Bo (Ba (i:=1) (show U1q (["before","behind"]:List Str) by decide +kernel)) GC))),GZ,(Nr (Js Vd SM (BW BJ Az (Ai 0) Ak (fun _ _=>rfl)) (BW BJ Az (Ai 1) Ak (fun _ _=>rfl)) (DG _)) (Px (Js (MP hr) Ph (BW BJ Az (Ai 0) Ak (fun _ _=>rfl)) (BW BJ Az (Ai 1) Ak (fun _ _=>rfl)) (DG _))))⟩⟩) Aj)))))))
set_option maxHeartbeats 4000000 in
theorem Ti{f:Addr}{fd:FuncData}(F:Fun K "need_skyline" "need_skyline" GD f fd)(B:Blt mg)(c_is_skyline:Ck P w K mg base "is_skyline" 3 FZ):Cy P w K mg base CX0 4 f fd ["skyline"] (spP K Bu 1) :=
 fnP F Tg fun cdv A outer s H E hr =>
  (BR (HY (Pu (Pr (Bg c_is_skyline hr (by omega) rfl (Af (Ai 0) Aj))))
   (BR eO)
   FQ))
set_option maxHeartbeats 4000000 in
theorem VG{f:Addr}{fd:FuncData}(F:Fun K "tallest_at" "tallest_at" GJ f fd)(B:Blt mg):Cy P w K mg base CX0 1 f fd ["houses","number"] (spP K Eb 2) :=
 fnP F V9 fun cdv A outer s H E hr =>
  (BR (Ci (jT rfl rfl (B.is "max") (FW rfl (Ed.of (sc:=Aq GJ) (N:=["houses","number"]) (N2:=["low","high","height","number"]) (k:=3) (caps:=[1]) (by decide +kernel)) rfl (Eo (Ai 0)) ⟨fun _ _ _ _ _=>⟨(Gx rfl (Bo (Ba (i:=0) (show U1q (["low","high","height","number"]:List Str) by decide +kernel)) (Bo (Ba (i:=1) (show U1q (["low","high","height","number"]:List Str) by decide +kernel)) (Bo (Ba (i:=2) (show U1q (["low","high","height","number"]:List Str) by decide +kernel)) GC)))),(Ub (eN fY Zj Vd SM (Ai 0) (Ai 3) (Ai 1))),(Ai 2)⟩⟩))))
set_option maxHeartbeats 4000000 in
theorem Rz{f:Addr}{fd:FuncData}(F:Fun K "changes_alone" "changes_alone" Fx f fd)(B:Blt mg):Cy P w K mg base CX0 1 f fd ["heights"] (spP K DQ 1) :=
 fnP F Fd fun cdv A outer s H E hr =>
  (Aw (CT (i:=1) Fd.nd (O4 Aj BL))
   (Aw (CT (i:=2) Fd.nd Ak)
   (Aw (JF rfl (Eo (Ai 0)) (Gx rfl (Bo (Ba (i:=3) Fd.nd) (Bo (Ba (i:=4) Fd.nd) GC)))
   (Aw (HY (En (MP hr) Ph (Ai 4) (Ai 2) (DG _))
   (BR (JH (KC U24 U2y U2z Ik Ij (Ai 1) (Af (DW (Af (Ai 3) (Af (Ai 4) Aj)) (Al (Al BL))) Aj))))
   FQ)
   (BR (CT (i:=2) Fd.nd (Ai 4)))) U3b)
   (BR (Ci (Ai 1))))))
set_option maxHeartbeats 4000000 in
theorem Qs{f:Addr}{fd:FuncData}(F:Fun K "standing_under" "standing_under" Dy f fd)(B:Blt mg)(Bz:mg "zip"=none):Cy P w K mg base CX0 1 f fd ["skyline"] (spP K Bq 1) :=
 fnP F La fun cdv A outer s H E hr =>
  (Aw (R6 (i:=1) rfl La.nd (Ed.of (sc:=Aq Dy) (N:=["skyline","steps"]) (N2:=["before","behind"]) (k:=2) (caps:=[]) (by decide +kernel)) rfl (Vw rfl Bz (Af (Ai 0) (Af (Je MF MJ (Ai 0) (K8 Ak) K9) Aj))) ⟨fun _ _ _ _ _=>⟨(Gx rfl (Bo (Ba (i:=0) (show U1q (["before","behind"]:List Str) by decide +kernel)) (Bo (Ba (i:=1) (show U1q (["before","behind"]:List Str) by decide +kernel)) GC))),GZ,(DW (Af (BW BJ Az (Ai 0) Ak (fun _ _=>rfl)) (Af (BW BJ Az (Ai 1) Ak (fun _ _=>rfl)) (Af (BW BJ Az (Ai 0) Ak (fun _ _=>rfl)) Aj))) (Al (Al (Al BL))))⟩⟩)
   (BR (Ci (FW rfl (Ed.of (sc:=Aq Dy) (N:=["skyline","steps"]) (N2:=["step"]) (k:=1) (caps:=[]) (by decide +kernel)) rfl (Eo (Ai 1)) ⟨fun _ _ _ _ _=>⟨(Ba (i:=0) (show U1q (["step"]:List Str) by decide +kernel)),(Ub (En QW Nm (BW BJ Az (Ai 0) Ak (fun _ _=>rfl)) Ak (DG _))),(Ai 0)⟩⟩))))
set_option maxHeartbeats 4000000 in
theorem XQ{f:Addr}{fd:FuncData}(F:Fun K "houses_of" "houses_of" Hz f fd)(B:Blt mg)(c_need_skyline:Ck P w K mg base "need_skyline" 4 Bu)(c_standing_under:Ck P w K mg base "standing_under" 1 Bq):Cy P w K mg base CX0 5 f fd ["skyline"] (spP K Ez 1) :=
 fnP F X6 fun cdv A outer s H E hr =>
  (Aw (JH (Bg c_need_skyline hr (by omega) rfl (Af (Ai 0) Aj)))
   (BR (Ci (Bg c_standing_under hr (by omega) rfl (Af (Ai 0) Aj)))))
set_option maxHeartbeats 4000000 in
theorem VL{f:Addr}{fd:FuncData}(F:Fun K "area_under" "area_under" GK f fd)(B:Blt mg)(Bs:mg "sum"=none)(c_houses_of:Ck P w K mg base "houses_of" 5 Ez):Cy P w K mg base CX0 6 f fd ["skyline"] (spP K Ax 1) :=
 fnP F VD fun cdv A outer s H E hr =>
  (BR (Ci (CQ (bN rfl) iH rfl Bs oZ (Af (FW rfl (Ed.of (sc:=Aq GK) (N:=["skyline"]) (N2:=["low","high","height"]) (k:=3) (caps:=[]) (by decide +kernel)) rfl (Eo (Bg c_houses_of hr (by omega) rfl (Af (Ai 0) Aj))) ⟨fun _ _ _ _ _=>⟨(Gx rfl (Bo (Ba (i:=0) (show U1q (["low","high","height"]:List Str) by decide +kernel)) (Bo (Ba (i:=1) (show U1q (["low","high","height"]:List Str) by decide +kernel)) (Bo (Ba (i:=2) (show U1q (["low","high","height"]:List Str) by decide +kernel)) GC)))),GZ,(Bp Hr Ho (Bp Pj Ny (Ai 1) (Ai 0)) (Ai 2))⟩⟩) Aj))))
set_option maxHeartbeats 4000000 in
theorem QV{f:Addr}{fd:FuncData}(F:Fun K "heights_of_both" "heights_of_both" Dp f fd)(B:Blt mg)(c_need_skyline:Ck P w K mg base "need_skyline" 4 Bu)(c_standing_under:Ck P w K mg base "standing_under" 1 Bq)(c_tallest_at:Ck P w K mg base "tallest_at" 1 Eb):Cy P w K mg base CX0 5 f fd ["one","other"] (spP K CK 2) :=
 fnP F Gi fun cdv A outer s H E hr =>
  (Aw (JH (Bg c_need_skyline hr (by omega) rfl (Af (Ai 0) Aj)))
   (Aw (JH (Bg c_need_skyline hr (by omega) rfl (Af (Ai 1) Aj)))
   (Aw (CT (i:=2) Gi.nd (Bg c_standing_under hr (by omega) rfl (Af (Ai 0) Aj)))
   (Aw (CT (i:=3) Gi.nd (Bg c_standing_under hr (by omega) rfl (Af (Ai 1) Aj)))
   (Aw (CT (i:=4) Gi.nd (R7 rfl (FW rfl (Ed.of (sc:=Aq Dp) (N:=["one","other","mine","yours","numbers"]) (N2:=["number","height"]) (k:=2) (caps:=[]) (by decide +kernel)) rfl (Eo (Bp DY DX (Ai 0) (Ai 1))) ⟨fun _ _ _ _ _=>⟨(Gx rfl (Bo (Ba (i:=0) (show U1q (["number","height"]:List Str) by decide +kernel)) (Bo (Ba (i:=1) (show U1q (["number","height"]:List Str) by decide +kernel)) GC))),GZ,(Ai 0)⟩⟩) rfl (B.is "sorted") rfl (B.is "set")))
   (BR (Ci (FW rfl (Ed.of (sc:=Aq Dp) (N:=["one","other","mine","yours","numbers"]) (N2:=["number","mine","yours"]) (k:=1) (caps:=[2,3]) (by decide +kernel)) rfl (Eo (Ai 4)) ⟨fun _ _ _ _ _=>⟨(Ba (i:=0) (show U1q (["number","mine","yours"]:List Str) by decide +kernel)),GZ,(DW (Af (Ai 0) (Af (Bg c_tallest_at hr (by omega) rfl (Af (Ai 1) (Af (Ai 0) Aj))) (Af (Bg c_tallest_at hr (by omega) rfl (Af (Ai 2) (Af (Ai 0) Aj))) Aj))) (Al (Al (Al BL))))⟩⟩))))))))
set_option maxHeartbeats 4000000 in
theorem XR{f:Addr}{fd:FuncData}(F:Fun K "higher_of" "higher_of" Gs f fd)(B:Blt mg)(c_changes_alone:Ck P w K mg base "changes_alone" 1 DQ)(c_heights_of_both:Ck P w K mg base "heights_of_both" 5 CK):Cy P w K mg base CX0 6 f fd ["one","other"] (spP K Dz 2) :=
 fnP F X7 fun cdv A outer s H E hr =>
  (BR (Ci (Bg c_changes_alone hr (by omega) rfl (Af (FW rfl (Ed.of (sc:=Aq Gs) (N:=["one","other"]) (N2:=["number","mine","yours"]) (k:=3) (caps:=[]) (by decide +kernel)) rfl (Eo (Bg c_heights_of_both hr (by omega) rfl (Af (Ai 0) (Af (Ai 1) Aj)))) ⟨fun _ _ _ _ _=>⟨(Gx rfl (Bo (Ba (i:=0) (show U1q (["number","mine","yours"]:List Str) by decide +kernel)) (Bo (Ba (i:=1) (show U1q (["number","mine","yours"]:List Str) by decide +kernel)) (Bo (Ba (i:=2) (show U1q (["number","mine","yours"]:List Str) by decide +kernel)) GC)))),GZ,(DW (Af (Ai 0) (Af (CQ (N7 rfl) Od rfl (B.is "max") Sx (Af (Ai 1) (Af (Ai 2) Aj))) Aj)) (Al (Al BL)))⟩⟩) Aj))))
set_option maxHeartbeats 4000000 in
theorem Xn{f:Addr}{fd:FuncData}(F:Fun K "lower_of" "lower_of" Hg f fd)(B:Blt mg)(c_changes_alone:Ck P w K mg base "changes_alone" 1 DQ)(c_heights_of_both:Ck P w K mg base "heights_of_both" 5 CK):Cy P w K mg base CX0 6 f fd ["one","other"] (spP K Dd 2) :=
 fnP F Xj fun cdv A outer s H E hr =>
  (BR (Ci (Bg c_changes_alone hr (by omega) rfl (Af (FW rfl (Ed.of (sc:=Aq Hg) (N:=["one","other"]) (N2:=["number","mine","yours"]) (k:=3) (caps:=[]) (by decide +kernel)) rfl (Eo (Bg c_heights_of_both hr (by omega) rfl (Af (Ai 0) (Af (Ai 1) Aj)))) ⟨fun _ _ _ _ _=>⟨(Gx rfl (Bo (Ba (i:=0) (show U1q (["number","mine","yours"]:List Str) by decide +kernel)) (Bo (Ba (i:=1) (show U1q (["number","mine","yours"]:List Str) by decide +kernel)) (Bo (Ba (i:=2) (show U1q (["number","mine","yours"]:List Str) by decide +kernel)) GC)))),GZ,(DW (Af (Ai 0) (Af (CQ (Io rfl) Jd rfl (B.is "min") Mg (Af (Ai 1) (Af (Ai 2) Aj))) Aj)) (Al (Al BL)))⟩⟩) Aj))))
set_option maxHeartbeats 4000000 in
theorem XF{f:Addr}{fd:FuncData}(F:Fun K "_law_mixed" "_law_mixed" Hw f fd)(B:Blt mg):Cy P w K mg base CX0 1 f fd ["cell","k"] (spP K Gb 2) :=
 fnP F Mj fun cdv A outer s H E hr =>
  (Aw (CT (i:=2) Mj.nd (Bp Nq Lp (Bp DY DX (Bp DY DX (Bp Nq Lp (Ai 0) Ak) (Bp Hr Ho (Bp Hr Ho Ak (Ai 1)) (Ai 1))) (Bp Hr Ho Ak (Ai 1))) Ak))
   (Aw (CT (i:=2) Mj.nd (Bp Nq Lp (Bp Hr Ho (Ai 2) (Ai 2)) Ak))
   (BR (Ci (Bp WW YH (Bp Nq Lp (Bp Hr Ho (Ai 2) (Bp DY DX (Ai 2) Ak)) Ak) Ak)))))
set_option maxHeartbeats 4000000 in
theorem Xo{f:Addr}{fd:FuncData}(F:Fun K "_law_well" "_law_well" Iw f fd)(B:Blt mg):Cy P w K mg base CX0 1 f fd ["cell"] (spP K Fj 1) :=
 fnP F Xk fun cdv A outer s H E hr =>
  (BR (Ci (Dt (Af (Bp Hr Ho (Ai 0) (Uw V2 YG rfl (B.is "int") W3 (Af (Js Yy Vr (Ai 0) (Bp MN K5 Ak Ak) (DG _)) Aj))) (Af (Ai 0) (Af Ak Aj))) (Al (Al (Al BL))))))
set_option maxHeartbeats 4000000 in
theorem Xq{f:Addr}{fd:FuncData}(F:Fun K "_law_draw" "_law_draw" Iz f fd)(B:Blt mg)(c_law_mixed:Ck P w K mg base "_law_mixed" 1 Gb):Cy P w K mg base CX0 2 f fd ["well","many"] (spM K Am 2) :=
 fnM F Qx fun cdv A outer s H E hr =>
  (Aw (HY (En QW Nm (BW BJ Az (Ai 0) Ak (fun _ _=>rfl)) Ak (DG _))
   (Aw (CT (i:=2) Qx.nd (Bp Nq Lp (BW BJ Az (Ai 0) Ak (fun _ _=>rfl)) (Ai 1)))
   (Aw (Wh (Bp WW YH (BW BJ Az (Ai 0) Ak (fun _ _=>rfl)) (Ai 1)) (Ai 0) Ak)
   (BR (Ci (Ai 2)))))
   FQ)
   (Aw (Wh (Bp DY DX (BW BJ Az (Ai 0) Ak (fun _ _=>rfl)) Ak) (Ai 0) Ak)
   (BR (Ci (Bp Nq Lp (Bp Hr Ho (Bg c_law_mixed hr (by omega) rfl (Af (BW BJ Az (Ai 0) Ak (fun _ _=>rfl)) (Af (BW BJ Az (Ai 0) Ak (fun _ _=>rfl)) Aj))) (BW BJ Az (Dt (Af Ak (Af Ak Aj)) (Al (Al BL))) (Uw V2 YG rfl (B.is "int") W3 (Af (Js QW Nm (Ai 1) (Bp MN K5 Ak Ak) (DG _)) Aj)) (fun _ _=>rfl))) (Ai 1))))))
set_option maxHeartbeats 4000000 in
theorem XD{f:Addr}{fd:FuncData}(F:Fun K "_law_reach" "_law_reach" Hv f fd)(B:Blt mg)(c_law_draw:Jb P w K mg base "_law_draw" 2 Am):Cy P w K mg base CX0 3 f fd ["well"] (spM K Eu 1) :=
 fnM F X4 fun cdv A outer s H E hr =>
  (BR (Ci (BW BJ Az (Dt (Af (DW (Af Ak (Af Ak Aj)) (Al (Al BL))) (Af (DW (Af (S9 Pa Nz Ak) (Af Ak Aj)) (Al (Al BL))) (Af (DW (Af Ak (Af Ak Aj)) (Al (Al BL))) (Af (DW (Af (S9 Pa Nz Ak) (Af Ak Aj)) (Al (Al BL))) (Af (DW (Af (S9 Pa Nz (Bp MN K5 Ak Ak)) (Af (Bp Hr Ho Ak (Bp MN K5 Ak Ak)) Aj)) (Al (Al BL))) Aj))))) (Al (Al (Al (Al (Al BL)))))) (Dc c_law_draw hr (by omega) rfl (Af (Ai 0) (Af Ak Aj))) (fun _ _=>rfl))))
set_option maxHeartbeats 4000000 in
theorem Uj{f:Addr}{fd:FuncData}(F:Fun K "_law_stretch" "_law_stretch" Gd f fd)(B:Blt mg)(c_law_draw:Jb P w K mg base "_law_draw" 2 Am):Cy P w K mg base CX0 3 f fd ["well","reach"] (spM K Eh 2) :=
 fnM F J5 fun cdv A outer s H E hr =>
  (Aw (CT (i:=2) J5.nd (Bp DY DX (BW BJ Az (Ai 1) Ak (fun _ _=>rfl)) (Dc c_law_draw hr (by omega) rfl (Af (Ai 0) (Af (BW BJ Az (Ai 1) Ak (fun _ _=>rfl)) Aj)))))
   (Aw (CT (i:=3) J5.nd (Bp DY DX (BW BJ Az (Ai 1) Ak (fun _ _=>rfl)) (Dc c_law_draw hr (by omega) rfl (Af (Ai 0) (Af (BW BJ Az (Ai 1) Ak (fun _ _=>rfl)) Aj)))))
   (Aw (HY (En (Ko hr) Kl (Ai 2) (Ai 3) (DG _))
   (BR (CT (i:=3) J5.nd (Bp DY DX (Ai 2) Ak)))
   FQ)
   (BR (Ci (DW (Af (CQ (Io rfl) Jd rfl (B.is "min") Mg (Af (Ai 2) (Af (Ai 3) Aj))) (Af (CQ (N7 rfl) Od rfl (B.is "max") Sx (Af (Ai 2) (Af (Ai 3) Aj))) Aj)) (Al (Al BL))))))))
set_option maxHeartbeats 4000000 in
theorem XJ{f:Addr}{fd:FuncData}(F:Fun K "_law_house" "_law_house" Hy f fd)(B:Blt mg)(c_law_stretch:Jb P w K mg base "_law_stretch" 3 Eh)(c_law_draw:Jb P w K mg base "_law_draw" 2 Am):Cy P w K mg base CX0 4 f fd ["well","reach","houses"] (spM K Ey 3) :=
 fnM F Ep fun cdv A outer s H E hr =>
  (Aw (oH (Dc c_law_stretch hr (by omega) rfl (Af (Ai 0) (Af (Ai 1) Aj))) (Gx rfl (Bo (Ba (i:=3) Ep.nd) (Bo (Ba (i:=4) Ep.nd) GC))))
   (Aw (CT (i:=5) Ep.nd (Bp DY DX Ak (BW BJ Az (Dt (Af (Dc c_law_draw hr (by omega) rfl (Af (Ai 0) (Af Ak Aj))) (Af (Dc c_law_draw hr (by omega) rfl (Af (Ai 0) (Af Ak Aj))) (Af (Dc c_law_draw hr (by omega) rfl (Af (Ai 0) (Af (Bp MN K5 Ak Ak) Aj))) Aj))) (Al (Al (Al BL)))) (Dc c_law_draw hr (by omega) rfl (Af (Ai 0) (Af Ak Aj))) (fun _ _=>rfl))))
   (Aw (CT (i:=6) Ep.nd (Dc c_law_draw hr (by omega) rfl (Af (Ai 0) (Af Ak Aj))))
   (Aw (HY (QX (S8 (En (Ko hr) Kl (Ai 2) (Dt Aj BL) (DG _)) (Pq (En QW Nm (Ai 6) Ak (DG _)))))
   (BR (Ci (DW (Af (Ai 3) (Af (Ai 4) (Af (Ai 5) Aj))) (Al (Al (Al BL))))))
   FQ)
   (Aw (CT (i:=7) Ep.nd (BW BJ Az (Ai 2) (Dc c_law_draw hr (by omega) rfl (Af (Ai 0) (Af (CQ Jz Qh rfl (B.is "len") Sy (Af (Ai 2) Aj)) Aj))) (fun _ _=>rfl)))
   (Aw (CT (i:=8) Ep.nd (CQ (Io rfl) Jd rfl (B.is "min") Mg (Af (Bp MN K5 Ak Ak) (Af (Bp DY DX (Bp DY DX (BW BJ Az (Ai 7) Ak (fun _ _=>rfl)) Ak) (Dc c_law_draw hr (by omega) rfl (Af (Ai 0) (Af Ak Aj)))) Aj))))
   (Aw (CT (i:=9) Ep.nd (Bp DY DX (Bp DY DX (BW BJ Az (Ai 7) Ak (fun _ _=>rfl)) Ak) (Dc c_law_draw hr (by omega) rfl (Af (Ai 0) (Af (Bp Pj Ny (BW BJ Az (Ai 7) Ak (fun _ _=>rfl)) (BW BJ Az (Ai 7) Ak (fun _ _=>rfl))) Aj)))))
   (Aw (CT (i:=10) Ep.nd (O4 (Af (Ai 7) (Af (DW (Af (BW BJ Az (Ai 7) Ak (fun _ _=>rfl)) (Af (BW BJ Az (Ai 7) Ak (fun _ _=>rfl)) (Af (Ai 5) Aj))) (Al (Al (Al BL)))) (Af (DW (Af (Ai 3) (Af (Ai 4) (Af (BW BJ Az (Ai 7) Ak (fun _ _=>rfl)) Aj))) (Al (Al (Al BL)))) (Af (DW (Af (BW BJ Az (Ai 7) Ak (fun _ _=>rfl)) (Af (Ai 8) (Af (Ai 5) Aj))) (Al (Al (Al BL)))) Aj)))) (Al (Al (Al (Al BL))))))
   (Aw (JH (KC U24 U2y U2z Ik Ij (Ai 10) (Af (DW (Af (BW BJ Az (Ai 7) Ak (fun _ _=>rfl)) (Af (Ai 9) (Af (Ai 5) Aj))) (Al (Al (Al BL)))) Aj)))
   (Aw (HY (En Yy Vr (BW BJ Az (BW BJ Az (Ai 10) (Ai 6) (fun _ _=>rfl)) Ak (fun _ _=>rfl)) (BW BJ Az (BW BJ Az (Ai 10) (Ai 6) (fun _ _=>rfl)) Ak (fun _ _=>rfl)) (DG _))
   (BR (Ci (Ai 7)))
   FQ)
   (BR (Ci (BW BJ Az (Ai 10) (Ai 6) (fun _ _=>rfl))))))))))))))
set_option maxHeartbeats 4000000 in
theorem VH{f:Addr}{fd:FuncData}(F:Fun K "_law_houses" "_law_houses" HD f fd)(B:Blt mg)(c_law_draw:Jb P w K mg base "_law_draw" 2 Am)(c_law_house:Jb P w K mg base "_law_house" 4 Ey):Cy P w K mg base CX0 5 f fd ["well","reach","most"] (spM K Dg 3) :=
 fnM F JL fun cdv A outer s H E hr =>
  (Aw (CT (i:=3) JL.nd (BW BJ Az (Dt (Af (Dc c_law_draw hr (by omega) rfl (Af (Ai 0) (Af Ak Aj))) (Af (Dc c_law_draw hr (by omega) rfl (Af (Ai 0) (Af (Bp DY DX (Ai 2) Ak) Aj))) (Af (Ai 2) Aj))) (Al (Al (Al BL)))) (Dc c_law_draw hr (by omega) rfl (Af (Ai 0) (Af Ak Aj))) (fun _ _=>rfl)))
   (Aw (CT (i:=4) JL.nd (O4 Aj BL))
   (Aw (JF rfl (Uv rfl (B.is "range") (Af (Ai 3) Aj)) (Ba (i:=5) JL.nd)
   (BR (JH (KC U24 U2y U2z Ik Ij (Ai 4) (Af (Dc c_law_house hr (by omega) rfl (Af (Ai 0) (Af (Ai 1) (Af (Ai 4) Aj)))) Aj)))) U3b)
   (BR (Ci (Ai 4))))))
set_option maxHeartbeats 4000000 in
theorem Xp{f:Addr}{fd:FuncData}(F:Fun K "_law_line" "_law_line" Gg f fd)(B:Blt mg):Cy P w K mg base CX0 1 f fd ["houses"] (spP K Bw 1) :=
 fnP F Gp fun cdv A outer s H E hr =>
  (Aw (CT (i:=1) Gp.nd (R7 rfl (Bp DY DX (FW rfl (Ed.of (sc:=Aq Gg) (N:=["houses","marks","found","mark","height","house"]) (N2:=["house"]) (k:=1) (caps:=[]) (by decide +kernel)) rfl (Eo (Ai 0)) ⟨fun _ _ _ _ _=>⟨(Ba (i:=0) (show U1q (["house"]:List Str) by decide +kernel)),GZ,(BW BJ Az (Ai 0) Ak (fun _ _=>rfl))⟩⟩) (FW rfl (Ed.of (sc:=Aq Gg) (N:=["houses","marks","found","mark","height","house"]) (N2:=["house"]) (k:=1) (caps:=[]) (by decide +kernel)) rfl (Eo (Ai 0)) ⟨fun _ _ _ _ _=>⟨(Ba (i:=0) (show U1q (["house"]:List Str) by decide +kernel)),GZ,(BW BJ Az (Ai 0) Ak (fun _ _=>rfl))⟩⟩)) rfl (B.is "sorted") rfl (B.is "set")))
   (Aw (CT (i:=2) Gp.nd (O4 Aj BL))
   (Aw (JF rfl (Eo (Ai 1)) (Ba (i:=3) Gp.nd)
   (Aw (CT (i:=4) Gp.nd Ak)
   (Aw (JF rfl (Eo (Ai 0)) (Ba (i:=5) Gp.nd)
   (BR (HY (QX (Zw (En fY Zj (BW BJ Az (Ai 5) Ak (fun _ _=>rfl)) (Ai 3) (DG _)) (Zw (En Vd SM (Ai 3) (BW BJ Az (Ai 5) Ak (fun _ _=>rfl)) (DG _)) (jR (En QW Nm (BW BJ Az (Ai 5) Ak (fun _ _=>rfl)) (Ai 4) (DG _))))))
   (BR (CT (i:=4) Gp.nd (BW BJ Az (Ai 5) Ak (fun _ _=>rfl))))
   FQ)) U3b)
   (BR (HY (En (MP hr) Ph (Ai 4) (BW BJ Az (BW BJ Az (Bp DY DX (Dt (Af (DW (Af Ak (Af Ak Aj)) (Al (Al BL))) Aj) (Al BL)) (Ai 2)) (S9 Pa Nz Ak) (fun _ _=>rfl)) Ak (fun _ _=>rfl)) (DG _))
   (BR (JH (KC U24 U2y U2z Ik Ij (Ai 2) (Af (DW (Af (Ai 3) (Af (Ai 4) Aj)) (Al (Al BL))) Aj))))
   FQ)))) U3b)
   (BR (Ci (Ai 2))))))
set_option maxHeartbeats 4000000 in
theorem XM{f:Addr}{fd:FuncData}(F:Fun K "_law_cells" "_law_cells" Gq f fd)(B:Blt mg)(Bz:mg "zip"=none):Cy P w K mg base CX0 1 f fd ["skyline"] (spP K Bj 1) :=
 fnP F X5 fun cdv A outer s H E hr =>
  (BR (Ci (FW rfl (Ed.of (sc:=Aq Gq) (N:=["skyline"]) (N2:=["one","other"]) (k:=2) (caps:=[]) (by decide +kernel)) rfl (Vw rfl Bz (Af (Ai 0) (Af (Je MF MJ (Ai 0) (K8 Ak) K9) Aj))) ⟨fun _ _ _ _ _=>⟨(Gx rfl (Bo (Ba (i:=0) (show U1q (["one","other"]:List Str) by decide +kernel)) (Bo (Ba (i:=1) (show U1q (["one","other"]:List Str) by decide +kernel)) GC))),(Ub (En QW Nm (BW BJ Az (Ai 0) Ak (fun _ _=>rfl)) Ak (DG _))),(DW (Af (BW BJ Az (Ai 0) Ak (fun _ _=>rfl)) (Af (BW BJ Az (Ai 1) Ak (fun _ _=>rfl)) (Af (BW BJ Az (Ai 0) Ak (fun _ _=>rfl)) Aj))) (Al (Al (Al BL))))⟩⟩)))
set_option maxHeartbeats 4000000 in
theorem XH{f:Addr}{fd:FuncData}(F:Fun K "_law_lower" "_law_lower" Hx f fd)(B:Blt mg)(c_law_cells:Ck P w K mg base "_law_cells" 1 Bj)(c_law_line:Ck P w K mg base "_law_line" 1 Bw):Cy P w K mg base CX0 2 f fd ["one","other"] (spP K Ew 2) :=
 fnP F Fo fun cdv A outer s H E hr =>
  (Aw (CT (i:=2) Fo.nd (O4 Aj BL))
   (Aw (JF rfl (Eo (Bg c_law_cells hr (by omega) rfl (Af (Ai 0) Aj))) (Gx rfl (Bo (Ba (i:=3) Fo.nd) (Bo (Ba (i:=4) Fo.nd) (Bo (Ba (i:=5) Fo.nd) GC))))
   (BR (JF rfl (Eo (Bg c_law_cells hr (by omega) rfl (Af (Ai 1) Aj))) (Gx rfl (Bo (Ba (i:=6) Fo.nd) (Bo (Ba (i:=7) Fo.nd) (Bo (Ba (i:=8) Fo.nd) GC))))
   (BR (HY (En Vd SM (CQ (N7 rfl) Od rfl (B.is "max") Sx (Af (Ai 3) (Af (Ai 6) Aj))) (CQ (Io rfl) Jd rfl (B.is "min") Mg (Af (Ai 4) (Af (Ai 7) Aj))) (DG _))
   (BR (JH (KC U24 U2y U2z Ik Ij (Ai 2) (Af (DW (Af (CQ (N7 rfl) Od rfl (B.is "max") Sx (Af (Ai 3) (Af (Ai 6) Aj))) (Af (CQ (Io rfl) Jd rfl (B.is "min") Mg (Af (Ai 4) (Af (Ai 7) Aj))) (Af (CQ (Io rfl) Jd rfl (B.is "min") Mg (Af (Ai 5) (Af (Ai 8) Aj))) Aj))) (Al (Al (Al BL)))) Aj))))
   FQ)) U3b)) U3b)
   (BR (Ci (Bg c_law_line hr (by omega) rfl (Af (Ai 2) Aj))))))
set_option maxHeartbeats 4000000 in
theorem Xr{f:Addr}{fd:FuncData}(F:Fun K "_law_area" "_law_area" J3 f fd)(B:Blt mg):Cy P w K mg base CX0 1 f fd ["skyline"] (spP K Df 1) :=
 fnP F Kc fun cdv A outer s H E hr =>
  (Aw (CT (i:=1) Kc.nd Ak)
   (Aw (JF rfl (au rfl (B.is "range") (Af Ak (Af (CQ Jz Qh rfl (B.is "len") Sy (Af (Ai 0) Aj)) Aj))) (Ba (i:=2) Kc.nd)
   (BR (CT (i:=1) Kc.nd (Bp DY DX (Ai 1) (Bp Hr Ho (Bp Pj Ny (BW BJ Az (BW BJ Az (Ai 0) (Ai 2) (fun _ _=>rfl)) Ak (fun _ _=>rfl)) (BW BJ Az (BW BJ Az (Ai 0) (Bp Pj Ny (Ai 2) Ak) (fun _ _=>rfl)) Ak (fun _ _=>rfl))) (BW BJ Az (BW BJ Az (Ai 0) (Bp Pj Ny (Ai 2) Ak) (fun _ _=>rfl)) Ak (fun _ _=>rfl)))))) U3b)
   (BR (Ci (Ai 1)))))
set_option maxHeartbeats 4000000 in
theorem XC{f:Addr}{fd:FuncData}(F:Fun K "_law_right" "_law_right" Hu f fd)(B:Blt mg)(c_law_line:Ck P w K mg base "_law_line" 1 Bw)(c_law_cells:Ck P w K mg base "_law_cells" 1 Bj)(c_law_lower:Ck P w K mg base "_law_lower" 2 Ew)(c_lower_of:Ck P w K mg base "lower_of" 6 Dd)(c_higher_of:Ck P w K mg base "higher_of" 6 Dz)(c_area_under:Ck P w K mg base "area_under" 6 Ax)(c_law_area:Ck P w K mg base "_law_area" 1 Df):Cy P w K mg base CX0 7 f fd ["one","other"] (spP K Ej 2) :=
 fnP F Gz fun cdv A outer s H E hr =>
  (Aw (CT (i:=2) Gz.nd (Dt (Af (Yb QT WK rfl (B.is "list") Uh (Af (Ai 0) Aj)) (Af (Yb QT WK rfl (B.is "list") Uh (Af (Ai 1) Aj)) Aj)) (Al (Al BL))))
   (Aw (CT (i:=3) Gz.nd (Bg c_law_line hr (by omega) rfl (Af (Bp DY DX (Bg c_law_cells hr (by omega) rfl (Af (Ai 0) Aj)) (Bg c_law_cells hr (by omega) rfl (Af (Ai 1) Aj))) Aj)))
   (Aw (CT (i:=4) Gz.nd (Bg c_law_lower hr (by omega) rfl (Af (Ai 0) (Af (Ai 1) Aj))))
   (Aw (JF rfl (Uv rfl (B.is "range") (Af Ak Aj)) (Ba (i:=5) Gz.nd)
   (Aw (CT (i:=6) Gz.nd (Dt (Af (Rk c_higher_of hr (by omega) rfl (Af (BW BJ Az (Ai 2) Ak (fun _ _=>rfl)) (Af (BW BJ Az (Ai 2) Ak (fun _ _=>rfl)) Aj))) (Af (Rk c_lower_of hr (by omega) rfl (Af (BW BJ Az (Ai 2) Ak (fun _ _=>rfl)) (Af (BW BJ Az (Ai 2) Ak (fun _ _=>rfl)) Aj))) Aj)) (Al (Al BL))))
   (Aw (HY (QX (S8 (En (MP hr) YF (CQ (Lj hr) Oc rfl (B.is "repr") Qp (Af (Ai 6) Aj)) (CQ (Lj hr) Oc rfl (B.is "repr") Qp (Af (Dt (Af (Ai 3) (Af (Ai 4) Aj)) (Al (Al BL))) Aj)) (DG _)) (Pq (En (MP hr) Ph (Ai 2) (Dt (Af (Ai 0) (Af (Ai 1) Aj)) (Al (Al BL))) (DG _)))))
   (BR (Ci QZ))
   FQ)
   (Aw (JH (KC U24 U2y U2z Ik Ij (BW BJ Az (Ai 6) Ak (fun _ _=>rfl)) (Af Ak Aj)))
   (Aw (JH (KC U24 U2y U2z Ik Ij (BW BJ Az (Ai 6) Ak (fun _ _=>rfl)) (Af Ak Aj)))
   (BR (HY (En (MP hr) YF (CQ (Lj hr) Oc rfl (B.is "repr") Qp (Af (Bg c_area_under hr (by omega) rfl (Af (BW BJ Az (Ai 2) (Ai 5) (fun _ _=>rfl)) Aj)) Aj)) (CQ (Lj hr) Oc rfl (B.is "repr") Qp (Af (Bg c_law_area hr (by omega) rfl (Af (BW BJ Az (Dt (Af (Ai 0) (Af (Ai 1) Aj)) (Al (Al BL))) (Ai 5) (fun _ _=>rfl)) Aj)) Aj)) (DG _))
   (BR (Ci QZ))
   FQ)))))) U3b)
   (BR (Ci (Js (Ko hr) Kl (Bp DY DX (Bg c_area_under hr (by omega) rfl (Af (Ai 3) Aj)) (Bg c_area_under hr (by omega) rfl (Af (Ai 4) Aj))) (Bp DY DX (Bg c_area_under hr (by omega) rfl (Af (Ai 0) Aj)) (Bg c_area_under hr (by omega) rfl (Af (Ai 1) Aj))) (DG _))))))))
set_option maxHeartbeats 4000000 in
theorem nU{f:Addr}{fd:FuncData}(F:Fun K "law" "law" KN f fd)(B:Blt mg)(c_law_well:Ck P w K mg base "_law_well" 1 Fj)(c_law_reach:Jb P w K mg base "_law_reach" 3 Eu)(c_law_houses:Jb P w K mg base "_law_houses" 5 Dg)(c_law_draw:Jb P w K mg base "_law_draw" 2 Am)(c_law_line:Ck P w K mg base "_law_line" 1 Bw)(c_law_right:Ck P w K mg base "_law_right" 7 Ej)(c_lower_of:Ck P w K mg base "lower_of" 6 Dd)(c_area_under:Ck P w K mg base "area_under" 6 Ax):Cy P w K mg base CX0 8 f fd ["script"] (spP K U8 1) :=
 fnP F Jr fun cdv A outer s H E hr =>
  (Aw (JF rfl (Eo (Bp DY DX (Dt (Af Ak Aj) (Al BL)) (Je MF MJ (Ai 0) K9 (K8 Ak)))) (Ba (i:=1) Jr.nd)
   (Aw (CT (i:=2) Jr.nd (Rk c_law_well hr (by omega) rfl (Af (Ai 1) Aj)))
   (Aw (CT (i:=3) Jr.nd (Dc c_law_reach hr (by omega) rfl (Af (Ai 2) Aj)))
   (Aw (CT (i:=4) Jr.nd (Dc c_law_houses hr (by omega) rfl (Af (Ai 2) (Af (Ai 3) (Af (BW BJ Az (Dt (Af Ak (Af Ak Aj)) (Al (Al BL))) (Dc c_law_draw hr (by omega) rfl (Af (Ai 2) (Af Ak Aj))) (fun _ _=>rfl)) Aj)))))
   (Aw (CT (i:=5) Jr.nd (Bg c_law_line hr (by omega) rfl (Af (Ai 4) Aj)))
   (Aw (CT (i:=6) Jr.nd (Dc c_law_houses hr (by omega) rfl (Af (Ai 2) (Af (Ai 3) (Af Ak Aj)))))
   (Aw (R6 (i:=7) rfl Jr.nd (Ed.of (sc:=Aq KN) (N:=["script","cell","well","reach","some","one","others","taller","houses"]) (N2:=["low","high","height"]) (k:=3) (caps:=[]) (by decide +kernel)) rfl (Eo (Ai 4)) ⟨fun _ _ _ _ _=>⟨(Gx rfl (Bo (Ba (i:=0) (show U1q (["low","high","height"]:List Str) by decide +kernel)) (Bo (Ba (i:=1) (show U1q (["low","high","height"]:List Str) by decide +kernel)) (Bo (Ba (i:=2) (show U1q (["low","high","height"]:List Str) by decide +kernel)) GC)))),GZ,(DW (Af (Ai 0) (Af (Ai 1) (Af (CQ (Io rfl) Jd rfl (B.is "min") Mg (Af (Bp MN K5 Ak Ak) (Af (Bp DY DX (Ai 2) Ak) Aj))) Aj))) (Al (Al (Al BL))))⟩⟩)
   (BR (JF rfl (Eo (Dt (Af (Ai 6) (Af (Je MF MJ (Ai 4) (K8 Ak) K9) (Af (Bp DY DX (Je MF MJ (Ai 4) K9 (K8 Ak)) (Je MF MJ (Ai 6) K9 (K8 Ak))) (Af (Dt Aj BL) (Af (Ai 7) Aj))))) (Al (Al (Al (Al (Al BL))))))) (Ba (i:=8) Jr.nd)
   (BR (HY (QX (S8 (Pu (Pr (Bg c_law_right hr (by omega) rfl (Af (Ai 5) (Af (Bg c_law_line hr (by omega) rfl (Af (Ai 8) Aj)) Aj))))) (Pq (Pu (Pr (Bg c_law_right hr (by omega) rfl (Af (Bg c_law_line hr (by omega) rfl (Af (Ai 8) Aj)) (Af (Ai 5) Aj))))))))
   (BR (Ci QZ))
   FQ)) U3b)))))))) U3b)
   (BR (Ci (Nr (Js (Ko hr) Kl (Bg c_lower_of hr (by omega) rfl (Af (Dt (Af (DW (Af Ak (Af Ak Aj)) (Al (Al BL))) (Af (DW (Af Ak (Af Ak Aj)) (Al (Al BL))) Aj)) (Al (Al BL))) (Af (Dt (Af (DW (Af Ak (Af Ak Aj)) (Al (Al BL))) (Af (DW (Af Ak (Af Ak Aj)) (Al (Al BL))) Aj)) (Al (Al BL))) Aj))) (Dt (Af (DW (Af Ak (Af Ak Aj)) (Al (Al BL))) (Af (DW (Af Ak (Af Ak Aj)) (Al (Al BL))) Aj)) (Al (Al BL))) (DG _)) (Px (Js (Ko hr) Kl (Bg c_area_under hr (by omega) rfl (Af (Dt Aj BL) Aj)) Ak (DG _)))))))
end
end W30
end
section
namespace W30
open PySem L2 VS
theorem XS(i:Int):Gy [.int i]=some (.bl true):=by
 simp[Gy,TQ,Cm,Cq,IW,Cz,Av,Ec,Ly,je,Dn,den,-U0i,-U0l]
theorem Ze{α:Type}(l:List α):JX.boolsOf (l.map fun _=>D.bl true)=some (l.map fun _=>true):=by
 have:=Xz (l.map fun _=>true)
 rw[U0i] at this
 exact this
theorem Bm{sem:Ef}{a:Bl}{env:VS.Env}{S S':Store}{ds es:List D}{r:D}(h:a env S=some (ds,S'))(hp:Bh ds=true)(ha:Cr ds=es)(hr:sem es=some r):Ao sem a env S=some (r,S'):=by
 rw[Ks,h]
 simp only[U0a,CN 0 S' hp,ha,hr,hp,Bool.true_or,if_true]
end W30
end
section
namespace W30
open PySem L2 VS
theorem dZ(c k:Int)(h0:0<=k)(h1:k<1000000000000):∃v,Gb [.int c,.int k]=some (.int v):=by
 have hk:-18446744073709551616<k/\k<18446744073709551616:=by omega
 have ha:∀t:Int,-18446744073709551616<t%2147483629/\t%2147483629<18446744073709551616:=fun t=>by omega
 have hb:∀t:Int,-18446744073709551616<t%2147483587/\t%2147483587<18446744073709551616:=fun t=>by omega
 simp[Gb,RD,GX,Cd,Cm,Cq,IW,BZ,oI,J7,Tv,Tt,Br,Gk,oDiv,oMod,VS.listOf,Dn,den,U0t,-U0i,-U0l,hk,ha,hb]
theorem FT(x y z m:Int)(h0:0<m)(h1:m<2^63)(z0:0<=z)(z1:z<100000000000):∃r x' z',Am [x,y,z] [.int m]=some (.int r,[x',y,z'])/\(0<=r/\r<m)/\z<=z'/\z'<=z+1:=by
 have hm:m<18446744073709551616:=by omega
 by_cases h:0<x
 .refine⟨x%m,x/m,z,?_,⟨U7c _ (by omega),U6t _ h0⟩,by omega,by omega⟩
  simp[Am,Li,GX,Cd,Cm,Np,Lq,Q0,Cq,IW,BZ,Cz,Av,Ec,Dm,Cv,Ks,oI,Ie,J7,Tv,Tt,Nb,Br,Gk,oDiv,oMod,Fz,oGt,oIx,OJ,VS.listOf,G9,K6,intsOf,den,U0t,-U0i,-U0l,h,h0,hm]
 .obtain⟨v,hv⟩:=dZ y (z+1) (by omega) (by omega)
  by_cases h6:1000000<m
  .refine⟨v*8191%m,x,z+1,?_,⟨U7c _ (by omega),U6t _ h0⟩,by omega,by omega⟩
   simp[Am,Li,GX,Cd,Cm,Np,Lq,Q0,Cq,IW,BZ,Cz,Av,Ec,Dm,Cv,Ks,oI,Ie,J7,Tv,Tt,Nb,Br,Gk,oDiv,oMod,Fz,oGt,oIx,OJ,VS.listOf,G9,K6,intsOf,den,DK,age,Cr,Bx,Bh,U0t,-U0i,-U0l,h,h0,hm,hv,h6]
  .refine⟨v*1%m,x,z+1,?_,⟨U7c _ (by omega),U6t _ h0⟩,by omega,by omega⟩
   simp[Am,Li,GX,Cd,Cm,Np,Lq,Q0,Cq,IW,BZ,Cz,Av,Ec,Dm,Cv,Ks,oI,Ie,J7,Tv,Tt,Nb,Br,Gk,oDiv,oMod,Fz,oGt,oIx,OJ,VS.listOf,G9,K6,intsOf,den,DK,age,Cr,Bx,Bh,U0t,-U0i,-U0l,h,h0,hm,hv,h6]
theorem gQ(c:Int):∃x,Fj [.int c]=some (.lst true [.int x,.int c,.int 0]):=by
 by_cases h:(1000000000000000000:Int)<=c
 .simp[Fj,Oq,Cm,Cq,IW,BZ,Cz,Av,Ec,Cv,oI,Ie,J7,Nb,Gk,Fz,oGe,OJ,VS.listOf,Dn,den,DK,-U0i,-U0l,h]
 .simp[Fj,Oq,Cm,Cq,IW,BZ,Cz,Av,Ec,Cv,oI,Ie,J7,Nb,Gk,Fz,oGe,OJ,VS.listOf,Dn,den,DK,-U0i,-U0l,h]
end W30
end
section
namespace W30
open PySem L2 VS
theorem RZ{sem:Ef}{a:Bl}{env:VS.Env}{S S':Store}{d d':D}{cs:List D}(h:Ao sem a env S=some (d,S'))(ht:O8 S'.length d=some (d',cs)):Ih sem a env S=some (d',S'++[some cs]):=by
 rw[bK,h,U0a]
 show(O8 S'.length d).bind _=_
 rw[ht];rfl
theorem KH{sem:Kz}{a:Bl}{env:VS.Env}{S S':Store}{i:Nat}{rest es:List D}{ns ms:List Int}{r:D}(h:a env S=some (.ref i::rest,S'))(hi:S'[i]?=some (some (ns.map D.int)))(hp:Bh rest=true)(ha:Cr rest=es)(hr:sem ns es=some (r,ms)):Ay sem a env S=some (r,S'.set i (some (ms.map D.int))):=by
 rw[Q9,h]
 simp only[U0a,hi,Jv,CN 0 _ hp,ha,hr,hp,Bool.true_or,if_true]
theorem bT{sem:Ef}{a:Bl}{env:VS.Env}{S S':Store}{ds es fs:List D}{r:D}(h:a env S=some (ds,S'))(hd:DK 0 S' ds=some es)(ha:Cr es=fs)(hr:sem fs=some r)(hn:newD r=true):Ao sem a env S=some (r,S'):=by
 rw[Ks,h]
 simp only[U0a,hd,ha,hr,hn,U7u,if_true]
theorem YT{g:Store->D->List D->Option (D×Store)}{o:BP}{a:Bl}{env:VS.Env}{S S1 S2 S3:Store}{d r:D}{cs ds:List D}(h:o env S=some (d,S1))(hl:VS.listOf S1 d=some cs)(h2:a env S1=some (ds,S2))(h3:g S2 d ds=some (r,S3)):Hf g o a env S=some (r,S3):=by
 rw[Wr,h,U0a]
 show(if (VS.listOf S1 d).isSome=true then _ else _)=_
 rw[hl]
 show(a env S1).bind _=_
 rw[h2]
 exact h3
theorem Vl(S:Store)(a:Option (List D))(l:List (Option (List D))):(S++a::l)[S.length]?=some a:=by simp
theorem lq(S:Store)(a b:Option (List D))(l:List (Option (List D))):(S++a::b::l)[S.length+1]?=some b:=by
 rw[U1h (by omega)]
 simp
theorem Vj(S:Store)(a c:Option (List D))(l:List (Option (List D))):(S++a::l).set S.length c=S++c::l:=by
 rw[U6c _ _ (by omega)]
 simp
theorem sI(S:Store)(a b c:Option (List D))(l:List (Option (List D))):(S++a::b::l).set (S.length+1) c=S++a::c::l:=by
 rw[U6c _ _ (by omega)]
 simp
end W30
end
section
namespace W30
open PySem L2 VS
theorem Fw{x y z c r x' z':Int}{a:BP}{env:VS.Env}{S:Store}{j:Nat}(h:Am [x,y,z] [.int c]=some (.int r,[x',y,z']))(h0:env[j]?=some (some (.ref 0)))(ha:a env (some [.int x,.int y,.int z]::S)=some (.int c,some [.int x,.int y,.int z]::S)):Ay Am (Ac (Ae j) (Ac a Ah)) env (some [.int x,.int y,.int z]::S)=some (.int r,some [.int x',.int y,.int z']::S):=by
 have v0:Ae j env (some [.int x,.int y,.int z]::S)=some (.ref 0,some [.int x,.int y,.int z]::S):=by rw[Cq,h0];rfl
 exact KH (ns:=[x,y,z]) (rest:=[.int c]) (es:=[.int c]) (i:=0) (S':=some [.int x,.int y,.int z]::S) (by rw[Av,v0,U0a,Av,ha];rfl) rfl (by simp[Bh,Bx]) (by simp[Cr,age]) h
theorem Z9(x y z r0 r1:Int)(h1:0<r1)(h2:r1<=2000000000)(z0:0<=z)(z1:z<10000000000):∃(p:St2)(x' z':Int),Eh [x,y,z] [.tup [.int r0,.int r1]]=some (Ad p,[x',y,z'])/\(r0<=p.1/\p.1<p.2/\p.2<=r0+r1)/\z<=z'/\z'<=z+2:=by
 obtain⟨a,x1,z2,d1,⟨a0,a1⟩,k1,k2⟩:=FT x y z r1 h1 (by omega) z0 (by omega)
 obtain⟨b,x2,z3,d2,⟨b0,b1⟩,k3,k4⟩:=FT x1 y z2 r1 h1 (by omega) (by omega) (by omega)
 have v1:∀(e2 e3:Option D)(S:Store),eOp oIx (Ae 1) (eC (.int 0)) [some (.ref 0),some (.tup [.int r0,.int r1]),e2,e3] S=some (.int r0,S):=fun _ _ _=>rfl
 have v2:∀(e2 e3:Option D)(S:Store),eOp oIx (Ae 1) (eC (.int 1)) [some (.ref 0),some (.tup [.int r0,.int r1]),e2,e3] S=some (.int r1,S):=fun _ _ _=>rfl
 have s1:(Bk 2 (eOp Br (eOp oIx (Ae 1) (eC (.int 0))) (Ay Am (Ac (Ae 0) (Ac (eOp oIx (Ae 1) (eC (.int 1))) Ah))))) [some (.ref 0),some (.tup [.int r0,.int r1]),none,none] [some [.int x,.int y,.int z]]=some (.nx,[some (.ref 0),some (.tup [.int r0,.int r1]),some (.int (r0+a)),none],[some [.int x1,.int y,.int z2]]):=by
  rw[Cd,BZ,v1,U0a,Fw d1 rfl (v2 _ _ _)];rfl
 have s2:(Bk 3 (eOp Br (eOp oIx (Ae 1) (eC (.int 0))) (Ay Am (Ac (Ae 0) (Ac (eOp oIx (Ae 1) (eC (.int 1))) Ah))))) [some (.ref 0),some (.tup [.int r0,.int r1]),some (.int (r0+a)),none] [some [.int x1,.int y,.int z2]]=some (.nx,[some (.ref 0),some (.tup [.int r0,.int r1]),some (.int (r0+a)),some (.int (r0+b))],[some [.int x2,.int y,.int z3]]):=by
  rw[Cd,BZ,v1,U0a,Fw d2 rfl (v2 _ _ _)];rfl
 have ts:Bv (eOp (oEq false) (Ae 2) (Ae 3)) [some (.ref 0),some (.tup [.int r0,.int r1]),some (.int (r0+a)),some (.int (r0+b))] [some [.int x2,.int y,.int z3]]=some (decide (r0+a=r0+b),[some [.int x2,.int y,.int z3]]):=by
  simp[Cq,BZ,Dm,oEq,-U0i,-U0l]
 obtain⟨c,s3,c0,c1,c2⟩:∃c:Int,(sIf (Bv (eOp (oEq false) (Ae 2) (Ae 3))) (Bk 3 (eOp Br (Ae 2) (eC (.int 1)))) G8) [some (.ref 0),some (.tup [.int r0,.int r1]),some (.int (r0+a)),some (.int (r0+b))] [some [.int x2,.int y,.int z3]]=some (.nx,[some (.ref 0),some (.tup [.int r0,.int r1]),some (.int (r0+a)),some (.int c)],[some [.int x2,.int y,.int z3]])/\c≠r0+a/\r0<=c/\c<=r0+r1:=by
  by_cases h:r0+a=r0+b
  .rw[show decide (r0+a=r0+b)=true from decide_eq_true h] at ts
   exact⟨r0+a+1,by rw[Kp ts];rfl,by omega,by omega,by omega⟩
  .rw[show decide (r0+a=r0+b)=false from decide_eq_false h] at ts
   exact⟨r0+b,by rw[IV ts];rfl,by omega,by omega,by omega⟩
 refine⟨(if c<r0+a then c else r0+a,if c>r0+a then c else r0+a),x2,z3,?_,?_,by omega,by omega⟩
 .unfold Eh
  rw[K6]
  simp only[U0e,U08,U0r,U1n,U1u,U1v,U0t,U05,U18,U1x,if_true]
  unfold Ow
  rw[Bd s1,Bd s2,Bd s3]
  simp[Cm,Cq,Cz,Av,Ec,Ir,Jp,Ft,intsOf,den,DK,-U0i,-U0l,Ad]
 .simp only
  split<;>split<;>omega
end W30
end
section
namespace W30
open PySem L2 VS
theorem dG(x y z:Int)(z0:0<=z)(z1:z<10000000000):∃r0 r1 x' z':Int,Eu [x,y,z] []=some (.tup [.int r0,.int r1],[x',y,z'])/\(-1000000000<=r0/\0<r1/\r0+r1<=1000000000)/\z<=z'/\z'<=z+1:=by
 obtain⟨r,x1,z2,d1,⟨a0,a1⟩,k1,k2⟩:=FT x y z 5 (by decide) (by decide) z0 (by omega)
 obtain⟨r0,r1,f1,h⟩:∃r0 r1:Int,atI [D.tup [.int 0,.int 6],.tup [.int (-3),.int 8],.tup [.int 0,.int 13],.tup [.int (-20),.int 41],.tup [.int (-1000000000),.int 2000000000]] r=some (.tup [.int r0,.int r1])/\(-1000000000<=r0/\0<r1/\r0+r1<=1000000000):=by
  have:r=0∨r=1∨r=2∨r=3∨r=4:=by omega
  rcases this with rfl|rfl|rfl|rfl|rfl
  .exact⟨0,6,rfl,by decide⟩
  .exact⟨-3,8,rfl,by decide⟩
  .exact⟨0,13,rfl,by decide⟩
  .exact⟨-20,41,rfl,by decide⟩
  .exact⟨-1000000000,2000000000,rfl,by decide⟩
 refine⟨r0,r1,x1,z2,?_,h,k1,k2⟩
 have c1:Ay Am (Ac (Ae 0) (Ac (eC (.int 5)) Ah)) [some (.ref 0)] [some [.int x,.int y,.int z]]=some (.int r,[some [.int x1,.int y,.int z2]]):=Fw d1 rfl rfl
 have q0:BK (Ac (Ce (Ac (eC (.int 0)) (Ac (eC (.int 6)) Ah))) (Ac (Ce (Ac (eUn HX (eC (.int 3))) (Ac (eC (.int 8)) Ah))) (Ac (Ce (Ac (eC (.int 0)) (Ac (eC (.int 13)) Ah))) (Ac (Ce (Ac (eUn HX (eC (.int 20))) (Ac (eC (.int 41)) Ah))) (Ac (Ce (Ac (eUn HX (eOp Fz (eC (.int 10)) (eC (.int 9)))) (Ac (eOp Gk (eC (.int 2)) (eOp Fz (eC (.int 10)) (eC (.int 9)))) Ah))) Ah))))) [some (.ref 0)] [some [.int x,.int y,.int z]]=some (.lst true [.tup [.int 0,.int 6],.tup [.int (-3),.int 8],.tup [.int 0,.int 13],.tup [.int (-20),.int 41],.tup [.int (-1000000000),.int 2000000000]],[some [.int x,.int y,.int z]]):=by simp[IW,BZ,oV,Cz,Av,Cv,Ir,oI,J7,Nb,Gk,Fz,HX,VS.listOf,-U0i,-U0l]
 unfold Eu
 rw[K6]
 simp only[U0e,U08,U0r,U1n,U1u,U1v,U0t,U05,U18,U1x,if_true]
 unfold R9
 rw[Cm,BZ,q0,U0a,c1,U0a]
 show((U1z _ (atI [D.tup [.int 0,.int 6],.tup [.int (-3),.int 8],.tup [.int 0,.int 13],.tup [.int (-20),.int 41],.tup [.int (-1000000000),.int 2000000000]] r)).bind _).bind _=_
 rw[f1]
 simp[intsOf,den,DK,-U0i,-U0l]
end W30
end
section
namespace W30
open PySem L2 VS
theorem Ue(ws:List Nat)(w:Nat)(xs:List PyData)(hl:xs.length<=w)(h:∀x∈xs,fit ws x=true):fit (w::ws) (.list xs)=true/\fit (w::ws) (.tuple xs)=true:=by
 have a:xs.all (fit ws)=true:=U3x.mpr h
 simp[fit,hl,a]
theorem UG{S:Store}{d:D}{p:PyData}{ws:List Nat}(h:Cj S d=some p)(hf:fit ws p=true)(hw:ws.length<=50)(hb:bnd ws<=1000000):FN S [d]=some (.str p.shown):=by
 obtain⟨f1,f2,f3⟩:=aA ws p hf
 show(Cj S d).bind _=_
 rw[h,U0a]
 have:(p.showable&&decide (p.depth<=60)&&decide (p.shown.length<=1000000))=true:=by
  rw[U0s,U0s]
  exact⟨⟨f1,decide_eq_true (by omega)⟩,decide_eq_true (by omega)⟩
 rw[if_pos this]
theorem rB{p:St2}(h:-10000000000<=p.1/\p.1<=10000000000/\-10000000000<=p.2/\p.2<=10000000000):fit [2] (pS p)=true:=by
 have lf:∀a:Int,-10000000000<=a->a<=10000000000->fit [] (.int a)=true:=fun a h1 h2=>decide_eq_true (by
  show a.natAbs<10^41
  exact U31 (m:=10000000000) (by omega) (by decide))
 refine(Ue [] 2 [.int p.1,.int p.2] (by simp) fun x hx=>?_).2
 rcases U0q.mp hx with z|z
 .rw[z];exact lf _ h.1 h.2.1
 .rw[U1f.mp z];exact lf _ h.2.2.1 h.2.2.2
def Qd(l:List St2):Prop:=∀p∈l,-10000000000<=p.1/\p.1<=10000000000/\-10000000000<=p.2/\p.2<=10000000000
theorem MK(S:Store)(m:Bool)(l:List St2):Cj S (.lst m (l.map Ad))=some (.list (l.map pS)):=by
 have hp:Bh (l.map Ad)=true:=BX (HF _ fun p _=>Gf p)
 have:Gv (l.map Ad)=some (l.map pS):=by
  induction l with
  |nil=>rfl
  |cons p r ih=>rw[U0r,Gv,RX,ih (BX (HF _ fun p _=>Gf p))];rfl
 rw[Cj,den,CN 0 S hp]
 show toP (.lst m (l.map Ad))=_
 rw[toP,this];rfl
theorem Vu(l:List St2):lev 2 (.list (l.map pS))=true:=by
 show(l.map pS).all (lev 1)=true
 rw[U3x]
 intro x hx
 obtain⟨p,_,rfl⟩:=U1r.mp hx
 exact o7 0 p
theorem Dj(k:List St2):Du (k.map Ad)=true:=HF _ fun p _=>Gf p
theorem M4{env:VS.Env}{S S':Store}{o:BP}{i:Nat}{l:List D}{d:D}{a:BP}(ho:o env S=some (.ref i,S))(hi:S[i]?=some (some l))(ha:a env S=some (d,S))(hl:l.length<1000000)(hS:S.set i (some (l++[d]))=S'):HS (Hf FP o (Ac a Ah)) env S=some (.nx,env,S'):=by
 rw[Lr,YT (d:=.ref i) (cs:=l) (ds:=[d]) (r:=.non) (S1:=S) (S2:=S) (S3:=S') ho (by rw[VS.listOf,hi];rfl) (by rw[Av,ha];rfl) (by
  unfold FP
  simp only[hi]
  rw[if_pos hl,hS])]
 rfl
theorem add_lists{a b:BP}{env:VS.Env}{S:Store}{xs ys:List D}(ha:a env S=some (.lst true xs,S))(hb:b env S=some (.lst true ys,S))(hl:xs.length+ys.length<=1000000):eOp Br a b env S=some (.lst true (xs++ys),S):=by
 rw[BZ,ha,U0a,hb,U0a]
 show(U1z _ (if xs.length+ys.length<=1000000 then some (D.lst true (xs++ys)) else none))=_
 rw[if_pos hl];rfl
end W30
end
section
namespace W30
open PySem L2 VS
abbrev T3:=Int×Int×Int
def Ag(p:T3):D:=.tup [.int p.1,.int p.2.1,.int p.2.2]
theorem Ud(p:T3):CJ (Ag p)=true:=by simp[Ag,CJ,Du]
theorem G7(k:List T3):Du (k.map Ag)=true:=HF _ fun p _=>Ud p
def pT3(p:T3):PyData:=.tuple [.int p.1,.int p.2.1,.int p.2.2]
theorem mH(p:T3):toP (Ag p)=some (pT3 p):=by simp[Ag,toP,Gv,pT3]
theorem iI(S:Store)(m:Bool)(k:List T3):Cj S (.lst m (k.map Ag))=some (.list (k.map pT3)):=by
 have:Gv (k.map Ag)=some (k.map pT3):=by
  induction k with
  |nil=>rfl
  |cons p r ih=>rw[U0r,Gv,mH,ih];rfl
 rw[Cj,den,CN 0 S (BX (G7 k))]
 show toP (.lst m (k.map Ag))=_
 rw[toP,this];rfl
structure Hs(hs:List T3):Prop where
 few:hs.length<=400
 all:∀t∈hs,t.1<t.2.1/\1<=t.2.2/\t.2.2<=1000000000/\-1000000000<=t.1/\t.2.1<=1000000000
theorem UJ(m:Bool)(hs:List T3):Bh [.lst m (hs.map Ag)]=true:=by rw[Bh,Bx,BX (G7 hs),Bh];rfl
theorem T4(m:Bool)(hs:List T3):Cr [.lst m (hs.map Ag)]=[.lst false (hs.map Ag)]:=by rw[Cr,age,El (G7 hs),Cr]
def inH(t:T3)(x:Int):Bool:=decide (t.1<=x)&&decide (x<t.2.1)
def Ei(hs:List T3)(x:Int):List Int:=(hs.filter fun t=>inH t x).map fun t=>t.2.2
def hgt(hs:List T3)(x:Int):Int:=(M5 (Ei hs x)).getD 0
theorem gj{hs:List T3}(h:Hs hs)(x:Int):LC [some (.lst false (hs.map Ag)),some (.int x)] []=some ((Ei hs x).map .int,[]):=by
 have few:=h.few
 have e:Dh (Ae 0) [some (.lst false (hs.map Ag)),some (.int x)] []=some ((hs.map Ag,[]),[]):=rfl
 have ec:Jo 3 [1] [some (.lst false (hs.map Ag)),some (.int x)]=[none,none,none,some (.int x)]:=rfl
 unfold LC DN
 rw[e,ec]
 simp only[U0a]
 rw[Lz (by simp) Ag (fun t=>inH t x) (fun t=>.int t.2.2) hs [] (by simp;omega)]
 .unfold Ei
  rw[U1x,U0i];rfl
 .intro t ht
  refine⟨[some (.int t.1),some (.int t.2.1),some (.int t.2.2),some (.int x)],by simp[Dq,Hi,G5,Et,-U0i,-U0l,Ag],?_,fun _=>rfl⟩
  by_cases g:t.1<=x<;>simp[Cq,bL,Dm,oI,Ie,oLt,oLe,-U0i,-U0l,inH,g]
theorem Y9{hs:List T3}(h:Hs hs)(x:Int):Eb [.lst false (hs.map Ag),.int x]=some (.int (hgt hs x)):=by
 have c:=gj h x
 unfold Eb
 rw[Dn]
 simp only[U0e,U08,U0r,U1n,U1u,U1v,U05,U1k,if_true]
 unfold QH
 rw[Cm,fC,Cv,c]
 show(((intsOf ((Ei hs x).map D.int)).map _).bind _).bind _=_
 rw[Jv]
 simp[den,hgt]
theorem YK(m:Bool)(hs:List T3)(x:Int):Bh [.lst m (hs.map Ag),.int x]=true:=by simp[Bh,Bx,BX (G7 hs)]
theorem aD(m:Bool)(hs:List T3)(x:Int):Cr [.lst m (hs.map Ag),.int x]=[.lst false (hs.map Ag),.int x]:=by simp[Cr,age,El (G7 hs)]
def Cw(a:List St2×Int)(p:St2):List St2×Int:=(if p.2≠a.2 then a.1++[p] else a.1,p.2)
theorem Py:∀(l:List St2)(a:List St2×Int),(l.foldl Cw a).1.length<=a.1.length+l.length
 |[],a=>by simp
 |p::l,a=>by
  have:=Py l (Cw a p)
  have:(Cw a p).1.length<=a.1.length+1:=by
   unfold Cw
   dsimp only
   split
   .simp
   .omega
  rw[U3k,U0e]
  omega
theorem rC(p:St2)(acc:List St2)(hh:Int)(hl:acc.length<1000)(e0:Option D):Hh [e0,some (.ref 0),some (.int hh),some (.int p.1),some (.int p.2)] [some (acc.map Ad)]=some (.nx,[e0,some (.ref 0),some (.int (Cw (acc,hh) p).2),some (.int p.1),some (.int p.2)],[some ((Cw (acc,hh) p).1.map Ad)]):=by
 have t1:Bv (eOp (oEq true) (Ae 4) (Ae 2)) [e0,some (.ref 0),some (.int hh),some (.int p.1),some (.int p.2)] [some (acc.map Ad)]=some (!decide (p.2=hh),[some (acc.map Ad)]):=by
  show some ((true ^^ decide (p.2=hh)),_)=_
  rw[U7p]
 unfold Hh Cw
 by_cases z:p.2=hh
 .rw[decide_eq_true z] at t1
  rw[GX,IV t1,if_neg (by simp[z])]
  rfl
 .rw[decide_eq_false z] at t1
  rw[GX,Kp t1,if_pos z,M4 (i:=0) (l:=acc.map Ad) (d:=Ad p) rfl rfl rfl (by rw[U0f];omega) rfl,U19]
  rfl
theorem Zd(l:List St2)(hl:l.length<=900):DQ [.lst false (l.map Ad)]=some (.lst true ((l.foldl Cw ([],0)).1.map Ad)):=by
 have s1:(Bk 1 (Kw Ah)) [some (.lst false (l.map Ad)),none,none,none,none] []=some (.nx,[some (.lst false (l.map Ad)),some (.ref 0),none,none,none],[some []]):=rfl
 have s2:(Bk 2 (eC (.int 0))) [some (.lst false (l.map Ad)),some (.ref 0),none,none,none] [some []]=some (.nx,[some (.lst false (l.map Ad)),some (.ref 0),some (.int 0),none,none],[some []]):=rfl
 have e:Dh (Ae 0) [some (.lst false (l.map Ad)),some (.ref 0),some (.int 0),none,none] [some []]=some ((l.map Ad,[]),[some []]):=rfl
 obtain⟨env',S',e2,z3,z4,he,hS⟩:=Gn (w:=[]) (g:=Pat.sem (.tp [(.nm 3),(.nm 4)])) (b:=Hh) (ds:=l.map Ad) (env:=[some (.lst false (l.map Ad)),some (.ref 0),some (.int 0),none,none]) (S:=[some []])
  (fun i env S=>∃z3 z4:Option D,env=[some (.lst false (l.map Ad)),some (.ref 0),some (.int ((l.take i).foldl Cw ([],0)).2),z3,z4]/\S=[some (((l.take i).foldl Cw ([],0)).1.map Ad)])
  ⟨none,none,rfl,rfl⟩ (fun i env S _=>by simp) (fun i d env S hd q=>by
   obtain⟨z3,z4,he,hS⟩:=q
   subst he hS
   rw[U0y] at hd
   obtain⟨p,hp,rfl⟩:=U2i.mp hd
   have few:=Py (l.take i) ([],0)
   rw[U1i] at few
   have b1:=rC p ((l.take i).foldl Cw ([],0)).1 ((l.take i).foldl Cw ([],0)).2 (by simp at few;omega) (some (.lst false (l.map Ad)))
   refine⟨[some (.lst false (l.map Ad)),some (.ref 0),some (.int ((l.take i).foldl Cw ([],0)).2),some (.int p.1),some (.int p.2)],by simp[Dq,Hi,G5,Et,-U0i,-U0l,Ad],_,_,b1,some (.int p.1),some (.int p.2),?_,?_⟩
   .rw[U4g,hp,U3p,U40];rfl
   .rw[U4g,hp,U3p,U40];rfl)
 subst he hS
 have hlm:(l.map Ad).length=l.length:=by simp
 rw[hlm,U4m] at e2
 have l1:Jg [some (.lst false (l.map Ad)),some (.ref 0),some (.int 0),none,none] [some []]=some (.nx,[some (.lst false (l.map Ad)),some (.ref 0),some (.int (l.foldl Cw ([],0)).2),z3,z4],[some ((l.foldl Cw ([],0)).1.map Ad)]):=by
  unfold Jg
  rw[Hq,e]
  exact e2
 unfold DQ
 rw[Dn]
 simp only[U0e,U08,U0r,U1n,U1u,U1v,U0t,U05,U18,U1x,if_true]
 unfold NP
 rw[Bd s1,Bd s2,Bd l1]
 generalize (l.foldl Cw ([],0)).1=k
 show den 0 [some (k.map Ad)] (.ref 0)=_
 rw[den,if_neg (by omega)]
 show(if Bh (k.map Ad)=true then _ else _)=_
 rw[if_pos (BX (Dj k))]
theorem Zt{hs:List T3}(hl:hs.length<=1000){m:Bool}{r:VS.Env}{S:Store}(h:r[0]?=some (some (.lst m (hs.map Ag))))(k:Int)(F:T3->Int)(hF:∀t,atI [D.int t.1,.int t.2.1,.int t.2.2] k=some (.int (F t))):DN 1 [] (Dh (Ae 0)) (Pat.sem (.nm 0)) HJ (eOp oIx (Ae 0) (eC (.int k))) r S=some ((hs.map F).map .int,S):=by
 have v:Ae 0 r S=some (.lst m (hs.map Ag),S):=by rw[Cq,h];rfl
 have e:Dh (Ae 0) r S=some ((hs.map Ag,[]),S):=by rw[Jh,v];rfl
 unfold DN
 rw[e]
 simp only[U0a]
 rw[Ht (by simp) Ag (fun t=>.int (F t)) hs (by omega),U0i]
 .rfl
 .intro t ht
  refine⟨_,Dq _ _ _,?_⟩
  show U1z _ (atI [D.int t.1,.int t.2.1,.int t.2.2] k)=_
  rw[hF];rfl
def ends(hs:List T3):List Int:=Fq (hs.map (·.1)++hs.map (·.2.1))
theorem jc{hs:List T3}(hl:hs.length<=400){a b:Bl}{r:VS.Env}{S:Store}(ha:a r S=some ((hs.map (·.1)).map .int,S))(hb:b r S=some ((hs.map (·.2.1)).map .int,S)):Im (eOp Br (BK a) (BK b)) r S=some (.lst true ((ends hs).map .int),S):=by
 have q:=(SetP.G6 (hs.map (·.1)++hs.map (·.2.1))).2.1
 have hlen:(hs.map (·.1)++hs.map (·.2.1)).length<=800:=by simp;omega
 have c:eOp Br (BK a) (BK b) r S=some (.lst true ((hs.map (·.1)++hs.map (·.2.1)).map .int),S):=by
  rw[add_lists (xs:=(hs.map (·.1)).map .int) (ys:=(hs.map (·.2.1)).map .int) (by rw[Cv,ha];rfl) (by rw[Cv,hb];rfl) (by simp;omega),←U19]
 rw[QS,c]
 show(intsOf ((hs.map (·.1)++hs.map (·.2.1)).map D.int)).bind _=_
 rw[Jv,U0a,if_pos ⟨by omega,by omega⟩]
 rfl
theorem eZ{hs:List T3}(hl:hs.length<=400):(ends hs).length<=800:=by
 have q:=(SetP.G6 (hs.map (·.1)++hs.map (·.2.1))).2.1
 unfold ends Fq
 rw[(U2k _ _).length_eq]
 simp at q
 omega
def sky(hs:List T3):List St2:=(((ends hs).map fun x=>(x,hgt hs x)).foldl Cw ([],0)).1
theorem Vz{hs:List T3}(h:Hs hs){x F:Int}(h1:F=0∨F∈Ei hs x)(h2:0<=F)(h3:∀n∈Ei hs x,n<=F):F=hgt hs x:=by
 unfold hgt
 cases e:M5 (Ei hs x) with
 |none =>
  have:Ei hs x=[]:=by
   cases q:Ei hs x with
   |nil=>rfl
   |cons a r=>rw[q] at e;simp[M5] at e
  rw[this] at h1
  simpa using h1
 |some m =>
  obtain⟨g1,g2⟩:=UW e
  have:1<=m:=by
   obtain⟨t,ht,rfl⟩:=U1r.mp g1
   exact(h.all t (U1s.mp ht).1).2.1
  have q1:=h3 m g1
  show F=m
  rcases h1 with z|z
  .omega
  .have:=g2 F z;omega
def Ge(x:Int)(hh:Int)(t:T3):Int:=if inH t x=true/\t.2.2>hh then t.2.2 else hh
theorem Vf(x:Int):∀(l:List T3)(hh:Int),hh<=l.foldl (Ge x) hh/\(l.foldl (Ge x) hh=hh∨l.foldl (Ge x) hh∈Ei l x)/\∀n∈Ei l x,n<=l.foldl (Ge x) hh
 |[],hh=>⟨U2n _,.inl rfl,fun n hn=>by simp[Ei] at hn⟩
 |t::l,hh=>by
  obtain⟨a1,a2,a3⟩:=Vf x l (Ge x hh t)
  have s1:hh<=Ge x hh t:=by unfold Ge;split<;>omega
  rw[U3k]
  have tp:Ei (t::l) x=if inH t x=true then t.2.2::Ei l x else Ei l x:=by
   unfold Ei
   rw[U6a]
   split<;>rfl
  rw[tp]
  by_cases z:inH t x=true
  .rw[if_pos z]
   have s2:t.2.2<=Ge x hh t:=by unfold Ge;split<;>(try simp[z] at *)<;>omega
   refine⟨by omega,?_,fun n hn=>?_⟩
   .rcases a2 with w|w
    .rw[w]
     unfold Ge
     split
     .exact .inr U0p
     .exact .inl rfl
    .exact .inr (U0n _ w)
   .rcases U0q.mp hn with w|w
    .rw[w];omega
    .exact a3 n w
  .rw[if_neg z]
   have s2:Ge x hh t=hh:=by unfold Ge;rw[if_neg (fun w=>z w.1)]
   rw[s2] at a1 a2 a3 ⊢
   exact⟨a1,a2,a3⟩
theorem Ro{hs:List T3}(h:Hs hs)(x:Int):hs.foldl (Ge x) 0=hgt hs x:=by
 obtain⟨a1,a2,a3⟩:=Vf x hs 0
 exact Vz h a2 a1 a3
theorem jM(t:T3)(x hh:Int)(e0 e1 e2:Option D)(S:Store):Ke [e0,e1,e2,some (.int x),some (.int hh),some (Ag t)] S=some (.nx,[e0,e1,e2,some (.int x),some (.int (Ge x hh t)),some (Ag t)],S):=by
 have t1:Bv (eOp oLe (eOp oIx (Ae 5) (eC (.int 0))) (Ae 3)) [e0,e1,e2,some (.int x),some (.int hh),some (Ag t)] S=some (decide (t.1<=x),S):=rfl
 have t2:Bv (eOp oLt (Ae 3) (eOp oIx (Ae 5) (eC (.int 1)))) [e0,e1,e2,some (.int x),some (.int hh),some (Ag t)] S=some (decide (x<t.2.1),S):=rfl
 have t3:Bv (eOp oGt (eOp oIx (Ae 5) (eC (.int 2))) (Ae 4)) [e0,e1,e2,some (.int x),some (.int hh),some (Ag t)] S=some (decide (hh<t.2.2),S):=rfl
 unfold Ke Ge inH
 have ts:PJ (Bv (eOp oLe (eOp oIx (Ae 5) (eC (.int 0))) (Ae 3))) (PJ (Bv (eOp oLt (Ae 3) (eOp oIx (Ae 5) (eC (.int 1))))) (Bv (eOp oGt (eOp oIx (Ae 5) (eC (.int 2))) (Ae 4)))) [e0,e1,e2,some (.int x),some (.int hh),some (Ag t)] S=some (decide (t.1<=x)&&decide (x<t.2.1)&&decide (hh<t.2.2),S):=by
  rw[YB,t1]
  cases decide (t.1<=x) with
  |false=>rfl
  |true =>
   simp only[U0a,if_true,U7n]
   rw[YB,t2]
   cases decide (x<t.2.1) with
   |false=>rfl
   |true =>
    simp only[U0a,if_true,U7n]
    exact t3
 by_cases g:(decide (t.1<=x)&&decide (x<t.2.1))=true/\t.2.2>hh
 .rw[if_pos g]
  rw[g.1,decide_eq_true (show hh<t.2.2 from g.2)] at ts
  rw[Kp ts];rfl
 .rw[if_neg g]
  have:(decide (t.1<=x)&&decide (x<t.2.1)&&decide (hh<t.2.2))=false:=by
   rw[Bool.eq_false_iff]
   intro w
   rw[U0s,decide_eq_true_eq] at w
   exact g w
  rw[this] at ts
  rw[IV ts];rfl
theorem jK{hs:List T3}(h:Hs hs)(x:Int)(e1 e2 z5:Option D)(S:Store):∃y5:Option D,Nh [some (.lst false (hs.map Ag)),e1,e2,some (.int x),some (.int 0),z5] S=some (.nx,[some (.lst false (hs.map Ag)),e1,e2,some (.int x),some (.int (hgt hs x)),y5],S):=by
 have e:Dh (Ae 0) [some (.lst false (hs.map Ag)),e1,e2,some (.int x),some (.int 0),z5] S=some ((hs.map Ag,[]),S):=rfl
 obtain⟨env',S',e3,y5,he,hS⟩:=Gn (w:=[]) (g:=Pat.sem (.nm 5)) (b:=Ke) (ds:=hs.map Ag) (env:=[some (.lst false (hs.map Ag)),e1,e2,some (.int x),some (.int 0),z5]) (S:=S)
  (fun i env S'=>∃y5:Option D,env=[some (.lst false (hs.map Ag)),e1,e2,some (.int x),some (.int ((hs.take i).foldl (Ge x) 0)),y5]/\S'=S)
  ⟨z5,rfl,rfl⟩ (fun i env S _=>by simp) (fun i d env S' hd q=>by
   obtain⟨y5,he,hS⟩:=q
   subst he hS
   rw[U0y] at hd
   obtain⟨t,ht,rfl⟩:=U2i.mp hd
   refine⟨_,Dq _ _ _,_,_,jM t x ((hs.take i).foldl (Ge x) 0) _ _ _ _,some (Ag t),?_,rfl⟩
   rw[U4g,ht,U3p,U40];rfl)
 subst he hS
 have hlm:(hs.map Ag).length=hs.length:=by simp
 rw[hlm,U4m,Ro h] at e3
 refine⟨y5,?_⟩
 unfold Nh
 rw[Hq,e]
 exact e3
def prev(acc:List St2):Int:=(acc.getLast?.map (·.2)).getD 0
theorem jg{acc:List St2}{hh:Int}(p:St2)(h:prev acc=hh):prev (Cw (acc,hh) p).1=(Cw (acc,hh) p).2:=by
 unfold Cw
 dsimp only
 split
 .unfold prev;simp
 .rename_i z
  have:p.2=hh:=by
   by_cases w:p.2=hh
   .exact w
   .exact absurd w z
  rw[this];exact h
theorem Uy:∀(l:List St2)(a:List St2×Int),prev a.1=a.2->prev (l.foldl Cw a).1=(l.foldl Cw a).2
 |[],a,h=>h
 |p::l,a,h=>by rw[U3k];exact Uy l _ (jg p h)
theorem jL{hs:List T3}(h:Hs hs)(x:Int)(acc:List St2)(hl:acc.length<1000)(e1 z4 z5:Option D):∃y5:Option D,Kd [some (.lst false (hs.map Ag)),e1,some (.ref 0),some (.int x),z4,z5] [some (acc.map Ad)]=some (.nx,[some (.lst false (hs.map Ag)),e1,some (.ref 0),some (.int x),some (.int (hgt hs x)),y5],[some ((Cw (acc,prev acc) (x,hgt hs x)).1.map Ad)]):=by
 obtain⟨y5,l1⟩:=jK h x e1 (some (.ref 0)) z5 [some (acc.map Ad)]
 have s1:(Bk 4 (eC (.int 0))) [some (.lst false (hs.map Ag)),e1,some (.ref 0),some (.int x),z4,z5] [some (acc.map Ad)]=some (.nx,[some (.lst false (hs.map Ag)),e1,some (.ref 0),some (.int x),some (.int 0),z5],[some (acc.map Ad)]):=rfl
 generalize hgt hs x=hx at *
 have a1:eOp Br (BK (Ac (Ce (Ac (eC (.int 0)) (Ac (eC (.int 0)) Ah))) Ah)) (Ae 2) [some (.lst false (hs.map Ag)),e1,some (.ref 0),some (.int x),some (.int hx),y5] [some (acc.map Ad)]=some (.lst true (Ad (0,0)::acc.map Ad),[some (acc.map Ad)]):=by
  show U1z _ (if 1+(acc.map Ad).length<=1000000 then some (D.lst true ([Ad (0,0)]++acc.map Ad)) else none)=_
  rw[if_pos (by rw[U0f];omega)];rfl
 have a2:eOp oIx (eOp Br (BK (Ac (Ce (Ac (eC (.int 0)) (Ac (eC (.int 0)) Ah))) Ah)) (Ae 2)) (eUn HX (eC (.int 1))) [some (.lst false (hs.map Ag)),e1,some (.ref 0),some (.int x),some (.int hx),y5] [some (acc.map Ad)]=some (Ad ((acc.getLast?).getD (0,0)),[some (acc.map Ad)]):=by
  have n1:eUn HX (eC (.int 1)) [some (.lst false (hs.map Ag)),e1,some (.ref 0),some (.int x),some (.int hx),y5] [some (acc.map Ad)]=some (.int (-1),[some (acc.map Ad)]):=rfl
  rw[BZ,a1,U0a,n1,U0a]
  show U1z _ (atI (Ad (0,0)::acc.map Ad) (-1))=_
  rcases U6d acc with z|⟨l,q,z⟩
  .rw[z];rfl
  .rw[U6e] at z
   subst z
   rw[U19,←U18]
   show U1z _ (atI (Ad (0,0)::l.map Ad++[Ad q]) (-1))=_
   rw[Ww];simp
 have a3:eOp oIx (eOp oIx (eOp Br (BK (Ac (Ce (Ac (eC (.int 0)) (Ac (eC (.int 0)) Ah))) Ah)) (Ae 2)) (eUn HX (eC (.int 1)))) (eC (.int 1)) [some (.lst false (hs.map Ag)),e1,some (.ref 0),some (.int x),some (.int hx),y5] [some (acc.map Ad)]=some (.int (prev acc),[some (acc.map Ad)]):=by
  rw[BZ,a2]
  have:prev acc=((acc.getLast?).getD (0,0)).2:=by unfold prev;cases acc.getLast?<;>rfl
  rw[this];rfl
 have t1:Bv (eOp (oEq true) (Ae 4) (eOp oIx (eOp oIx (eOp Br (BK (Ac (Ce (Ac (eC (.int 0)) (Ac (eC (.int 0)) Ah))) Ah)) (Ae 2)) (eUn HX (eC (.int 1)))) (eC (.int 1)))) [some (.lst false (hs.map Ag)),e1,some (.ref 0),some (.int x),some (.int hx),y5] [some (acc.map Ad)]=some (!decide (hx=prev acc),[some (acc.map Ad)]):=by
  have v4:Ae 4 [some (.lst false (hs.map Ag)),e1,some (.ref 0),some (.int x),some (.int hx),y5] [some (acc.map Ad)]=some (.int hx,[some (acc.map Ad)]):=rfl
  rw[Dm,BZ,v4,U0a,a3,U0a]
  show some ((true ^^ decide (hx=prev acc)),_)=_
  rw[U7p]
 refine⟨y5,?_⟩
 unfold Kd Cw
 rw[Bd s1,Bd l1]
 by_cases z:hx=prev acc
 .rw[decide_eq_true z] at t1
  rw[IV t1,if_neg (by simp[z])]
  rfl
 .rw[decide_eq_false z] at t1
  rw[Kp t1,if_pos z,U19]
  exact M4 (i:=0) (l:=acc.map Ad) (d:=Ad (x,hx)) rfl rfl rfl (by rw[U0f];omega) rfl
theorem Qn{hs:List T3}(h:Hs hs):Bw [.lst false (hs.map Ag)]=some (.lst true ((sky hs).map Ad)):=by
 have few:=h.few
 have el:=eZ few
 have s1:(Bk 1 (Im (eOp Br (BK Nj) (BK Ni)))) [some (.lst false (hs.map Ag)),none,none,none,none,none] []=some (.nx,[some (.lst false (hs.map Ag)),some (.lst true ((ends hs).map .int)),none,none,none,none],[]):=by
  have q1:Nj [some (.lst false (hs.map Ag)),none,none,none,none,none] []=some ((hs.map (·.1)).map .int,[]):=Zt (m:=false) (by omega) rfl 0 (·.1) fun _=>rfl
  have q2:Ni [some (.lst false (hs.map Ag)),none,none,none,none,none] []=some ((hs.map (·.2.1)).map .int,[]):=Zt (m:=false) (by omega) rfl 1 (·.2.1) fun _=>rfl
  rw[Cd,jc few q1 q2];rfl
 have s2:(Bk 2 (Kw Ah)) [some (.lst false (hs.map Ag)),some (.lst true ((ends hs).map .int)),none,none,none,none] []=some (.nx,[some (.lst false (hs.map Ag)),some (.lst true ((ends hs).map .int)),some (.ref 0),none,none,none],[some []]):=rfl
 have e:Dh (Ae 1) [some (.lst false (hs.map Ag)),some (.lst true ((ends hs).map .int)),some (.ref 0),none,none,none] [some []]=some (((ends hs).map .int,[]),[some []]):=rfl
 obtain⟨E,hE⟩:∃E:Nat->List St2×Int,∀i,E i=(((ends hs).take i).map fun x=>(x,hgt hs x)).foldl Cw ([],0):=⟨_,fun _=>rfl⟩
 obtain⟨env',S',e2,z3,z4,z5,he,hS⟩:=Gn (w:=[]) (g:=Pat.sem (.nm 3)) (b:=Kd) (ds:=(ends hs).map .int) (env:=[some (.lst false (hs.map Ag)),some (.lst true ((ends hs).map .int)),some (.ref 0),none,none,none]) (S:=[some []])
  (fun i env S=>∃z3 z4 z5:Option D,env=[some (.lst false (hs.map Ag)),some (.lst true ((ends hs).map .int)),some (.ref 0),z3,z4,z5]/\S=[some ((E i).1.map Ad)])
  ⟨none,none,none,rfl,by rw[hE];rfl⟩ (fun i env S _=>by simp) (fun i d env S hd q=>by
   obtain⟨z3,z4,z5,he,hS⟩:=q
   subst he hS
   rw[U0y] at hd
   obtain⟨x,hx,rfl⟩:=U2i.mp hd
   have fewE:=Py (((ends hs).take i).map fun x=>(x,hgt hs x)) ([],0)
   rw[←hE,U0f,U1i] at fewE
   have pv:prev (E i).1=(E i).2:=by rw[hE];exact Uy _ _ rfl
   obtain⟨y5,b2⟩:=jL h x (E i).1 (by simp at fewE;omega) (some (.lst true ((ends hs).map .int))) z4 z5
   refine⟨_,Dq _ _ _,_,_,b2,_,_,_,rfl,?_⟩
   rw[pv,hE (i+1),U4g,hx,U3p,U19,U40,←hE]
   rfl)
 subst he hS
 have hlm:((ends hs).map D.int).length=(ends hs).length:=by simp
 have hsk:(E ((ends hs).map D.int).length).1=sky hs:=by rw[hlm,hE,U4m];rfl
 rw[hsk] at e2
 have l2:Ng [some (.lst false (hs.map Ag)),some (.lst true ((ends hs).map .int)),some (.ref 0),none,none,none] [some []]=some (.nx,[some (.lst false (hs.map Ag)),some (.lst true ((ends hs).map .int)),some (.ref 0),z3,z4,z5],[some ((sky hs).map Ad)]):=by
  unfold Ng
  rw[Hq,e]
  exact e2
 unfold Bw
 rw[Dn]
 simp only[U0e,U08,U0r,U1n,U1u,U1v,U0t,U05,U18,U1x,if_true]
 unfold TF
 rw[Bd s1,Bd s2,Bd l2]
 generalize sky hs=k
 show den 0 [some (k.map Ad)] (.ref 0)=_
 rw[den,if_neg (by omega)]
 show(if Bh (k.map Ad)=true then _ else _)=_
 rw[if_pos (BX (Dj k))]
theorem bJ(hs:List T3):(ends hs).Pairwise (·<·):=T5 _
theorem Rt{hs:List T3}{x:Int}:x∈ends hs↔∃t∈hs,x=t.1∨x=t.2.1:=by
 unfold ends Fq
 rw[(U2k _ _).mem_iff,(SetP.G6 _).2.2,U1e,U1r,U1r]
 constructor
 .rintro(⟨t,ht,rfl⟩|⟨t,ht,rfl⟩)
  .exact⟨t,ht,.inl rfl⟩
  .exact⟨t,ht,.inr rfl⟩
 .rintro⟨t,ht,rfl|rfl⟩
  .exact .inl ⟨t,ht,rfl⟩
  .exact .inr ⟨t,ht,rfl⟩
theorem eY{hs:List T3}{x y:Int}(hxy:x<=y)(h:∀e∈ends hs,¬(x<e/\e<=y)):hgt hs y=hgt hs x:=by
 unfold hgt Ei
 have:(hs.filter fun t=>inH t y)=hs.filter fun t=>inH t x:=List.filter_congr fun t ht=>by
  have h1:=h t.1 (Rt.mpr ⟨t,ht,.inl rfl⟩)
  have h2:=h t.2.1 (Rt.mpr ⟨t,ht,.inr rfl⟩)
  unfold inH
  rw[U4s,U0s,U0s,decide_eq_true_eq,decide_eq_true_eq,decide_eq_true_eq,decide_eq_true_eq]
  omega
 rw[this]
theorem Yd{hs:List T3}{x:Int}(h:∀t∈hs,¬(t.1<=x/\x<t.2.1)):hgt hs x=0:=by
 unfold hgt Ei
 have:(hs.filter fun t=>inH t x)=[]:=List.filter_eq_nil_iff.mpr fun t ht w=>by
  unfold inH at w
  rw[U0s,decide_eq_true_eq,decide_eq_true_eq] at w
  exact h t ht w
 rw[this];rfl
def Link(f:Int->Int):Int->List Int->Prop
 |_,[]=>True
 |hh,x::E=>f (x-1)=hh/\Link f (f x) E
theorem V1(f:Int->Int):∀(E:List Int)(acc:List St2)(hh:Int),Link f hh E->((E.map fun x=>(x,f x)).foldl Cw (acc,hh)).1=acc++(E.filter fun x=>decide (f x≠f (x-1))).map fun x=>(x,f x)
 |[],acc,hh,_=>by simp
 |x::E,acc,hh,h=>by
  obtain⟨h1,h2⟩:=h
  subst h1
  rw[U0r,U3k]
  show((E.map fun x=>(x,f x)).foldl Cw (if f x≠f (x-1) then acc++[(x,f x)] else acc,f x)).1=_
  rw[V1 f E _ _ h2,U6a]
  by_cases z:f x=f (x-1)
  .rw[if_neg (by simp[z]),if_neg (by simp[z])]
  .rw[if_pos z,if_pos (by simp[z]),U0r,U0z];rfl
theorem Ji{hs:List T3}(h:Hs hs)(x:Int):0<=hgt hs x/\hgt hs x<=1000000000:=by
 unfold hgt
 cases e:M5 (Ei hs x) with
 |none=>exact⟨by decide,by decide⟩
 |some m =>
  obtain⟨t,ht,rfl⟩:=U1r.mp (UW e).1
  have:=h.all t (U1s.mp ht).1
  show 0<=t.2.2/\t.2.2<=1000000000
  omega
end W30
end
section
namespace W30
open PySem L2 VS
def InT(r0 r1:Int)(k:Nat)(t:T3):Prop:=r0<=t.1/\t.1<t.2.1/\t.2.1<=r0+r1+5*k/\t.2.1<=1000000000/\1<=t.2.2/\t.2.2<=1000000000
theorem p9(env:VS.Env)(S:Store):eOp Fz (eC (.int 10)) (eC (.int 9)) env S=some (.int 1000000000,S):=by simp[IW,BZ,oI,Nb,Fz,-U0i,-U0l]
theorem nW(m:Bool)(hs:List T3)(S:Store):oEq false S (.lst m (hs.map Ag)) (.lst true [])=some (.bl hs.isEmpty):=by
 have lv:lev 2 (.list (hs.map pT3))=true:=by
  show(hs.map pT3).all (lev 1)=true
  rw[U3x]
  intro x hx
  obtain⟨t,_,rfl⟩:=U1r.mp hx
  simp[pT3,lev]
 have:=jZ (neg:=false) (m:=true) 2 (iI S m hs) lv (by decide)
 rw[List.isEmpty_map,U7i] at this
 exact this
theorem pZ{a b c i:Int}(h0:0<=i)(h1:i<3)(ha:0<=a/\a<3)(hb:0<=b/\b<9)(hc:0<=c/\c<1000000000):∃v:Int,atI [D.int a,.int b,.int c] i=some (.int v)/\0<=v/\v<1000000000:=by
 have:i=0∨i=1∨i=2:=by omega
 rcases this with rfl|rfl|rfl
 .exact⟨a,rfl,by omega,by omega⟩
 .exact⟨b,rfl,by omega,by omega⟩
 .exact⟨c,rfl,by omega,by omega⟩
theorem Xw(x y z r0 r1:Int)(k:Nat)(q0:-1000000000<=r0)(q1:0<r1)(q2:r0+r1<=1000000000)(hs:List T3)(hl:hs.length<=1000)(hb:∀t∈hs,InT r0 r1 k t)(z0:0<=z)(z1:z<100000000):∃(t:T3)(x' z':Int),
  Ey [x,y,z] [.tup [.int r0,.int r1],.lst false (hs.map Ag)]=some (Ag t,[x',y,z'])/\InT r0 r1 (k+1) t/\z<=z'/\z'<=z+12:=by
 obtain⟨p,x1,z2,d1,⟨p0,p1,p2⟩,k1,k2⟩:=Z9 x y z r0 r1 q1 (by omega) z0 (by omega)
 obtain⟨a,x2,z3,d2,a0,k3,k4⟩:=FT x1 y z2 3 (by decide) (by decide) (by omega) (by omega)
 obtain⟨b,x3,z4,d3,b0,k5,k6⟩:=FT x2 y z3 9 (by decide) (by decide) (by omega) (by omega)
 obtain⟨c,x4,z5,d4,c0,k7,k8⟩:=FT x3 y z4 1000000000 (by decide) (by decide) (by omega) (by omega)
 obtain⟨i,x5,z6,d5,i0,k9,k10⟩:=FT x4 y z5 3 (by decide) (by decide) (by omega) (by omega)
 obtain⟨kd,x6,z7,d6,⟨kd0,kd1⟩,k11,k12⟩:=FT x5 y z6 8 (by decide) (by decide) (by omega) (by omega)
 obtain⟨v,hv,v0,v1⟩:=pZ i0.1 i0.2 a0 b0 c0
 have s1:(Yn (Ay Eh (Ac (Ae 0) (Ac (Ae 1) Ah))) (Pat.sem (.tp [(.nm 3),(.nm 4)]))) [some (.ref 0),some (.tup [.int r0,.int r1]),some (.lst false (hs.map Ag)),none,none,none,none,none,none,none,none] [some [.int x,.int y,.int z]]=some (.nx,[some (.ref 0),some (.tup [.int r0,.int r1]),some (.lst false (hs.map Ag)),some (.int p.1),some (.int p.2),none,none,none,none,none,none],[some [.int x1,.int y,.int z2]]):=by
  have c1:Ay Eh (Ac (Ae 0) (Ac (Ae 1) Ah)) [some (.ref 0),some (.tup [.int r0,.int r1]),some (.lst false (hs.map Ag)),none,none,none,none,none,none,none,none] [some [.int x,.int y,.int z]]=some (Ad p,[some [.int x1,.int y,.int z2]]) :=
   KH (ns:=[x,y,z]) (rest:=[.tup [.int r0,.int r1]]) (es:=[.tup [.int r0,.int r1]]) (i:=0) (S':=[some [.int x,.int y,.int z]]) rfl rfl (by simp[Bh,Bx]) (by simp[Cr,age]) d1
  rw[iJ,c1]
  simp[Dq,Hi,G5,Et,-U0i,-U0l,Ad]
 have s2:(Bk 5 (eOp Br (eC (.int 1)) (eOp oIx (BK (Ac (Ay Am (Ac (Ae 0) (Ac (eC (.int 3)) Ah))) (Ac (Ay Am (Ac (Ae 0) (Ac (eC (.int 9)) Ah))) (Ac (Ay Am (Ac (Ae 0) (Ac (eOp Fz (eC (.int 10)) (eC (.int 9))) Ah))) Ah)))) (Ay Am (Ac (Ae 0) (Ac (eC (.int 3)) Ah)))))) [some (.ref 0),some (.tup [.int r0,.int r1]),some (.lst false (hs.map Ag)),some (.int p.1),some (.int p.2),none,none,none,none,none,none] [some [.int x1,.int y,.int z2]]=some (.nx,[some (.ref 0),some (.tup [.int r0,.int r1]),some (.lst false (hs.map Ag)),some (.int p.1),some (.int p.2),some (.int (1+v)),none,none,none,none,none],[some [.int x5,.int y,.int z6]]):=by
  have o1:(Ay Am (Ac (Ae 0) (Ac (eC (.int 3)) Ah))) [some (.ref 0),some (.tup [.int r0,.int r1]),some (.lst false (hs.map Ag)),some (.int p.1),some (.int p.2),none,none,none,none,none,none] [some [.int x1,.int y,.int z2]]=some (.int a,[some [.int x2,.int y,.int z3]]):=Fw d2 rfl rfl
  have o2:(Ay Am (Ac (Ae 0) (Ac (eC (.int 9)) Ah))) [some (.ref 0),some (.tup [.int r0,.int r1]),some (.lst false (hs.map Ag)),some (.int p.1),some (.int p.2),none,none,none,none,none,none] [some [.int x2,.int y,.int z3]]=some (.int b,[some [.int x3,.int y,.int z4]]):=Fw d3 rfl rfl
  have o3:Ay Am (Ac (Ae 0) (Ac (eOp Fz (eC (.int 10)) (eC (.int 9))) Ah)) [some (.ref 0),some (.tup [.int r0,.int r1]),some (.lst false (hs.map Ag)),some (.int p.1),some (.int p.2),none,none,none,none,none,none] [some [.int x3,.int y,.int z4]]=some (.int c,[some [.int x4,.int y,.int z5]]):=Fw d4 rfl (p9 _ _)
  have o4:(Ay Am (Ac (Ae 0) (Ac (eC (.int 3)) Ah))) [some (.ref 0),some (.tup [.int r0,.int r1]),some (.lst false (hs.map Ag)),some (.int p.1),some (.int p.2),none,none,none,none,none,none] [some [.int x4,.int y,.int z5]]=some (.int i,[some [.int x5,.int y,.int z6]]):=Fw d5 rfl rfl
  have o5:BK (Ac (Ay Am (Ac (Ae 0) (Ac (eC (.int 3)) Ah))) (Ac (Ay Am (Ac (Ae 0) (Ac (eC (.int 9)) Ah))) (Ac (Ay Am (Ac (Ae 0) (Ac (eOp Fz (eC (.int 10)) (eC (.int 9))) Ah))) Ah))) [some (.ref 0),some (.tup [.int r0,.int r1]),some (.lst false (hs.map Ag)),some (.int p.1),some (.int p.2),none,none,none,none,none,none] [some [.int x1,.int y,.int z2]]=some (.lst true [.int a,.int b,.int c],[some [.int x4,.int y,.int z5]]):=by
   rw[Cv,Av,o1,U0a,Av,o2,U0a,Av,o3];rfl
  have o6:eOp oIx (BK (Ac (Ay Am (Ac (Ae 0) (Ac (eC (.int 3)) Ah))) (Ac (Ay Am (Ac (Ae 0) (Ac (eC (.int 9)) Ah))) (Ac (Ay Am (Ac (Ae 0) (Ac (eOp Fz (eC (.int 10)) (eC (.int 9))) Ah))) Ah)))) (Ay Am (Ac (Ae 0) (Ac (eC (.int 3)) Ah))) [some (.ref 0),some (.tup [.int r0,.int r1]),some (.lst false (hs.map Ag)),some (.int p.1),some (.int p.2),none,none,none,none,none,none] [some [.int x1,.int y,.int z2]]=some (.int v,[some [.int x5,.int y,.int z6]]):=by
   rw[BZ,o5,U0a,o4,U0a]
   show U1z _ (atI [D.int a,.int b,.int c] i)=_
   rw[hv];rfl
  rw[Cd,BZ,IW,U0a,o6];rfl
 have s3:(Bk 6 (Ay Am (Ac (Ae 0) (Ac (eC (.int 8)) Ah)))) [some (.ref 0),some (.tup [.int r0,.int r1]),some (.lst false (hs.map Ag)),some (.int p.1),some (.int p.2),some (.int (1+v)),none,none,none,none,none] [some [.int x5,.int y,.int z6]]=some (.nx,[some (.ref 0),some (.tup [.int r0,.int r1]),some (.lst false (hs.map Ag)),some (.int p.1),some (.int p.2),some (.int (1+v)),some (.int kd),none,none,none,none],[some [.int x6,.int y,.int z7]]):=by
  have o1:(Ay Am (Ac (Ae 0) (Ac (eC (.int 8)) Ah))) [some (.ref 0),some (.tup [.int r0,.int r1]),some (.lst false (hs.map Ag)),some (.int p.1),some (.int p.2),some (.int (1+v)),none,none,none,none,none] [some [.int x5,.int y,.int z6]]=some (.int kd,[some [.int x6,.int y,.int z7]]):=Fw d6 rfl rfl
  rw[Cd,o1];rfl
 have t1:Bv (eOp (oEq false) (Ae 2) (BK Ah)) [some (.ref 0),some (.tup [.int r0,.int r1]),some (.lst false (hs.map Ag)),some (.int p.1),some (.int p.2),some (.int (1+v)),some (.int kd),none,none,none,none] [some [.int x6,.int y,.int z7]]=some (hs.isEmpty,[some [.int x6,.int y,.int z7]]):=by
  have f0:BK Ah [some (.ref 0),some (.tup [.int r0,.int r1]),some (.lst false (hs.map Ag)),some (.int p.1),some (.int p.2),some (.int (1+v)),some (.int kd),none,none,none,none] [some [.int x6,.int y,.int z7]]=some (.lst true [],[some [.int x6,.int y,.int z7]]):=rfl
  have v2:Ae 2 [some (.ref 0),some (.tup [.int r0,.int r1]),some (.lst false (hs.map Ag)),some (.int p.1),some (.int p.2),some (.int (1+v)),some (.int kd),none,none,none,none] [some [.int x6,.int y,.int z7]]=some (.lst false (hs.map Ag),[some [.int x6,.int y,.int z7]]):=rfl
  rw[Dm,BZ,v2,U0a,f0,U0a]
  simp only[nW]
  cases hs.isEmpty<;>rfl
 have t2:Bv (eOp oGt (Ae 6) (eC (.int 4))) [some (.ref 0),some (.tup [.int r0,.int r1]),some (.lst false (hs.map Ag)),some (.int p.1),some (.int p.2),some (.int (1+v)),some (.int kd),none,none,none,none] [some [.int x6,.int y,.int z7]]=some (decide (4<kd),[some [.int x6,.int y,.int z7]]):=rfl
 have ts:(VS.tOr (Bv (eOp (oEq false) (Ae 2) (BK Ah))) (Bv (eOp oGt (Ae 6) (eC (.int 4))))) [some (.ref 0),some (.tup [.int r0,.int r1]),some (.lst false (hs.map Ag)),some (.int p.1),some (.int p.2),some (.int (1+v)),some (.int kd),none,none,none,none] [some [.int x6,.int y,.int z7]]=some (hs.isEmpty||decide (4<kd),[some [.int x6,.int y,.int z7]]):=by
  rw[Pb,t1]
  cases hs.isEmpty with
  |true=>rfl
  |false =>
   simp only[U0a,U06,if_false,Bool.false_or]
   exact t2
 unfold Ey
 rw[K6]
 simp only[U0e,U08,U0r,U1n,U1u,U1v,U0t,U05,U18,U1x,if_true]
 unfold RJ
 rw[Bd s1,Bd s2,Bd s3]
 by_cases g:(hs.isEmpty||decide (4<kd))=true
 .rw[g] at ts
  rw[GX,Kp ts]
  refine⟨(p.1,p.2,1+v),x6,z7,?_,⟨p0,p1,by show p.2<=r0+r1+5*((k+1:Nat):Int);omega,by show p.2<=1000000000;omega,by show 1<=1+v;omega,by show 1+v<=1000000000;omega⟩,by omega,by omega⟩
  simp[GX,Cd,Cm,Np,Lr,Lq,Cq,IW,BZ,Cz,Av,Ec,Dm,jd,Ir,Q9,Wr,oI,Ie,Nb,Br,HW,Fz,oGe,oIx,K3,Ft,VS.listOf,G9,FP,intsOf,den,DK,-U0i,-U0l,Ag]
 .rw[Bool.eq_false_iff.mpr g] at ts
  have s0:(sIf (VS.tOr (Bv (eOp (oEq false) (Ae 2) (BK Ah))) (Bv (eOp oGt (Ae 6) (eC (.int 4))))) (DR (Ce (Ac (Ae 3) (Ac (Ae 4) (Ac (Ae 5) Ah))))) G8) [some (.ref 0),some (.tup [.int r0,.int r1]),some (.lst false (hs.map Ag)),some (.int p.1),some (.int p.2),some (.int (1+v)),some (.int kd),none,none,none,none] [some [.int x6,.int y,.int z7]]=some (.nx,[some (.ref 0),some (.tup [.int r0,.int r1]),some (.lst false (hs.map Ag)),some (.int p.1),some (.int p.2),some (.int (1+v)),some (.int kd),none,none,none,none],[some [.int x6,.int y,.int z7]]):=by rw[IV ts];rfl
  have hne:¬hs.isEmpty=true:=fun w=>g (by rw[w];rfl)
  have hkd:kd<=4:=by
   by_cases w:4<kd
   .exact absurd (by rw[decide_eq_true w,U7u]) g
   .omega
  have hlp:0<hs.length:=by
   cases hs with
   |nil=>exact absurd rfl hne
   |cons _ _=>simp
  obtain⟨j,x7,z8,d7,⟨j0,j1⟩,k13,k14⟩:=FT x6 y z7 hs.length (by omega) (by omega) (by omega) (by omega)
  obtain⟨jn,rfl⟩:∃jn:Nat,j=jn:=⟨j.toNat,by omega⟩
  have hjn:jn<hs.length:=by omega
  obtain⟨t,ht⟩:∃t,t=hs[jn]:=⟨_,rfl⟩
  obtain⟨w1,w2,w3,w4,w5,w6⟩:=hb t (by rw[ht];exact U4i hjn)
  obtain⟨e,x8,z9,d8,e0,k15,k16⟩:=FT x7 y z8 4 (by decide) (by decide) (by omega) (by omega)
  obtain⟨f,x9,z10,d9,f0,k17,k18⟩:=FT x8 y z9 (t.2.1-t.1) (by omega) (by omega) (by omega) (by omega)
  obtain⟨bs,hbs⟩:∃bs:Int,bs=min 1000000000 (t.2.1+1+e):=⟨_,rfl⟩
  have s4:(Bk 7 (eOp oIx (Ae 2) (Ay Am (Ac (Ae 0) (Ac (eCB K3 (Ac (Ae 2) Ah)) Ah))))) [some (.ref 0),some (.tup [.int r0,.int r1]),some (.lst false (hs.map Ag)),some (.int p.1),some (.int p.2),some (.int (1+v)),some (.int kd),none,none,none,none] [some [.int x6,.int y,.int z7]]=some (.nx,[some (.ref 0),some (.tup [.int r0,.int r1]),some (.lst false (hs.map Ag)),some (.int p.1),some (.int p.2),some (.int (1+v)),some (.int kd),some (Ag t),none,none,none],[some [.int x7,.int y,.int z8]]):=by
   have o1:Ay Am (Ac (Ae 0) (Ac (eCB K3 (Ac (Ae 2) Ah)) Ah)) [some (.ref 0),some (.tup [.int r0,.int r1]),some (.lst false (hs.map Ag)),some (.int p.1),some (.int p.2),some (.int (1+v)),some (.int kd),none,none,none,none] [some [.int x6,.int y,.int z7]]=some (.int jn,[some [.int x7,.int y,.int z8]]):=Fw d7 rfl (by
    show(some (D.int ((hs.map Ag).length:Nat),_):Option (D×Store))=_
    rw[U0f])
   have v2:Ae 2 [some (.ref 0),some (.tup [.int r0,.int r1]),some (.lst false (hs.map Ag)),some (.int p.1),some (.int p.2),some (.int (1+v)),some (.int kd),none,none,none,none] [some [.int x6,.int y,.int z7]]=some (.lst false (hs.map Ag),[some [.int x6,.int y,.int z7]]):=rfl
   rw[Cd,BZ,v2,U0a,o1,U0a]
   show(U1z _ (atI (hs.map Ag) (jn:Int))).bind _=_
   rw[Qq (v:=Ag t) (by rw[U0y,U02 hjn,ht];rfl)]
   rfl
  have s5:(Bk 8 (eCB Ft (Ac (eOp Fz (eC (.int 10)) (eC (.int 9))) (Ac (eOp Br (eOp Br (eOp oIx (Ae 7) (eC (.int 1))) (eC (.int 1))) (Ay Am (Ac (Ae 0) (Ac (eC (.int 4)) Ah)))) Ah)))) [some (.ref 0),some (.tup [.int r0,.int r1]),some (.lst false (hs.map Ag)),some (.int p.1),some (.int p.2),some (.int (1+v)),some (.int kd),some (Ag t),none,none,none] [some [.int x7,.int y,.int z8]]=some (.nx,[some (.ref 0),some (.tup [.int r0,.int r1]),some (.lst false (hs.map Ag)),some (.int p.1),some (.int p.2),some (.int (1+v)),some (.int kd),some (Ag t),some (.int bs),none,none],[some [.int x8,.int y,.int z9]]):=by
   have o1:(Ay Am (Ac (Ae 0) (Ac (eC (.int 4)) Ah))) [some (.ref 0),some (.tup [.int r0,.int r1]),some (.lst false (hs.map Ag)),some (.int p.1),some (.int p.2),some (.int (1+v)),some (.int kd),some (Ag t),none,none,none] [some [.int x7,.int y,.int z8]]=some (.int e,[some [.int x8,.int y,.int z9]]):=Fw d8 rfl rfl
   have o0:eOp Br (eOp oIx (Ae 7) (eC (.int 1))) (eC (.int 1)) [some (.ref 0),some (.tup [.int r0,.int r1]),some (.lst false (hs.map Ag)),some (.int p.1),some (.int p.2),some (.int (1+v)),some (.int kd),some (Ag t),none,none,none] [some [.int x7,.int y,.int z8]]=some (.int (t.2.1+1),[some [.int x7,.int y,.int z8]]):=rfl
   have o2:eOp Br (eOp Br (eOp oIx (Ae 7) (eC (.int 1))) (eC (.int 1))) (Ay Am (Ac (Ae 0) (Ac (eC (.int 4)) Ah))) [some (.ref 0),some (.tup [.int r0,.int r1]),some (.lst false (hs.map Ag)),some (.int p.1),some (.int p.2),some (.int (1+v)),some (.int kd),some (Ag t),none,none,none] [some [.int x7,.int y,.int z8]]=some (.int (t.2.1+1+e),[some [.int x8,.int y,.int z9]]):=by
    rw[BZ,o0,U0a,o1];rfl
   rw[Cd,Ec,Av,p9,U0a,Av,o2]
   simp only[U0a,Cz]
   rw[hbs]
   simp[Ft,-U0i,-U0l]
   omega
  have s6:(Bk 9 (eOp Br (eOp Br (eOp oIx (Ae 7) (eC (.int 0))) (eC (.int 1))) (Ay Am (Ac (Ae 0) (Ac (eOp HW (eOp oIx (Ae 7) (eC (.int 1))) (eOp oIx (Ae 7) (eC (.int 0)))) Ah))))) [some (.ref 0),some (.tup [.int r0,.int r1]),some (.lst false (hs.map Ag)),some (.int p.1),some (.int p.2),some (.int (1+v)),some (.int kd),some (Ag t),some (.int bs),none,none] [some [.int x8,.int y,.int z9]]=some (.nx,[some (.ref 0),some (.tup [.int r0,.int r1]),some (.lst false (hs.map Ag)),some (.int p.1),some (.int p.2),some (.int (1+v)),some (.int kd),some (Ag t),some (.int bs),some (.int (t.1+1+f)),none],[some [.int x9,.int y,.int z10]]):=by
   have o1:Ay Am (Ac (Ae 0) (Ac (eOp HW (eOp oIx (Ae 7) (eC (.int 1))) (eOp oIx (Ae 7) (eC (.int 0)))) Ah)) [some (.ref 0),some (.tup [.int r0,.int r1]),some (.lst false (hs.map Ag)),some (.int p.1),some (.int p.2),some (.int (1+v)),some (.int kd),some (Ag t),some (.int bs),none,none] [some [.int x8,.int y,.int z9]]=some (.int f,[some [.int x9,.int y,.int z10]]):=Fw d9 rfl rfl
   have o0:eOp Br (eOp oIx (Ae 7) (eC (.int 0))) (eC (.int 1)) [some (.ref 0),some (.tup [.int r0,.int r1]),some (.lst false (hs.map Ag)),some (.int p.1),some (.int p.2),some (.int (1+v)),some (.int kd),some (Ag t),some (.int bs),none,none] [some [.int x8,.int y,.int z9]]=some (.int (t.1+1),[some [.int x8,.int y,.int z9]]):=rfl
   rw[Cd,BZ,o0,U0a,o1];rfl
  have s7:(Bk 10 (Kw (Ac (Ae 7) (Ac (Ce (Ac (eOp oIx (Ae 7) (eC (.int 0))) (Ac (eOp oIx (Ae 7) (eC (.int 1))) (Ac (Ae 5) Ah)))) (Ac (Ce (Ac (Ae 3) (Ac (Ae 4) (Ac (eOp oIx (Ae 7) (eC (.int 2))) Ah)))) (Ac (Ce (Ac (eOp oIx (Ae 7) (eC (.int 1))) (Ac (Ae 8) (Ac (Ae 5) Ah)))) Ah)))))) [some (.ref 0),some (.tup [.int r0,.int r1]),some (.lst false (hs.map Ag)),some (.int p.1),some (.int p.2),some (.int (1+v)),some (.int kd),some (Ag t),some (.int bs),some (.int (t.1+1+f)),none] [some [.int x9,.int y,.int z10]]=some (.nx,[some (.ref 0),some (.tup [.int r0,.int r1]),some (.lst false (hs.map Ag)),some (.int p.1),some (.int p.2),some (.int (1+v)),some (.int kd),some (Ag t),some (.int bs),some (.int (t.1+1+f)),some (.ref 1)],[some [.int x9,.int y,.int z10],some ([t,(t.1,t.2.1,1+v),(p.1,p.2,t.2.2),(t.2.1,bs,1+v)].map Ag)]):=rfl
  have s8:(HS (Hf FP (Ae 10) (Ac (Ce (Ac (eOp oIx (Ae 7) (eC (.int 0))) (Ac (Ae 9) (Ac (Ae 5) Ah)))) Ah))) [some (.ref 0),some (.tup [.int r0,.int r1]),some (.lst false (hs.map Ag)),some (.int p.1),some (.int p.2),some (.int (1+v)),some (.int kd),some (Ag t),some (.int bs),some (.int (t.1+1+f)),some (.ref 1)] [some [.int x9,.int y,.int z10],some ([t,(t.1,t.2.1,1+v),(p.1,p.2,t.2.2),(t.2.1,bs,1+v)].map Ag)]=some (.nx,[some (.ref 0),some (.tup [.int r0,.int r1]),some (.lst false (hs.map Ag)),some (.int p.1),some (.int p.2),some (.int (1+v)),some (.int kd),some (Ag t),some (.int bs),some (.int (t.1+1+f)),some (.ref 1)],[some [.int x9,.int y,.int z10],some ([t,(t.1,t.2.1,1+v),(p.1,p.2,t.2.2),(t.2.1,bs,1+v),(t.1,t.1+1+f,1+v)].map Ag)]):=M4 (i:=1) (d:=Ag (t.1,t.1+1+f,1+v)) rfl rfl rfl (by simp) rfl
  obtain⟨u,hu,hu2⟩:∃u:T3,atI ([t,(t.1,t.2.1,1+v),(p.1,p.2,t.2.2),(t.2.1,bs,1+v),(t.1,t.1+1+f,1+v)].map Ag) kd=some (Ag u)/\(u.1<u.2.1->InT r0 r1 (k+1) u):=by
   have:kd=0∨kd=1∨kd=2∨kd=3∨kd=4:=by omega
   rcases this with rfl|rfl|rfl|rfl|rfl
   .exact⟨t,rfl,fun _=>⟨w1,w2,by omega,w4,w5,w6⟩⟩
   .exact⟨(t.1,t.2.1,1+v),rfl,fun _=>⟨w1,w2,by show t.2.1<=_;omega,w4,by show 1<=1+v;omega,by show 1+v<=_;omega⟩⟩
   .exact⟨(p.1,p.2,t.2.2),rfl,fun _=>⟨p0,p1,by show p.2<=_;omega,by show p.2<=_;omega,w5,w6⟩⟩
   .exact⟨(t.2.1,bs,1+v),rfl,fun q=>⟨by show r0<=t.2.1;omega,q,by show bs<=_;omega,by show bs<=_;omega,by show 1<=1+v;omega,by show 1+v<=_;omega⟩⟩
   .exact⟨(t.1,t.1+1+f,1+v),rfl,fun q=>⟨w1,q,by show t.1+1+f<=_;omega,by show t.1+1+f<=_;omega,by show 1<=1+v;omega,by show 1+v<=_;omega⟩⟩
  obtain⟨us,hus⟩:∃us:List T3,us=[t,(t.1,t.2.1,1+v),(p.1,p.2,t.2.2),(t.2.1,bs,1+v),(t.1,t.1+1+f,1+v)]:=⟨_,rfl⟩
  rw[←hus] at s8 hu
  have at1:eOp oIx (Ae 10) (Ae 6) [some (.ref 0),some (.tup [.int r0,.int r1]),some (.lst false (hs.map Ag)),some (.int p.1),some (.int p.2),some (.int (1+v)),some (.int kd),some (Ag t),some (.int bs),some (.int (t.1+1+f)),some (.ref 1)] [some [.int x9,.int y,.int z10],some (us.map Ag)]=some (Ag u,[some [.int x9,.int y,.int z10],some (us.map Ag)]):=by
   show U1z _ (atI (us.map Ag) kd)=_
   rw[hu];rfl
  have t3:Bv (eOp oGe (eOp oIx (eOp oIx (Ae 10) (Ae 6)) (eC (.int 0))) (eOp oIx (eOp oIx (Ae 10) (Ae 6)) (eC (.int 1)))) [some (.ref 0),some (.tup [.int r0,.int r1]),some (.lst false (hs.map Ag)),some (.int p.1),some (.int p.2),some (.int (1+v)),some (.int kd),some (Ag t),some (.int bs),some (.int (t.1+1+f)),some (.ref 1)] [some [.int x9,.int y,.int z10],some (us.map Ag)]=some (decide (u.2.1<=u.1),[some [.int x9,.int y,.int z10],some (us.map Ag)]):=by
   have b1:eOp oIx (eOp oIx (Ae 10) (Ae 6)) (eC (.int 0)) [some (.ref 0),some (.tup [.int r0,.int r1]),some (.lst false (hs.map Ag)),some (.int p.1),some (.int p.2),some (.int (1+v)),some (.int kd),some (Ag t),some (.int bs),some (.int (t.1+1+f)),some (.ref 1)] [some [.int x9,.int y,.int z10],some (us.map Ag)]=some (.int u.1,[some [.int x9,.int y,.int z10],some (us.map Ag)]):=by rw[BZ,at1];rfl
   have b2:eOp oIx (eOp oIx (Ae 10) (Ae 6)) (eC (.int 1)) [some (.ref 0),some (.tup [.int r0,.int r1]),some (.lst false (hs.map Ag)),some (.int p.1),some (.int p.2),some (.int (1+v)),some (.int kd),some (Ag t),some (.int bs),some (.int (t.1+1+f)),some (.ref 1)] [some [.int x9,.int y,.int z10],some (us.map Ag)]=some (.int u.2.1,[some [.int x9,.int y,.int z10],some (us.map Ag)]):=by rw[BZ,at1];rfl
   rw[Dm,BZ,b1,U0a,b2];rfl
  rw[Bd s0,Bd s4,Bd s5,Bd s6,Bd s7,Bd s8,GX]
  by_cases q:u.2.1<=u.1
  .rw[decide_eq_true q] at t3
   rw[Kp t3]
   refine⟨t,x9,z10,?_,⟨w1,w2,by omega,w4,w5,w6⟩,by omega,by omega⟩
   simp[Cm,Cq,BZ,oIx,VS.listOf,G9,intsOf,den,DK,-U0i,-U0l,Ag]
  .rw[decide_eq_false q] at t3
   rw[IV t3]
   refine⟨u,x9,z10,?_,hu2 (by omega),by omega,by omega⟩
   simp only[Lq,U0a,Cm,at1]
   simp[intsOf,den,DK,-U0i,-U0l,Ag]
end W30
end
section
namespace W30
open PySem L2 VS
theorem InT.more{r0 r1:Int}{k j:Nat}{t:T3}(h:InT r0 r1 k t)(hk:k<=j):InT r0 r1 j t:=by
 obtain⟨g1,g2,g3,g4,g5,g6⟩:=h
 exact⟨g1,g2,by omega,g4,g5,g6⟩
theorem bF(x y z r0 r1:Int)(k:Nat)(q0:-1000000000<=r0)(q1:0<r1)(q2:r0+r1<=1000000000)(hs:List T3)(hl:hs.length<=100)(hb:∀t∈hs,InT r0 r1 k t)(z0:0<=z)(z1:z<10000000)(e2 e3 e5:Option D):∃(t:T3)(x' z':Int),InT r0 r1 (k+1) t/\(z<=z'/\z'<=z+12) /\
  JM [some (.ref 0),some (.tup [.int r0,.int r1]),e2,e3,some (.ref 1),e5] [some [.int x,.int y,.int z],some (hs.map Ag)]=some (.nx,[some (.ref 0),some (.tup [.int r0,.int r1]),e2,e3,some (.ref 1),e5],[some [.int x',.int y,.int z'],some ((hs++[t]).map Ag)]):=by
 obtain⟨t,x',z',e,bi,k1,k2⟩:=Xw x y z r0 r1 k q0 q1 q2 hs (by omega) hb z0 (by omega)
 refine⟨t,x',z',bi,⟨k1,k2⟩,?_⟩
 have hd:DK 0 [none,some (hs.map Ag)] [.tup [.int r0,.int r1],.ref 1]=some [.tup [.int r0,.int r1],.lst true (hs.map Ag)]:=by
  have hp:=BX (G7 hs)
  simp[DK,den,hp]
 have ha:Cr [.tup [.int r0,.int r1],.lst true (hs.map Ag)]=[.tup [.int r0,.int r1],.lst false (hs.map Ag)]:=by
  have:=El (G7 hs)
  simp[Cr,age,this]
 have hnew:newD (Ag t)=true:=Oi (Ud t)
 have c1:Ay Ey (Ac (Ae 0) (Ac (Ae 1) (Ac (Ae 4) Ah))) [some (.ref 0),some (.tup [.int r0,.int r1]),e2,e3,some (.ref 1),e5] [some [.int x,.int y,.int z],some (hs.map Ag)]=some (Ag t,[some [.int x',.int y,.int z'],some (hs.map Ag)]):=by
  have a:Ac (Ae 0) (Ac (Ae 1) (Ac (Ae 4) Ah)) [some (.ref 0),some (.tup [.int r0,.int r1]),e2,e3,some (.ref 1),e5] [some [.int x,.int y,.int z],some (hs.map Ag)]=some ([.ref 0,.tup [.int r0,.int r1],.ref 1],[some [.int x,.int y,.int z],some (hs.map Ag)]):=rfl
  rw[Q9,a]
  show((DK 0 [none,some (hs.map Ag)] [.tup [.int r0,.int r1],.ref 1]).bind fun ds=>(Ey [x,y,z] (Cr ds)).bind fun r=>if (Bh [.tup [.int r0,.int r1],.ref 1]||newD r.1)=true then some (r.1,[some (r.2.map D.int),some (hs.map Ag)]) else none)=_
  rw[hd,U0a,ha,e,U0a,hnew,U7u]
  rfl
 unfold JM
 rw[Lr,YT (d:=.ref 1) (cs:=hs.map Ag) (ds:=[Ag t]) (r:=.non) (S1:=[some [.int x,.int y,.int z],some (hs.map Ag)]) (S2:=[some [.int x',.int y,.int z'],some (hs.map Ag)]) (S3:=[some [.int x',.int y,.int z'],some ((hs++[t]).map Ag)]) rfl rfl (by rw[Av,c1];rfl) (by
  show(if (hs.map Ag).length<1000000 then some (D.non,[some [.int x',.int y,.int z'],some (hs.map Ag++[Ag t])]) else none)=_
  rw[if_pos (by rw[U0f];omega),U19]
  rfl)]
 rfl
theorem Ux(x y z r0 r1:Int)(most:Nat)(hm:most<=40)(h3:3<=most)(q0:-1000000000<=r0)(q1:0<r1)(q2:r0+r1<=1000000000)(z0:0<=z)(z1:z<1000000):∃(hs:List T3)(x' z':Int),
  Dg [x,y,z] [.tup [.int r0,.int r1],.int most]=some (.lst true (hs.map Ag),[x',y,z'])/\hs.length<=most/\(∀t∈hs,InT r0 r1 most t)/\z<=z'/\z'<=z+1000:=by
 obtain⟨a,x1,z2,d1,⟨a0,a1⟩,k1,k2⟩:=FT x y z 4 (by decide) (by decide) z0 (by omega)
 obtain⟨b,x2,z3,d2,⟨b0,b1⟩,k3,k4⟩:=FT x1 y z2 ((most:Int)+1) (by omega) (by omega) (by omega) (by omega)
 obtain⟨c,x3,z4,d3,⟨c0,c1⟩,k5,k6⟩:=FT x2 y z3 3 (by decide) (by decide) (by omega) (by omega)
 obtain⟨m,f1,hmm⟩:∃m:Nat,atI [D.int a,D.int b,D.int most] c=some (.int m)/\m<=most:=by
  have:c=0∨c=1∨c=2:=by omega
  rcases this with rfl|rfl|rfl
  .exact⟨a.toNat,by rw[show((a.toNat:Nat):Int)=a by omega];rfl,by omega⟩
  .exact⟨b.toNat,by rw[show((b.toNat:Nat):Int)=b by omega];rfl,by omega⟩
  .exact⟨most,rfl,U0o _⟩
 have s1:(Bk 3 (eOp oIx (BK (Ac (Ay Am (Ac (Ae 0) (Ac (eC (.int 4)) Ah))) (Ac (Ay Am (Ac (Ae 0) (Ac (eOp Br (Ae 2) (eC (.int 1))) Ah))) (Ac (Ae 2) Ah)))) (Ay Am (Ac (Ae 0) (Ac (eC (.int 3)) Ah))))) [some (.ref 0),some (.tup [.int r0,.int r1]),some (.int most),none,none,none] [some [.int x,.int y,.int z]]=some (.nx,[some (.ref 0),some (.tup [.int r0,.int r1]),some (.int most),some (.int m),none,none],[some [.int x3,.int y,.int z4]]):=by
  have o1:Ay Am (Ac (Ae 0) (Ac (eC (.int 4)) Ah)) [some (.ref 0),some (.tup [.int r0,.int r1]),some (.int most),none,none,none] [some [.int x,.int y,.int z]]=some (.int a,[some [.int x1,.int y,.int z2]]):=Fw d1 rfl rfl
  have o2:Ay Am (Ac (Ae 0) (Ac (eOp Br (Ae 2) (eC (.int 1))) Ah)) [some (.ref 0),some (.tup [.int r0,.int r1]),some (.int most),none,none,none] [some [.int x1,.int y,.int z2]]=some (.int b,[some [.int x2,.int y,.int z3]]):=Fw d2 rfl rfl
  have o3:Ay Am (Ac (Ae 0) (Ac (eC (.int 3)) Ah)) [some (.ref 0),some (.tup [.int r0,.int r1]),some (.int most),none,none,none] [some [.int x2,.int y,.int z3]]=some (.int c,[some [.int x3,.int y,.int z4]]):=Fw d3 rfl rfl
  have o4:BK (Ac (Ay Am (Ac (Ae 0) (Ac (eC (.int 4)) Ah))) (Ac (Ay Am (Ac (Ae 0) (Ac (eOp Br (Ae 2) (eC (.int 1))) Ah))) (Ac (Ae 2) Ah))) [some (.ref 0),some (.tup [.int r0,.int r1]),some (.int most),none,none,none] [some [.int x,.int y,.int z]]=some (.lst true [.int a,.int b,.int most],[some [.int x2,.int y,.int z3]]):=by
   rw[Cv,Av,o1,U0a,Av,o2];rfl
  rw[Cd,BZ,o4,U0a,o3,U0a]
  show(U1z _ (atI [D.int a,D.int b,D.int most] c)).bind _=_
  rw[f1];rfl
 have s2:(Bk 4 (Kw Ah)) [some (.ref 0),some (.tup [.int r0,.int r1]),some (.int most),some (.int m),none,none] [some [.int x3,.int y,.int z4]]=some (.nx,[some (.ref 0),some (.tup [.int r0,.int r1]),some (.int most),some (.int m),some (.ref 1),none],[some [.int x3,.int y,.int z4],some []]):=rfl
 have e:KD (Ac (Ae 3) Ah) [some (.ref 0),some (.tup [.int r0,.int r1]),some (.int most),some (.int m),some (.ref 1),none] [some [.int x3,.int y,.int z4],some []]=some ((upD 0 m,[]),[some [.int x3,.int y,.int z4],some []]):=Zm _ rfl (by simp) (by omega) (by omega)
 obtain⟨env',S',e5,hs,x',z',y6,he,hS,hl,hb,k7,k8⟩:=Gn (w:=[]) (g:=Pat.sem (.nm 5)) (b:=JM) (ds:=upD 0 m) (env:=[some (.ref 0),some (.tup [.int r0,.int r1]),some (.int most),some (.int m),some (.ref 1),none]) (S:=[some [.int x3,.int y,.int z4],some []])
  (fun i env S=>∃(hs:List T3)(x' z':Int)(y6:Option D),env=[some (.ref 0),some (.tup [.int r0,.int r1]),some (.int most),some (.int m),some (.ref 1),y6]/\S=[some [.int x',.int y,.int z'],some (hs.map Ag)]/\hs.length=min i m/\(∀t∈hs,InT r0 r1 (min i m) t)/\z4<=z'/\z'<=z4+12*(min i m:Nat))
  ⟨[],x3,z4,none,rfl,rfl,by simp,(fun b h=>by cases h),by omega,by simp⟩ (fun i env S _=>by simp) (fun i d env S hd q=>by
   obtain⟨hs,x',z',y6,he,hS,hl,hb,k7,k8⟩:=q
   obtain⟨hi,rfl⟩:=Tz hd
   have hmi:min i m=i:=by omega
   rw[hmi] at hl hb k8
   subst he hS
   obtain⟨t,x5,z5,hb5,⟨k9,k10⟩,e6⟩:=bF x' y z' r0 r1 i q0 q1 q2 hs (by omega) hb (by omega) (by omega) (some (.int most)) (some (.int m)) (some (.int (0+i)))
   have hmi2:min (i+1) m=i+1:=by omega
   refine⟨_,Dq _ _ _,_,_,e6,hs++[t],x5,z5,_,rfl,rfl,by simp;omega,?_,by omega,by rw[hmi2];omega⟩
   rw[hmi2]
   intro c hc
   rcases U1e.mp hc with h|h
   .exact(hb c h).more (by omega)
   .rw[U1f.mp h];exact hb5)
 rw[Tw,Nat.min_self] at hl hb k8
 subst he hS
 have l1:LK [some (.ref 0),some (.tup [.int r0,.int r1]),some (.int most),some (.int m),some (.ref 1),none] [some [.int x3,.int y,.int z4],some []]=some (.nx,[some (.ref 0),some (.tup [.int r0,.int r1]),some (.int most),some (.int m),some (.ref 1),y6],[some [.int x',.int y,.int z'],some (hs.map Ag)]):=by
  unfold LK
  rw[Hq,e]
  exact e5
 refine⟨hs,x',z',?_,by omega,fun t h=>(hb t h).more hmm,by omega,by omega⟩
 unfold Dg
 rw[K6]
 simp only[U0e,U08,U0r,U1n,U1u,U1v,U0t,U05,U18,U1x,if_true]
 unfold QJ
 rw[Bd s1,Bd s2,Bd l1]
 have hp:=BX (G7 hs)
 simp[Cm,Cq,intsOf,den,-U0i,-U0l,hp]
end W30
end
section
namespace W30
open PySem L2 VS
theorem Oz{f:Int->Int}:∀(n:Nat){x y:Int},y=x+n->(∀e,x<e->e<=y->f e=f (e-1))->f y=f x
 |0,x,y,h,_=>by rw[h];simp
 |n+1,x,y,h,hc=>by
  rw[hc y (by omega) (U2n _)]
  exact Oz n (by omega) fun e h1 h2=>hc e h1 (by omega)
theorem Jf{f:Int->Int}{x y:Int}(hxy:x<=y)(h:∀e,x<e->e<=y->f e=f (e-1)):f y=f x:=Oz (y-x).toNat (by omega) h
structure Chg(f:Int->Int)(E:List Int)(A B:Int):Prop where
 rise:E.Pairwise (·<·)
 all:∀x,f x≠f (x-1)->x∈E
 low:∀x,x<=A->f x=0
 high:∀x,B<=x->f x=0
 inn:∀x∈E,A<x/\x<=B
theorem Wf{f:Int->Int}:∀(E:List Int)(q:Int),E.Pairwise (·<·)->(∀x∈E,q<x)->(∀e,q<e->f e≠f (e-1)->e∈E)->Link f (f q) E
 |[],q,_,_,_=>trivial
 |x::E,q,hr,hq,hc=>by
  obtain⟨r1,r2⟩:=U12.mp hr
  have hx:=hq x U0p
  refine⟨Jf (by omega) fun e h1 h2=>?_,Wf E x r2 r1 fun e h1 h2=>?_⟩
  .by_cases z:f e=f (e-1)
   .exact z
   .rcases U0q.mp (hc e h1 z) with k|k
    .omega
    .have:=r1 e k;omega
  .rcases U0q.mp (hc e (by omega) h2) with k|k
   .omega
   .exact k
theorem Chg.link{f:Int->Int}{E:List Int}{A B:Int}(h:Chg f E A B):Link f 0 E:=by
 have:=Wf E A h.rise (fun x hx=>(h.inn x hx).1) fun e _ z=>h.all e z
 rw[h.low A (U2n _)] at this
 exact this
def chg(f:Int->Int)(E:List Int):List St2:=((E.map fun x=>(x,f x)).foldl Cw ([],0)).1
def pts(f:Int->Int)(E:List Int):List Int:=E.filter fun x=>decide (f x≠f (x-1))
theorem Kq{f:Int->Int}{E:List Int}{A B:Int}(h:Chg f E A B):chg f E=(pts f E).map fun x=>(x,f x):=by
 unfold chg
 rw[V1 f E [] 0 h.link,U1x];rfl
theorem dH{f:Int->Int}{E F:List Int}{A B C G:Int}(h:Chg f E A B)(k:Chg f F C G):pts f E=pts f F :=
 Q5 (h.rise.sublist U4o) (k.rise.sublist U4o) fun x=>by
  unfold pts
  rw[U1s,U1s]
  exact⟨fun z=>⟨k.all x (of_decide_eq_true z.2),z.2⟩,fun z=>⟨h.all x (of_decide_eq_true z.2),z.2⟩⟩
theorem Ws{f:Int->Int}{E F:List Int}{A B C G:Int}(h:Chg f E A B)(k:Chg f F C G):chg f E=chg f F:=by
 rw[Kq h,Kq k,dH h k]
theorem Chg.pts{f:Int->Int}{E:List Int}{A B:Int}(h:Chg f E A B):Chg f (pts f E) A B :=
 ⟨h.rise.sublist U4o,fun x z=>U1s.mpr ⟨h.all x z,decide_eq_true z⟩,h.low,h.high,fun x hx=>h.inn x (U1s.mp hx).1⟩
def stand(l:List St2):List T3:=((l.zip l.tail).map fun q=>(q.1.1,q.2.1,q.1.2)).filter fun t=>decide (0<t.2.2)
theorem RW(f:Int->Int):∀a b:List Int,(a.map fun x=>(x,f x)).zip (b.map fun x=>(x,f x))=(a.zip b).map fun p=>((p.1,f p.1),(p.2,f p.2))
 |[],_=>by simp
 |_::_,[]=>by simp
 |p::a,q::b=>by simp[RW f a b]
theorem Rb(f:Int->Int)(C:List Int):stand (C.map fun x=>(x,f x))=((steps C).map fun p=>(p.1,p.2,f p.1)).filter fun t=>decide (0<t.2.2):=by
 unfold stand steps
 rw[←U7q,RW,U0i];rfl
theorem Uq{f:Int->Int}{C:List Int}{t:T3}:t∈stand (C.map fun x=>(x,f x))↔∃p∈steps C,t=(p.1,p.2,f p.1)/\0<f p.1:=by
 rw[Rb,U1s,U1r]
 constructor
 .rintro⟨⟨p,hp,rfl⟩,h⟩
  exact⟨p,hp,rfl,of_decide_eq_true h⟩
 .rintro⟨p,hp,rfl,h⟩
  exact⟨⟨p,hp,rfl⟩,decide_eq_true h⟩
theorem Le{f:Int->Int}{E:List Int}{A B:Int}(h:Chg f E A B){p:St2}(hp:p∈steps E){x:Int}(h1:p.1<=x)(h2:x<p.2):f x=f p.1:=by
 obtain⟨g1,g2,g3,g4⟩:=Mz h.rise p hp
 refine Jf h1 fun e k1 k2=>?_
 by_cases z:f e=f (e-1)
 .exact z
 .have:=g4 e (h.all e z)
  omega
theorem bI{f:Int->Int}{E:List Int}{A B:Int}(h:Chg f E A B)(hf:∀x,0<=f x)(hH:Hs (stand (chg f E)))(x:Int):hgt (stand (chg f E)) x=f x:=by
 symm
 have hp:=h.pts
 rw[Kq h] at hH ⊢
 refine Vz hH ?_ (hf x) fun n hn=>?_
 .by_cases z:f x=0
  .exact .inl z
  .have hz:=hf x
   have a:∃c∈pts f E,c<=x:=by
    by_cases w:∃c∈pts f E,c<=x
    .exact w
    .refine absurd ?_ z
     by_cases ax:x<=A
     .exact h.low x ax
     .rw[Jf (x:=A) (y:=x) (f:=f) (by omega) fun e k1 k2=>?_]
      .exact h.low A (U2n _)
      .by_cases v:f e=f (e-1)
       .exact v
       .exact absurd ⟨e,hp.all e v,k2⟩ w
   have b:∃c∈pts f E,x<c:=by
    by_cases w:∃c∈pts f E,x<c
    .exact w
    .refine absurd ?_ z
     by_cases ax:B<=x
     .exact h.high x ax
     .rw[←Jf (x:=x) (y:=B) (f:=f) (by omega) fun e k1 k2=>?_]
      .exact h.high B (U2n _)
      .by_cases v:f e=f (e-1)
       .exact v
       .exact absurd ⟨e,hp.all e v,k1⟩ w
   obtain⟨p,hps,k1,k2⟩:=Qw hp.rise a b
   have e:=Le hp hps k1 k2
   refine .inr (U1r.mpr ⟨(p.1,p.2,f p.1),U1s.mpr ⟨Uq.mpr ⟨p,hps,rfl,by omega⟩,?_⟩,e.symm⟩)
   unfold inH
   rw[U0s,decide_eq_true_eq,decide_eq_true_eq]
   exact⟨k1,k2⟩
 .obtain⟨t,ht,rfl⟩:=U1r.mp hn
  obtain⟨t1,t2⟩:=U1s.mp ht
  obtain⟨p,hps,rfl,_⟩:=Uq.mp t1
  unfold inH at t2
  rw[U0s,decide_eq_true_eq,decide_eq_true_eq] at t2
  rw[Le hp hps t2.1 t2.2]
  exact U2n _
end W30
end
section
namespace W30
open PySem L2 VS
structure Vm(l:List St2):Prop where
 few:l.length<=300
 hts:∀p∈l,0<=p.2
 head:∀p,l.head?=some p->p.2≠0
 last:∀p,l.getLast?=some p->p.2=0
 adj:∀q∈l.zip l.tail,q.1.1<q.2.1/\q.1.2≠q.2.2
theorem gP(p:St2):Fb [Ad p,.int 2]=some (.bl true):=by
 have c:LR [some (Ad p),some (.int 2)] []=some ([D.bl true,.bl true],[]):=by
  have e:Dh (Ae 0) [some (Ad p),some (.int 2)] []=some (([p.1,p.2].map D.int,[]),[]):=rfl
  unfold LR DN
  rw[e]
  simp only[U0a]
  rw[Ht (by simp) D.int (fun _=>.bl true) [p.1,p.2] (by simp)]
  .rfl
  .intro i _
   exact⟨_,Dq _ _ _,Bm (ds:=[.int i]) (es:=[.int i]) rfl (by simp[Bh,Bx]) (by simp[Cr,age]) (XS i)⟩
 unfold Fb
 rw[Dn]
 simp only[U0e,U08,U0r,U1n,U1u,U1v,U05,U1k,if_true]
 unfold QM
 have i1:eCB J8 (Ac (Ae 0) (Ac (eC (.ty "tuple")) Ah)) [some (Ad p),some (.int 2)] []=some (.bl true,[]):=by
  have a:Ac (Ae 0) (Ac (eC (.ty "tuple")) Ah) [some (Ad p),some (.int 2)] []=some ([Ad p,.ty "tuple"],[]):=rfl
  rw[Ec,a,U0a]
  simp only[Zf,aO];rfl
 have i2:eOp (oEq false) (eCB K3 (Ac (Ae 0) Ah)) (Ae 1) [some (Ad p),some (.int 2)] []=some (.bl true,[]):=rfl
 rw[Cm,Ly,i1]
 simp[Ly,i2,Cv,Ec,Av,Cz,c]
 rfl
theorem jf(xs:List D):cut xs (some 1) none=xs.tail:=by
 cases xs with
 |nil=>rfl
 |cons x r =>
  rw[fD (by decide) (by simp;omega)]
  rfl
theorem fM:∀a b:List St2,GF (a.map Ad) (b.map Ad)=(a.zip b).map fun q=>D.tup [Ad q.1,Ad q.2]
 |[],_=>by simp[GF]
 |_::_,[]=>by simp[GF]
 |p::a,q::b=>by simp[GF,fM a b]
theorem RV{m:Bool}(k:List St2)(r:VS.Env)(S:Store)(j:Nat)(h:r[j]?=some (some (.lst m (k.map Ad)))):Qc (Ac (Ae j) (Ac (eSl oSl (Ae j) (GQ (eC (.int 1))) GR) Ah)) r S=some (((k.zip k.tail).map fun q=>D.tup [Ad q.1,Ad q.2],[]),S):=by
 have v:Ae j r S=some (.lst m (k.map Ad),S):=by rw[Cq,h];rfl
 have s:eSl oSl (Ae j) (GQ (eC (.int 1))) GR r S=some (.lst true (k.tail.map Ad),S):=by
  rw[oW,v]
  show(some (D.lst true (cut (k.map Ad) (some 1) none),S):Option (D×Store))=_
  rw[jf,U7q]
 rw[eV,Av,v,U0a,Av,s,←fM]
 rfl
theorem all_true{α:Type}(l:List α)(S:Store):JX S [.lst true (l.map fun _=>D.bl true)]=some (.bl true):=by
 show(JX.boolsOf (l.map fun _=>D.bl true)).map _=_
 rw[Ze]
 simp
theorem ZD{l:List St2}(h:Vm l):FZ [.lst false (l.map Ad)]=some (.bl true):=by
 have few:=h.few
 have c1:Hj [some (.lst false (l.map Ad))] []=some (l.map fun _=>D.bl true,[]):=by
  have e:Dh (Ae 0) [some (.lst false (l.map Ad))] []=some ((l.map Ad,[]),[]):=rfl
  unfold Hj DN
  rw[e]
  simp only[U0a]
  rw[Ht (by simp) Ad (fun _=>.bl true) l (by omega)]
  intro p hp
  have c:Ao Fb (Ac (Ae 0) (Ac (eC (.int 2)) Ah)) [some (Ad p)] []=some (.bl true,[]) :=
   Bm (ds:=[Ad p,.int 2]) (es:=[Ad p,.int 2]) rfl (by simp[Bh,Bx,Ad]) (by simp[Cr,age,Ad]) (gP p)
  have a1:eOp oGe (eOp oIx (Ae 0) (eC (.int 1))) (eC (.int 0)) [some (Ad p)] []=some (.bl (decide (0<=p.2)),[]):=rfl
  rw[decide_eq_true (h.hts p hp)] at a1
  refine⟨_,Dq _ _ _,?_⟩
  show OD _ _ [some (Ad p)] []=_
  rw[Ly,c]
  simp only[U0a,a1]
 have c2:JN [some (.lst false (l.map Ad))] []=some ((l.zip l.tail).map fun _=>D.bl true,[]):=by
  have e:=RV (m:=false) l [some (.lst false (l.map Ad))] [] 0 rfl
  unfold JN DN
  rw[e]
  simp only[U0a]
  have hz:(l.zip l.tail).length<=l.length:=by rw[U5k];omega
  rw[Ht (by simp) (fun q:St2×St2=>D.tup [Ad q.1,Ad q.2]) (fun _=>.bl true) (l.zip l.tail) (by omega)]
  intro q hq
  obtain⟨k1,k2⟩:=h.adj q hq
  have a1:eOp oLt (eOp oIx (Ae 0) (eC (.int 0))) (eOp oIx (Ae 1) (eC (.int 0))) [some (Ad q.1),some (Ad q.2)] []=some (.bl (decide (q.1.1<q.2.1)),[]):=rfl
  have a2:eOp (oEq true) (eOp oIx (Ae 0) (eC (.int 1))) (eOp oIx (Ae 1) (eC (.int 1))) [some (Ad q.1),some (Ad q.2)] []=some (.bl (true ^^ decide (q.1.2=q.2.2)),[]):=rfl
  rw[decide_eq_true k1] at a1
  rw[decide_eq_false k2] at a2
  refine⟨[some (Ad q.1),some (Ad q.2)],by simp[Jo,Dq,Hi,G5,Et,U0t,-U0i,-U0l],?_⟩
  rw[Ly,a1]
  simp only[U0a,a2]
  rfl
 have i1:eCB J8 (Ac (Ae 0) (Ac (eC (.ty "list")) Ah)) [some (.lst false (l.map Ad))] []=some (.bl true,[]):=by
  show U1z _ (J8 [] [.lst false (l.map Ad),.ty "list"])=_
  rw[bV,MK];rfl
 have i2:eCB JX (Ac (BK Hj) Ah) [some (.lst false (l.map Ad))] []=some (.bl true,[]):=by
  rw[Ec,Av,Cv,c1]
  simp only[U0a,Cz,all_true,U5l]
 have i3:eCB JX (Ac (BK JN) Ah) [some (.lst false (l.map Ad))] []=some (.bl true,[]):=by
  rw[Ec,Av,Cv,c2]
  simp only[U0a,Cz,all_true,U5l]
 have s1:(sIf (VS.tOr (VS.K1 (Bv (eCB J8 (Ac (Ae 0) (Ac (eC (.ty "list")) Ah))))) (VS.K1 (Bv (eCB JX (Ac (BK Hj) Ah))))) (DR (eC (.bl false))) G8) [some (.lst false (l.map Ad))] []=some (.nx,[some (.lst false (l.map Ad))],[]):=by
  rw[IV (by rw[Pb,Nv,Dm,i1];simp only[U0a,U5a,U06,if_false];show VS.K1 _ _ _=_;rw[Nv,Dm,i2];rfl)]
  rfl
 have t2:Bv (eOp (oEq false) (eCB K3 (Ac (Ae 0) Ah)) (eC (.int 0))) [some (.lst false (l.map Ad))] []=some (decide ((l.length:Int)=0),[]):=by
  show some ((false ^^ decide ((((l.map Ad).length:Nat):Int)=0)),_)=_
  rw[U7i,U0f]
 unfold FZ
 rw[Dn]
 simp only[U0e,U08,U0r,U1n,U1u,U1v,U05,U1k,if_true]
 unfold QK
 rw[Bd s1,GX]
 cases l with
 |nil =>
  rw[Kp (by rw[t2];rfl)]
  rfl
 |cons a r =>
  have s2:(sIf (Bv (eOp (oEq false) (eCB K3 (Ac (Ae 0) Ah)) (eC (.int 0)))) (DR (eC (.bl true))) G8) [some (.lst false ((a::r).map Ad))] []=some (.nx,[some (.lst false ((a::r).map Ad))],[]):=by
   rw[IV (by rw[t2,decide_eq_false (by simp;omega)])];rfl
  rw[←GX,Bd s2]
  obtain⟨b,z,hz⟩:∃(b:List St2)(z:St2),a::r=b++[z]:=by
   rcases U6d (a::r) with k|⟨b,z,k⟩
   .simp at k
   .exact⟨b,z,by rw[k,U6e]⟩
  have h0:a.2≠0:=h.head a rfl
  have h9:z.2=0:=h.last z (by rw[hz];simp)
  have t3:Bv (eOp (oEq false) (eOp oIx (eOp oIx (Ae 0) (eC (.int 0))) (eC (.int 1))) (eC (.int 0))) [some (.lst false ((a::r).map Ad))] []=some (decide (a.2=0),[]):=by
   have a3:eOp oIx (Ae 0) (eC (.int 0)) [some (.lst false ((a::r).map Ad))] []=some (Ad a,[]):=by
    show U1z _ (atI ((a::r).map Ad) ((0:Nat):Int))=_
    rw[Qq (v:=Ad a) rfl];rfl
   have a5:eOp oIx (eOp oIx (Ae 0) (eC (.int 0))) (eC (.int 1)) [some (.lst false ((a::r).map Ad))] []=some (.int a.2,[]):=by rw[BZ,a3];rfl
   rw[Dm,BZ,a5]
   show some ((false ^^ decide (a.2=0)),_)=_
   rw[U7i]
  have a4:eOp oIx (Ae 0) (eUn HX (eC (.int 1))) [some (.lst false ((a::r).map Ad))] []=some (Ad z,[]):=by
   show U1z _ (atI ((a::r).map Ad) (-1))=_
   rw[hz,U19]
   show U1z _ (atI (b.map Ad++[Ad z]) (-1))=_
   rw[Ww];rfl
  have t4:Bv (eOp (oEq true) (eOp oIx (eOp oIx (Ae 0) (eUn HX (eC (.int 1)))) (eC (.int 1))) (eC (.int 0))) [some (.lst false ((a::r).map Ad))] []=some (!decide (z.2=0),[]):=by
   have a5:eOp oIx (eOp oIx (Ae 0) (eUn HX (eC (.int 1)))) (eC (.int 1)) [some (.lst false ((a::r).map Ad))] []=some (.int z.2,[]):=by rw[BZ,a4];rfl
   rw[Dm,BZ,a5]
   show some ((true ^^ decide (z.2=0)),_)=_
   rw[U7p]
  rw[decide_eq_false h0] at t3
  rw[decide_eq_true h9] at t4
  have s3:(sIf (VS.tOr (Bv (eOp (oEq false) (eOp oIx (eOp oIx (Ae 0) (eC (.int 0))) (eC (.int 1))) (eC (.int 0)))) (Bv (eOp (oEq true) (eOp oIx (eOp oIx (Ae 0) (eUn HX (eC (.int 1)))) (eC (.int 1))) (eC (.int 0))))) (DR (eC (.bl false))) G8) [some (.lst false ((a::r).map Ad))] []=some (.nx,[some (.lst false ((a::r).map Ad))],[]):=by
   rw[IV (by
    rw[Pb,t3]
    simp only[U0a,U06,if_false]
    exact t4)]
   rfl
  rw[Bd s3,Cm,i3]
  rfl
end W30
end
section
namespace W30
open PySem L2 VS
theorem Ds(m:Bool)(l:List St2):Bh [.lst m (l.map Ad)]=true:=by rw[Bh,Bx,BX (Dj l),Bh];rfl
theorem Ek(m:Bool)(l:List St2):Cr [.lst m (l.map Ad)]=[.lst false (l.map Ad)]:=by rw[Cr,age,El (Dj l),Cr]
theorem Rf{l:List St2}(h:Vm l):Bu [.lst false (l.map Ad)]=some .non:=by
 have c:Ao FZ (Ac (Ae 0) Ah) [some (.lst false (l.map Ad))] []=some (.bl true,[]) :=
  Bm (ds:=[.lst false (l.map Ad)]) (es:=[.lst false (l.map Ad)]) rfl (Ds ..) (Ek ..) (ZD h)
 unfold Bu
 rw[Dn]
 simp only[U0e,U08,U0r,U1n,U1u,U1v,U05,U1k,if_true]
 unfold O7
 rw[IV (by rw[Nv,Dm,c];rfl)]
 rfl
theorem gq(l:List St2)(hl:l.length<=1000){r:VS.Env}{S:Store}{m:Bool}(h:r[0]?=some (some (.lst m (l.map Ad)))):Gu r S=some (((l.zip l.tail).map fun q=>(q.1.1,q.2.1,q.1.2)).map Ag,S):=by
 have e:=RV l r S 0 h
 unfold Gu DN
 rw[e]
 simp only[U0a]
 have hz:(l.zip l.tail).length<=l.length:=by rw[U5k];omega
 rw[Ht (by simp) (fun q:St2×St2=>D.tup [Ad q.1,Ad q.2]) (fun q=>Ag (q.1.1,q.2.1,q.1.2)) (l.zip l.tail) (by omega),U0i]
 .rfl
 .intro q hq
  exact⟨[some (Ad q.1),some (Ad q.2)],by simp[Jo,Dq,Hi,G5,Et,U0t,-U0i,-U0l],by simp[Cq,IW,BZ,Cz,Av,Ir,oIx,VS.listOf,G9,-U0i,-U0l,Ad,Ag]⟩
theorem Ra(l:List St2)(hl:l.length<=1000):Bq [.lst false (l.map Ad)]=some (.lst true ((stand l).map Ag)):=by
 have hz:(l.zip l.tail).length<=l.length:=by rw[U5k];omega
 have s1:(Bk 1 (BK Gu)) [some (.lst false (l.map Ad)),none] []=some (.nx,[some (.lst false (l.map Ad)),some (.lst true (((l.zip l.tail).map fun q=>(q.1.1,q.2.1,q.1.2)).map Ag))],[]):=by
  rw[Cd,Cv,gq l hl (m:=false) rfl];rfl
 have c2:J9 [some (.lst false (l.map Ad)),some (.lst true (((l.zip l.tail).map fun q=>(q.1.1,q.2.1,q.1.2)).map Ag))] []=some ((stand l).map Ag,[]):=by
  unfold stand
  have hk:((l.zip l.tail).map fun q=>(q.1.1,q.2.1,q.1.2)).length<=1000:=by rw[U0f];omega
  generalize ((l.zip l.tail).map fun q=>(q.1.1,q.2.1,q.1.2))=k at *
  have e:Dh (Ae 1) [some (.lst false (l.map Ad)),some (.lst true (k.map Ag))] []=some ((k.map Ag,[]),[]):=rfl
  unfold J9 DN
  rw[e]
  simp only[U0a]
  rw[Lz (by simp) Ag (fun t=>decide (0<t.2.2)) Ag k [] (by simp;omega)]
  .rfl
  .intro t ht
   exact⟨_,Dq _ _ _,rfl,fun _=>rfl⟩
 unfold Bq
 rw[Dn]
 simp only[U0e,U08,U0r,U1n,U1u,U1v,U0t,U05,U18,U1x,if_true]
 unfold Mt
 rw[Bd s1,Cm,Cv,c2]
 show den 0 _ (.lst true _)=_
 rw[den,CN 0 _ (BX (G7 _))];rfl
theorem Xb{l:List St2}(h:Vm l):Ez [.lst false (l.map Ad)]=some (.lst true ((stand l).map Ag)):=by
 have few:=h.few
 have c1:Ao Bu (Ac (Ae 0) Ah) [some (.lst false (l.map Ad))] []=some (.non,[]) :=
  Bm (ds:=[.lst false (l.map Ad)]) (es:=[.lst false (l.map Ad)]) rfl (Ds ..) (Ek ..) (Rf h)
 have s1:(HS (Ao Bu (Ac (Ae 0) Ah))) [some (.lst false (l.map Ad))] []=some (.nx,[some (.lst false (l.map Ad))],[]):=by rw[Lr,c1];rfl
 have c2:Ao Bq (Ac (Ae 0) Ah) [some (.lst false (l.map Ad))] []=some (.lst true ((stand l).map Ag),[]) :=
  Bm (ds:=[.lst false (l.map Ad)]) (es:=[.lst false (l.map Ad)]) rfl (Ds ..) (Ek ..) (Ra l (by omega))
 unfold Ez
 rw[Dn]
 simp only[U0e,U08,U0r,U1n,U1u,U1v,U05,U1k,if_true]
 unfold RL
 rw[Bd s1,Cm,c2]
 show den 0 _ (.lst true _)=_
 rw[den,CN 0 _ (BX (G7 _))];rfl
end W30
end
section
namespace W30
open PySem L2 VS
def Dk(ts:List T3):Int:=(ts.map fun t=>(t.2.1-t.1)*t.2.2).sum
structure SkB(l:List St2):Prop where
 ok:Vm l
 inn:∀p∈l,-1000000000<=p.1/\p.1<=1000000000/\p.2<=1000000000
theorem WD{l:List St2}{t:T3}(h:t∈stand l):∃q∈l.zip l.tail,t=(q.1.1,q.2.1,q.1.2)/\0<t.2.2:=by
 unfold stand at h
 obtain⟨h1,h2⟩:=U1s.mp h
 obtain⟨q,hq,rfl⟩:=U1r.mp h1
 exact⟨q,hq,rfl,of_decide_eq_true h2⟩
theorem Fi(l:List St2):(stand l).length<=l.length:=by
 unfold stand
 refine U1d (U47 ..) ?_
 rw[U0f,U5k]
 omega
theorem O6{l:List St2}(h:SkB l):Ax [.lst false (l.map Ad)]=some (.int (Dk (stand l))):=by
 have few:=h.ok.few
 have sf:=Fi l
 have c2:Ao Ez (Ac (Ae 0) Ah) [some (.lst false (l.map Ad))] []=some (.lst true ((stand l).map Ag),[]) :=
  Bm (ds:=[.lst false (l.map Ad)]) (es:=[.lst false (l.map Ad)]) rfl (Ds ..) (Ek ..) (Xb h.ok)
 have e:Dh (Ao Ez (Ac (Ae 0) Ah)) [some (.lst false (l.map Ad))] []=some (((stand l).map Ag,[]),[]):=by rw[Jh,c2];rfl
 have c:JR [some (.lst false (l.map Ad))] []=some (((stand l).map fun t=>(t.2.1-t.1)*t.2.2).map .int,[]):=by
  unfold JR DN
  rw[e]
  simp only[U0a]
  rw[Ht (by simp) Ag (fun t=>.int ((t.2.1-t.1)*t.2.2)) (stand l) (by omega),U0i]
  .rfl
  .intro t ht
   obtain⟨q,hq,rfl,_⟩:=WD ht
   have b1:=h.inn q.1 (U3s hq).1
   have b2:=h.inn q.2 (List.mem_of_mem_tail (U3s hq).2)
   have hm:J7 (q.2.1-q.1.1) q.1.2=true:=by
    unfold J7
    rw[U6i,U0s,decide_eq_true_eq,decide_eq_true_eq]
    left
    constructor<;>omega
   refine⟨[some (.int q.1.1),some (.int q.2.1),some (.int q.1.2)],by simp[Jo,Dq,Hi,G5,Et,U0t,-U0i,-U0l,Ag],?_⟩
   have o1:eOp HW (Ae 1) (Ae 0) [some (.int q.1.1),some (.int q.2.1),some (.int q.1.2)] []=some (.int (q.2.1-q.1.1),[]):=rfl
   have v2:Ae 2 [some (.int q.1.1),some (.int q.2.1),some (.int q.1.2)] []=some (.int q.1.2,[]):=rfl
   rw[BZ,o1,U0a,v2,U0a]
   show U1z _ (if J7 (q.2.1-q.1.1) q.1.2=true then some (D.int ((q.2.1-q.1.1)*q.1.2)) else none)=_
   rw[if_pos hm];rfl
 unfold Ax
 rw[Dn]
 simp only[U0e,U08,U0r,U1n,U1u,U1v,U05,U1k,if_true]
 unfold QL
 have b:eCB Ys (Ac (BK JR) Ah) [some (.lst false (l.map Ad))] []=some (.int (Dk (stand l)),[]):=by
  rw[Ec,Av,Cv,c]
  show U1z _ ((intsOf (((stand l).map fun t=>(t.2.1-t.1)*t.2.2).map D.int)).map fun ns=>D.int ns.sum)=_
  rw[Jv];rfl
 rw[Cm,b]
 simp[den]
def nb(a b:List St2):List Int:=Fq (a.map (·.1)++b.map (·.1))
theorem Sd{a b:List St2}(ha:a.length<=300)(hb:b.length<=300):(nb a b).length<=600:=by
 have q:=(SetP.G6 (a.map (·.1)++b.map (·.1))).2.1
 unfold nb Fq
 rw[(U2k _ _).length_eq]
 simp at q
 omega
theorem Gm{l:List St2}(h:SkB l):Hs (stand l):=⟨by have:=Fi l;have:=h.ok.few;omega,fun t ht=>by
 obtain⟨q,hq,rfl,h2⟩:=WD ht
 have b1:=h.inn q.1 (U3s hq).1
 have b2:=h.inn q.2 (List.mem_of_mem_tail (U3s hq).2)
 have:=(h.ok.adj q hq).1
 show q.1.1<q.2.1/\1<=q.1.2/\q.1.2<=1000000000/\-1000000000<=q.1.1/\q.2.1<=1000000000
 simp only at h2
 omega⟩
theorem jj{a b:List St2}(ha:SkB a)(hb:SkB b):CK [.lst false (a.map Ad),.lst false (b.map Ad)]=some (.lst true ((nb a b).map fun x=>Ag (x,hgt (stand a) x,hgt (stand b) x))):=by
 have fa:=ha.ok.few
 have fb:=hb.ok.few
 have nl:=Sd fa fb
 have q:=(SetP.G6 (a.map (·.1)++b.map (·.1))).2.1
 have hlen:(a.map (·.1)++b.map (·.1)).length<=600:=by simp;omega
 have c1:Ao Bu (Ac (Ae 0) Ah) [some (.lst false (a.map Ad)),some (.lst false (b.map Ad)),none,none,none] []=some (.non,[]) :=
  Bm (ds:=[.lst false (a.map Ad)]) (es:=[.lst false (a.map Ad)]) rfl (Ds ..) (Ek ..) (Rf ha.ok)
 have c2:Ao Bu (Ac (Ae 1) Ah) [some (.lst false (a.map Ad)),some (.lst false (b.map Ad)),none,none,none] []=some (.non,[]) :=
  Bm (ds:=[.lst false (b.map Ad)]) (es:=[.lst false (b.map Ad)]) rfl (Ds ..) (Ek ..) (Rf hb.ok)
 have c3:Ao Bq (Ac (Ae 0) Ah) [some (.lst false (a.map Ad)),some (.lst false (b.map Ad)),none,none,none] []=some (.lst true ((stand a).map Ag),[]) :=
  Bm (ds:=[.lst false (a.map Ad)]) (es:=[.lst false (a.map Ad)]) rfl (Ds ..) (Ek ..) (Ra a (by omega))
 have c4:Ao Bq (Ac (Ae 1) Ah) [some (.lst false (a.map Ad)),some (.lst false (b.map Ad)),some (.lst true ((stand a).map Ag)),none,none] []=some (.lst true ((stand b).map Ag),[]) :=
  Bm (ds:=[.lst false (b.map Ad)]) (es:=[.lst false (b.map Ad)]) rfl (Ds ..) (Ek ..) (Ra b (by omega))
 have s1:(HS (Ao Bu (Ac (Ae 0) Ah))) [some (.lst false (a.map Ad)),some (.lst false (b.map Ad)),none,none,none] []=some (.nx,[some (.lst false (a.map Ad)),some (.lst false (b.map Ad)),none,none,none],[]):=by rw[Lr,c1];rfl
 have s2:(HS (Ao Bu (Ac (Ae 1) Ah))) [some (.lst false (a.map Ad)),some (.lst false (b.map Ad)),none,none,none] []=some (.nx,[some (.lst false (a.map Ad)),some (.lst false (b.map Ad)),none,none,none],[]):=by rw[Lr,c2];rfl
 have s3:(Bk 2 (Ao Bq (Ac (Ae 0) Ah))) [some (.lst false (a.map Ad)),some (.lst false (b.map Ad)),none,none,none] []=some (.nx,[some (.lst false (a.map Ad)),some (.lst false (b.map Ad)),some (.lst true ((stand a).map Ag)),none,none],[]):=by rw[Cd,c3];rfl
 have s4:(Bk 3 (Ao Bq (Ac (Ae 1) Ah))) [some (.lst false (a.map Ad)),some (.lst false (b.map Ad)),some (.lst true ((stand a).map Ag)),none,none] []=some (.nx,[some (.lst false (a.map Ad)),some (.lst false (b.map Ad)),some (.lst true ((stand a).map Ag)),some (.lst true ((stand b).map Ag)),none],[]):=by rw[Cd,c4];rfl
 have c5:Gj [some (.lst false (a.map Ad)),some (.lst false (b.map Ad)),some (.lst true ((stand a).map Ag)),some (.lst true ((stand b).map Ag)),none] []=some ((a.map (·.1)++b.map (·.1)).map .int,[]):=by
  have e:Dh (eOp Br (Ae 0) (Ae 1)) [some (.lst false (a.map Ad)),some (.lst false (b.map Ad)),some (.lst true ((stand a).map Ag)),some (.lst true ((stand b).map Ag)),none] []=some (((a++b).map Ad,[]),[]):=by
   have o:eOp Br (Ae 0) (Ae 1) [some (.lst false (a.map Ad)),some (.lst false (b.map Ad)),some (.lst true ((stand a).map Ag)),some (.lst true ((stand b).map Ag)),none] []=some (.lst true ((a++b).map Ad),[]):=by
    show U1z _ (if (a.map Ad).length+(b.map Ad).length<=1000000 then some (D.lst true (a.map Ad++b.map Ad)) else none)=_
    rw[if_pos (by rw[U0f,U0f];omega),←U19];rfl
   rw[Jh,o];rfl
  unfold Gj DN
  rw[e]
  simp only[U0a]
  rw[Ht (by simp) Ad (fun p=>.int p.1) (a++b) (by rw[U0h];omega),←U19,U0i]
  .rfl
  .intro p hp
   exact⟨[some (.int p.1),some (.int p.2)],by simp[Jo,Dq,Hi,G5,Et,U0t,-U0i,-U0l,Ad],rfl⟩
 have s5:(Bk 4 (Im (BK Gj))) [some (.lst false (a.map Ad)),some (.lst false (b.map Ad)),some (.lst true ((stand a).map Ag)),some (.lst true ((stand b).map Ag)),none] []=some (.nx,[some (.lst false (a.map Ad)),some (.lst false (b.map Ad)),some (.lst true ((stand a).map Ag)),some (.lst true ((stand b).map Ag)),some (.lst true ((nb a b).map .int))],[]):=by
  rw[Cd,QS,Cv,c5]
  show((intsOf ((a.map (·.1)++b.map (·.1)).map D.int)).bind _).bind _=_
  rw[Jv,U0a,if_pos ⟨by omega,by omega⟩]
  rfl
 have c6:Ip [some (.lst false (a.map Ad)),some (.lst false (b.map Ad)),some (.lst true ((stand a).map Ag)),some (.lst true ((stand b).map Ag)),some (.lst true ((nb a b).map .int))] []=some ((nb a b).map fun x=>Ag (x,hgt (stand a) x,hgt (stand b) x),[]):=by
  have e:Dh (Ae 4) [some (.lst false (a.map Ad)),some (.lst false (b.map Ad)),some (.lst true ((stand a).map Ag)),some (.lst true ((stand b).map Ag)),some (.lst true ((nb a b).map .int))] []=some (((nb a b).map .int,[]),[]):=rfl
  have ec:Jo 1 [2,3] [some (.lst false (a.map Ad)),some (.lst false (b.map Ad)),some (.lst true ((stand a).map Ag)),some (.lst true ((stand b).map Ag)),some (.lst true ((nb a b).map .int))]=[none,some (.lst true ((stand a).map Ag)),some (.lst true ((stand b).map Ag))]:=rfl
  unfold Ip DN
  rw[e,ec]
  simp only[U0a]
  rw[Ht (by simp) D.int (fun x=>Ag (x,hgt (stand a) x,hgt (stand b) x)) (nb a b) (by omega)]
  intro x hx
  refine⟨[some (.int x),some (.lst true ((stand a).map Ag)),some (.lst true ((stand b).map Ag))],by simp[Dq,-U0i,-U0l],?_⟩
  have d1:Ao Eb (Ac (Ae 1) (Ac (Ae 0) Ah)) [some (.int x),some (.lst true ((stand a).map Ag)),some (.lst true ((stand b).map Ag))] []=some (.int (hgt (stand a) x),[]) :=
   Bm (ds:=[.lst true ((stand a).map Ag),.int x]) (es:=[.lst false ((stand a).map Ag),.int x]) rfl (YK ..) (aD ..) (Y9 (Gm ha) x)
  have d2:Ao Eb (Ac (Ae 2) (Ac (Ae 0) Ah)) [some (.int x),some (.lst true ((stand a).map Ag)),some (.lst true ((stand b).map Ag))] []=some (.int (hgt (stand b) x),[]) :=
   Bm (ds:=[.lst true ((stand b).map Ag),.int x]) (es:=[.lst false ((stand b).map Ag),.int x]) rfl (YK ..) (aD ..) (Y9 (Gm hb) x)
  have v0:Ae 0 [some (.int x),some (.lst true ((stand a).map Ag)),some (.lst true ((stand b).map Ag))] []=some (.int x,[]):=rfl
  rw[Ir,Av,v0,U0a,Av,d1,U0a,Av,d2];rfl
 unfold CK
 rw[Dn]
 simp only[U0e,U08,U0r,U1n,U1u,U1v,U0t,U05,U18,U1x,if_true]
 unfold Lb
 rw[Bd s1,Bd s2,Bd s3,Bd s4,Bd s5,Cm,Cv,c6]
 have hp:Bh ((nb a b).map fun x=>Ag (x,hgt (stand a) x,hgt (stand b) x))=true:=BX (HF _ fun x _=>Ud _)
 show den 0 _ (.lst true _)=_
 rw[den,CN 0 _ hp];rfl
end W30
end
section
namespace W30
open PySem L2 VS
theorem iQ(a b:List St2):Bh [.lst false (a.map Ad),.lst false (b.map Ad)]=true:=by simp[Bh,Bx,BX (Dj a),BX (Dj b)]
theorem p7(a b:List St2):Cr [.lst false (a.map Ad),.lst false (b.map Ad)]=[.lst false (a.map Ad),.lst false (b.map Ad)]:=by simp[Cr,age,El (Dj a),El (Dj b)]
def hi2(a b:List St2)(x:Int):Int:=max (hgt (stand a) x) (hgt (stand b) x)
def lo2(a b:List St2)(x:Int):Int:=min (hgt (stand a) x) (hgt (stand b) x)
theorem aC{a b:List St2}(ha:SkB a)(hb:SkB b){e:BP}{F:Int->Int}(he:∀x,e [some (.int x),some (.int (hgt (stand a) x)),some (.int (hgt (stand b) x))] []=some (.int (F x),[])):DN 3 [] (Dh (Ao CK (Ac (Ae 0) (Ac (Ae 1) Ah)))) (Pat.sem (.tp [(.nm 0),(.nm 1),(.nm 2)])) HJ (Ce (Ac (Ae 0) (Ac e Ah))) [some (.lst false (a.map Ad)),some (.lst false (b.map Ad))] []=some (((nb a b).map fun x=>(x,F x)).map Ad,[]):=by
 have nl:=Sd ha.ok.few hb.ok.few
 have c:Ao CK (Ac (Ae 0) (Ac (Ae 1) Ah)) [some (.lst false (a.map Ad)),some (.lst false (b.map Ad))] []=some (.lst true ((nb a b).map fun x=>Ag (x,hgt (stand a) x,hgt (stand b) x)),[]) :=
  Bm (ds:=[.lst false (a.map Ad),.lst false (b.map Ad)]) (es:=[.lst false (a.map Ad),.lst false (b.map Ad)]) rfl (iQ ..) (p7 ..) (jj ha hb)
 have i:Dh (Ao CK (Ac (Ae 0) (Ac (Ae 1) Ah))) [some (.lst false (a.map Ad)),some (.lst false (b.map Ad))] []=some (((nb a b).map fun x=>Ag (x,hgt (stand a) x,hgt (stand b) x),[]),[]):=by rw[Jh,c];rfl
 unfold DN
 rw[i]
 simp only[U0a]
 rw[Ht (by simp) (fun x=>Ag (x,hgt (stand a) x,hgt (stand b) x)) (fun x=>Ad (x,F x)) (nb a b) (by omega),U0i]
 .rfl
 .intro x hx
  refine⟨[some (.int x),some (.int (hgt (stand a) x)),some (.int (hgt (stand b) x))],by simp[Jo,Dq,Hi,G5,Et,U0t,-U0i,-U0l,Ag],?_⟩
  have v0:Ae 0 [some (.int x),some (.int (hgt (stand a) x)),some (.int (hgt (stand b) x))] []=some (.int x,[]):=rfl
  rw[Ir,Av,v0,U0a,Av,he];rfl
theorem Wt{l:List St2}(hl:l.length<=900){c:Bl}{r:VS.Env}(hc:c r []=some (l.map Ad,[])):Ao DQ (Ac (BK c) Ah) r []=some (.lst true ((l.foldl Cw ([],0)).1.map Ad),[]) :=
 Bm (ds:=[.lst true (l.map Ad)]) (es:=[.lst false (l.map Ad)]) (by rw[Av,Cv,hc];rfl) (Ds ..) (Ek ..) (Zd l hl)
theorem bG{a b:List St2}(ha:SkB a)(hb:SkB b):Dz [.lst false (a.map Ad),.lst false (b.map Ad)]=some (.lst true ((chg (hi2 a b) (nb a b)).map Ad)):=by
 have nl:=Sd ha.ok.few hb.ok.few
 have c:QG [some (.lst false (a.map Ad)),some (.lst false (b.map Ad))] []=some (((nb a b).map fun x=>(x,hi2 a b x)).map Ad,[]):=aC ha hb fun x=>by
  unfold hi2
  simp[Cq,Cz,Av,Ec,Jp,-U0i,-U0l]
  omega
 unfold Dz
 rw[Dn]
 simp only[U0e,U08,U0r,U1n,U1u,U1v,U05,U1k,if_true]
 unfold RM
 rw[Cm,Wt (by rw[U0f];omega) c]
 show den 0 _ (.lst true _)=_
 rw[den,CN 0 _ (BX (Dj _))];rfl
theorem Wd{a b:List St2}(ha:SkB a)(hb:SkB b):Dd [.lst false (a.map Ad),.lst false (b.map Ad)]=some (.lst true ((chg (lo2 a b) (nb a b)).map Ad)):=by
 have nl:=Sd ha.ok.few hb.ok.few
 have c:R0 [some (.lst false (a.map Ad)),some (.lst false (b.map Ad))] []=some (((nb a b).map fun x=>(x,lo2 a b x)).map Ad,[]):=aC ha hb fun x=>by
  unfold lo2
  simp[Cq,Cz,Av,Ec,Ft,-U0i,-U0l]
  omega
 unfold Dd
 rw[Dn]
 simp only[U0e,U08,U0r,U1n,U1u,U1v,U05,U1k,if_true]
 unfold T9
 rw[Cm,Wt (by rw[U0f];omega) c]
 show den 0 _ (.lst true _)=_
 rw[den,CN 0 _ (BX (Dj _))];rfl
theorem W2{f:Int->Int}{E:List Int}{A B:Int}(h:Chg f E A B)(hf:∀x,0<=f x/\f x<=1000000000)(hl:E.length<=300)(hA:-1000000000<=A+1)(hB:B<=1000000000):SkB (chg f E):=by
 have hp:=h.pts
 have pl:(pts f E).length<=E.length:=U47 ..
 have lk:=hp.link
 rw[Kq h]
 have ch:∀x∈pts f E,f x≠f (x-1):=fun x hx=>of_decide_eq_true (U1s.mp hx).2
 refine⟨⟨by rw[U0f];omega,fun p hpm=>?_,fun p hh=>?_,fun p hh=>?_,fun q hq=>?_⟩,fun p hpm=>?_⟩
 .obtain⟨x,_,rfl⟩:=U1r.mp hpm
  exact(hf x).1
 .cases e:pts f E with
  |nil=>rw[e] at hh;simp at hh
  |cons x r =>
   rw[e] at hh lk
   simp at hh
   subst hh
   have:=ch x (by rw[e];exact U0p)
   show f x≠0
   rw[←lk.1]
   exact this
 .rcases U6d (pts f E) with k|⟨r,x,k⟩
  .rw[k] at hh;simp at hh
  .rw[U6e] at k
   rw[k] at hh
   simp at hh
   subst hh
   show f x=0
   have hx:x<=B:=(hp.inn x (by rw[k];simp)).2
   rw[←Jf (f:=f) hx fun e k1 k2=>?_]
   .exact h.high B (U2n _)
   .by_cases v:f e=f (e-1)
    .exact v
    .have he:=hp.all e v
     have hr:=hp.rise
     rw[k] at he hr
     rcases U1e.mp he with w|w
     .have:=(U1g.mp hr).2.2 e w x U0p
      omega
     .rw[U1f.mp w] at k1
      omega
 .rw[←U7q,RW] at hq
  obtain⟨p,hps,rfl⟩:=U1r.mp hq
  have hps:p∈steps (pts f E):=hps
  obtain⟨g1,g2,g3,g4⟩:=Mz hp.rise p hps
  refine⟨g1,fun z=>?_⟩
  have c1:=ch p.2 g3
  have c2:=Le hp hps (x:=p.2-1) (by omega) (by omega)
  have z:f p.1=f p.2:=z
  omega
 .obtain⟨x,hx,rfl⟩:=U1r.mp hpm
  have:=hp.inn x hx
  have:=hf x
  show -1000000000<=x/\x<=1000000000/\f x<=1000000000
  omega
end W30
end
section
namespace W30
open PySem L2 VS
theorem Dr{hs:List T3}(h:Hs hs):Chg (hgt hs) (ends hs) (-1000000001) 1000000000:=by
 refine⟨bJ hs,fun x z=>?_,fun x hx=>Yd fun t ht w=>?_,fun x hx=>Yd fun t ht w=>?_,fun x hx=>?_⟩
 .by_cases k:x∈ends hs
  .exact k
  .refine absurd (eY (hs:=hs) (x:=x-1) (y:=x) (by omega) fun e he w=>k ?_) z
   rw[show x=e by omega];exact he
 .have:=h.all t ht;omega
 .have:=h.all t ht;omega
 .obtain⟨t,ht,k⟩:=Rt.mp hx
  have:=h.all t ht
  omega
theorem Vq(hs:List T3):sky hs=chg (hgt hs) (ends hs):=rfl
theorem Kh{hs:List T3}(h:Hs hs)(hl:hs.length<=150):SkB (sky hs):=by
 refine W2 (Dr h) (Ji h) ?_ (by decide) (by decide)
 have q:=(SetP.G6 (hs.map (·.1)++hs.map (·.2.1))).2.1
 unfold ends Fq
 rw[(U2k _ _).length_eq]
 simp at q
 omega
theorem Ga{hs:List T3}(h:Hs hs)(hl:hs.length<=150)(x:Int):hgt (stand (sky hs)) x=hgt hs x :=
 bI (Dr h) (fun x=>(Ji h x).1) (Gm (Kh h hl)) x
theorem Jy(l:List St2)(hl:l.length<=1000):Bj [.lst false (l.map Ad)]=some (.lst true ((stand l).map Ag)):=by
 have e:=RV (m:=false) l [some (.lst false (l.map Ad))] [] 0 rfl
 have hz:(l.zip l.tail).length<=l.length:=by rw[U5k];omega
 have c:Mr [some (.lst false (l.map Ad))] []=some ((stand l).map Ag,[]):=by
  unfold Mr DN
  rw[e]
  simp only[U0a]
  rw[Lz (by simp) (fun q:St2×St2=>D.tup [Ad q.1,Ad q.2]) (fun q=>decide (0<q.1.2)) (fun q=>Ag (q.1.1,q.2.1,q.1.2)) (l.zip l.tail) [] (by simp;omega)]
  .unfold stand
   rw[U1x,List.filter_map,U0i];rfl
  .intro q hq
   exact⟨[some (Ad q.1),some (Ad q.2)],by simp[Jo,Dq,Hi,G5,Et,U0t,-U0i,-U0l],by simp[Cq,IW,BZ,Dm,oI,Ie,oGt,oIx,VS.listOf,G9,-U0i,-U0l,Ad],fun _=>by simp[Cq,IW,BZ,Cz,Av,Ir,oIx,VS.listOf,G9,-U0i,-U0l,Ad,Ag]⟩
 unfold Bj
 rw[Dn]
 simp only[U0e,U08,U0r,U1n,U1u,U1v,U05,U1k,if_true]
 unfold RK
 rw[Cm,Cv,c]
 show den 0 _ (.lst true _)=_
 rw[den,CN 0 _ (BX (G7 _))];rfl
theorem Ye{a b:List T3}(h:Hs (a++b))(ha:Hs a)(hb:Hs b)(x:Int):hgt (a++b) x=max (hgt a x) (hgt b x):=by
 symm
 have tp:Ei (a++b) x=Ei a x++Ei b x:=by unfold Ei;rw[List.filter_append,U19]
 have s:∀{l:List T3},Hs l->(hgt l x=0∨hgt l x∈Ei l x)/\0<=hgt l x/\∀n∈Ei l x,n<=hgt l x:=fun {l} hl=>by
  have:=Ro hl x
  obtain⟨a1,a2,a3⟩:=Vf x l 0
  rw[this] at a1 a2 a3
  exact⟨a2,a1,a3⟩
 obtain⟨a1,a2,a3⟩:=s ha
 obtain⟨b1,b2,b3⟩:=s hb
 refine Vz h ?_ (by omega) fun n hn=>?_
 .rw[tp]
  rcases Int.le_total (hgt a x) (hgt b x) with z|z
  .rw[Int.max_eq_right z]
   exact b1.imp id (U0x _)
  .rw[Int.max_eq_left z]
   exact a1.imp id (U2h _)
 .rw[tp] at hn
  rcases U1e.mp hn with k|k
  .have:=a3 n k;omega
  .have:=b3 n k;omega
end W30
end
section
namespace W30
open PySem L2 VS
theorem YS(a b:List St2):(nb a b).Pairwise (·<·):=T5 _
theorem Zu{a b:List St2}{x:Int}:x∈nb a b↔x∈a.map (·.1)∨x∈b.map (·.1):=by
 unfold nb Fq
 rw[(U2k _ _).mem_iff,(SetP.G6 _).2.2,U1e]
theorem Ln{f g:Int->Int}{E F:List Int}{A B:Int}(hf:Chg f E A B)(hg:Chg g F A B)(op:Int->Int->Int)(h0:op 0 0=0):Chg (fun x=>op (f x) (g x)) (nb (chg f E) (chg g F)) A B:=by
 have hp:=hf.pts
 have hq:=hg.pts
 have m:∀x,x∈nb (chg f E) (chg g F)↔x∈pts f E∨x∈pts g F:=fun x=>by
  rw[Zu,Kq hf,Kq hg,U0i,U0i]
  have:((fun p:St2=>p.1)∘fun x:Int=>(x,f x))=id:=rfl
  have k:((fun p:St2=>p.1)∘fun x:Int=>(x,g x))=id:=rfl
  rw[this,k,List.map_id,List.map_id]
 refine⟨YS _ _,fun x z=>?_,fun x hx=>?_,fun x hx=>?_,fun x hx=>?_⟩
 .rw[m]
  by_cases k:f x=f (x-1)
  .by_cases l:g x=g (x-1)
   .exact absurd (by show op (f x) (g x)=op (f (x-1)) (g (x-1));rw[k,l]) z
   .exact .inr (hq.all x l)
  .exact .inl (hp.all x k)
 .show op (f x) (g x)=0
  rw[hf.low x hx,hg.low x hx,h0]
 .show op (f x) (g x)=0
  rw[hf.high x hx,hg.high x hx,h0]
 .rcases(m x).mp hx with k|k
  .exact hp.inn x k
  .exact hq.inn x k
theorem Xx{hs ks:List T3}(h:Hs hs)(k:Hs ks)(hl:hs.length<=100)(kl:ks.length<=100):sky (stand (sky hs)++stand (sky ks))=chg (hi2 (sky hs) (sky ks)) (nb (sky hs) (sky ks)):=by
 have sh:=Gm (Kh h (by omega))
 have sk:=Gm (Kh k (by omega))
 have l1:=Fi (sky hs)
 have l2:=Fi (sky ks)
 have f1:=(Kh h (by omega)).ok.few
 have e1:∀{l:List T3},l.length<=100->(sky l).length<=200:=fun {l} hl=>by
  have:=Py ((ends l).map fun x=>(x,hgt l x)) ([],0)
  have q:=(SetP.G6 (l.map (·.1)++l.map (·.2.1))).2.1
  have e:(ends l).length<=200:=by
   unfold ends Fq
   rw[(U2k _ _).length_eq]
   simp at q
   omega
  unfold sky
  simp at *
  omega
 have sb:Hs (stand (sky hs)++stand (sky ks)):=⟨by have:=e1 hl;have:=e1 kl;rw[U0h];omega,fun t ht=>by
  rcases U1e.mp ht with w|w
  .exact sh.all t w
  .exact sk.all t w⟩
 have ef:hgt (stand (sky hs)++stand (sky ks))=hi2 (sky hs) (sky ks):=funext fun x=>Ye sb sh sk x
 have c1:=Dr sb
 have c2:=Ln (Dr h) (Dr k) max rfl
 rw[Vq,←ef]
 have ef2:(fun x=>max (hgt hs x) (hgt ks x))=hgt (stand (sky hs)++stand (sky ks)):=funext fun x=>by
  rw[Ye sb sh sk,Ga h (by omega),Ga k (by omega)]
 rw[ef2] at c2
 exact Ws c1 c2
end W30
end
section
namespace W30
open PySem L2 VS
def ovl(t u:T3):Bool:=decide (max t.1 u.1<min t.2.1 u.2.1)
def M7(t u:T3):T3:=(max t.1 u.1,min t.2.1 u.2.1,min t.2.2 u.2.2)
def G3(ts us:List T3):List T3:=ts.flatMap fun t=>(us.filter fun u=>ovl t u).map fun u=>M7 t u
theorem Og{ts us:List T3}{v:T3}:v∈G3 ts us↔∃t∈ts,∃u∈us,ovl t u=true/\v=M7 t u:=by
 unfold G3
 rw[List.mem_flatMap]
 constructor
 .rintro⟨t,ht,h⟩
  obtain⟨u,hu,rfl⟩:=U1r.mp h
  obtain⟨h1,h2⟩:=U1s.mp hu
  exact⟨t,ht,u,h1,h2,rfl⟩
 .rintro⟨t,ht,u,hu,h,rfl⟩
  exact⟨t,ht,U1r.mpr ⟨u,U1s.mpr ⟨hu,h⟩,rfl⟩⟩
def Apart(ts:List T3):Prop:=ts.Pairwise fun t u=>t.2.1<=u.1
theorem ak{ts us:List T3}(ht:Apart ts)(hu:Apart us):(G3 ts us).Pairwise fun v w=>v.1<w.1:=by
 unfold G3
 rw[List.pairwise_flatMap]
 refine⟨fun t _=>?_,ht.imp fun {t t'} htt v hv w hw=>?_⟩
 .rw[U63]
  refine(hu.sublist (U4o (p:=fun u=>ovl t u))).imp_of_mem fun {u u'} m1 m2 huu=>?_
  have o1:=of_decide_eq_true (U1s.mp m1).2
  show max t.1 u.1<max t.1 u'.1
  omega
 .obtain⟨u,hu1,rfl⟩:=U1r.mp hv
  obtain⟨u',hu2,rfl⟩:=U1r.mp hw
  have o1:=of_decide_eq_true (U1s.mp hu1).2
  show max t.1 u.1<max t'.1 u'.1
  omega
theorem dj{ts us:List T3}(ht:Apart ts)(hu:Apart us):(G3 ts us).length<=ts.length+us.length:=by
 have hr:=ak ht hu
 have nd:((G3 ts us).map (·.1)).Nodup:=U63.mpr (hr.imp fun h=>(by omega))
 have:=WX (m:=ts.map (·.1)++us.map (·.1)) nd fun x hx=>by
  obtain⟨v,hv,rfl⟩:=U1r.mp hx
  obtain⟨t,h1,u,h2,_,rfl⟩:=Og.mp hv
  rcases Int.le_total t.1 u.1 with z|z
  .refine U0x _ (U1r.mpr ⟨u,h2,?_⟩)
   show u.1=max t.1 u.1
   omega
  .refine U2h _ (U1r.mpr ⟨t,h1,?_⟩)
   show t.1=max t.1 u.1
   omega
 simp only[U0h,U0f] at this
 exact this
theorem Rn{l:List T3}(hl:Hs l)(x:Int):(hgt l x=0∨∃t∈l,t.1<=x/\x<t.2.1/\hgt l x=t.2.2)/\0<=hgt l x/\∀t∈l,t.1<=x->x<t.2.1->t.2.2<=hgt l x:=by
 have:=Ro hl x
 obtain⟨a1,a2,a3⟩:=Vf x l 0
 rw[this] at a1 a2 a3
 refine⟨a2.imp id fun k=>?_,a1,fun t ht k1 k2=>a3 _ (U1r.mpr ⟨t,U1s.mpr ⟨ht,?_⟩,rfl⟩)⟩
 .obtain⟨t,ht,e⟩:=U1r.mp k
  obtain⟨h1,h2⟩:=U1s.mp ht
  unfold inH at h2
  rw[U0s,decide_eq_true_eq,decide_eq_true_eq] at h2
  exact⟨t,h1,h2.1,h2.2,e.symm⟩
 .unfold inH
  rw[U0s,decide_eq_true_eq,decide_eq_true_eq]
  exact⟨k1,k2⟩
theorem YW{ts us:List T3}(ht:Hs ts)(hu:Hs us)(ha:Apart ts)(hb:Apart us)(hl:ts.length+us.length<=400):Hs (G3 ts us):=by
 refine⟨by have:=dj ha hb;omega,fun v hv=>?_⟩
 obtain⟨t,h1,u,h2,o,rfl⟩:=Og.mp hv
 have o:=of_decide_eq_true o
 have a:=ht.all t h1
 have b:=hu.all u h2
 show max t.1 u.1<min t.2.1 u.2.1/\1<=min t.2.2 u.2.2/\min t.2.2 u.2.2<=1000000000/\-1000000000<=max t.1 u.1/\min t.2.1 u.2.1<=1000000000
 omega
theorem Wk{ts us:List T3}(ht:Hs ts)(hu:Hs us)(hv:Hs (G3 ts us))(x:Int):hgt (G3 ts us) x=min (hgt ts x) (hgt us x):=by
 obtain⟨t1,t2,t3⟩:=Rn ht x
 obtain⟨u1,u2,u3⟩:=Rn hu x
 obtain⟨v1,v2,v3⟩:=Rn hv x
 have le:hgt (G3 ts us) x<=min (hgt ts x) (hgt us x):=by
  rcases v1 with z|⟨v,hv',k1,k2,e⟩
  .omega
  .obtain⟨t,h1,u,h2,o,rfl⟩:=Og.mp hv'
   have k1:max t.1 u.1<=x:=k1
   have k2:x<min t.2.1 u.2.1:=k2
   have e:hgt (G3 ts us) x=min t.2.2 u.2.2:=e
   have:=t3 t h1 (by omega) (by omega)
   have:=u3 u h2 (by omega) (by omega)
   omega
 have ge:min (hgt ts x) (hgt us x)<=hgt (G3 ts us) x:=by
  rcases t1 with z|⟨t,h1,k1,k2,e1⟩
  .omega
  .rcases u1 with z|⟨u,h2,k3,k4,e2⟩
   .omega
   .have:=v3 (M7 t u) (Og.mpr ⟨t,h1,u,h2,decide_eq_true (by omega),rfl⟩) (by show max t.1 u.1<=x;omega) (by show x<min t.2.1 u.2.1;omega)
    have:min t.2.2 u.2.2<=hgt (G3 ts us) x:=this
    omega
 omega
end W30
end
section
namespace W30
open PySem L2 VS
theorem Y4(f:Int->Int){C:List Int}(h:C.Pairwise (·<·)):Apart (stand (C.map fun x=>(x,f x))):=by
 unfold Apart
 rw[Rb]
 refine U56.sublist U4o ?_
 rw[U63]
 exact(Um h).up.imp fun h=>h
theorem N5{hs:List T3}(h:Hs hs):Apart (stand (sky hs)):=by
 rw[Vq,Kq (Dr h)]
 exact Y4 _ (Dr h).pts.rise
theorem Qg{l:List T3}{n:Nat}(hl:l.length<=n):(sky l).length<=2*n:=by
 have:=Py ((ends l).map fun x=>(x,hgt l x)) ([],0)
 have q:=(SetP.G6 (l.map (·.1)++l.map (·.2.1))).2.1
 have e:(ends l).length<=2*n:=by
  unfold ends Fq
  rw[(U2k _ _).length_eq]
  simp at q
  omega
 unfold sky
 simp at *
 omega
theorem ZP{hs ks:List T3}(h:Hs hs)(k:Hs ks)(hl:hs.length<=100)(kl:ks.length<=100):sky (G3 (stand (sky hs)) (stand (sky ks)))=chg (lo2 (sky hs) (sky ks)) (nb (sky hs) (sky ks)):=by
 have sh:=Gm (Kh h (by omega))
 have sk:=Gm (Kh k (by omega))
 have l1:=Fi (sky hs)
 have l2:=Fi (sky ks)
 have l3:=Qg hl
 have l4:=Qg kl
 have sb:=YW sh sk (N5 h) (N5 k) (by omega)
 have ef:hgt (G3 (stand (sky hs)) (stand (sky ks)))=lo2 (sky hs) (sky ks):=funext fun x=>Wk sh sk sb x
 have c1:=Dr sb
 have c2:=Ln (Dr h) (Dr k) min rfl
 rw[Vq,←ef]
 have ef2:(fun x=>min (hgt hs x) (hgt ks x))=hgt (G3 (stand (sky hs)) (stand (sky ks))):=funext fun x=>by
  rw[Wk sh sk sb,Ga h (by omega),Ga k (by omega)]
 rw[ef2] at c2
 exact Ws c1 c2
theorem Td(f:Int->Int)(hf:∀x,0<=f x):∀ps:List St2,Dk ((ps.map fun p=>(p.1,p.2,f p.1)).filter fun t=>decide (0<t.2.2))=(ps.map fun p=>(p.2-p.1)*f p.1).sum
 |[]=>rfl
 |p::ps=>by
  rw[U0r,U6a,U0r,U5b,←Td f hf ps]
  by_cases z:0<f p.1
  .rw[if_pos (decide_eq_true z)]
   unfold Dk
   rw[U0r,U5b]
  .rw[if_neg (by rw[decide_eq_false z];decide)]
   have:f p.1=0:=by have:=hf p.1;omega
   rw[this,Int.mul_zero,Int.zero_add]
end W30
end
section
namespace W30
open PySem L2 VS
theorem Chg.j8{f:Int->Int}{E:List Int}{A B:Int}(h:Chg f E A B){x:Int}(hx:∀e∈E,x<e):f x=0:=by
 by_cases z:x<=A
 .exact h.low x z
 .rw[Jf (f:=f) (x:=A) (y:=x) (by omega) fun e k1 k2=>?_]
  .exact h.low A (U2n _)
  .by_cases v:f e=f (e-1)
   .exact v
   .have:=hx e (h.all e v);omega
theorem Chg.dW{f:Int->Int}{E:List Int}{A B:Int}(h:Chg f E A B){x:Int}(hx:∀e∈E,e<=x):f x=0:=by
 by_cases z:B<=x
 .exact h.high x z
 .rw[←Jf (f:=f) (x:=x) (y:=B) (by omega) fun e k1 k2=>?_]
  .exact h.high B (U2n _)
  .by_cases v:f e=f (e-1)
   .exact v
   .have:=hx e (h.all e v);omega
theorem N8{f:Int->Int}{E:List Int}{A B:Int}(h:Chg f E A B)(hf:∀x,0<=f x)(hAB:A<=B):Dk (stand (chg f E))=G4 f A (B-A).toNat:=by
 have hp:=h.pts
 rw[Kq h,Rb,Td f hf]
 refine aJ hp.rise (fun p hps x k1 k2=>Le hp hps k1 k2) (fun x hx=>hp.j8 hx) (fun x hx=>hp.dW hx) fun e he=>?_
 have:=hp.inn e he
 omega
theorem Wj{f g u v:Int->Int}(h:∀x,u x+v x=f x+g x)(a:Int):∀n:Nat,G4 u a n+G4 v a n=G4 f a n+G4 g a n
 |0=>rfl
 |n+1=>by
  have:=Wj h a n
  have:=h (a+n)
  rw[G4,G4,G4,G4]
  omega
theorem Zg{hs ks:List T3}(h:Hs hs)(k:Hs ks)(hl:hs.length<=100)(kl:ks.length<=100):Dk (stand (chg (hi2 (sky hs) (sky ks)) (nb (sky hs) (sky ks))))+Dk (stand (chg (lo2 (sky hs) (sky ks)) (nb (sky hs) (sky ks))))=Dk (stand (sky hs))+Dk (stand (sky ks)):=by
 have c1:=Ln (Dr h) (Dr k) max rfl
 have c2:=Ln (Dr h) (Dr k) min rfl
 have e1:(fun x=>max (hgt hs x) (hgt ks x))=hi2 (sky hs) (sky ks):=funext fun x=>by unfold hi2;rw[Ga h (by omega),Ga k (by omega)]
 have e2:(fun x=>min (hgt hs x) (hgt ks x))=lo2 (sky hs) (sky ks):=funext fun x=>by unfold lo2;rw[Ga h (by omega),Ga k (by omega)]
 have p1:=fun x=>(Ji h x).1
 have p2:=fun x=>(Ji k x).1
 have a1:=N8 c1 (fun x=>by have:=p1 x;have:=p2 x;show 0<=max (hgt hs x) (hgt ks x);omega) (by decide)
 have a2:=N8 c2 (fun x=>by have:=p1 x;have:=p2 x;show 0<=min (hgt hs x) (hgt ks x);omega) (by decide)
 have a3:=N8 (Dr h) p1 (by decide)
 have a4:=N8 (Dr k) p2 (by decide)
 have s:=Wj (f:=hgt hs) (g:=hgt ks) (u:=fun x=>max (hgt hs x) (hgt ks x)) (v:=fun x=>min (hgt hs x) (hgt ks x)) (fun x=>by show max (hgt hs x) (hgt ks x)+min (hgt hs x) (hgt ks x)=_;omega) (-1000000001) (1000000000 - -1000000001:Int).toNat
 rw[←a1,←a2,←a3,←a4] at s
 rw[←e1,←e2]
 exact s
end W30
end
section
namespace W30
open PySem L2 VS
def Z5(l:List St2):Int:=((l.zip l.tail).map fun q=>(q.2.1-q.1.1)*q.1.2).sum
theorem Wy:∀zs:List (St2×St2),(∀q∈zs,0<=q.1.2)->Dk ((zs.map fun q=>(q.1.1,q.2.1,q.1.2)).filter fun t=>decide (0<t.2.2))=(zs.map fun q=>(q.2.1-q.1.1)*q.1.2).sum
 |[],_=>rfl
 |q::zs,h=>by
  rw[U0r,U6a,U0r,U5b,←Wy zs fun p hp=>h p (U0n _ hp)]
  by_cases z:0<q.1.2
  .rw[if_pos (decide_eq_true z)]
   unfold Dk
   rw[U0r,U5b]
  .rw[if_neg (by rw[decide_eq_false z];decide)]
   have:q.1.2=0:=by have:=h q U0p;omega
   rw[this,Int.mul_zero,Int.zero_add]
theorem jl{l:List St2}(h:Vm l):Z5 l=Dk (stand l):=by
 unfold Z5 stand
 rw[Wy _ fun q hq=>h.hts q.1 (U3s hq).1]
theorem Wg{l:List St2}(h:SkB l):Df [.lst false (l.map Ad)]=some (.int (Dk (stand l))):=by
 have few:=h.ok.few
 rw[←jl h.ok]
 have s1:(Bk 1 (eC (.int 0))) [some (.lst false (l.map Ad)),none,none] []=some (.nx,[some (.lst false (l.map Ad)),some (.int 0),none],[]):=rfl
 have e:O5 (Ac (eC (.int 1)) (Ac (eCB K3 (Ac (Ae 0) Ah)) Ah)) [some (.lst false (l.map Ad)),some (.int 0),none] []=some ((upD 1 (l.length-1),[]),[]):=mU (i:=1) (j:=l.length) _ (by
  show(some ([D.int 1,D.int ((l.map Ad).length:Nat)],[]):Option (List D×Store))=_
  rw[U0f]) (by omega) (by unfold r62;omega) (by unfold r62;omega)
 obtain⟨env',S',e2,y2,he,hS⟩:=Gn (w:=[]) (g:=Pat.sem (.nm 2)) (b:=Kf) (ds:=upD 1 (l.length-1)) (env:=[some (.lst false (l.map Ad)),some (.int 0),none]) (S:=[])
  (fun i env S=>∃y2:Option D,env=[some (.lst false (l.map Ad)),some (.int (((l.zip l.tail).take i).map fun q=>(q.2.1-q.1.1)*q.1.2).sum),y2]/\S=[])
  ⟨none,rfl,rfl⟩ (fun i env S _=>by simp) (fun i d env S hd q=>by
   obtain⟨y2,he,hS⟩:=q
   obtain⟨hi,rfl⟩:=Tz hd
   subst he hS
   have i0:i<l.length:=by omega
   have i1:i+1<l.length:=by omega
   have hz:(l.zip l.tail)[i]?=some (l[i],l[i+1]):=by
    rw[U02 (by simp;omega),List.getElem_zip,List.getElem_tail]
   obtain⟨A,hA⟩:∃A:Int,A=(((l.zip l.tail).take i).map fun q=>(q.2.1-q.1.1)*q.1.2).sum:=⟨_,rfl⟩
   rw[←hA]
   have b1:=h.inn l[i] (U4i i0)
   have b2:=h.inn l[i+1] (U4i i1)
   have v0:Ae 0 [some (.lst false (l.map Ad)),some (.int A),some (.int (1+(i:Int)))] []=some (.lst false (l.map Ad),[]):=rfl
   have v2:Ae 2 [some (.lst false (l.map Ad)),some (.int A),some (.int (1+(i:Int)))] []=some (.int ((i+1:Nat):Int),[]):=by
    rw[show((i+1:Nat):Int)=1+(i:Int) by omega];rfl
   have o1:eOp HW (Ae 2) (eC (.int 1)) [some (.lst false (l.map Ad)),some (.int A),some (.int (1+(i:Int)))] []=some (.int i,[]):=by
    show(some (D.int (1+(i:Int)-1),_):Option (D×Store))=_
    rw[show 1+(i:Int)-1=i by omega]
   have x1:eOp oIx (Ae 0) (Ae 2) [some (.lst false (l.map Ad)),some (.int A),some (.int (1+(i:Int)))] []=some (Ad l[i+1],[]):=by
    rw[BZ,v0,U0a,v2,U0a]
    show U1z _ (atI (l.map Ad) ((i+1:Nat):Int))=_
    rw[Qq (v:=Ad l[i+1]) (by rw[U0y,U02 i1];rfl)];rfl
   have x0:eOp oIx (Ae 0) (eOp HW (Ae 2) (eC (.int 1))) [some (.lst false (l.map Ad)),some (.int A),some (.int (1+(i:Int)))] []=some (Ad l[i],[]):=by
    rw[BZ,v0,U0a,o1,U0a]
    show U1z _ (atI (l.map Ad) (i:Int))=_
    rw[Qq (v:=Ad l[i]) (by rw[U0y,U02 i0];rfl)];rfl
   have y1:eOp oIx (eOp oIx (Ae 0) (Ae 2)) (eC (.int 0)) [some (.lst false (l.map Ad)),some (.int A),some (.int (1+(i:Int)))] []=some (.int l[i+1].1,[]):=by rw[BZ,x1];rfl
   have y0:eOp oIx (eOp oIx (Ae 0) (eOp HW (Ae 2) (eC (.int 1)))) (eC (.int 0)) [some (.lst false (l.map Ad)),some (.int A),some (.int (1+(i:Int)))] []=some (.int l[i].1,[]):=by rw[BZ,x0];rfl
   have y3:eOp oIx (eOp oIx (Ae 0) (eOp HW (Ae 2) (eC (.int 1)))) (eC (.int 1)) [some (.lst false (l.map Ad)),some (.int A),some (.int (1+(i:Int)))] []=some (.int l[i].2,[]):=by rw[BZ,x0];rfl
   have d1:eOp HW (eOp oIx (eOp oIx (Ae 0) (Ae 2)) (eC (.int 0))) (eOp oIx (eOp oIx (Ae 0) (eOp HW (Ae 2) (eC (.int 1)))) (eC (.int 0))) [some (.lst false (l.map Ad)),some (.int A),some (.int (1+(i:Int)))] []=some (.int (l[i+1].1-l[i].1),[]):=by rw[BZ,y1,U0a,y0];rfl
   have hm:J7 (l[i+1].1-l[i].1) l[i].2=true:=by
    unfold J7
    rw[U6i,U0s,decide_eq_true_eq,decide_eq_true_eq]
    left
    constructor<;>omega
   have d2:eOp Gk (eOp HW (eOp oIx (eOp oIx (Ae 0) (Ae 2)) (eC (.int 0))) (eOp oIx (eOp oIx (Ae 0) (eOp HW (Ae 2) (eC (.int 1)))) (eC (.int 0)))) (eOp oIx (eOp oIx (Ae 0) (eOp HW (Ae 2) (eC (.int 1)))) (eC (.int 1))) [some (.lst false (l.map Ad)),some (.int A),some (.int (1+(i:Int)))] []=some (.int ((l[i+1].1-l[i].1)*l[i].2),[]):=by
    rw[BZ,d1,U0a,y3,U0a]
    show U1z _ (if J7 (l[i+1].1-l[i].1) l[i].2=true then some (D.int ((l[i+1].1-l[i].1)*l[i].2)) else none)=_
    rw[if_pos hm];rfl
   have v1:Ae 1 [some (.lst false (l.map Ad)),some (.int A),some (.int (1+(i:Int)))] []=some (.int A,[]):=rfl
   refine⟨_,Dq _ _ _,[some (.lst false (l.map Ad)),some (.int (A+(l[i+1].1-l[i].1)*l[i].2)),some (.int (1+(i:Int)))],[],?_,some (.int (1+(i:Int))),?_,rfl⟩
   .show Kf [some (.lst false (l.map Ad)),some (.int A),some (.int (1+(i:Int)))] []=_
    unfold Kf
    rw[Cd,BZ,v1,U0a,d2];rfl
   .rw[U4g,hz,U3p,U19,List.sum_append,←hA,U0r,U1n,U5b,List.sum_nil,Int.add_zero])
 subst he hS
 have hk:(l.zip l.tail).take (l.length-1)=l.zip l.tail:=U17 (by simp)
 rw[Tw,hk] at e2
 have l1:Nk [some (.lst false (l.map Ad)),some (.int 0),none] []=some (.nx,[some (.lst false (l.map Ad)),some (.int (Z5 l)),y2],[]):=by
  unfold Nk
  rw[Hq,e]
  exact e2
 unfold Df
 rw[Dn]
 simp only[U0e,U08,U0r,U1n,U1u,U1v,U0t,U05,U18,U1x,if_true]
 unfold TJ
 rw[Bd s1,Bd l1]
 simp[Cm,Cq,den,-U0i,-U0l]
end W30
end
section
namespace W30
open PySem L2 VS
theorem nu(t u:T3)(acc:List T3)(hl:acc.length<100000)(e0 e1:Option D):Jx [e0,e1,some (.ref 0),some (.int t.1),some (.int t.2.1),some (.int t.2.2),some (.int u.1),some (.int u.2.1),some (.int u.2.2)] [some (acc.map Ag)]=some (.nx,[e0,e1,some (.ref 0),some (.int t.1),some (.int t.2.1),some (.int t.2.2),some (.int u.1),some (.int u.2.1),some (.int u.2.2)],[some ((acc++([u].filter fun u=>ovl t u).map fun u=>M7 t u).map Ag)]):=by
 have m1:eCB Jp (Ac (Ae 3) (Ac (Ae 6) Ah)) [e0,e1,some (.ref 0),some (.int t.1),some (.int t.2.1),some (.int t.2.2),some (.int u.1),some (.int u.2.1),some (.int u.2.2)] [some (acc.map Ag)]=some (.int (max t.1 u.1),[some (acc.map Ag)]):=by
  simp[Cq,Cz,Av,Ec,Jp,-U0i,-U0l]
  omega
 have m2:eCB Ft (Ac (Ae 4) (Ac (Ae 7) Ah)) [e0,e1,some (.ref 0),some (.int t.1),some (.int t.2.1),some (.int t.2.2),some (.int u.1),some (.int u.2.1),some (.int u.2.2)] [some (acc.map Ag)]=some (.int (min t.2.1 u.2.1),[some (acc.map Ag)]):=by
  simp[Cq,Cz,Av,Ec,Ft,-U0i,-U0l]
  omega
 have m3:eCB Ft (Ac (Ae 5) (Ac (Ae 8) Ah)) [e0,e1,some (.ref 0),some (.int t.1),some (.int t.2.1),some (.int t.2.2),some (.int u.1),some (.int u.2.1),some (.int u.2.2)] [some (acc.map Ag)]=some (.int (min t.2.2 u.2.2),[some (acc.map Ag)]):=by
  simp[Cq,Cz,Av,Ec,Ft,-U0i,-U0l]
  omega
 have t1:Bv (eOp oLt (eCB Jp (Ac (Ae 3) (Ac (Ae 6) Ah))) (eCB Ft (Ac (Ae 4) (Ac (Ae 7) Ah)))) [e0,e1,some (.ref 0),some (.int t.1),some (.int t.2.1),some (.int t.2.2),some (.int u.1),some (.int u.2.1),some (.int u.2.2)] [some (acc.map Ag)]=some (ovl t u,[some (acc.map Ag)]):=by
  rw[Dm,BZ,m1,U0a,m2];rfl
 unfold Jx
 cases z:ovl t u with
 |false =>
  rw[z] at t1
  rw[IV t1]
  simp[z,Lq,-U0i,-U0l]
 |true =>
  rw[z] at t1
  have e:([u].filter fun u=>ovl t u).map (fun u=>M7 t u)=[M7 t u]:=by simp[z]
  rw[Kp t1,e,U19]
  refine M4 (i:=0) (l:=acc.map Ag) (d:=Ag (M7 t u)) rfl rfl ?_ (by rw[U0f];omega) rfl
  rw[Ir,Av,m1,U0a,Av,m2,U0a,Av,m3];rfl
theorem nq{b:List St2}(hb:b.length<=300)(t:T3)(acc:List T3)(hl:acc.length+b.length<100000)(e0 z6 z7 z8:Option D):∃y6 y7 y8:Option D,Mq [e0,some (.lst false (b.map Ad)),some (.ref 0),some (.int t.1),some (.int t.2.1),some (.int t.2.2),z6,z7,z8] [some (acc.map Ag)]=some (.nx,[e0,some (.lst false (b.map Ad)),some (.ref 0),some (.int t.1),some (.int t.2.1),some (.int t.2.2),y6,y7,y8],[some ((acc++((stand b).filter fun u=>ovl t u).map fun u=>M7 t u).map Ag)]):=by
 have sf:=Fi b
 have c:Ao Bj (Ac (Ae 1) Ah) [e0,some (.lst false (b.map Ad)),some (.ref 0),some (.int t.1),some (.int t.2.1),some (.int t.2.2),z6,z7,z8] [some (acc.map Ag)]=some (.lst true ((stand b).map Ag),[some (acc.map Ag)]) :=
  Bm (ds:=[.lst false (b.map Ad)]) (es:=[.lst false (b.map Ad)]) rfl (Ds ..) (Ek ..) (Jy b (by omega))
 have e:Dh (Ao Bj (Ac (Ae 1) Ah)) [e0,some (.lst false (b.map Ad)),some (.ref 0),some (.int t.1),some (.int t.2.1),some (.int t.2.2),z6,z7,z8] [some (acc.map Ag)]=some (((stand b).map Ag,[]),[some (acc.map Ag)]):=by rw[Jh,c];rfl
 generalize stand b=us at *
 obtain⟨env',S',e2,y6,y7,y8,he,hS⟩:=Gn (w:=[]) (g:=Pat.sem (.tp [(.nm 6),(.nm 7),(.nm 8)])) (b:=Jx) (ds:=us.map Ag) (env:=[e0,some (.lst false (b.map Ad)),some (.ref 0),some (.int t.1),some (.int t.2.1),some (.int t.2.2),z6,z7,z8]) (S:=[some (acc.map Ag)])
  (fun i env S=>∃y6 y7 y8:Option D,env=[e0,some (.lst false (b.map Ad)),some (.ref 0),some (.int t.1),some (.int t.2.1),some (.int t.2.2),y6,y7,y8]/\S=[some ((acc++((us.take i).filter fun u=>ovl t u).map fun u=>M7 t u).map Ag)])
  ⟨z6,z7,z8,rfl,by simp⟩ (fun i env S _=>by simp) (fun i d env S hd q=>by
   obtain⟨y6,y7,y8,he,hS⟩:=q
   subst he hS
   rw[U0y] at hd
   obtain⟨u,hu,rfl⟩:=U2i.mp hd
   have hlt:(acc++((us.take i).filter fun u=>ovl t u).map fun u=>M7 t u).length<100000:=by
    have:=U47 (fun u=>ovl t u) (us.take i)
    rw[U1i] at this
    rw[U0h,U0f]
    omega
   refine⟨[e0,some (.lst false (b.map Ad)),some (.ref 0),some (.int t.1),some (.int t.2.1),some (.int t.2.2),some (.int u.1),some (.int u.2.1),some (.int u.2.2)],by simp[Dq,Hi,G5,Et,-U0i,-U0l,Ag],_,_,nu t u _ hlt _ _,_,_,_,rfl,?_⟩
   rw[U4g,hu,U3p,List.filter_append,U19 (f:=fun u=>M7 t u),←U0z])
 subst he hS
 have hlm:(us.map Ag).length=us.length:=by simp
 rw[hlm,U4m] at e2
 refine⟨y6,y7,y8,?_⟩
 unfold Mq
 rw[Hq,e]
 exact e2
end W30
end
section
namespace W30
open PySem L2 VS
theorem dw(ts us:List T3):(G3 ts us).length<=ts.length*us.length:=by
 unfold G3
 induction ts with
 |nil=>simp
 |cons t ts ih =>
  rw[List.flatMap_cons,U0h,U0f,U0e,Nat.add_mul,Nat.one_mul]
  have:=U47 (fun u=>ovl t u) us
  omega
theorem nj{a b:List St2}(ha:a.length<=300)(hb:b.length<=300)(h:Hs (G3 (stand a) (stand b))):Ew [.lst false (a.map Ad),.lst false (b.map Ad)]=some (.lst true ((sky (G3 (stand a) (stand b))).map Ad)):=by
 have sfa:=Fi a
 have sfb:=Fi b
 have s1:(Bk 2 (Kw Ah)) [some (.lst false (a.map Ad)),some (.lst false (b.map Ad)),none,none,none,none,none,none,none] []=some (.nx,[some (.lst false (a.map Ad)),some (.lst false (b.map Ad)),some (.ref 0),none,none,none,none,none,none],[some []]):=rfl
 have c:Ao Bj (Ac (Ae 0) Ah) [some (.lst false (a.map Ad)),some (.lst false (b.map Ad)),some (.ref 0),none,none,none,none,none,none] [some []]=some (.lst true ((stand a).map Ag),[some []]) :=
  Bm (ds:=[.lst false (a.map Ad)]) (es:=[.lst false (a.map Ad)]) rfl (Ds ..) (Ek ..) (Jy a (by omega))
 have e:Dh (Ao Bj (Ac (Ae 0) Ah)) [some (.lst false (a.map Ad)),some (.lst false (b.map Ad)),some (.ref 0),none,none,none,none,none,none] [some []]=some (((stand a).map Ag,[]),[some []]):=by rw[Jh,c];rfl
 obtain⟨env',S',e2,y3,y4,y5,y6,y7,y8,he,hS⟩:=Gn (w:=[]) (g:=Pat.sem (.tp [(.nm 3),(.nm 4),(.nm 5)])) (b:=QF) (ds:=(stand a).map Ag) (env:=[some (.lst false (a.map Ad)),some (.lst false (b.map Ad)),some (.ref 0),none,none,none,none,none,none]) (S:=[some []])
  (fun i env S=>∃y3 y4 y5 y6 y7 y8:Option D,env=[some (.lst false (a.map Ad)),some (.lst false (b.map Ad)),some (.ref 0),y3,y4,y5,y6,y7,y8]/\S=[some ((G3 ((stand a).take i) (stand b)).map Ag)])
  ⟨none,none,none,none,none,none,rfl,rfl⟩ (fun i env S _=>by simp) (fun i d env S hd q=>by
   obtain⟨y3,y4,y5,y6,y7,y8,he,hS⟩:=q
   subst he hS
   rw[U0y] at hd
   obtain⟨t,ht,rfl⟩:=U2i.mp hd
   have l1:=dw ((stand a).take i) (stand b)
   have l2:((stand a).take i).length<=300:=by rw[U1i];omega
   have l3:((stand a).take i).length*(stand b).length<=300*300:=Nat.mul_le_mul l2 (by omega)
   obtain⟨w6,w7,w8,b1⟩:=nq hb t (G3 ((stand a).take i) (stand b)) (by omega) (some (.lst false (a.map Ad))) y6 y7 y8
   refine⟨[some (.lst false (a.map Ad)),some (.lst false (b.map Ad)),some (.ref 0),some (.int t.1),some (.int t.2.1),some (.int t.2.2),y6,y7,y8],by simp[Dq,Hi,G5,Et,-U0i,-U0l,Ag],_,_,b1,_,_,_,_,_,_,rfl,?_⟩
   unfold G3
   rw[U4g,ht,U3p,List.flatMap_append]
   simp)
 subst he hS
 have hlm:((stand a).map Ag).length=(stand a).length:=by simp
 rw[hlm,U4m] at e2
 have l2:Mp [some (.lst false (a.map Ad)),some (.lst false (b.map Ad)),some (.ref 0),none,none,none,none,none,none] [some []]=some (.nx,[some (.lst false (a.map Ad)),some (.lst false (b.map Ad)),some (.ref 0),y3,y4,y5,y6,y7,y8],[some ((G3 (stand a) (stand b)).map Ag)]):=by
  unfold Mp
  rw[Hq,e]
  exact e2
 have hl:=Qn h
 generalize G3 (stand a) (stand b)=vs at *
 have c4:Ao Bw (Ac (Ae 2) Ah) [some (.lst false (a.map Ad)),some (.lst false (b.map Ad)),some (.ref 0),y3,y4,y5,y6,y7,y8] [some (vs.map Ag)]=some (.lst true ((sky vs).map Ad),[some (vs.map Ag)]) :=
  bT (ds:=[.ref 0]) (es:=[.lst true (vs.map Ag)]) (fs:=[.lst false (vs.map Ag)]) rfl (by simp[DK,den,BX (G7 vs)]) (T4 ..) hl (by rw[newD,Kr (Dj _)];rfl)
 unfold Ew
 rw[Dn]
 simp only[U0e,U08,U0r,U1n,U1u,U1v,U0t,U05,U18,U1x,if_true]
 unfold RG
 rw[Bd s1,Bd l2,Cm,c4]
 show den 0 _ (.lst true _)=_
 rw[den,CN 0 _ (BX (Dj _))];rfl
end W30
end
section
namespace W30
open PySem L2 VS
theorem Zz{a b:List T3}(ha:Hs a)(hb:Hs b)(hl:a.length+b.length<=400):Hs (a++b):=⟨by rw[U0h];exact hl,fun t ht=>by
 rcases U1e.mp ht with w|w
 .exact ha.all t w
 .exact hb.all t w⟩
theorem o8(a b:List St2):lev 3 (.list [.list (a.map pS),.list (b.map pS)])=true:=by
 have h:=Vu a
 have k:=Vu b
 simp[lev] at h k ⊢
 exact⟨h,k⟩
theorem Vs(S:Store)(m1 m2 m3:Bool)(a b:List St2):Cj S (.lst m1 [.lst m2 (a.map Ad),.lst m3 (b.map Ad)])=some (.list [.list (a.map pS),.list (b.map pS)]):=by
 have ta:=MK [] m2 a
 have tb:=MK [] m3 b
 have pa:=BX (Dj a)
 have pb:=BX (Dj b)
 rw[Cj,den,CN 0 [] pa] at ta
 rw[Cj,den,CN 0 [] pb] at tb
 have da:den 0 S (.lst m2 (a.map Ad))=some (.lst m2 (a.map Ad)):=by rw[den,CN 0 S pa];rfl
 have db:den 0 S (.lst m3 (b.map Ad))=some (.lst m3 (b.map Ad)):=by rw[den,CN 0 S pb];rfl
 have ta:toP (.lst m2 (a.map Ad))=some (.list (a.map pS)):=ta
 have tb:toP (.lst m3 (b.map Ad))=some (.list (b.map pS)):=tb
 rw[Cj,den,DK,da,U0a,DK,db,U0a,DK]
 show toP (.lst m1 [.lst m2 (a.map Ad),.lst m3 (b.map Ad)])=_
 rw[toP,Gv,ta,U0a,Gv,tb];rfl
end W30
end
section
namespace W30
open PySem L2 VS
theorem Ls(m1 m2:Bool)(a b:List St2):Bh [.lst m1 (a.map Ad),.lst m2 (b.map Ad)]=true:=by simp[Bh,Bx,BX (Dj a),BX (Dj b)]
theorem Nt(m1 m2:Bool)(a b:List St2):Cr [.lst m1 (a.map Ad),.lst m2 (b.map Ad)]=[.lst false (a.map Ad),.lst false (b.map Ad)]:=by simp[Cr,age,El (Dj a),El (Dj b)]
theorem dF(S:Store){v:Int}(h:v.natAbs<10^41):FN S [.int v]=some (.str (U34 (.int v))) :=
 UG (p:=.int v) (ws:=[]) (by rw[Cj,den];rfl) (decide_eq_true h) (by decide) (by decide)
theorem oR{H L:List St2}(lH:H.length<=300)(lL:L.length<=300)(nH:Qd H)(nL:Qd L):fit [2,300,2] (.list [.list (H.map pS),.list (L.map pS)])=true:=by
 have one:∀l:List St2,l.length<=300->Qd l->fit [300,2] (.list (l.map pS))=true:=fun l hl h=>(Ue [2] 300 _ (by simpa using hl) fun x hx=>by
  obtain⟨p,hp,rfl⟩:=U1r.mp hx
  exact rB (h p hp)).1
 refine(Ue [300,2] 2 _ (by simp) fun x hx=>?_).1
 rcases U0q.mp hx with z|z
 .rw[z];exact one H lH nH
 .rw[U1f.mp z];exact one L lL nL
theorem mO{U:Store}{i j:Nat}{H L:List St2}(hi:U[i]?=some (some (H.map Ad)))(hj:U[j]?=some (some (L.map Ad))):Cj U (.lst true [.ref i,.ref j])=some (.list [.list (H.map pS),.list (L.map pS)]):=by
 have pa:=BX (Dj H)
 have pb:=BX (Dj L)
 have ta:=MK U true H
 have tb:=MK U true L
 rw[Cj,den,CN 0 _ pa] at ta
 rw[Cj,den,CN 0 _ pb] at tb
 have ta:toP (.lst true (H.map Ad))=some (.list (H.map pS)):=ta
 have tb:toP (.lst true (L.map Ad))=some (.list (L.map pS)):=tb
 have da:den 0 U (.ref i)=some (.lst true (H.map Ad)):=by rw[den,if_neg (by omega),hi];exact if_pos pa
 have db:den 0 U (.ref j)=some (.lst true (L.map Ad)):=by rw[den,if_neg (by omega),hj];exact if_pos pb
 rw[Cj,den,DK,da,U0a,DK,db,U0a,DK]
 show toP (.lst true [.lst true (H.map Ad),.lst true (L.map Ad)])=_
 rw[toP,Gv,ta,U0a,Gv,tb];rfl
theorem dD{a b H L:List St2}(hH:Dz [.lst false (a.map Ad),.lst false (b.map Ad)]=some (.lst true (H.map Ad)))(hL:Dd [.lst false (a.map Ad),.lst false (b.map Ad)]=some (.lst true (L.map Ad)))(nH:Qd H)(nL:Qd L)(lH:H.length<=300)(lL:L.length<=300)
  (Aa Ab:Int) (a1:Ax [.lst false (a.map Ad)]=some (.int Aa)) (a2:Ax [.lst false (b.map Ad)]=some (.int Ab)) (b1:Df [.lst false (a.map Ad)]=some (.int Aa)) (b2:Df [.lst false (b.map Ad)]=some (.int Ab)) (bA:Aa.natAbs<10^41) (bB:Ab.natAbs<10^41)
  (i:Nat) (hi:i<2) (T:Store) (z6:Option D):∃(y6:Option D)(T':Store),Jw [some (.lst false (a.map Ad)),some (.lst false (b.map Ad)),some (.lst true [.lst true (a.map Ad),.lst true (b.map Ad)]),some (.lst true (H.map Ad)),some (.lst true (L.map Ad)),some (.int i),z6] T=some (.nx,[some (.lst false (a.map Ad)),some (.lst false (b.map Ad)),some (.lst true [.lst true (a.map Ad),.lst true (b.map Ad)]),some (.lst true (H.map Ad)),some (.lst true (L.map Ad)),some (.int i),y6],T'):=by
 have c1:∀(S:Store)(z6:Option D),Ao Dz (Ac (eOp oIx (Ae 2) (eC (.int 0))) (Ac (eOp oIx (Ae 2) (eC (.int 1))) Ah)) [some (.lst false (a.map Ad)),some (.lst false (b.map Ad)),some (.lst true [.lst true (a.map Ad),.lst true (b.map Ad)]),some (.lst true (H.map Ad)),some (.lst true (L.map Ad)),some (.int i),z6] S=some (.lst true (H.map Ad),S):=fun S z6 =>
  Bm (ds:=[.lst true (a.map Ad),.lst true (b.map Ad)]) (es:=[.lst false (a.map Ad),.lst false (b.map Ad)]) rfl (Ls ..) (Nt ..) hH
 have c2:∀(S:Store)(z6:Option D),Ao Dd (Ac (eOp oIx (Ae 2) (eC (.int 0))) (Ac (eOp oIx (Ae 2) (eC (.int 1))) Ah)) [some (.lst false (a.map Ad)),some (.lst false (b.map Ad)),some (.lst true [.lst true (a.map Ad),.lst true (b.map Ad)]),some (.lst true (H.map Ad)),some (.lst true (L.map Ad)),some (.int i),z6] S=some (.lst true (L.map Ad),S):=fun S z6 =>
  Bm (ds:=[.lst true (a.map Ad),.lst true (b.map Ad)]) (es:=[.lst false (a.map Ad),.lst false (b.map Ad)]) rfl (Ls ..) (Nt ..) hL
 have t1:Ih Dz (Ac (eOp oIx (Ae 2) (eC (.int 0))) (Ac (eOp oIx (Ae 2) (eC (.int 1))) Ah)) [some (.lst false (a.map Ad)),some (.lst false (b.map Ad)),some (.lst true [.lst true (a.map Ad),.lst true (b.map Ad)]),some (.lst true (H.map Ad)),some (.lst true (L.map Ad)),some (.int i),z6] T=some (.ref T.length,T++[some (H.map Ad)]):=RZ (c1 T z6) (by rw[O8,if_pos (Dj H)])
 have t2:Ih Dd (Ac (eOp oIx (Ae 2) (eC (.int 0))) (Ac (eOp oIx (Ae 2) (eC (.int 1))) Ah)) [some (.lst false (a.map Ad)),some (.lst false (b.map Ad)),some (.lst true [.lst true (a.map Ad),.lst true (b.map Ad)]),some (.lst true (H.map Ad)),some (.lst true (L.map Ad)),some (.int i),z6] (T++[some (H.map Ad)])=some (.ref (T.length+1),T++[some (H.map Ad)]++[some (L.map Ad)]):=by
  have:=RZ (d':=.ref (T++[some (H.map Ad)]).length) (cs:=L.map Ad) (c2 (T++[some (H.map Ad)]) z6) (by rw[O8,if_pos (Dj _)])
  rw[U0h] at this
  exact this
 have s1:(Bk 6 (BK (Ac (Ih Dz (Ac (eOp oIx (Ae 2) (eC (.int 0))) (Ac (eOp oIx (Ae 2) (eC (.int 1))) Ah))) (Ac (Ih Dd (Ac (eOp oIx (Ae 2) (eC (.int 0))) (Ac (eOp oIx (Ae 2) (eC (.int 1))) Ah))) Ah)))) [some (.lst false (a.map Ad)),some (.lst false (b.map Ad)),some (.lst true [.lst true (a.map Ad),.lst true (b.map Ad)]),some (.lst true (H.map Ad)),some (.lst true (L.map Ad)),some (.int i),z6] T=some (.nx,[some (.lst false (a.map Ad)),some (.lst false (b.map Ad)),some (.lst true [.lst true (a.map Ad),.lst true (b.map Ad)]),some (.lst true (H.map Ad)),some (.lst true (L.map Ad)),some (.int i),some (.lst true [.ref T.length,.ref (T.length+1)])],T++[some (H.map Ad),some (L.map Ad)]):=by
  rw[Cd,Cv,Av,t1,U0a,Av,t2,U0z];rfl
 have u0:(T++[some (H.map Ad),some (L.map Ad)])[T.length]?=some (some (H.map Ad)):=Vl ..
 have u1:(T++[some (H.map Ad),some (L.map Ad)])[T.length+1]?=some (some (L.map Ad)):=lq ..
 obtain⟨U,hU⟩:∃U:Store,U=T++[some (H.map Ad),some (L.map Ad)]:=⟨_,rfl⟩
 rw[←hU] at u0 u1 s1
 have ft:=oR lH lL nH nL
 have r1:=UG (mO u0 u1) ft (by decide) (by decide)
 have r2:=UG (Vs U true true true H L) ft (by decide) (by decide)
 have q0:=Wo (neg:=true) 3 (Vs U true true true a b) (Vs U true false false a b) (o8 a b) (by decide)
 have k1:Bv (eOp (NZ true) (eCB FN (Ac (Ae 6) Ah)) (eCB FN (Ac (BK (Ac (Ae 3) (Ac (Ae 4) Ah))) Ah))) [some (.lst false (a.map Ad)),some (.lst false (b.map Ad)),some (.lst true [.lst true (a.map Ad),.lst true (b.map Ad)]),some (.lst true (H.map Ad)),some (.lst true (L.map Ad)),some (.int i),some (.lst true [.ref T.length,.ref (T.length+1)])] U=some (false,U):=by
  have d1:eCB FN (Ac (Ae 6) Ah) [some (.lst false (a.map Ad)),some (.lst false (b.map Ad)),some (.lst true [.lst true (a.map Ad),.lst true (b.map Ad)]),some (.lst true (H.map Ad)),some (.lst true (L.map Ad)),some (.int i),some (.lst true [.ref T.length,.ref (T.length+1)])] U=some (.str (U34 (.list [.list (H.map pS),.list (L.map pS)])),U):=by
   show U1z _ (FN U [.lst true [.ref T.length,.ref (T.length+1)]])=_
   rw[r1];rfl
  have d2:eCB FN (Ac (BK (Ac (Ae 3) (Ac (Ae 4) Ah))) Ah) [some (.lst false (a.map Ad)),some (.lst false (b.map Ad)),some (.lst true [.lst true (a.map Ad),.lst true (b.map Ad)]),some (.lst true (H.map Ad)),some (.lst true (L.map Ad)),some (.int i),some (.lst true [.ref T.length,.ref (T.length+1)])] U=some (.str (U34 (.list [.list (H.map pS),.list (L.map pS)])),U):=by
   show U1z _ (FN U [.lst true [.lst true (H.map Ad),.lst true (L.map Ad)]])=_
   rw[r2];rfl
  rw[Dm,BZ,d1,U0a,d2,U0a]
  simp[NZ]
 have k2:Bv (eOp (oEq true) (Ae 2) (BK (Ac (Ae 0) (Ac (Ae 1) Ah)))) [some (.lst false (a.map Ad)),some (.lst false (b.map Ad)),some (.lst true [.lst true (a.map Ad),.lst true (b.map Ad)]),some (.lst true (H.map Ad)),some (.lst true (L.map Ad)),some (.int i),some (.lst true [.ref T.length,.ref (T.length+1)])] U=some (false,U):=by
  have v2:Ae 2 [some (.lst false (a.map Ad)),some (.lst false (b.map Ad)),some (.lst true [.lst true (a.map Ad),.lst true (b.map Ad)]),some (.lst true (H.map Ad)),some (.lst true (L.map Ad)),some (.int i),some (.lst true [.ref T.length,.ref (T.length+1)])] U=some (.lst true [.lst true (a.map Ad),.lst true (b.map Ad)],U):=rfl
  have v1:BK (Ac (Ae 0) (Ac (Ae 1) Ah)) [some (.lst false (a.map Ad)),some (.lst false (b.map Ad)),some (.lst true [.lst true (a.map Ad),.lst true (b.map Ad)]),some (.lst true (H.map Ad)),some (.lst true (L.map Ad)),some (.int i),some (.lst true [.ref T.length,.ref (T.length+1)])] U=some (.lst true [.lst false (a.map Ad),.lst false (b.map Ad)],U):=rfl
  have q':oEq true U (.lst true [.lst true (a.map Ad),.lst true (b.map Ad)]) (.lst true [.lst false (a.map Ad),.lst false (b.map Ad)])=some (.bl false):=q0
  rw[Dm,BZ,v2,U0a,v1,U0a,q'];rfl
 have s2:(sIf (VS.tOr (Bv (eOp (NZ true) (eCB FN (Ac (Ae 6) Ah)) (eCB FN (Ac (BK (Ac (Ae 3) (Ac (Ae 4) Ah))) Ah)))) (Bv (eOp (oEq true) (Ae 2) (BK (Ac (Ae 0) (Ac (Ae 1) Ah)))))) (DR (eC (.bl false))) G8) [some (.lst false (a.map Ad)),some (.lst false (b.map Ad)),some (.lst true [.lst true (a.map Ad),.lst true (b.map Ad)]),some (.lst true (H.map Ad)),some (.lst true (L.map Ad)),some (.int i),some (.lst true [.ref T.length,.ref (T.length+1)])] U=some (.nx,[some (.lst false (a.map Ad)),some (.lst false (b.map Ad)),some (.lst true [.lst true (a.map Ad),.lst true (b.map Ad)]),some (.lst true (H.map Ad)),some (.lst true (L.map Ad)),some (.int i),some (.lst true [.ref T.length,.ref (T.length+1)])],U):=by
  rw[IV (by
   rw[Pb,k1]
   simp only[U0a,U06,if_false]
   exact k2)]
  rfl
 have s3:(HS (Hf FP (eOp oIx (Ae 6) (eC (.int 0))) (Ac (eC (.int 0)) Ah))) [some (.lst false (a.map Ad)),some (.lst false (b.map Ad)),some (.lst true [.lst true (a.map Ad),.lst true (b.map Ad)]),some (.lst true (H.map Ad)),some (.lst true (L.map Ad)),some (.int i),some (.lst true [.ref T.length,.ref (T.length+1)])] U=some (.nx,[some (.lst false (a.map Ad)),some (.lst false (b.map Ad)),some (.lst true [.lst true (a.map Ad),.lst true (b.map Ad)]),some (.lst true (H.map Ad)),some (.lst true (L.map Ad)),some (.int i),some (.lst true [.ref T.length,.ref (T.length+1)])],T++[some (H.map Ad++[.int 0]),some (L.map Ad)]):=M4 (i:=T.length) rfl u0 rfl (by rw[U0f];omega) (by rw[hU];exact Vj ..)
 have s4:(HS (Hf FP (eOp oIx (Ae 6) (eC (.int 1))) (Ac (eC (.int 0)) Ah))) [some (.lst false (a.map Ad)),some (.lst false (b.map Ad)),some (.lst true [.lst true (a.map Ad),.lst true (b.map Ad)]),some (.lst true (H.map Ad)),some (.lst true (L.map Ad)),some (.int i),some (.lst true [.ref T.length,.ref (T.length+1)])] (T++[some (H.map Ad++[.int 0]),some (L.map Ad)])=some (.nx,[some (.lst false (a.map Ad)),some (.lst false (b.map Ad)),some (.lst true [.lst true (a.map Ad),.lst true (b.map Ad)]),some (.lst true (H.map Ad)),some (.lst true (L.map Ad)),some (.int i),some (.lst true [.ref T.length,.ref (T.length+1)])],T++[some (H.map Ad++[.int 0]),some (L.map Ad++[.int 0])]):=M4 (i:=T.length+1) rfl (lq ..) rfl (by rw[U0f];omega) (sI ..)
 obtain⟨W,hW⟩:∃W:Store,W=T++[some (H.map Ad++[.int 0]),some (L.map Ad++[.int 0])]:=⟨_,rfl⟩
 rw[←hW] at s4
 have s5:(sIf (Bv (eOp (NZ true) (eCB FN (Ac (Ao Ax (Ac (eOp oIx (Ae 2) (Ae 5)) Ah)) Ah)) (eCB FN (Ac (Ao Df (Ac (eOp oIx (BK (Ac (Ae 0) (Ac (Ae 1) Ah))) (Ae 5)) Ah)) Ah)))) (DR (eC (.bl false))) G8) [some (.lst false (a.map Ad)),some (.lst false (b.map Ad)),some (.lst true [.lst true (a.map Ad),.lst true (b.map Ad)]),some (.lst true (H.map Ad)),some (.lst true (L.map Ad)),some (.int i),some (.lst true [.ref T.length,.ref (T.length+1)])] W=some (.nx,[some (.lst false (a.map Ad)),some (.lst false (b.map Ad)),some (.lst true [.lst true (a.map Ad),.lst true (b.map Ad)]),some (.lst true (H.map Ad)),some (.lst true (L.map Ad)),some (.int i),some (.lst true [.ref T.length,.ref (T.length+1)])],W):=by
  obtain⟨c,A,g1,g2,g3,g4,g5⟩:∃(c:List St2)(A:Int),atI [D.lst true (a.map Ad),.lst true (b.map Ad)] (i:Int)=some (.lst true (c.map Ad))/\atI [D.lst false (a.map Ad),.lst false (b.map Ad)] (i:Int)=some (.lst false (c.map Ad))/\Ax [.lst false (c.map Ad)]=some (.int A)/\Df [.lst false (c.map Ad)]=some (.int A)/\A.natAbs<10^41:=by
   have:i=0∨i=1:=by omega
   rcases this with rfl|rfl
   .exact⟨a,Aa,rfl,rfl,a1,b1,bA⟩
   .exact⟨b,Ab,rfl,rfl,a2,b2,bB⟩
  have w1:Ac (eOp oIx (Ae 2) (Ae 5)) Ah [some (.lst false (a.map Ad)),some (.lst false (b.map Ad)),some (.lst true [.lst true (a.map Ad),.lst true (b.map Ad)]),some (.lst true (H.map Ad)),some (.lst true (L.map Ad)),some (.int i),some (.lst true [.ref T.length,.ref (T.length+1)])] W=some ([.lst true (c.map Ad)],W):=by
   have:eOp oIx (Ae 2) (Ae 5) [some (.lst false (a.map Ad)),some (.lst false (b.map Ad)),some (.lst true [.lst true (a.map Ad),.lst true (b.map Ad)]),some (.lst true (H.map Ad)),some (.lst true (L.map Ad)),some (.int i),some (.lst true [.ref T.length,.ref (T.length+1)])] W=some (.lst true (c.map Ad),W):=by
    show U1z _ (atI [D.lst true (a.map Ad),.lst true (b.map Ad)] (i:Int))=_
    rw[g1];rfl
   rw[Av,this];rfl
  have w2:Ac (eOp oIx (BK (Ac (Ae 0) (Ac (Ae 1) Ah))) (Ae 5)) Ah [some (.lst false (a.map Ad)),some (.lst false (b.map Ad)),some (.lst true [.lst true (a.map Ad),.lst true (b.map Ad)]),some (.lst true (H.map Ad)),some (.lst true (L.map Ad)),some (.int i),some (.lst true [.ref T.length,.ref (T.length+1)])] W=some ([.lst false (c.map Ad)],W):=by
   have:eOp oIx (BK (Ac (Ae 0) (Ac (Ae 1) Ah))) (Ae 5) [some (.lst false (a.map Ad)),some (.lst false (b.map Ad)),some (.lst true [.lst true (a.map Ad),.lst true (b.map Ad)]),some (.lst true (H.map Ad)),some (.lst true (L.map Ad)),some (.int i),some (.lst true [.ref T.length,.ref (T.length+1)])] W=some (.lst false (c.map Ad),W):=by
    show U1z _ (atI [D.lst false (a.map Ad),.lst false (b.map Ad)] (i:Int))=_
    rw[g2];rfl
   rw[Av,this];rfl
  have p1:Ao Ax (Ac (eOp oIx (Ae 2) (Ae 5)) Ah) [some (.lst false (a.map Ad)),some (.lst false (b.map Ad)),some (.lst true [.lst true (a.map Ad),.lst true (b.map Ad)]),some (.lst true (H.map Ad)),some (.lst true (L.map Ad)),some (.int i),some (.lst true [.ref T.length,.ref (T.length+1)])] W=some (.int A,W):=Bm w1 (Ds ..) (Ek ..) g3
  have p2:Ao Df (Ac (eOp oIx (BK (Ac (Ae 0) (Ac (Ae 1) Ah))) (Ae 5)) Ah) [some (.lst false (a.map Ad)),some (.lst false (b.map Ad)),some (.lst true [.lst true (a.map Ad),.lst true (b.map Ad)]),some (.lst true (H.map Ad)),some (.lst true (L.map Ad)),some (.int i),some (.lst true [.ref T.length,.ref (T.length+1)])] W=some (.int A,W):=Bm w2 (Ds ..) (Ek ..) g4
  have r:=dF W g5
  have d1:eCB FN (Ac (Ao Ax (Ac (eOp oIx (Ae 2) (Ae 5)) Ah)) Ah) [some (.lst false (a.map Ad)),some (.lst false (b.map Ad)),some (.lst true [.lst true (a.map Ad),.lst true (b.map Ad)]),some (.lst true (H.map Ad)),some (.lst true (L.map Ad)),some (.int i),some (.lst true [.ref T.length,.ref (T.length+1)])] W=some (.str (U34 (.int A)),W):=by
   rw[Ec,Av,p1]
   simp only[U0a,Cz,r,U5l]
  have d2:eCB FN (Ac (Ao Df (Ac (eOp oIx (BK (Ac (Ae 0) (Ac (Ae 1) Ah))) (Ae 5)) Ah)) Ah) [some (.lst false (a.map Ad)),some (.lst false (b.map Ad)),some (.lst true [.lst true (a.map Ad),.lst true (b.map Ad)]),some (.lst true (H.map Ad)),some (.lst true (L.map Ad)),some (.int i),some (.lst true [.ref T.length,.ref (T.length+1)])] W=some (.str (U34 (.int A)),W):=by
   rw[Ec,Av,p2]
   simp only[U0a,Cz,r,U5l]
  have k:Bv (eOp (NZ true) (eCB FN (Ac (Ao Ax (Ac (eOp oIx (Ae 2) (Ae 5)) Ah)) Ah)) (eCB FN (Ac (Ao Df (Ac (eOp oIx (BK (Ac (Ae 0) (Ac (Ae 1) Ah))) (Ae 5)) Ah)) Ah))) [some (.lst false (a.map Ad)),some (.lst false (b.map Ad)),some (.lst true [.lst true (a.map Ad),.lst true (b.map Ad)]),some (.lst true (H.map Ad)),some (.lst true (L.map Ad)),some (.int i),some (.lst true [.ref T.length,.ref (T.length+1)])] W=some (false,W):=by
   rw[Dm,BZ,d1,U0a,d2,U0a]
   simp[NZ]
  rw[IV k]
  rfl
 refine⟨some (.lst true [.ref T.length,.ref (T.length+1)]),W,?_⟩
 unfold Jw
 rw[Bd s1,Bd s2,Bd s3,Bd s4,s5]
theorem Wx:∀ts:List T3,(∀t∈ts,0<=t.2.1-t.1/\t.2.1-t.1<=2000000000/\0<=t.2.2/\t.2.2<=1000000000)->0<=Dk ts/\Dk ts<=ts.length*2000000000000000000
 |[],_=>⟨U2n _,by simp[Dk]⟩
 |t::r,h=>by
  obtain⟨i1,i2⟩:=Wx r fun u hu=>h u (U0n _ hu)
  obtain⟨h1,h2,h3,h4⟩:=h t U0p
  have e:Dk (t::r)=(t.2.1-t.1)*t.2.2+Dk r:=rfl
  have m1:=Int.mul_nonneg h1 h3
  have m2:=Int.mul_le_mul h2 h4 h3 (by decide)
  rw[e,U0e]
  omega
theorem Te{l:List St2}(h:SkB l):(Dk (stand l)).natAbs<10^41:=by
 have hs:=Gm h
 obtain⟨g1,g2⟩:=Wx (stand l) fun t ht=>by
  have:=hs.all t ht
  omega
 have:=hs.few
 exact U31 (m:=800000000000000000000) (by omega) (by decide)
end W30
end
section
namespace W30
open PySem L2 VS
theorem YQ{l:List St2}(h:SkB l):Qd l:=fun p hp=>by
 have:=h.inn p hp
 have:=h.ok.hts p hp
 omega
theorem WM{hs ks:List T3}(h:Hs hs)(k:Hs ks)(hl:hs.length<=60)(kl:ks.length<=60):Ej [.lst false ((sky hs).map Ad),.lst false ((sky ks).map Ad)]=some (.bl true):=by
 have sa:=Kh h (by omega)
 have sb:=Kh k (by omega)
 have la:=Qg hl
 have lb:=Qg kl
 have ha:=Gm sa
 have hb:=Gm sb
 have fa:=Fi (sky hs)
 have fb:=Fi (sky ks)
 have hab:=Zz ha hb (by omega)
 have lo:=YW ha hb (N5 h) (N5 k) (by omega)
 have e1:=Qn hab
 have e2:=nj (a:=sky hs) (b:=sky ks) (by omega) (by omega) lo
 rw[Xx h k (by omega) (by omega)] at e1
 rw[ZP h k (by omega) (by omega)] at e2
 have hH:=bG sa sb
 have hL:=Wd sa sb
 have as:=Zg h k (by omega) (by omega)
 have c1:=Ln (Dr h) (Dr k) max rfl
 have c2:=Ln (Dr h) (Dr k) min rfl
 have q1:(fun x=>max (hgt hs x) (hgt ks x))=hi2 (sky hs) (sky ks):=funext fun x=>by unfold hi2;rw[Ga h (by omega),Ga k (by omega)]
 have q2:(fun x=>min (hgt hs x) (hgt ks x))=lo2 (sky hs) (sky ks):=funext fun x=>by unfold lo2;rw[Ga h (by omega),Ga k (by omega)]
 have c1:Chg (fun x=>max (hgt hs x) (hgt ks x)) (nb (sky hs) (sky ks)) (-1000000001) 1000000000:=c1
 have c2:Chg (fun x=>min (hgt hs x) (hgt ks x)) (nb (sky hs) (sky ks)) (-1000000001) 1000000000:=c2
 have nl:(nb (sky hs) (sky ks)).length<=300:=by
  unfold nb Fq
  have q:=(SetP.G6 ((sky hs).map (·.1)++(sky ks).map (·.1))).2.1
  rw[(U2k _ _).length_eq]
  simp at q
  omega
 have s1:=W2 c1 (fun x=>by have:=Ji h x;have:=Ji k x;show 0<=max (hgt hs x) (hgt ks x)/\max (hgt hs x) (hgt ks x)<=_;omega) nl (by decide) (by decide)
 have s2:=W2 c2 (fun x=>by have:=Ji h x;have:=Ji k x;show 0<=min (hgt hs x) (hgt ks x)/\min (hgt hs x) (hgt ks x)<=_;omega) nl (by decide) (by decide)
 rw[q1] at s1
 rw[q2] at s2
 have n1:=YQ s1
 have n2:=YQ s2
 have f1:=s1.ok.few
 have f2:=s2.ok.few
 have aH:=O6 s1
 have aL:=O6 s2
 have aa:=O6 sa
 have ab:=O6 sb
 have ba:=Wg sa
 have bb:=Wg sb
 have za:=Te sa
 have zb:=Te sb
 have ca:=Jy (sky hs) (by omega)
 have cb:=Jy (sky ks) (by omega)
 generalize chg (hi2 (sky hs) (sky ks)) (nb (sky hs) (sky ks))=H at *
 generalize chg (lo2 (sky hs) (sky ks)) (nb (sky hs) (sky ks))=L at *
 generalize sky hs=a at *
 generalize sky ks=b at *
 have t1:(Bk 2 (BK (Ac (Oa nList (Ac (Ae 0) Ah)) (Ac (Oa nList (Ac (Ae 1) Ah)) Ah)))) [some (.lst false (a.map Ad)),some (.lst false (b.map Ad)),none,none,none,none,none] []=some (.nx,[some (.lst false (a.map Ad)),some (.lst false (b.map Ad)),some (.lst true [.lst true (a.map Ad),.lst true (b.map Ad)]),none,none,none,none],[]):=by
  simp[Cd,Cq,Cz,Av,Cv,fB,nList,VS.listOf,G9,-U0i,-U0l]
 have v0:Ao Bj (Ac (Ae 0) Ah) [some (.lst false (a.map Ad)),some (.lst false (b.map Ad)),some (.lst true [.lst true (a.map Ad),.lst true (b.map Ad)]),none,none,none,none] []=some (.lst true ((stand a).map Ag),[]):=Bm (ds:=[.lst false (a.map Ad)]) (es:=[.lst false (a.map Ad)]) rfl (Ds ..) (Ek ..) ca
 have v1:Ao Bj (Ac (Ae 1) Ah) [some (.lst false (a.map Ad)),some (.lst false (b.map Ad)),some (.lst true [.lst true (a.map Ad),.lst true (b.map Ad)]),none,none,none,none] []=some (.lst true ((stand b).map Ag),[]):=Bm (ds:=[.lst false (b.map Ad)]) (es:=[.lst false (b.map Ad)]) rfl (Ds ..) (Ek ..) cb
 have v2:eOp Br (Ao Bj (Ac (Ae 0) Ah)) (Ao Bj (Ac (Ae 1) Ah)) [some (.lst false (a.map Ad)),some (.lst false (b.map Ad)),some (.lst true [.lst true (a.map Ad),.lst true (b.map Ad)]),none,none,none,none] []=some (.lst true ((stand a++stand b).map Ag),[]):=by
  rw[add_lists v0 v1 (by rw[U0f,U0f];omega),U19]
 have v3:Ao Bw (Ac (eOp Br (Ao Bj (Ac (Ae 0) Ah)) (Ao Bj (Ac (Ae 1) Ah))) Ah) [some (.lst false (a.map Ad)),some (.lst false (b.map Ad)),some (.lst true [.lst true (a.map Ad),.lst true (b.map Ad)]),none,none,none,none] []=some (.lst true (H.map Ad),[]):=Bm (ds:=[.lst true ((stand a++stand b).map Ag)]) (es:=[.lst false ((stand a++stand b).map Ag)]) (by rw[Av,v2];rfl) (UJ ..) (T4 ..) e1
 have t2:(Bk 3 (Ao Bw (Ac (eOp Br (Ao Bj (Ac (Ae 0) Ah)) (Ao Bj (Ac (Ae 1) Ah))) Ah))) [some (.lst false (a.map Ad)),some (.lst false (b.map Ad)),some (.lst true [.lst true (a.map Ad),.lst true (b.map Ad)]),none,none,none,none] []=some (.nx,[some (.lst false (a.map Ad)),some (.lst false (b.map Ad)),some (.lst true [.lst true (a.map Ad),.lst true (b.map Ad)]),some (.lst true (H.map Ad)),none,none,none],[]):=by rw[Cd,v3];rfl
 have v4:Ao Ew (Ac (Ae 0) (Ac (Ae 1) Ah)) [some (.lst false (a.map Ad)),some (.lst false (b.map Ad)),some (.lst true [.lst true (a.map Ad),.lst true (b.map Ad)]),some (.lst true (H.map Ad)),none,none,none] []=some (.lst true (L.map Ad),[]):=Bm (ds:=[.lst false (a.map Ad),.lst false (b.map Ad)]) (es:=[.lst false (a.map Ad),.lst false (b.map Ad)]) rfl (Ls ..) (Nt ..) e2
 have t3:(Bk 4 (Ao Ew (Ac (Ae 0) (Ac (Ae 1) Ah)))) [some (.lst false (a.map Ad)),some (.lst false (b.map Ad)),some (.lst true [.lst true (a.map Ad),.lst true (b.map Ad)]),some (.lst true (H.map Ad)),none,none,none] []=some (.nx,[some (.lst false (a.map Ad)),some (.lst false (b.map Ad)),some (.lst true [.lst true (a.map Ad),.lst true (b.map Ad)]),some (.lst true (H.map Ad)),some (.lst true (L.map Ad)),none,none],[]):=by rw[Cd,v4];rfl
 have er:KD (Ac (eC (.int 2)) Ah) [some (.lst false (a.map Ad)),some (.lst false (b.map Ad)),some (.lst true [.lst true (a.map Ad),.lst true (b.map Ad)]),some (.lst true (H.map Ad)),some (.lst true (L.map Ad)),none,none] []=some ((upD 0 2,[]),[]):=Zm (j:=2) 2 rfl (by decide) (by decide) (by decide)
 obtain⟨env',S',e3,y5,y6,he⟩:=Gn (w:=[]) (g:=Pat.sem (.nm 5)) (b:=Jw) (ds:=upD 0 2) (env:=[some (.lst false (a.map Ad)),some (.lst false (b.map Ad)),some (.lst true [.lst true (a.map Ad),.lst true (b.map Ad)]),some (.lst true (H.map Ad)),some (.lst true (L.map Ad)),none,none]) (S:=[])
  (fun _ env S=>∃(y5 y6:Option D),env=[some (.lst false (a.map Ad)),some (.lst false (b.map Ad)),some (.lst true [.lst true (a.map Ad),.lst true (b.map Ad)]),some (.lst true (H.map Ad)),some (.lst true (L.map Ad)),y5,y6]) ⟨none,none,rfl⟩ (fun i env S _=>by simp) (fun i d env S hd q=>by
   obtain⟨y5,y6,he⟩:=q
   obtain⟨hi,rfl⟩:=Tz hd
   subst he
   obtain⟨w6,T',bb1⟩:=dD hH hL n1 n2 f1 f2 _ _ aa ab ba bb za zb i hi S y6
   rw[show(0:Int)+(i:Int)=i by omega]
   exact⟨_,Dq _ _ _,_,_,bb1,_,_,rfl⟩)
 subst he
 have l1:Ml [some (.lst false (a.map Ad)),some (.lst false (b.map Ad)),some (.lst true [.lst true (a.map Ad),.lst true (b.map Ad)]),some (.lst true (H.map Ad)),some (.lst true (L.map Ad)),none,none] []=some (.nx,[some (.lst false (a.map Ad)),some (.lst false (b.map Ad)),some (.lst true [.lst true (a.map Ad),.lst true (b.map Ad)]),some (.lst true (H.map Ad)),some (.lst true (L.map Ad)),y5,y6],S'):=by
  unfold Ml
  rw[Hq,er]
  exact e3
 have p3:Ao Ax (Ac (Ae 3) Ah) [some (.lst false (a.map Ad)),some (.lst false (b.map Ad)),some (.lst true [.lst true (a.map Ad),.lst true (b.map Ad)]),some (.lst true (H.map Ad)),some (.lst true (L.map Ad)),y5,y6] S'=some (.int (Dk (stand H)),S'):=Bm (ds:=[.lst true (H.map Ad)]) (es:=[.lst false (H.map Ad)]) rfl (Ds ..) (Ek ..) aH
 have p4:Ao Ax (Ac (Ae 4) Ah) [some (.lst false (a.map Ad)),some (.lst false (b.map Ad)),some (.lst true [.lst true (a.map Ad),.lst true (b.map Ad)]),some (.lst true (H.map Ad)),some (.lst true (L.map Ad)),y5,y6] S'=some (.int (Dk (stand L)),S'):=Bm (ds:=[.lst true (L.map Ad)]) (es:=[.lst false (L.map Ad)]) rfl (Ds ..) (Ek ..) aL
 have p0:Ao Ax (Ac (Ae 0) Ah) [some (.lst false (a.map Ad)),some (.lst false (b.map Ad)),some (.lst true [.lst true (a.map Ad),.lst true (b.map Ad)]),some (.lst true (H.map Ad)),some (.lst true (L.map Ad)),y5,y6] S'=some (.int (Dk (stand a)),S'):=Bm (ds:=[.lst false (a.map Ad)]) (es:=[.lst false (a.map Ad)]) rfl (Ds ..) (Ek ..) aa
 have p1:Ao Ax (Ac (Ae 1) Ah) [some (.lst false (a.map Ad)),some (.lst false (b.map Ad)),some (.lst true [.lst true (a.map Ad),.lst true (b.map Ad)]),some (.lst true (H.map Ad)),some (.lst true (L.map Ad)),y5,y6] S'=some (.int (Dk (stand b)),S'):=Bm (ds:=[.lst false (b.map Ad)]) (es:=[.lst false (b.map Ad)]) rfl (Ds ..) (Ek ..) ab
 have o1:eOp Br (Ao Ax (Ac (Ae 3) Ah)) (Ao Ax (Ac (Ae 4) Ah)) [some (.lst false (a.map Ad)),some (.lst false (b.map Ad)),some (.lst true [.lst true (a.map Ad),.lst true (b.map Ad)]),some (.lst true (H.map Ad)),some (.lst true (L.map Ad)),y5,y6] S'=some (.int (Dk (stand H)+Dk (stand L)),S'):=by rw[BZ,p3,U0a,p4];rfl
 have o2:eOp Br (Ao Ax (Ac (Ae 0) Ah)) (Ao Ax (Ac (Ae 1) Ah)) [some (.lst false (a.map Ad)),some (.lst false (b.map Ad)),some (.lst true [.lst true (a.map Ad),.lst true (b.map Ad)]),some (.lst true (H.map Ad)),some (.lst true (L.map Ad)),y5,y6] S'=some (.int (Dk (stand a)+Dk (stand b)),S'):=by rw[BZ,p0,U0a,p1];rfl
 have fin:eOp (oEq false) (eOp Br (Ao Ax (Ac (Ae 3) Ah)) (Ao Ax (Ac (Ae 4) Ah))) (eOp Br (Ao Ax (Ac (Ae 0) Ah)) (Ao Ax (Ac (Ae 1) Ah))) [some (.lst false (a.map Ad)),some (.lst false (b.map Ad)),some (.lst true [.lst true (a.map Ad),.lst true (b.map Ad)]),some (.lst true (H.map Ad)),some (.lst true (L.map Ad)),y5,y6] S'=some (.bl true,S'):=by
  rw[BZ,o1,U0a,o2,U0a,as]
  show some (D.bl (false ^^ decide (Dk (stand a)+Dk (stand b)=Dk (stand a)+Dk (stand b))),S')=_
  rw[decide_eq_true rfl];rfl
 unfold Ej
 rw[Dn]
 simp only[U0e,U08,U0r,U1n,U1u,U1v,U0t,U05,U18,U1x,if_true]
 unfold R8
 rw[Bd t1,Bd t2,Bd t3,Bd l1,Cm,fin]
 simp[den]
end W30
end
section
namespace W30
open PySem L2 VS
theorem fj{r0 r1:Int}{k:Nat}{hs:List T3}(q0:-1000000000<=r0)(hl:hs.length<=40)(hb:∀t∈hs,InT r0 r1 k t):Hs hs:=⟨by omega,fun t ht=>by
 obtain⟨g1,g2,g3,g4,g5,g6⟩:=hb t ht
 omega⟩
theorem W0(hs:List T3)(a b:Option Int):∃ks:List T3,cut (hs.map Ag) a b=ks.map Ag/\ks.length<=hs.length/\∀t∈ks,t∈hs:=by
 unfold cut
 rw[←List.map_drop,←List.map_take]
 exact⟨_,rfl,by rw[U1i,U10];omega,fun t ht=>List.mem_of_mem_drop (List.mem_of_mem_take ht)⟩
theorem Vy{hs ks:List T3}(h:Hs hs)(hl:ks.length<=hs.length)(hm:∀t∈ks,t∈hs):Hs ks:=⟨by have:=h.few;omega,fun t ht=>h.all t (hm t ht)⟩
def PB(hs:List T3):List T3:=hs.map fun t=>(t.1,t.2.1,min 1000000000 (t.2.2+1))
theorem gZ{hs:List T3}(h:Hs hs):Hs (PB hs):=⟨by unfold PB;rw[U0f];exact h.few,fun t ht=>by
 obtain⟨u,hu,rfl⟩:=U1r.mp ht
 have:=h.all u hu
 show u.1<u.2.1/\1<=min 1000000000 (u.2.2+1)/\min 1000000000 (u.2.2+1)<=1000000000/\-1000000000<=u.1/\u.2.1<=1000000000
 omega⟩
theorem aq{hs ks:List T3}(h:Hs hs)(k:Hs ks)(hl:hs.length<=60)(kl:ks.length<=60)(e0 e1 e2 e3 e4 e6 e7:Option D)(S:Store):Ss [e0,e1,e2,e3,e4,some (.lst true ((sky hs).map Ad)),e6,e7,some (.lst true (ks.map Ag))] S=some (.nx,[e0,e1,e2,e3,e4,some (.lst true ((sky hs).map Ad)),e6,e7,some (.lst true (ks.map Ag))],S):=by
 have r1:=WM h k hl kl
 have r2:=WM k h kl hl
 have ln:=Qn k
 generalize sky hs=a at *
 generalize sky ks=b at *
 obtain⟨r,hr⟩:∃r:VS.Env,r=[e0,e1,e2,e3,e4,some (.lst true (a.map Ad)),e6,e7,some (.lst true (ks.map Ag))]:=⟨_,rfl⟩
 have v5:Ae 5 r S=some (.lst true (a.map Ad),S):=by rw[hr];rfl
 have c1:Ao Bw (Ac (Ae 8) Ah) r S=some (.lst true (b.map Ad),S):=Bm (ds:=[.lst true (ks.map Ag)]) (es:=[.lst false (ks.map Ag)]) (by rw[hr];rfl) (UJ ..) (T4 ..) ln
 have c2:Ao Ej (Ac (Ae 5) (Ac (Ao Bw (Ac (Ae 8) Ah)) Ah)) r S=some (.bl true,S):=Bm (ds:=[.lst true (a.map Ad),.lst true (b.map Ad)]) (es:=[.lst false (a.map Ad),.lst false (b.map Ad)]) (by rw[Av,v5,U0a,Av,c1];rfl) (Ls ..) (Nt ..) r1
 have c3:Ao Ej (Ac (Ao Bw (Ac (Ae 8) Ah)) (Ac (Ae 5) Ah)) r S=some (.bl true,S):=Bm (ds:=[.lst true (b.map Ad),.lst true (a.map Ad)]) (es:=[.lst false (b.map Ad),.lst false (a.map Ad)]) (by rw[Av,c1,U0a,Av,v5];rfl) (Ls ..) (Nt ..) r2
 rw[←hr]
 unfold Ss
 rw[IV (by
  rw[Pb,Nv,Dm,c2]
  show VS.K1 _ _ _=_
  rw[Nv,Dm,c3];rfl)]
 rfl
theorem gW(ns:List Int)(c:Int)(z2 z3 z4 z5 z6 z7 z8:Option D)(S:Store):∃(S':Store)(y2 y3 y4 y5 y6 y7 y8:Option D),Sq [some (.scr ns),some (.int c),z2,z3,z4,z5,z6,z7,z8] S=some (.nx,[some (.scr ns),some (.int c),y2,y3,y4,y5,y6,y7,y8],S'):=by
 obtain⟨x0,p0⟩:=gQ c
 have s1:(Bk 2 (Ih Fj (Ac (Ae 1) Ah))) [some (.scr ns),some (.int c),z2,z3,z4,z5,z6,z7,z8] S=some (.nx,[some (.scr ns),some (.int c),some (.ref S.length),z3,z4,z5,z6,z7,z8],S++[some [.int x0,.int c,.int 0]]):=by
  rw[Cd,RZ (d':=.ref S.length) (cs:=[.int x0,.int c,.int 0]) (Bm (ds:=[.int c]) (es:=[.int c]) (S':=S) rfl (by simp[Bh,Bx]) (by simp[Cr,age]) p0) (by simp[O8,Du,CJ])]
  rfl
 obtain⟨r0,r1,x1,w1,d1,⟨h1,h2,h3⟩,k1,k2⟩:=dG x0 c 0 (by decide) (by decide)
 obtain⟨q,x2,w2,d2,⟨q0,q1⟩,k3,k4⟩:=FT x1 c w1 2 (by decide) (by decide) (by omega) (by omega)
 obtain⟨most,f1,m1,m2⟩:∃m:Nat,atI [D.int 40,D.int 12] q=some (.int m)/\m<=40/\3<=m:=by
  have:q=0∨q=1:=by omega
  rcases this with rfl|rfl
  .exact⟨40,rfl,by decide,by decide⟩
  .exact⟨12,rfl,by decide,by decide⟩
 obtain⟨hs,x3,w3,e1,bl,bb,k5,k6⟩:=Ux x2 c w2 r0 r1 most m1 m2 h1 h2 h3 (by omega) (by omega)
 have hH:=fj h1 (by omega) bb
 obtain⟨ks,x4,w4,e2,kl,kb,k7,k8⟩:=Ux x3 c w3 r0 r1 12 (by decide) (by decide) h1 h2 h3 (by omega) (by omega)
 have hK:=fj h1 (by omega) kb
 have c1:Ay Eu (Ac (Ae 2) Ah) [some (.scr ns),some (.int c),some (.ref S.length),z3,z4,z5,z6,z7,z8] (S++[some [.int x0,.int c,.int 0]])=some (.tup [.int r0,.int r1],S++[some [.int x1,.int c,.int w1]]):=by
  rw[KH (ns:=[x0,c,0]) (rest:=[]) (es:=[]) (i:=S.length) (S':=S++[some [.int x0,.int c,.int 0]]) rfl (Vl S _ []) (by simp[Bh]) (by simp[Cr]) d1,Vj];rfl
 have s2:(Bk 3 (Ay Eu (Ac (Ae 2) Ah))) [some (.scr ns),some (.int c),some (.ref S.length),z3,z4,z5,z6,z7,z8] (S++[some [.int x0,.int c,.int 0]])=some (.nx,[some (.scr ns),some (.int c),some (.ref S.length),some (.tup [.int r0,.int r1]),z4,z5,z6,z7,z8],S++[some [.int x1,.int c,.int w1]]):=by rw[Cd,c1];rfl
 have c2:Ay Am (Ac (Ae 2) (Ac (eC (.int 2)) Ah)) [some (.scr ns),some (.int c),some (.ref S.length),some (.tup [.int r0,.int r1]),z4,z5,z6,z7,z8] (S++[some [.int x1,.int c,.int w1]])=some (.int q,S++[some [.int x2,.int c,.int w2]]):=by
  rw[KH (ns:=[x1,c,w1]) (rest:=[.int 2]) (es:=[.int 2]) (i:=S.length) (S':=S++[some [.int x1,.int c,.int w1]]) rfl (Vl S _ []) (by simp[Bh,Bx]) (by simp[Cr,age]) d2,Vj];rfl
 have o2:eOp oIx (BK (Ac (eC (.int 40)) (Ac (eC (.int 12)) Ah))) (Ay Am (Ac (Ae 2) (Ac (eC (.int 2)) Ah))) [some (.scr ns),some (.int c),some (.ref S.length),some (.tup [.int r0,.int r1]),z4,z5,z6,z7,z8] (S++[some [.int x1,.int c,.int w1]])=some (.int most,S++[some [.int x2,.int c,.int w2]]):=by
  have f:BK (Ac (eC (.int 40)) (Ac (eC (.int 12)) Ah)) [some (.scr ns),some (.int c),some (.ref S.length),some (.tup [.int r0,.int r1]),z4,z5,z6,z7,z8] (S++[some [.int x1,.int c,.int w1]])=some (.lst true [.int 40,.int 12],S++[some [.int x1,.int c,.int w1]]):=rfl
  rw[BZ,f,U0a,c2,U0a]
  show U1z _ (atI [D.int 40,D.int 12] q)=_
  rw[f1];rfl
 have a3:Ac (Ae 2) (Ac (Ae 3) (Ac (eOp oIx (BK (Ac (eC (.int 40)) (Ac (eC (.int 12)) Ah))) (Ay Am (Ac (Ae 2) (Ac (eC (.int 2)) Ah)))) Ah)) [some (.scr ns),some (.int c),some (.ref S.length),some (.tup [.int r0,.int r1]),z4,z5,z6,z7,z8] (S++[some [.int x1,.int c,.int w1]])=some ([.ref S.length,.tup [.int r0,.int r1],.int most],S++[some [.int x2,.int c,.int w2]]):=by
  have v2:Ae 2 [some (.scr ns),some (.int c),some (.ref S.length),some (.tup [.int r0,.int r1]),z4,z5,z6,z7,z8] (S++[some [.int x1,.int c,.int w1]])=some (.ref S.length,S++[some [.int x1,.int c,.int w1]]):=rfl
  have v3:Ae 3 [some (.scr ns),some (.int c),some (.ref S.length),some (.tup [.int r0,.int r1]),z4,z5,z6,z7,z8] (S++[some [.int x1,.int c,.int w1]])=some (.tup [.int r0,.int r1],S++[some [.int x1,.int c,.int w1]]):=rfl
  rw[Av,v2,U0a,Av,v3,U0a,Av,o2];rfl
 have c3:Ay Dg (Ac (Ae 2) (Ac (Ae 3) (Ac (eOp oIx (BK (Ac (eC (.int 40)) (Ac (eC (.int 12)) Ah))) (Ay Am (Ac (Ae 2) (Ac (eC (.int 2)) Ah)))) Ah))) [some (.scr ns),some (.int c),some (.ref S.length),some (.tup [.int r0,.int r1]),z4,z5,z6,z7,z8] (S++[some [.int x1,.int c,.int w1]])=some (.lst true (hs.map Ag),S++[some [.int x3,.int c,.int w3]]):=by
  rw[KH (ns:=[x2,c,w2]) (rest:=[.tup [.int r0,.int r1],.int most]) (es:=[.tup [.int r0,.int r1],.int most]) (i:=S.length) (S':=S++[some [.int x2,.int c,.int w2]]) a3 (Vl S _ []) (by simp[Bh,Bx]) (by simp[Cr,age]) e1,Vj];rfl
 have s3:(Bk 4 (Ay Dg (Ac (Ae 2) (Ac (Ae 3) (Ac (eOp oIx (BK (Ac (eC (.int 40)) (Ac (eC (.int 12)) Ah))) (Ay Am (Ac (Ae 2) (Ac (eC (.int 2)) Ah)))) Ah))))) [some (.scr ns),some (.int c),some (.ref S.length),some (.tup [.int r0,.int r1]),z4,z5,z6,z7,z8] (S++[some [.int x1,.int c,.int w1]])=some (.nx,[some (.scr ns),some (.int c),some (.ref S.length),some (.tup [.int r0,.int r1]),some (.lst true (hs.map Ag)),z5,z6,z7,z8],S++[some [.int x3,.int c,.int w3]]):=by rw[Cd,c3];rfl
 have c4:Ao Bw (Ac (Ae 4) Ah) [some (.scr ns),some (.int c),some (.ref S.length),some (.tup [.int r0,.int r1]),some (.lst true (hs.map Ag)),z5,z6,z7,z8] (S++[some [.int x3,.int c,.int w3]])=some (.lst true ((sky hs).map Ad),S++[some [.int x3,.int c,.int w3]]):=Bm (ds:=[.lst true (hs.map Ag)]) (es:=[.lst false (hs.map Ag)]) rfl (UJ ..) (T4 ..) (Qn hH)
 have s4:(Bk 5 (Ao Bw (Ac (Ae 4) Ah))) [some (.scr ns),some (.int c),some (.ref S.length),some (.tup [.int r0,.int r1]),some (.lst true (hs.map Ag)),z5,z6,z7,z8] (S++[some [.int x3,.int c,.int w3]])=some (.nx,[some (.scr ns),some (.int c),some (.ref S.length),some (.tup [.int r0,.int r1]),some (.lst true (hs.map Ag)),some (.lst true ((sky hs).map Ad)),z6,z7,z8],S++[some [.int x3,.int c,.int w3]]):=by rw[Cd,c4];rfl
 have c5:Ay Dg (Ac (Ae 2) (Ac (Ae 3) (Ac (eC (.int 12)) Ah))) [some (.scr ns),some (.int c),some (.ref S.length),some (.tup [.int r0,.int r1]),some (.lst true (hs.map Ag)),some (.lst true ((sky hs).map Ad)),z6,z7,z8] (S++[some [.int x3,.int c,.int w3]])=some (.lst true (ks.map Ag),S++[some [.int x4,.int c,.int w4]]):=by
  rw[KH (ns:=[x3,c,w3]) (rest:=[.tup [.int r0,.int r1],.int 12]) (es:=[.tup [.int r0,.int r1],.int 12]) (i:=S.length) (S':=S++[some [.int x3,.int c,.int w3]]) rfl (Vl S _ []) (by simp[Bh,Bx]) (by simp[Cr,age]) e2,Vj];rfl
 have s5:(Bk 6 (Ay Dg (Ac (Ae 2) (Ac (Ae 3) (Ac (eC (.int 12)) Ah))))) [some (.scr ns),some (.int c),some (.ref S.length),some (.tup [.int r0,.int r1]),some (.lst true (hs.map Ag)),some (.lst true ((sky hs).map Ad)),z6,z7,z8] (S++[some [.int x3,.int c,.int w3]])=some (.nx,[some (.scr ns),some (.int c),some (.ref S.length),some (.tup [.int r0,.int r1]),some (.lst true (hs.map Ag)),some (.lst true ((sky hs).map Ad)),some (.lst true (ks.map Ag)),z7,z8],S++[some [.int x4,.int c,.int w4]]):=by rw[Cd,c5];rfl
 generalize S++[some [D.int x4,D.int c,D.int w4]]=U at *
 have c6:Sh [some (.scr ns),some (.int c),some (.ref S.length),some (.tup [.int r0,.int r1]),some (.lst true (hs.map Ag)),some (.lst true ((sky hs).map Ad)),some (.lst true (ks.map Ag)),z7,z8] U=some ((PB hs).map Ag,U):=by
  have e:Dh (Ae 4) [some (.scr ns),some (.int c),some (.ref S.length),some (.tup [.int r0,.int r1]),some (.lst true (hs.map Ag)),some (.lst true ((sky hs).map Ad)),some (.lst true (ks.map Ag)),z7,z8] U=some ((hs.map Ag,[]),U):=rfl
  unfold Sh DN
  rw[e]
  simp only[U0a]
  rw[Ht (by simp) Ag (fun t=>Ag (t.1,t.2.1,min 1000000000 (t.2.2+1))) hs (by omega)]
  .unfold PB
   rw[U0i];rfl
  .intro t ht
   refine⟨[some (.int t.1),some (.int t.2.1),some (.int t.2.2)],by simp[Jo,Dq,Hi,G5,Et,U0t,-U0i,-U0l,Ag],?_⟩
   have v0:Ae 0 [some (.int t.1),some (.int t.2.1),some (.int t.2.2)] U=some (.int t.1,U):=rfl
   have v1:Ae 1 [some (.int t.1),some (.int t.2.1),some (.int t.2.2)] U=some (.int t.2.1,U):=rfl
   have v2:eOp Br (Ae 2) (eC (.int 1)) [some (.int t.1),some (.int t.2.1),some (.int t.2.2)] U=some (.int (t.2.2+1),U):=rfl
   have mn:eCB Ft (Ac (eOp Fz (eC (.int 10)) (eC (.int 9))) (Ac (eOp Br (Ae 2) (eC (.int 1))) Ah)) [some (.int t.1),some (.int t.2.1),some (.int t.2.2)] U=some (.int (min 1000000000 (t.2.2+1)),U):=by
    rw[Ec,Av,p9,U0a,Av,v2]
    simp only[U0a,Cz]
    show some (D.int (if t.2.2+1<1000000000 then t.2.2+1 else 1000000000),U)=_
    rw[show(if t.2.2+1<1000000000 then t.2.2+1 else 1000000000)=min 1000000000 (t.2.2+1) by split<;>omega]
   rw[Ir,Av,v0,U0a,Av,v1,U0a,Av,mn];rfl
 have s6:(Bk 7 (BK Sh)) [some (.scr ns),some (.int c),some (.ref S.length),some (.tup [.int r0,.int r1]),some (.lst true (hs.map Ag)),some (.lst true ((sky hs).map Ad)),some (.lst true (ks.map Ag)),z7,z8] U=some (.nx,[some (.scr ns),some (.int c),some (.ref S.length),some (.tup [.int r0,.int r1]),some (.lst true (hs.map Ag)),some (.lst true ((sky hs).map Ad)),some (.lst true (ks.map Ag)),some (.lst true ((PB hs).map Ag)),z8],U):=by
  rw[Cd,Cv,c6];rfl
 have tl:(PB hs).length<=60:=by unfold PB;rw[U0f];omega
 have hT:=gZ hH
 generalize PB hs=ts at *
 obtain⟨u1,cu1,ul1,um1⟩:=W0 hs (some 1) none
 obtain⟨u2,cu2,ul2,um2⟩:=W0 hs none (some 2)
 obtain⟨u3,cu3,ul3,um3⟩:=W0 ks none (some 2)
 have e:Dh (BK (Ac (Ae 6) (Ac (eSl oSl (Ae 4) (GQ (eC (.int 1))) GR) (Ac (eOp Br (eSl oSl (Ae 4) GR (GQ (eC (.int 2)))) (eSl oSl (Ae 6) GR (GQ (eC (.int 2))))) (Ac (BK Ah) (Ac (Ae 7) Ah)))))) [some (.scr ns),some (.int c),some (.ref S.length),some (.tup [.int r0,.int r1]),some (.lst true (hs.map Ag)),some (.lst true ((sky hs).map Ad)),some (.lst true (ks.map Ag)),some (.lst true (ts.map Ag)),z8] U=some (([ks,u1,u2++u3,[],ts].map (fun l=>D.lst true (l.map Ag)),[]),U):=by
  have g6:Ae 6 [some (.scr ns),some (.int c),some (.ref S.length),some (.tup [.int r0,.int r1]),some (.lst true (hs.map Ag)),some (.lst true ((sky hs).map Ad)),some (.lst true (ks.map Ag)),some (.lst true (ts.map Ag)),z8] U=some (.lst true (ks.map Ag),U):=rfl
  have g7:Ae 7 [some (.scr ns),some (.int c),some (.ref S.length),some (.tup [.int r0,.int r1]),some (.lst true (hs.map Ag)),some (.lst true ((sky hs).map Ad)),some (.lst true (ks.map Ag)),some (.lst true (ts.map Ag)),z8] U=some (.lst true (ts.map Ag),U):=rfl
  have a1:eSl oSl (Ae 4) (GQ (eC (.int 1))) GR [some (.scr ns),some (.int c),some (.ref S.length),some (.tup [.int r0,.int r1]),some (.lst true (hs.map Ag)),some (.lst true ((sky hs).map Ad)),some (.lst true (ks.map Ag)),some (.lst true (ts.map Ag)),z8] U=some (.lst true (u1.map Ag),U):=by
   show(some (D.lst true (cut (hs.map Ag) (some 1) none),_):Option (D×Store))=_
   rw[cu1]
  have a2:eSl oSl (Ae 4) GR (GQ (eC (.int 2))) [some (.scr ns),some (.int c),some (.ref S.length),some (.tup [.int r0,.int r1]),some (.lst true (hs.map Ag)),some (.lst true ((sky hs).map Ad)),some (.lst true (ks.map Ag)),some (.lst true (ts.map Ag)),z8] U=some (.lst true (u2.map Ag),U):=by
   show(some (D.lst true (cut (hs.map Ag) none (some 2)),_):Option (D×Store))=_
   rw[cu2]
  have a3:eSl oSl (Ae 6) GR (GQ (eC (.int 2))) [some (.scr ns),some (.int c),some (.ref S.length),some (.tup [.int r0,.int r1]),some (.lst true (hs.map Ag)),some (.lst true ((sky hs).map Ad)),some (.lst true (ks.map Ag)),some (.lst true (ts.map Ag)),z8] U=some (.lst true (u3.map Ag),U):=by
   show(some (D.lst true (cut (ks.map Ag) none (some 2)),_):Option (D×Store))=_
   rw[cu3]
  have a4:=add_lists a2 a3 (by rw[U0f,U0f];omega)
  have f0:BK Ah [some (.scr ns),some (.int c),some (.ref S.length),some (.tup [.int r0,.int r1]),some (.lst true (hs.map Ag)),some (.lst true ((sky hs).map Ad)),some (.lst true (ks.map Ag)),some (.lst true (ts.map Ag)),z8] U=some (.lst true [],U):=rfl
  rw[←U19] at a4
  rw[Jh,Cv,Av,g6,U0a,Av,a1,U0a,Av,a4,U0a,Av,f0,U0a,Av,g7];rfl
 have all:∀l∈[ks,u1,u2++u3,[],ts],Hs l/\l.length<=60:=by
  intro l hl
  simp only[U0q,U2t,or_false] at hl
  have i1:=Vy hH ul1 um1
  have i2:=Vy hH ul2 um2
  have i3:=Vy hK ul3 um3
  rcases hl with rfl|rfl|rfl|rfl|rfl
  .exact⟨hK,by omega⟩
  .exact⟨i1,by omega⟩
  .exact⟨Zz i2 i3 (by omega),by rw[U0h];omega⟩
  .exact⟨⟨by decide,by simp⟩,by decide⟩
  .exact⟨hT,tl⟩
 generalize [ks,u1,u2++u3,[],ts]=G at *
 obtain⟨env',S',e3,y8,he⟩:=Gn (w:=[]) (g:=Pat.sem (.nm 8)) (b:=Ss) (ds:=G.map fun l=>D.lst true (l.map Ag)) (env:=[some (.scr ns),some (.int c),some (.ref S.length),some (.tup [.int r0,.int r1]),some (.lst true (hs.map Ag)),some (.lst true ((sky hs).map Ad)),some (.lst true (ks.map Ag)),some (.lst true (ts.map Ag)),z8]) (S:=U)
  (fun _ env S'=>∃(y8:Option D),env=[some (.scr ns),some (.int c),some (.ref S.length),some (.tup [.int r0,.int r1]),some (.lst true (hs.map Ag)),some (.lst true ((sky hs).map Ad)),some (.lst true (ks.map Ag)),some (.lst true (ts.map Ag)),y8]) ⟨_,rfl⟩ (fun i env S _=>by simp) (fun i d env S' hd q=>by
   obtain⟨y8,he⟩:=q
   rw[U0y] at hd
   obtain⟨l,hl,rfl⟩:=U2i.mp hd
   obtain⟨g1,g2⟩:=all l (U2e hl)
   subst he
   exact⟨_,Dq _ _ _,_,_,aq hH g1 (by omega) g2 _ _ _ _ _ _ _ S',_,rfl⟩)
 subst he
 refine⟨S',some (.ref S.length),some (.tup [.int r0,.int r1]),some (.lst true (hs.map Ag)),some (.lst true ((sky hs).map Ad)),some (.lst true (ks.map Ag)),some (.lst true (ts.map Ag)),y8,?_⟩
 unfold Sq
 rw[Bd s1,Bd s2,Bd s3,Bd s4,Bd s5,Bd s6]
 unfold Zv
 rw[Hq,e]
 exact e3
theorem eE(ns:List Int)(hns:ns.length<=63):U8 [.scr ns]=some (.bl true):=by
 obtain⟨l,e⟩:∃l:List Int,Dh (eOp Br (BK (Ac (eC (.int 0)) Ah)) (eSl oSl (Ae 0) GR (GQ (eC (.int 15))))) [some (.scr ns),none,none,none,none,none,none,none,none] []=some ((l.map .int,[]),[]):=by
  obtain⟨cs,hc,hl⟩:∃cs:List Int,cut (ns.map D.int) none (some 15)=cs.map D.int/\cs.length<=63:=by
   unfold cut
   rw[←List.map_drop,←List.map_take]
   exact⟨_,rfl,by rw[U1i,U10];omega⟩
  refine⟨0::cs,?_⟩
  have a1:eSl oSl (Ae 0) GR (GQ (eC (.int 15))) [some (.scr ns),none,none,none,none,none,none,none,none] []=some (.lst true (cs.map .int),[]):=by
   show(some (D.lst true (cut (ns.map D.int) none (some 15)),([]:Store)):Option (D×Store))=_
   rw[hc]
  have a2:BK (Ac (eC (.int 0)) Ah) [some (.scr ns),none,none,none,none,none,none,none,none] []=some (.lst true [.int 0],[]):=rfl
  rw[Jh,add_lists a2 a1 (by rw[U0f];simp;omega)]
  rfl
 have l2:∃env' S',Vv [some (.scr ns),none,none,none,none,none,none,none,none] []=some (.nx,env',S')/\∃y1 y2 y3 y4 y5 y6 y7 y8,env'=[some (.scr ns),y1,y2,y3,y4,y5,y6,y7,y8]:=by
  unfold Vv
  rw[Hq,e]
  exact Gn (w:=[]) (g:=Pat.sem (.nm 1)) (b:=Sq) (ds:=l.map .int) (env:=[some (.scr ns),none,none,none,none,none,none,none,none]) (S:=[])
   (fun _ env S=>∃y1 y2 y3 y4 y5 y6 y7 y8,env=[some (.scr ns),y1,y2,y3,y4,y5,y6,y7,y8]) ⟨_,_,_,_,_,_,_,_,rfl⟩ (fun i env S _=>by simp) (fun j d env S hd q=>by
    obtain⟨y1,y2,y3,y4,y5,y6,y7,y8,he⟩:=q
    rw[U0y] at hd
    obtain⟨c,hc,rfl⟩:=U2i.mp hd
    subst he
    obtain⟨S',w2,w3,w4,w5,w6,w7,w8,e3⟩:=gW ns c y2 y3 y4 y5 y6 y7 y8 S
    exact⟨_,Dq _ _ _,_,_,e3,_,_,_,_,_,_,_,_,rfl⟩)
 obtain⟨env',S',l2,y1,y2,y3,y4,y5,y6,y7,y8,he⟩:=l2
 subst he
 have kA:SkB [((0:Int),(3:Int)),(4,0)]:=⟨⟨by decide,by decide,by simp,by simp,by decide⟩,by decide⟩
 have kB:SkB [((2:Int),(5:Int)),(6,0)]:=⟨⟨by decide,by decide,by simp,by simp,by decide⟩,by decide⟩
 have kC:SkB []:=⟨⟨by decide,by decide,by simp,by simp,by decide⟩,by decide⟩
 have nbv:nb [((0:Int),(3:Int)),(4,0)] [((2:Int),(5:Int)),(6,0)]=[0,2,4,6]:=Q5 (YS _ _) (by decide) fun x=>by
  rw[Zu]
  simp
  omega
 have vv:chg (lo2 [((0:Int),(3:Int)),(4,0)] [((2:Int),(5:Int)),(6,0)]) (nb [((0:Int),(3:Int)),(4,0)] [((2:Int),(5:Int)),(6,0)])=[(2,3),(4,0)]:=by
  rw[nbv]
  decide +kernel
 have w1:=Wd kA kB
 rw[vv] at w1
 have w2:=O6 kC
 have cA:Ao Dd (Ac (BK (Ac (Ce (Ac (eC (.int 0)) (Ac (eC (.int 3)) Ah))) (Ac (Ce (Ac (eC (.int 4)) (Ac (eC (.int 0)) Ah))) Ah))) (Ac (BK (Ac (Ce (Ac (eC (.int 2)) (Ac (eC (.int 5)) Ah))) (Ac (Ce (Ac (eC (.int 6)) (Ac (eC (.int 0)) Ah))) Ah))) Ah)) [some (.scr ns),y1,y2,y3,y4,y5,y6,y7,y8] S'=some (.lst true ([((2:Int),(3:Int)),(4,0)].map Ad),S') :=
  Bm (ds:=[.lst true ([((0:Int),(3:Int)),(4,0)].map Ad),.lst true ([((2:Int),(5:Int)),(6,0)].map Ad)]) (es:=[.lst false ([((0:Int),(3:Int)),(4,0)].map Ad),.lst false ([((2:Int),(5:Int)),(6,0)].map Ad)]) (S':=S') rfl (Ls ..) (Nt ..) w1
 have cB:Ao Ax (Ac (BK Ah) Ah) [some (.scr ns),y1,y2,y3,y4,y5,y6,y7,y8] S'=some (.int 0,S') :=
  Bm (ds:=[.lst true (([]:List St2).map Ad)]) (es:=[.lst false (([]:List St2).map Ad)]) (S':=S') rfl (Ds ..) (Ek ..) w2
 have fA:(BK (Ac (Ce (Ac (eC (.int 2)) (Ac (eC (.int 3)) Ah))) (Ac (Ce (Ac (eC (.int 4)) (Ac (eC (.int 0)) Ah))) Ah))) [some (.scr ns),y1,y2,y3,y4,y5,y6,y7,y8] S'=some (.lst true ([((2:Int),(3:Int)),(4,0)].map Ad),S'):=rfl
 have eqS:∀l:List St2,oEq false S' (.lst true (l.map Ad)) (.lst true (l.map Ad))=some (.bl (false ^^ true)):=fun l=>Wo 2 (MK S' true l) (MK S' true l) (Vu l) (by decide)
 unfold U8
 rw[Dn]
 simp only[U0e,U08,U0r,U1n,U1u,U1v,U0t,U05,U18,U1x,if_true]
 unfold fu
 rw[Bd l2,Cm,Ly,BZ,cA,U0a,fA,U0a,eqS,U5l,U0a]
 have oB:eOp (oEq false) (Ao Ax (Ac (BK Ah) Ah)) (eC (.int 0)) [some (.scr ns),y1,y2,y3,y4,y5,y6,y7,y8] S'=some (.bl true,S'):=by
  rw[BZ,cB];rfl
 simp only[oB]
 simp[den]
end W30
end
section
namespace W30
open PySem PySem.Spec L2 VS
theorem Ku:∀{us:List Value},us.length=1->∃a0,us=[a0]
 |[a0],_=>⟨a0,rfl⟩
theorem NT:∀{us:List Value},us.length=2->∃a0 a1,us=[a0,a1]
 |[a0,a1],_=>⟨a0,a1,rfl⟩
theorem lB:∀{us:List Value},us.length=3->∃a0 a1 a2,us=[a0,a1,a2]
 |[a0,a1,a2],_=>⟨a0,a1,a2,rfl⟩
theorem tops{l:U6h}{w:World}{K:U0b}{h:Heap}{mg:Str->Option Value}{fa:Addr}{f1 f2 f3 f4 f5 f6 f7 f8 f9 f10 f11 f12 f13 f14 f15 f16 f17 f18 f19 f20 f21 f22 f23 f24 f25:Addr}(X:K.In h)(G:h.Ns mainGlobals mg)(hfa:mg "law"=some (.ref fa))
  {od1 an1 od2 an2 od3 an3 od4 an4 od5 an5 od6 an6 od7 an7 od8 an8 od9 an9 od10 an10 od11 an11 od12 an12 od13 an13 od14 an14 od15 an15 od16 an16 od17 an17 od18 an18 od19 an19 od20 an20 od21 an21 od22 an22 od23 an23 od24 an24 od25 an25:Option Addr} {sl1 sl2 sl3 sl4 sl5 sl6 sl7 sl8 sl9 sl10 sl11 sl12 sl13 sl14 sl15 sl16 sl17 sl18 sl19 sl20 sl21 sl22 sl23 sl24 sl25:Array (Option Value)} {oc1 kV1 dc1 pm1 cd1 ct1 oc2 kV2 dc2 pm2 cd2 ct2 oc3 kV3 dc3 pm3 cd3 ct3 oc4 kV4 dc4 pm4 cd4 ct4 oc5 kV5 dc5 pm5 cd5 ct5 oc6 kV6 dc6 pm6 cd6 ct6 oc7 kV7 dc7 pm7 cd7 ct7 oc8 kV8 dc8 pm8 cd8 ct8 oc9 kV9 dc9 pm9 cd9 ct9 oc10 kV10 dc10 pm10 cd10 ct10 oc11 kV11 dc11 pm11 cd11 ct11 oc12 kV12 dc12 pm12 cd12 ct12 oc13 kV13 dc13 pm13 cd13 ct13 oc14 kV14 dc14 pm14 cd14 ct14 oc15 kV15 dc15 pm15 cd15 ct15 oc16 kV16 dc16 pm16 cd16 ct16 oc17 kV17 dc17 pm17 cd17 ct17 oc18 kV18 dc18 pm18 cd18 ct18 oc19 kV19 dc19 pm19 cd19 ct19 oc20 kV20 dc20 pm20 cd20 ct20 oc21 kV21 dc21 pm21 cd21 ct21 oc22 kV22 dc22 pm22 cd22 ct22 oc23 kV23 dc23 pm23 cd23 ct23 oc24 kV24 dc24 pm24 cd24 ct24 oc25 kV25 dc25 pm25 cd25 ct25:Value}
  (a1:U0v K mainGlobals "is_whole"=some (some (.ref f1))) (l1:K.lookup f1=some ⟨oc1,od1,.func (U09 "is_whole" "is_whole" (CV J4) (CG J4) (Aq J4) .none kV1 dc1 pm1 an1 cd1 ct1),sl1⟩) (c1:U07 K cd1 "is_whole"=true) (k1:U01 K (.ref f1)=true)
  (a2:U0v K mainGlobals "are_wholes"=some (some (.ref f2))) (l2:K.lookup f2=some ⟨oc2,od2,.func (U09 "are_wholes" "are_wholes" (CV GP) (CG GP) (Aq GP) .none kV2 dc2 pm2 an2 cd2 ct2),sl2⟩) (c2:U07 K cd2 "are_wholes"=true) (k2:U01 K (.ref f2)=true)
  (a3:U0v K mainGlobals "is_skyline"=some (some (.ref f3))) (l3:K.lookup f3=some ⟨oc3,od3,.func (U09 "is_skyline" "is_skyline" (CV Fp) (CG Fp) (Aq Fp) .none kV3 dc3 pm3 an3 cd3 ct3),sl3⟩) (c3:U07 K cd3 "is_skyline"=true) (k3:U01 K (.ref f3)=true)
  (a4:U0v K mainGlobals "need_skyline"=some (some (.ref f4))) (l4:K.lookup f4=some ⟨oc4,od4,.func (U09 "need_skyline" "need_skyline" (CV GD) (CG GD) (Aq GD) .none kV4 dc4 pm4 an4 cd4 ct4),sl4⟩) (c4:U07 K cd4 "need_skyline"=true) (k4:U01 K (.ref f4)=true)
  (a5:U0v K mainGlobals "tallest_at"=some (some (.ref f5))) (l5:K.lookup f5=some ⟨oc5,od5,.func (U09 "tallest_at" "tallest_at" (CV GJ) (CG GJ) (Aq GJ) .none kV5 dc5 pm5 an5 cd5 ct5),sl5⟩) (c5:U07 K cd5 "tallest_at"=true) (k5:U01 K (.ref f5)=true)
  (a6:U0v K mainGlobals "changes_alone"=some (some (.ref f6))) (l6:K.lookup f6=some ⟨oc6,od6,.func (U09 "changes_alone" "changes_alone" (CV Fx) (CG Fx) (Aq Fx) .none kV6 dc6 pm6 an6 cd6 ct6),sl6⟩) (c6:U07 K cd6 "changes_alone"=true) (k6:U01 K (.ref f6)=true)
  (a7:U0v K mainGlobals "standing_under"=some (some (.ref f7))) (l7:K.lookup f7=some ⟨oc7,od7,.func (U09 "standing_under" "standing_under" (CV Dy) (CG Dy) (Aq Dy) .none kV7 dc7 pm7 an7 cd7 ct7),sl7⟩) (c7:U07 K cd7 "standing_under"=true) (k7:U01 K (.ref f7)=true)
  (a8:U0v K mainGlobals "houses_of"=some (some (.ref f8))) (l8:K.lookup f8=some ⟨oc8,od8,.func (U09 "houses_of" "houses_of" (CV Hz) (CG Hz) (Aq Hz) .none kV8 dc8 pm8 an8 cd8 ct8),sl8⟩) (c8:U07 K cd8 "houses_of"=true) (k8:U01 K (.ref f8)=true)
  (a9:U0v K mainGlobals "area_under"=some (some (.ref f9))) (l9:K.lookup f9=some ⟨oc9,od9,.func (U09 "area_under" "area_under" (CV GK) (CG GK) (Aq GK) .none kV9 dc9 pm9 an9 cd9 ct9),sl9⟩) (c9:U07 K cd9 "area_under"=true) (k9:U01 K (.ref f9)=true)
  (a10:U0v K mainGlobals "heights_of_both"=some (some (.ref f10))) (l10:K.lookup f10=some ⟨oc10,od10,.func (U09 "heights_of_both" "heights_of_both" (CV Dp) (CG Dp) (Aq Dp) .none kV10 dc10 pm10 an10 cd10 ct10),sl10⟩) (c10:U07 K cd10 "heights_of_both"=true) (k10:U01 K (.ref f10)=true)
  (a11:U0v K mainGlobals "higher_of"=some (some (.ref f11))) (l11:K.lookup f11=some ⟨oc11,od11,.func (U09 "higher_of" "higher_of" (CV Gs) (CG Gs) (Aq Gs) .none kV11 dc11 pm11 an11 cd11 ct11),sl11⟩) (c11:U07 K cd11 "higher_of"=true) (k11:U01 K (.ref f11)=true)
  (a12:U0v K mainGlobals "lower_of"=some (some (.ref f12))) (l12:K.lookup f12=some ⟨oc12,od12,.func (U09 "lower_of" "lower_of" (CV Hg) (CG Hg) (Aq Hg) .none kV12 dc12 pm12 an12 cd12 ct12),sl12⟩) (c12:U07 K cd12 "lower_of"=true) (k12:U01 K (.ref f12)=true)
  (a13:U0v K mainGlobals "_law_mixed"=some (some (.ref f13))) (l13:K.lookup f13=some ⟨oc13,od13,.func (U09 "_law_mixed" "_law_mixed" (CV Hw) (CG Hw) (Aq Hw) .none kV13 dc13 pm13 an13 cd13 ct13),sl13⟩) (c13:U07 K cd13 "_law_mixed"=true) (k13:U01 K (.ref f13)=true)
  (a14:U0v K mainGlobals "_law_well"=some (some (.ref f14))) (l14:K.lookup f14=some ⟨oc14,od14,.func (U09 "_law_well" "_law_well" (CV Iw) (CG Iw) (Aq Iw) .none kV14 dc14 pm14 an14 cd14 ct14),sl14⟩) (c14:U07 K cd14 "_law_well"=true) (k14:U01 K (.ref f14)=true)
  (a15:U0v K mainGlobals "_law_draw"=some (some (.ref f15))) (l15:K.lookup f15=some ⟨oc15,od15,.func (U09 "_law_draw" "_law_draw" (CV Iz) (CG Iz) (Aq Iz) .none kV15 dc15 pm15 an15 cd15 ct15),sl15⟩) (c15:U07 K cd15 "_law_draw"=true) (k15:U01 K (.ref f15)=true)
  (a16:U0v K mainGlobals "_law_reach"=some (some (.ref f16))) (l16:K.lookup f16=some ⟨oc16,od16,.func (U09 "_law_reach" "_law_reach" (CV Hv) (CG Hv) (Aq Hv) .none kV16 dc16 pm16 an16 cd16 ct16),sl16⟩) (c16:U07 K cd16 "_law_reach"=true) (k16:U01 K (.ref f16)=true)
  (a17:U0v K mainGlobals "_law_stretch"=some (some (.ref f17))) (l17:K.lookup f17=some ⟨oc17,od17,.func (U09 "_law_stretch" "_law_stretch" (CV Gd) (CG Gd) (Aq Gd) .none kV17 dc17 pm17 an17 cd17 ct17),sl17⟩) (c17:U07 K cd17 "_law_stretch"=true) (k17:U01 K (.ref f17)=true)
  (a18:U0v K mainGlobals "_law_house"=some (some (.ref f18))) (l18:K.lookup f18=some ⟨oc18,od18,.func (U09 "_law_house" "_law_house" (CV Hy) (CG Hy) (Aq Hy) .none kV18 dc18 pm18 an18 cd18 ct18),sl18⟩) (c18:U07 K cd18 "_law_house"=true) (k18:U01 K (.ref f18)=true)
  (a19:U0v K mainGlobals "_law_houses"=some (some (.ref f19))) (l19:K.lookup f19=some ⟨oc19,od19,.func (U09 "_law_houses" "_law_houses" (CV HD) (CG HD) (Aq HD) .none kV19 dc19 pm19 an19 cd19 ct19),sl19⟩) (c19:U07 K cd19 "_law_houses"=true) (k19:U01 K (.ref f19)=true)
  (a20:U0v K mainGlobals "_law_line"=some (some (.ref f20))) (l20:K.lookup f20=some ⟨oc20,od20,.func (U09 "_law_line" "_law_line" (CV Gg) (CG Gg) (Aq Gg) .none kV20 dc20 pm20 an20 cd20 ct20),sl20⟩) (c20:U07 K cd20 "_law_line"=true) (k20:U01 K (.ref f20)=true)
  (a21:U0v K mainGlobals "_law_cells"=some (some (.ref f21))) (l21:K.lookup f21=some ⟨oc21,od21,.func (U09 "_law_cells" "_law_cells" (CV Gq) (CG Gq) (Aq Gq) .none kV21 dc21 pm21 an21 cd21 ct21),sl21⟩) (c21:U07 K cd21 "_law_cells"=true) (k21:U01 K (.ref f21)=true)
  (a22:U0v K mainGlobals "_law_lower"=some (some (.ref f22))) (l22:K.lookup f22=some ⟨oc22,od22,.func (U09 "_law_lower" "_law_lower" (CV Hx) (CG Hx) (Aq Hx) .none kV22 dc22 pm22 an22 cd22 ct22),sl22⟩) (c22:U07 K cd22 "_law_lower"=true) (k22:U01 K (.ref f22)=true)
  (a23:U0v K mainGlobals "_law_area"=some (some (.ref f23))) (l23:K.lookup f23=some ⟨oc23,od23,.func (U09 "_law_area" "_law_area" (CV J3) (CG J3) (Aq J3) .none kV23 dc23 pm23 an23 cd23 ct23),sl23⟩) (c23:U07 K cd23 "_law_area"=true) (k23:U01 K (.ref f23)=true)
  (a24:U0v K mainGlobals "_law_right"=some (some (.ref f24))) (l24:K.lookup f24=some ⟨oc24,od24,.func (U09 "_law_right" "_law_right" (CV Hu) (CG Hu) (Aq Hu) .none kV24 dc24 pm24 an24 cd24 ct24),sl24⟩) (c24:U07 K cd24 "_law_right"=true) (k24:U01 K (.ref f24)=true)
  (a25:U0v K mainGlobals "law"=some (some (.ref f25))) (l25:K.lookup f25=some ⟨oc25,od25,.func (U09 "law" "law" (CV KN) (CG KN) (Aq KN) .none kV25 dc25 pm25 an25 cd25 ct25),sl25⟩) (c25:U07 K cd25 "law"=true) (k25:U01 K (.ref f25)=true)
  (z1:U0v K mainGlobals "len"=some none)
  (z2:U0v K mainGlobals "isinstance"=some none)
  (z3:U0v K mainGlobals "all"=some none)
  (z4:U0v K mainGlobals "sorted"=some none)
  (z5:U0v K mainGlobals "min"=some none)
  (z6:U0v K mainGlobals "max"=some none)
  (z7:U0v K mainGlobals "abs"=some none)
  (z8:U0v K mainGlobals "repr"=some none)
  (z9:U0v K mainGlobals "set"=some none)
  (z10:U0v K mainGlobals "list"=some none)
  (z11:U0v K mainGlobals "tuple"=some none)
  (z12:U0v K mainGlobals "range"=some none)
  (z13:U0v K mainGlobals "int"=some none)
  (z14:U0v K mainGlobals "bool"=some none)
  (z15:U0v K mainGlobals "str"=some none)
  (zBz:U0v K mainGlobals "zip"=some none)
  (zBs:U0v K mainGlobals "sum"=some none)
  : ∃fd:FuncData,(∀(s:Shared)(v:Value),BindsTo s fd ⟨[v],[]⟩ [("script",v)])/\∀base:Heap,K.In base->base.Ns mainGlobals mg->Cy l.prog w K mg base CX0 8 fa fd ["script"] (SJ K):=by
 have e:=hfa.symm.trans (U1l X G a25)
 cases e
 have F1:=Dl (st:=J4) l1 c1 k1
 have b1:=F1.binds (ps:=["thing"]) fun _ _ _ _ _ _ us hl=>by obtain⟨_,rfl⟩:=Ku hl;rfl
 have F2:=Dl (st:=GP) l2 c2 k2
 have b2:=F2.binds (ps:=["thing","many"]) fun _ _ _ _ _ _ us hl=>by obtain⟨_,_,rfl⟩:=NT hl;rfl
 have F3:=Dl (st:=Fp) l3 c3 k3
 have b3:=F3.binds (ps:=["thing"]) fun _ _ _ _ _ _ us hl=>by obtain⟨_,rfl⟩:=Ku hl;rfl
 have F4:=Dl (st:=GD) l4 c4 k4
 have b4:=F4.binds (ps:=["skyline"]) fun _ _ _ _ _ _ us hl=>by obtain⟨_,rfl⟩:=Ku hl;rfl
 have F5:=Dl (st:=GJ) l5 c5 k5
 have b5:=F5.binds (ps:=["houses","number"]) fun _ _ _ _ _ _ us hl=>by obtain⟨_,_,rfl⟩:=NT hl;rfl
 have F6:=Dl (st:=Fx) l6 c6 k6
 have b6:=F6.binds (ps:=["heights"]) fun _ _ _ _ _ _ us hl=>by obtain⟨_,rfl⟩:=Ku hl;rfl
 have F7:=Dl (st:=Dy) l7 c7 k7
 have b7:=F7.binds (ps:=["skyline"]) fun _ _ _ _ _ _ us hl=>by obtain⟨_,rfl⟩:=Ku hl;rfl
 have F8:=Dl (st:=Hz) l8 c8 k8
 have b8:=F8.binds (ps:=["skyline"]) fun _ _ _ _ _ _ us hl=>by obtain⟨_,rfl⟩:=Ku hl;rfl
 have F9:=Dl (st:=GK) l9 c9 k9
 have b9:=F9.binds (ps:=["skyline"]) fun _ _ _ _ _ _ us hl=>by obtain⟨_,rfl⟩:=Ku hl;rfl
 have F10:=Dl (st:=Dp) l10 c10 k10
 have b10:=F10.binds (ps:=["one","other"]) fun _ _ _ _ _ _ us hl=>by obtain⟨_,_,rfl⟩:=NT hl;rfl
 have F11:=Dl (st:=Gs) l11 c11 k11
 have b11:=F11.binds (ps:=["one","other"]) fun _ _ _ _ _ _ us hl=>by obtain⟨_,_,rfl⟩:=NT hl;rfl
 have F12:=Dl (st:=Hg) l12 c12 k12
 have b12:=F12.binds (ps:=["one","other"]) fun _ _ _ _ _ _ us hl=>by obtain⟨_,_,rfl⟩:=NT hl;rfl
 have F13:=Dl (st:=Hw) l13 c13 k13
 have b13:=F13.binds (ps:=["cell","k"]) fun _ _ _ _ _ _ us hl=>by obtain⟨_,_,rfl⟩:=NT hl;rfl
 have F14:=Dl (st:=Iw) l14 c14 k14
 have b14:=F14.binds (ps:=["cell"]) fun _ _ _ _ _ _ us hl=>by obtain⟨_,rfl⟩:=Ku hl;rfl
 have F15:=Dl (st:=Iz) l15 c15 k15
 have b15:=F15.binds (ps:=["well","many"]) fun _ _ _ _ _ _ us hl=>by obtain⟨_,_,rfl⟩:=NT hl;rfl
 have F16:=Dl (st:=Hv) l16 c16 k16
 have b16:=F16.binds (ps:=["well"]) fun _ _ _ _ _ _ us hl=>by obtain⟨_,rfl⟩:=Ku hl;rfl
 have F17:=Dl (st:=Gd) l17 c17 k17
 have b17:=F17.binds (ps:=["well","reach"]) fun _ _ _ _ _ _ us hl=>by obtain⟨_,_,rfl⟩:=NT hl;rfl
 have F18:=Dl (st:=Hy) l18 c18 k18
 have b18:=F18.binds (ps:=["well","reach","houses"]) fun _ _ _ _ _ _ us hl=>by obtain⟨_,_,_,rfl⟩:=lB hl;rfl
 have F19:=Dl (st:=HD) l19 c19 k19
 have b19:=F19.binds (ps:=["well","reach","most"]) fun _ _ _ _ _ _ us hl=>by obtain⟨_,_,_,rfl⟩:=lB hl;rfl
 have F20:=Dl (st:=Gg) l20 c20 k20
 have b20:=F20.binds (ps:=["houses"]) fun _ _ _ _ _ _ us hl=>by obtain⟨_,rfl⟩:=Ku hl;rfl
 have F21:=Dl (st:=Gq) l21 c21 k21
 have b21:=F21.binds (ps:=["skyline"]) fun _ _ _ _ _ _ us hl=>by obtain⟨_,rfl⟩:=Ku hl;rfl
 have F22:=Dl (st:=Hx) l22 c22 k22
 have b22:=F22.binds (ps:=["one","other"]) fun _ _ _ _ _ _ us hl=>by obtain⟨_,_,rfl⟩:=NT hl;rfl
 have F23:=Dl (st:=J3) l23 c23 k23
 have b23:=F23.binds (ps:=["skyline"]) fun _ _ _ _ _ _ us hl=>by obtain⟨_,rfl⟩:=Ku hl;rfl
 have F24:=Dl (st:=Hu) l24 c24 k24
 have b24:=F24.binds (ps:=["one","other"]) fun _ _ _ _ _ _ us hl=>by obtain⟨_,_,rfl⟩:=NT hl;rfl
 have F25:=Dl (st:=KN) l25 c25 k25
 have B:Blt mg:=fun x hx=>by
  simp only[Rw,U0q,U2t,or_false] at hx
  rcases hx with rfl|rfl|rfl|rfl|rfl|rfl|rfl|rfl|rfl|rfl|rfl|rfl|rfl|rfl|rfl
  .exact U1p X G z1
  .exact U1p X G z2
  .exact U1p X G z3
  .exact U1p X G z4
  .exact U1p X G z5
  .exact U1p X G z6
  .exact U1p X G z7
  .exact U1p X G z8
  .exact U1p X G z9
  .exact U1p X G z10
  .exact U1p X G z11
  .exact U1p X G z12
  .exact U1p X G z13
  .exact U1p X G z14
  .exact U1p X G z15
 have Bz:mg "zip"=none:=U1p X G zBz
 have Bs:mg "sum"=none:=U1p X G zBs
 refine⟨U09 "law" "law" (CV KN) (CG KN) (Aq KN) .none kV25 dc25 pm25 an25 cd25 ct25,fun s v=>.of_eq rfl,fun base _ _=>?_⟩
 have C_is_whole:Ck l.prog w K mg base "is_whole" 1 Gy:=⟨⟨["thing"],⟨_,_,Xu F1 B,b1,k1,U1l X G a1⟩,fun ds r h=>Ea h⟩⟩
 have C_are_wholes:Ck l.prog w K mg base "are_wholes" 2 Fb:=⟨⟨["thing","many"],⟨_,_,VN F2 B C_is_whole,b2,k2,U1l X G a2⟩,fun ds r h=>Ea h⟩⟩
 have C_is_skyline:Ck l.prog w K mg base "is_skyline" 3 FZ:=⟨⟨["thing"],⟨_,_,VJ F3 B Bz C_are_wholes,b3,k3,U1l X G a3⟩,fun ds r h=>Ea h⟩⟩
 have C_need_skyline:Ck l.prog w K mg base "need_skyline" 4 Bu:=⟨⟨["skyline"],⟨_,_,Ti F4 B C_is_skyline,b4,k4,U1l X G a4⟩,fun ds r h=>Ea h⟩⟩
 have C_tallest_at:Ck l.prog w K mg base "tallest_at" 1 Eb:=⟨⟨["houses","number"],⟨_,_,VG F5 B,b5,k5,U1l X G a5⟩,fun ds r h=>Ea h⟩⟩
 have C_changes_alone:Ck l.prog w K mg base "changes_alone" 1 DQ:=⟨⟨["heights"],⟨_,_,Rz F6 B,b6,k6,U1l X G a6⟩,fun ds r h=>Ea h⟩⟩
 have C_standing_under:Ck l.prog w K mg base "standing_under" 1 Bq:=⟨⟨["skyline"],⟨_,_,Qs F7 B Bz,b7,k7,U1l X G a7⟩,fun ds r h=>Ea h⟩⟩
 have C_houses_of:Ck l.prog w K mg base "houses_of" 5 Ez:=⟨⟨["skyline"],⟨_,_,XQ F8 B C_need_skyline C_standing_under,b8,k8,U1l X G a8⟩,fun ds r h=>Ea h⟩⟩
 have C_area_under:Ck l.prog w K mg base "area_under" 6 Ax:=⟨⟨["skyline"],⟨_,_,VL F9 B Bs C_houses_of,b9,k9,U1l X G a9⟩,fun ds r h=>Ea h⟩⟩
 have C_heights_of_both:Ck l.prog w K mg base "heights_of_both" 5 CK:=⟨⟨["one","other"],⟨_,_,QV F10 B C_need_skyline C_standing_under C_tallest_at,b10,k10,U1l X G a10⟩,fun ds r h=>Ea h⟩⟩
 have C_higher_of:Ck l.prog w K mg base "higher_of" 6 Dz:=⟨⟨["one","other"],⟨_,_,XR F11 B C_changes_alone C_heights_of_both,b11,k11,U1l X G a11⟩,fun ds r h=>Ea h⟩⟩
 have C_lower_of:Ck l.prog w K mg base "lower_of" 6 Dd:=⟨⟨["one","other"],⟨_,_,Xn F12 B C_changes_alone C_heights_of_both,b12,k12,U1l X G a12⟩,fun ds r h=>Ea h⟩⟩
 have C_law_mixed:Ck l.prog w K mg base "_law_mixed" 1 Gb:=⟨⟨["cell","k"],⟨_,_,XF F13 B,b13,k13,U1l X G a13⟩,fun ds r h=>Ea h⟩⟩
 have C_law_well:Ck l.prog w K mg base "_law_well" 1 Fj:=⟨⟨["cell"],⟨_,_,Xo F14 B,b14,k14,U1l X G a14⟩,fun ds r h=>Ea h⟩⟩
 have C_law_draw:Jb l.prog w K mg base "_law_draw" 2 Am:=⟨⟨["well","many"],⟨_,_,Xq F15 B C_law_mixed,b15,k15,U1l X G a15⟩,fun ns ds r h=>O1 h⟩⟩
 have C_law_reach:Jb l.prog w K mg base "_law_reach" 3 Eu:=⟨⟨["well"],⟨_,_,XD F16 B C_law_draw,b16,k16,U1l X G a16⟩,fun ns ds r h=>O1 h⟩⟩
 have C_law_stretch:Jb l.prog w K mg base "_law_stretch" 3 Eh:=⟨⟨["well","reach"],⟨_,_,Uj F17 B C_law_draw,b17,k17,U1l X G a17⟩,fun ns ds r h=>O1 h⟩⟩
 have C_law_house:Jb l.prog w K mg base "_law_house" 4 Ey:=⟨⟨["well","reach","houses"],⟨_,_,XJ F18 B C_law_stretch C_law_draw,b18,k18,U1l X G a18⟩,fun ns ds r h=>O1 h⟩⟩
 have C_law_houses:Jb l.prog w K mg base "_law_houses" 5 Dg:=⟨⟨["well","reach","most"],⟨_,_,VH F19 B C_law_draw C_law_house,b19,k19,U1l X G a19⟩,fun ns ds r h=>O1 h⟩⟩
 have C_law_line:Ck l.prog w K mg base "_law_line" 1 Bw:=⟨⟨["houses"],⟨_,_,Xp F20 B,b20,k20,U1l X G a20⟩,fun ds r h=>Ea h⟩⟩
 have C_law_cells:Ck l.prog w K mg base "_law_cells" 1 Bj:=⟨⟨["skyline"],⟨_,_,XM F21 B Bz,b21,k21,U1l X G a21⟩,fun ds r h=>Ea h⟩⟩
 have C_law_lower:Ck l.prog w K mg base "_law_lower" 2 Ew:=⟨⟨["one","other"],⟨_,_,XH F22 B C_law_cells C_law_line,b22,k22,U1l X G a22⟩,fun ds r h=>Ea h⟩⟩
 have C_law_area:Ck l.prog w K mg base "_law_area" 1 Df:=⟨⟨["skyline"],⟨_,_,Xr F23 B,b23,k23,U1l X G a23⟩,fun ds r h=>Ea h⟩⟩
 have C_law_right:Ck l.prog w K mg base "_law_right" 7 Ej:=⟨⟨["one","other"],⟨_,_,XC F24 B C_law_line C_law_cells C_law_lower C_lower_of C_higher_of C_area_under C_law_area,b24,k24,U1l X G a24⟩,fun ds r h=>Ea h⟩⟩
 exact(nU F25 B C_law_well C_law_reach C_law_houses C_law_draw C_law_line C_law_right C_lower_of C_area_under).imp (o9 eE)
theorem walk{l:U6h}{q:Program}{loose:List Str}{XP:(Str->Option Value)->Heap->Prop}{YP:World->Heap->Prop}{d:DefRec}{K:Params->U0b}(hn:l.most=some 63)(hdf:d.params.defaults=[])
  (hY:∀(w:World)(h:Heap),YP w h->(K w.params).In h)
  (F:∀(w:World)(mg:Str->Option Value)(fa:Addr)(h:Heap),(K w.params).In h->h.Ns mainGlobals mg->mg d.name=some (.ref fa) ->
   ∃fd:FuncData,(∀(s:Shared)(u:Value),BindsTo s fd ⟨[u],[]⟩ [("script",u)])/\∀base:Heap,(K w.params).In base->base.Ns mainGlobals mg->Cy l.prog w (K w.params) mg base CX0 8 fa fd ["script"] (SJ (K w.params))) :
  U7m q loose XP YP l.row.toRowW d [] (fun f vs=>U7j f vs) :=
 L2.cV (n:=63) (k:=8) (x:="script") (CX:=CX0) (sp:=SJ) hn (by decide) hdf ⟨rfl,by decide,by decide,rfl⟩ hY F (fun _ _ a ns hl hO hS=>⟨a,ns,rfl,hO,hl,hS,fun _=>rfl⟩) fun _ _ _ _ z=>z
end W30
open PySem PySem.W PyProof.Rows
set_option maxRecDepth 100000 in
set_option maxHeartbeats 0 in
theorem PySem.Challenge.cw_boxcover_k30_areas_and_both_skylines_holds : PySem.Challenge.rw_boxcover_k30_areas_and_both_skylines.Holds := by
 w_on;o_law;k_head;(case hw=>w_witness2)
 k_fill
 refine W30.walk (l := PySem.Challenge.rw_boxcover_k30_areas_and_both_skylines) rfl rfl (fun w h Y => PySem.W.kIn_of Y) ?F
 case F =>
  intro w mg fa h KX G hmg
  refine' W30.tops KX G hmg ?a1 ?l1 ?c1 ?k1 ?a2 ?l2 ?c2 ?k2 ?a3 ?l3 ?c3 ?k3 ?a4 ?l4 ?c4 ?k4 ?a5 ?l5 ?c5 ?k5 ?a6 ?l6 ?c6 ?k6 ?a7 ?l7 ?c7 ?k7 ?a8 ?l8 ?c8 ?k8 ?a9 ?l9 ?c9 ?k9 ?a10 ?l10 ?c10 ?k10 ?a11 ?l11 ?c11 ?k11 ?a12 ?l12 ?c12 ?k12 ?a13 ?l13 ?c13 ?k13 ?a14 ?l14 ?c14 ?k14 ?a15 ?l15 ?c15 ?k15 ?a16 ?l16 ?c16 ?k16 ?a17 ?l17 ?c17 ?k17 ?a18 ?l18 ?c18 ?k18 ?a19 ?l19 ?c19 ?k19 ?a20 ?l20 ?c20 ?k20 ?a21 ?l21 ?c21 ?k21 ?a22 ?l22 ?c22 ?k22 ?a23 ?l23 ?c23 ?k23 ?a24 ?l24 ?c24 ?k24 ?a25 ?l25 ?c25 ?k25 ?z1 ?z2 ?z3 ?z4 ?z5 ?z6 ?z7 ?z8 ?z9 ?z10 ?z11 ?z12 ?z13 ?z14 ?z15 ?zBz ?zBs
  (case a1=>k_is);(case l1=>k_is);(case c1=>k_is);(case k1=>k_is)
  (case a2=>k_is);(case l2=>k_is);(case c2=>k_is);(case k2=>k_is)
  (case a3=>k_is);(case l3=>k_is);(case c3=>k_is);(case k3=>k_is)
  (case a4=>k_is);(case l4=>k_is);(case c4=>k_is);(case k4=>k_is)
  (case a5=>k_is);(case l5=>k_is);(case c5=>k_is);(case k5=>k_is)
  (case a6=>k_is);(case l6=>k_is);(case c6=>k_is);(case k6=>k_is)
  (case a7=>k_is);(case l7=>k_is);(case c7=>k_is);(case k7=>k_is)
  (case a8=>k_is);(case l8=>k_is);(case c8=>k_is);(case k8=>k_is)
  (case a9=>k_is);(case l9=>k_is);(case c9=>k_is);(case k9=>k_is)
  (case a10=>k_is);(case l10=>k_is);(case c10=>k_is);(case k10=>k_is)
  (case a11=>k_is);(case l11=>k_is);(case c11=>k_is);(case k11=>k_is)
  (case a12=>k_is);(case l12=>k_is);(case c12=>k_is);(case k12=>k_is)
  (case a13=>k_is);(case l13=>k_is);(case c13=>k_is);(case k13=>k_is)
  (case a14=>k_is);(case l14=>k_is);(case c14=>k_is);(case k14=>k_is)
  (case a15=>k_is);(case l15=>k_is);(case c15=>k_is);(case k15=>k_is)
  (case a16=>k_is);(case l16=>k_is);(case c16=>k_is);(case k16=>k_is)
  (case a17=>k_is);(case l17=>k_is);(case c17=>k_is);(case k17=>k_is)
  (case a18=>k_is);(case l18=>k_is);(case c18=>k_is);(case k18=>k_is)
  (case a19=>k_is);(case l19=>k_is);(case c19=>k_is);(case k19=>k_is)
  (case a20=>k_is);(case l20=>k_is);(case c20=>k_is);(case k20=>k_is)
  (case a21=>k_is);(case l21=>k_is);(case c21=>k_is);(case k21=>k_is)
  (case a22=>k_is);(case l22=>k_is);(case c22=>k_is);(case k22=>k_is)
  (case a23=>k_is);(case l23=>k_is);(case c23=>k_is);(case k23=>k_is)
  (case a24=>k_is);(case l24=>k_is);(case c24=>k_is);(case k24=>k_is)
  (case a25=>k_is);(case l25=>k_is);(case c25=>k_is);(case k25=>k_is)
  (case z1=>k_is);(case z2=>k_is);(case z3=>k_is);(case z4=>k_is);(case z5=>k_is);(case z6=>k_is);(case z7=>k_is);(case z8=>k_is);(case z9=>k_is);(case z10=>k_is);(case z11=>k_is);(case z12=>k_is);(case z13=>k_is);(case z14=>k_is);(case z15=>k_is)
  (case zBz=>k_is)
  (case zBs=>k_is)
end
