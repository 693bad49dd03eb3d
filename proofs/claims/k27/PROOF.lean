import PyProof.Rows.All
import Wide.All
import OpenK.AllK
import Wide.FinOn
import Lean
import PyProof.EqAt
import PyProof.EqKinds
import PyProof.TupleCall
import PyProof.SetKind
import PyProof.SetNew
import PyProof.SetRoads
import PyProof.Walks
import PyProof.Rows.SetListFold
import PyProof.Seq
import PyProof.Rows.SortShell
import PyProof.TupleIter
import PyProof.CollectWalk
import PyProof.ReprRoads
import PyProof.EqLayable
import PyProof.ReprLen
import PyProof.WalkInts
import PyProof.SeqI3
import PyProof.ListMulRoad
import PyProof.ZipIter
import PyProof.EnumFor
import PyProof.EnumMake
import PyProof.Draws
import PyProof.Rows.ZipGen
import PyProof.LayNew
import PyProof.WalksMore
import PyProof.IsiTupleAll
import PyProof.Rows.Range3
import PyProof.Rows.SumAny
import PyProof.Rows.CallKwBuiltin
import PyProof.MinMaxWalk
import PySem.Challenge.RW_boxcover_k27_what_are_houses_and_skyline
open PySem renaming wpAny_bind → U0, wpAny_pure → U0d, wpAny_newObj_type → U1p, wpAny_call_entry → U2i, wpAny_field → U2k, wpAny_holding → U2n, mem_of_lookup → U2q, wpAny_setField → U21, wpAny_rule → U3, wpAny_seqItems → U3b, wpAny_truthy_bool → U32, wpAny_setField_rec → U4a, wpAny_setState_of → U4k, wpAny_askSetting → U4s, wpAny_typeOf → U44, wpAny_mono → U5b, wpAny_passesOwn → U5p, wpAny_pyIter_tuple → U5v, wpAny_pyIter_list → U56, wpAny_attempt → U6b, wpAny_onRaise → U6c, wpAny_isInstance → U6d, wpAny_updateSeq → U6i, wpAny_updateSeq_pair → U6k, wpAny_setEntries_of → U6m, wpAny_Call_Name_kw → U6r, wpAny_sequenceKey → U6z, wpAny_execs_nil → U7h, wpAny_ite_false → U7k, wpAny_runValue → U7r, wpAny_load → U7v, call → U7w
open Option renaming bind_some → U0a, map → U06, some → U1g, map_bind → U1r, map_eq_some_iff → U2m, map_some → U40, isSome_iff_exists → U5s
open PySem.W renaming Frag → U0b, nsIn → U0v, keepIn → U04, fnOf → U1e, codeIn → U1f, mg_none_of → U1q, mg_of → U1v, kia_one → U2v, kitOne → U29, findIn → U5x, cellsFrom_some → U6, OpenLaw → U6h, methodObj → U6y, instObj → U7g, lookIn → U7p, WalkO → U7y
open PySem.Heap renaming get?_push_of_some → U0c, lt_size → U0i, get?_push_size → U0r, SameBut → U07, get?_update_other → U1a, size_push → U2h, get?_update_self → U2o, IsTuple → U6l, ExtBut → U6q, IsSliceOf → U7q
open List renaming length_map → U0e, length_cons → U0g, length_append → U0j, mem_cons → U0k, size_toArray → U0l, getElem?_eq_some_iff → U0n, map_cons → U0o, mem_cons_of_mem → U0p, replicate → U0q, mem_cons_self → U0s, replicate_succ → U0t, append_assoc → U0x, mem_append_right → U0y, getElem?_append_left → U0z, getElem?_map → U01, getElem?_eq_getElem → U02, map_map → U09, length_nil → U1b, replicate_zero → U1c, pairwise_append → U1d, mem_append → U1h, getElem?_append_right → U1i, mem_singleton → U1k, length_take → U1l, not_mem_nil → U1m, append_nil → U1n, map_nil → U1t, take_append_drop → U1u, length_drop → U1w, lookup_cons → U1x, cons_append → U1y, nil_append → U1z, length_replicate → U11, perm_append_comm → U13, all_eq_true → U15, mem_of_getElem? → U2c, Perm → U2j, take_of_length_le → U2l, flatten_cons → U2s, mem_map → U2u, mem_append_left → U2y, getElem?_set_self → U20, range → U22, drop_eq_getElem_cons → U24, extract_eq_take_drop → U25, pairwise_cons → U27, getElem?_set_ne → U28, length_eq_zero_iff → U3e, foldl_cons → U3g, map_append → U3h, mergeSort_perm → U3j, getD_eq_getElem?_getD → U3o, all_cons → U3p, Nodup → U3q, length_singleton → U3s, pairwise_iff_getElem → U3t, length → U3u, take_append_of_le_length → U35, getElem_mem → U37, all_map → U4b, mem_filter → U4c, mem_iff_getElem? → U4d, eq_nil_or_concat → U4g, concat_eq_append → U4h, mem_range → U4o, getElem?_replicate → U4v, length_set → U4w, lookup_append → U4y, filter_eq_nil_iff → U42, getElem?_eq_none → U46, drop_drop → U49, filterMap_cons → U5k, filter_eq_self → U5l, length_reverse → U5m, getElem_of_mem → U5n, length_pos_iff → U5o, nodup_cons → U5q, forIn_cons → U5r, drop_zero → U5z, drop_left → U50, take_sublist → U53, reverse_cons → U54, ext_getElem? → U58, getElem?_toArray → U6f, foldl → U6g, getElem?_drop → U6u, getElem?_take → U6v, Pairwise → U6x, drop_sublist → U61, foldl_append → U64, length_range → U66, reverse_perm → U67, isEmpty_nil → U7b, take_length → U7c, zipIdx_cons → U7d, mem_reverse → U7f, of_mem_zip → U7i, lookup → U7m, forIn_nil → U7t
open Array renaming length_toList → U0f, getElem?_eq_getElem → U1o, toList_append → U10, getElem?_toList → U18, getD_eq_getD_getElem? → U2x, getElem_toList → U3y, toList_extract → U3z, toList_reverse → U5d, perm_iff_toList_perm → U5h, toList_push → U63
open Nat renaming le_refl → U0h, le_trans → U00, lt_of_lt_of_le → U03, ne_of_lt → U05, reduceAdd → U16, reduceSub → U17, le_of_lt → U2d, zero_le → U2w, ne_of_gt → U3k, lt_trans → U3w, lt_irrefl → U4i, zero_add → U4r, lt_of_le_of_lt → U4x, le_add_right → U5c, le_succ → U5j, add_zero → U5w, add_sub_cancel_left → U52, lt_succ_of_lt → U65, lt_succ_self → U7a, add_assoc → U7z, mul_comm → U71, le_of_eq → U72
open Bool renaming and_eq_true → U0m, false_eq_true → U0w, false_ne_true → U08, eq_iff_iff → U3f, not_true → U3m, true_and → U34, false_xor → U5, true_xor → U5i, eq_false_iff → U68, or_eq_true → U7j, false_and → U7o, or_false → U7x
open Option.some renaming inj → U0u
open PySem.SetTable renaming below → U1j, grown → U4p, probe → U6p
open PyProof.Rows renaming slot_tuple_getitem → U1s, callWith_type1 → U5a
open List.Perm renaming append_left → U12, refl → U45, cons → U7s
open PySem.Heap.SameBut renaming update → U14
open PySem.Obj renaming mapSeq → U19, mapFields → U33
open PySem.Builtin.SmallTypes renaming nextOf → U2a, ownedTupleIsFree → U3d
open PySem.NameKind renaming free → U2b, cell → U3n
open PySem.SeqAt renaming shaped → U2e, EqAt → U7u
open PySem.Value renaming none → U2f, type → U2r, ref → U26, bool → U3l, int → U6e
open Ne renaming symm → U2g
open PySem.Builtin.Slice renaming slicePlaces → U2p, sliceAdjust → U23, sliceApplied → U5e
open PySem.Builtin.Tuple renaming tupleExact → U2t, tupleItemsOf → U5f
open PySem.PyData renaming depth → U2z, eqv → U3c, depthAll → U4f, int → U4n, canLay0 → U4q, shownAll → U4z, shown → U47, canLayAll0 → U59, showable → U6j
open PySem.Around renaming under_plainId → U3a
open PySem.PassesOwn renaming never → U3i
open PySem.F renaming slot_tuple_iterator_next → U3r, slot_list_append → U30, type_list_append → U31, plainAttrs_list → U36, called_set → U4t, slot_tuple_mul → U41, slot_zip_next → U48, args_tuple_add_2 → U5t, entry_tuple_add → U51, plain_list_iadd → U57, slot_tuple_add → U6a
open Int renaming le_refl → U3v, le_of_lt → U4, toNat_natCast → U4l, emod_lt_of_pos → U6w, le_trans → U7e, emod_nonneg → U7l, ediv_one → U70
open PySem.Str renaming ofString → U3x
open PySem.Manifest renaming ParamKind → U38, Receiver → U55
open PySem.Builtin.List renaming listExtendWith → U39, listSameRef → U4u, listTooLong → U5u
open ForInStep renaming yield → U4e
open PySem.Manifest.ParamKind renaming posOnly → U4j
open False renaming elim → U4m
open PySem.SetTable.below renaming go → U43
open PySem.Shared renaming TypeIs → U5g, heap → U7n
open PyProof.Rows.IntsAre renaming length → U5y
open Sum renaming inl → U6n, inr → U6o
open PySem.Heap.IsSliceOf renaming new → U6s
open PyProof.Rows.IsTup renaming new → U6t
open List.Pairwise renaming nil → U60
open PySem.SetTable.probe renaming go → U62
open True renaming intro → U69
open Or renaming inr → U7, inl → U73
noncomputable section
set_option Elab.async false
set_option maxRecDepth 10000
set_option linter.all false
set_option maxHeartbeats 4000000
namespace PySem.W.Fast
def tw10398342251673087195:=0
def tw11492679884212779312:=0
def tw957937349775236342:=0
def tw12724599007935781413:=0
def tw5419527478249380301:=0
def tw11956833685747052018:=0
def tw12191541829045098671:=0
def tw4436980704389157488:=0
def tw15410725400315270113:=0
def tw16631213501383473992:=0
def tw6138872971223962255:=0
def tw5988833212413397410:=0
def tw12234738761737452198:=0
def tw15099541413850297598:=0
def tw197016304409888285:=0
def tw16881661618650118414:=0
def tw6220342891338390858:=0
def tw1395926482190375512:=0
def tw5485335556198684811:=0
def tw18386973565862276813:=0
def tw17009002320009687477:=0
def tw5814709589424705111:=0
def tw12295327264814269561:=0
def tw15056132893469821097:=0
def tw3083456287194603344:=0
def tw8865255905392464984:=0
def tw12987367580527302243:=0
def tw12630619363309535145:=0
def tw10732510407121691447:=0
def tw7876921494690759176:=0
def tw15524624368391490827:=0
def tw16586423394354653202:=0
def tw4684032781852827360:=0
def tw3558032301016276878:=0
def tw2404737432274629961:=0
def tw13262362452508449974:=0
def tw8827875738936482855:=0
def tw17268435189362473364:=0
def tw8062528262667872067:=0
def tw5814523313653117194:=0
def tw9671530245041833799:=0
def tw8265673739327066127:=0
def tw5870427466352713523:=0
def tw2788514140080775854:=0
def tw11297815029003147251:=0
def tw9972678384871115733:=0
def tw6912404138272292421:=0
def tw10682728672757844775:=0
def tw14041191121914171460:=0
def tw15578081185824482200:=0
def tw2147070030531588286:=0
def tw1317921877057266291:=0
def tw8393548648860349351:=0
def tw9624565427995993759:=0
def tw11481886902745389806:=0
def tw9594474997058640990:=0
def tw302019775995866247:=0
def tw5927534479212153235:=0
def tw8824493166779483307:=0
def tw7871908462808416164:=0
def tw12940852119312974125:=0
def tw3090552030999636818:=0
def tw2802015112609864926:=0
def tw12681001351065443394:=0
def tw12518699143091219564:=0
def tw7799679868507654303:=0
def tw11685683257859151797:=0
def tw519086010718201909:=0
def tw17663892721303617691:=0
def tw17662591766742619595:=0
def tw7111535556884483913:=0
def tw16446850124758234721:=0
def tw2704889569051540093:=0
def tw14857878707173891163:=0
def tw4005683529519665438:=0
def tw10599157262281843330:=0
def tw8300817121366424431:=0
def tw16641127397828443044:=0
def tw8274054202499724402:=0
def tw12976545725105021386:=0
def tw1707916429606121000:=0
def tw9486533623376544963:=0
def tw14615524971955725286:=0
def tw9930932400529904168:=0
def tw12136050335261830023:=0
def tw15251912873341039323:=0
def tw2865869307343832529:=0
def tw8883988825860411482:=0
def tw16352154022432630535:=0
def tw15672523986832080953:=0
def tw9645802343005229168:=0
def tw1601519418071743640:=0
def tw15450738170681037589:=0
def tw9890063147838896569:=0
def tw9856313655558072211:=0
def tw975147502704252381:=0
def tw9606667597110096147:=0
def tw9387546126236282006:=0
def tw8397021510995035637:=0
def tw8353571823154273583:=0
def tw7981058346883136779:=0
def tw78576209651850177:=0
def tw7618429336860964925:=0
def tw7596287680310401803:=0
def tw736284276219822424:=0
def tw7185768229163484109:=0
def tw705693233582423471:=0
def tw6796020014224675743:=0
def tw6739848785052036326:=0
def tw6232672389646225198:=0
end PySem.W.Fast
section
set_option maxRecDepth 100000
namespace L2
open PySem PySem.Spec PyProof.Rows
abbrev Key:=Sum Int Str
def gG:Key->Value->Bool
 |.inl k,v=>Value.isInt k v
 |.inr x,v=>Value.isStrOf x v
def tE(w:World):Key->Int
 |.inl k=>hashInt k
 |.inr x=>hashStr w x
theorem FP:∀{k:Key} {v:Value},gG k v=true->(∃i t,k=U6n i/\v=U6e i t)∨(∃x t,k=U6o x/\v=Value.str x t)
 |.inl i,v,h=>by
  obtain⟨t,e⟩:=Value.isInt_shape (k:=i) (v:=v) h
  exact .inl ⟨i,t,rfl,e⟩
 |.inr x,v,h=>by
  obtain⟨t,e⟩:=Value.isStrOf_shape (x:=x) (v:=v) h
  exact .inr ⟨x,t,rfl,e⟩
theorem oV(a b:Int):decide ((U6n a:Key)=U6n b)=(a==b):=by
 by_cases e:a=b
 .subst e;simp
 .have h:¬(U6n a:Key)=U6n b:=fun q=>e (U6n.inj q)
  rw[decide_eq_false h]
  exact(beq_eq_false_iff_ne.mpr e).symm
theorem oO(a b:Str):decide ((U6o a:Key)=U6o b)=decide (a=b):=by
 by_cases e:a=b
 .subst e;simp
 .have h:¬(U6o a:Key)=U6o b:=fun q=>e (U6o.inj q)
  rw[decide_eq_false h,decide_eq_false e]
theorem oU(a:Int)(b:Str):decide ((U6n a:Key)=U6o b)=false:=decide_eq_false (fun q=>nomatch q)
theorem oR(a:Str)(b:Int):decide ((U6o a:Key)=U6n b)=false:=decide_eq_false (fun q=>nomatch q)
def Tv(prog:Program)(w:World):PySem.KeyKind prog w Key where
 is:=gG
 hash:=tE w
 inj:=fun v a b ha hb=>by
  rcases FP ha with ⟨i,t,rfl,rfl⟩|⟨x,t,rfl,rfl⟩
  .rcases FP hb with ⟨j,u,rfl,e⟩|⟨y,u,rfl,e⟩
   .injection e with e1 _;rw[e1]
   .exact nomatch e
  .rcases FP hb with ⟨j,u,rfl,e⟩|⟨y,u,rfl,e⟩
   .exact nomatch e
   .injection e with e1 _;rw[e1]
 byValue:=fun k v h=>by
  rcases FP h with ⟨i,t,rfl,rfl⟩|⟨x,t,rfl,rfl⟩<;>rfl
 pyHash:=fun hv h=>by
  rcases FP hv with ⟨i,t,rfl,rfl⟩|⟨x,t,rfl,rfl⟩
  .exact wpAny_pyHash_int h
  .exact wpAny_pyHash_str h
 eqBool:=fun hu hv h=>by
  rcases FP hu with ⟨i,t,rfl,rfl⟩|⟨x,t,rfl,rfl⟩
  .rcases FP hv with ⟨j,u,rfl,rfl⟩|⟨y,u,rfl,rfl⟩
   .rw[oV] at h;exact wpAny_eqBool_int h
   .rw[oU] at h;exact U7u.int_str i t y u _ _ _ _ h
  .rcases FP hv with ⟨j,u,rfl,rfl⟩|⟨y,u,rfl,rfl⟩
   .rw[oR] at h;exact U7u.str_int x t j u _ _ _ _ h
   .rw[oO] at h;exact wpAny_eqBool_str h
 «strs»:=fun k x t v h=>by
  rcases FP h with ⟨i,u,rfl,e⟩|⟨y,u,rfl,e⟩
  .exact nomatch e
  .injection e with e1 _
   subst e1
   cases v<;>rfl
end L2
namespace L2
open PySem PySem.Spec PyProof.Rows
inductive V where
 |non|bl (b:Bool)|int (i:Int)|str (x:Str)|byt (b:Array UInt8)|flt (b:UInt64)|ref (a:Addr)|ty (n:String)
 deriving DecidableEq
def RelV:V->Value->Prop
 |.non,u=>u=U2f
 |.bl b,u=>u=U3l b
 |.int i,u=>∃t,u=U6e i t
 |.str x,u=>∃t,u=Value.str x t
 |.byt b,u=>∃t,u=Value.bytes b t
 |.flt b,u=>∃t,u=Value.float b t
 |.ref a,u=>u=U26 a
 |.ty n,u=>u=U2r n
abbrev Vals:List V->List Value->Prop:=Paired RelV
theorem Vals.length{xs:List V}{us:List Value}(r:Vals xs us):xs.length=us.length:=Paired.length r
theorem Vals.get:∀{xs:List V} {us:List Value} {i:Nat} {x:V},Vals xs us->xs[i]?=some x->∃u,us[i]?=some u/\RelV x u
 |_,_,_,_,.nil,e=>by simp at e
 |_,_,0,_,.cons r _,e=>by simp at e;subst e;exact⟨_,rfl,r⟩
 |_,_,i+1,x,.cons _ t,e=>by
  obtain⟨u,h1,h2⟩:=Vals.get (i:=i) (x:=x) t (by simpa using e)
  exact⟨u,by simpa using h1,h2⟩
theorem Vals.set{x:V}{u:Value}(r:RelV x u):∀{xs:List V} {us:List Value} (i:Nat),Vals xs us->Vals (xs.set i x) (us.set i u)
 |_,_,_,.nil=>.nil
 |_,_,0,.cons _ t=>.cons r t
 |_,_,i+1,.cons q t=>.cons q (Vals.set r i t)
theorem Vals.append:∀{xs ys:List V} {us ws:List Value},Vals xs us->Vals ys ws->Vals (xs++ys) (us++ws)
 |_,_,_,_,.nil,s=>s
 |_,_,_,_,.cons r t,s=>.cons r (Vals.append t s)
theorem Vals.take:∀{xs:List V} {us:List Value} (n:Nat),Vals xs us->Vals (xs.take n) (us.take n)
 |_,_,0,_=>.nil
 |_,_,_+1,.nil=>.nil
 |_,_,n+1,.cons r t=>.cons r (Vals.take n t)
theorem Vals.drop:∀{xs:List V} {us:List Value} (n:Nat),Vals xs us->Vals (xs.drop n) (us.drop n)
 |_,_,0,r=>r
 |_,_,_+1,.nil=>.nil
 |_,_,n+1,.cons _ t=>Vals.drop n t
def cV:Option V->Option Value->Prop
 |some v,some u=>RelV v u
 |none,none=>True
 |_,_=>False
def KV{κ:Type}:List (κ×V)->List (κ×Value)->Prop:=Paired fun(p:κ×V) (q:κ×Value)=>p.1=q.1/\RelV p.2 q.2
def kV:Key->V
 |.inl i=>.int i
 |.inr x=>.str x
inductive HO where
  /-- a list -/
 |lst (xs:List V)
  /-- a tuple (never changes) -/
 |tup (xs:List V)
  /-- a dict whose keys are ints and texts; one whose keys are tuples of ints and texts (the empty one is both) -/
 |dK (kvs:List (Key×V))|dT (kvs:List (List Key×V))
  /-- a set of ints: its members, its size -/
 |set (S:Int->Bool) (n:Nat)
  /-- an instance of the class at C, its dict at dx, its attributes -/
 |ins (C dx:Addr) (fs:List (Str×V))
  /-- the dict of the instance at x -/
 |own (x:Addr)
  /-- the dict of an exception -/
 |xd (fs:List (Str×V))
  /-- a bound method, f of x -/
 |met (f x:Addr)
  /-- a range object lo, lo + 1, .. below hi -/
 |rng (lo hi:Int)
  /-- a thing that is known to the object (the script; a dict while a loop walks it): read, never written while it is so -/
 |frz (o:Obj) (u:HO)
  /-- a code object's table -/
 |tbl (ps:Array Value)
  /-- any other thing, by what is true of its one object (a def of one's own: SetO a S n := HO.ext fun h => ..) -/
 |ext (φ:Heap->Prop)
abbrev Hp:=Addr->Option HO
def upd(H:Hp)(a:Addr)(o:HO):Hp:=fun b=>if b=a then some o else H b
theorem Bv{H:Hp}{a:Addr}{o:HO}:upd H a o a=some o:=by unfold upd;rw[if_pos rfl]
theorem Bo{H:Hp}{a b:Addr}{o:HO}(h:b≠a):upd H a o b=H b:=by unfold upd;rw[if_neg h]
theorem DN{H:Hp}{a b:Addr}{o:HO}(h:H a=some o)(h':H b=none):a≠b:=by
 intro e;subst e;rw[h] at h';cases h'
section
variable(P:Program)(w:World)
def Dc(H:Hp)(h:Heap)(a:Addr):HO->Prop
 |.lst xs=>xs.length<=sizeLine/\∃(its:List Value)(n:Nat),Vals xs its/\h.get? a=some { cls:=.type "list",data:=.seq its.toArray n }
 |.tup xs=>xs.length<=sizeLine/\∃its:List Value,Vals xs its/\IsTup h a its.toArray
 |.dK kvs=>kvs.length<=sizeLine/\(a==sysModules)=false/\∃vs,KV kvs vs/\h.DictOf (Tv P w) a vs
 |.dT kvs=>kvs.length<=sizeLine/\(a==sysModules)=false/\∃xs:List (List Key×Addr×Value),
   Paired (fun(p:List Key×V) (q:List Key×Addr×Value)=>p.1=q.1/\H q.2.1=some (.tup (p.1.map kV))/\RelV p.2 q.2.2) kvs xs /\
   ∃o es ep,h.get? a=some o/\o.ExactDict/\o.data=.dict es ep/\es.toList=xs.map (entryOfKey (tupleKind (Tv P w)))/\(xs.map (·.1)).Nodup
 |.set S n=>h.SetOf (intKind P w) a S n
 |.ins C dx fs=>H dx=some (.own a)/\fs.length<=1000/\dx≠a/\h.get? a=some (U7g C dx) /\
   ∃mA,h.Ns1 dx mA/\(∀f,cV (fs.lookup f) (mA f))/\PySem.Within mA (fs.map (·.1))
 |.own _=>∃o,h.get? a=some o
 |.xd fs=>∃mA,h.Ns1 a mA/\∀f,cV (fs.lookup f) (mA f)
 |.rng lo hi=>∃t u v,h.get? a=some { cls:=.type "range",data:=.fields #[.int lo t,.int hi u,.int 1 v] }
 |.frz o u=>h.get? a=some o/\Dc H h a u
 |.tbl ps=>h.get? a=some { cls:=.none,data:=.fields ps }
 |.met f x=>h.get? a=some (U6y (.ref f) (.ref x))
 |.ext φ=>φ h/\(∃o,h.get? a=some o)/\∀h1 h2:Heap,φ h1->(∀o,h1.get? a=some o->h2.get? a=some o)->φ h2
def HOk(H:Hp)(h:Heap):Prop:=∀a o,H a=some o->Dc P w H h a o
end
section
variable{P:Program}{w:World}{H H':Hp}{h h':Heap}{a:Addr}{o:HO}
theorem Dc.lt(x:Dc P w H h a o):a<h.objs.size:=by
 cases o with
 |lst xs=>obtain⟨_,_,_,_,e⟩:=x;exact U0i e
 |tup xs=>obtain⟨_,_,_,p⟩:=x;exact p.lt
 |dK kvs=>obtain⟨_,_,_,_,o,_,_,e,_⟩:=x;exact U0i e
 |dT kvs=>obtain⟨_,_,_,_,o,_,_,e,_⟩:=x;exact U0i e
 |set S n=>obtain⟨o,_,_,_,e,_⟩:=x;exact U0i e
 |ins C dx fs=>obtain⟨_,_,_,e,_⟩:=x;exact U0i e
 |own y=>obtain⟨_,e⟩:=x;exact U0i e
 |xd fs=>obtain⟨_,⟨_,_,_,e,_⟩,_⟩:=x;exact U0i e
 |rng lo hi=>obtain⟨_,_,_,e⟩:=x;exact U0i e
 |frz ob u=>obtain⟨e,_⟩:=x;exact U0i e
 |tbl ps=>exact U0i (show h.get? a=some _ from x)
 |met f y=>exact U0i (show h.get? a=some _ from x)
 |ext φ=>obtain⟨_,⟨_,e⟩,_⟩:=x;exact U0i e
theorem Paired.mO{α β:Type}{F G:α->β->Prop}:∀{l₁:List α} {l₂:List β},Paired F l₁ l₂->(∀a b,F a b->G a b)->Paired G l₁ l₂
 |_,_,.nil,_=>.nil
 |_,_,.cons r t,f=>.cons (f _ _ r) (Paired.mO t f)
theorem Dc.stay(x:Dc P w H h a o)(k:∀b u,(b=a∨H b=some (.own a))->h.get? b=some u->h'.get? b=some u)
  (ho:∀b,H b=some (.own a)->H' b=some (.own a)) (ht:∀b xs,H b=some (.tup xs)->H' b=some (.tup xs)):Dc P w H' h' a o:=by
 induction o with
 |lst xs=>obtain⟨z,its,n,r,e⟩:=x;exact⟨z,its,n,r,k _ _ (.inl rfl) e⟩
 |tup xs=>obtain⟨z,its,r,ob,e,c⟩:=x;exact⟨z,its,r,ob,k _ _ (.inl rfl) e,c⟩
 |dK kvs=>obtain⟨z,y,vs,r,ob,es,ep,e,c⟩:=x;exact⟨z,y,vs,r,ob,es,ep,k _ _ (.inl rfl) e,c⟩
 |dT kvs =>
  obtain⟨z,y,xs,r,ob,es,ep,e,c⟩:=x
  exact⟨z,y,xs,Paired.mO r fun p q z=>⟨z.1,ht _ _ z.2.1,z.2.2⟩,ob,es,ep,k _ _ (.inl rfl) e,c⟩
 |set S n=>obtain⟨ob,es,ep,t,e,c⟩:=x;exact⟨ob,es,ep,t,k _ _ (.inl rfl) e,c⟩
 |ins C dx fs =>
  obtain⟨d,z,ne,e,mA,⟨od,es,ep,e2,c⟩,r⟩:=x
  exact⟨ho _ d,z,ne,k _ _ (.inl rfl) e,mA,⟨od,es,ep,k _ _ (.inr d) e2,c⟩,r⟩
 |own y=>obtain⟨ob,e⟩:=x;exact⟨ob,k _ _ (.inl rfl) e⟩
 |xd fs=>obtain⟨mA,⟨od,es,ep,e,c⟩,r⟩:=x;exact⟨mA,⟨od,es,ep,k _ _ (.inl rfl) e,c⟩,r⟩
 |rng lo hi=>obtain⟨t,u,v,e⟩:=x;exact⟨t,u,v,k _ _ (.inl rfl) e⟩
 |frz ob u ih=>obtain⟨e,q⟩:=x;exact⟨k _ _ (.inl rfl) e,ih q⟩
 |tbl ps =>
  have e:h.get? a=some { cls:=.none,data:=.fields ps }:=x
  show h'.get? a=some { cls:=.none,data:=.fields ps }
  exact k a _ (.inl rfl) e
 |met f y =>
  have e:h.get? a=some (U6y (.ref f) (.ref y)):=x
  show h'.get? a=some (U6y (.ref f) (.ref y))
  exact k a _ (.inl rfl) e
 |ext φ=>obtain⟨p,⟨o,e⟩,st⟩:=x;exact⟨st _ _ p fun o q=>k _ _ (.inl rfl) q,⟨o,k _ _ (.inl rfl) e⟩,st⟩
theorem HOk.lt(x:HOk P w H h)(e:H a=some o):a<h.objs.size:=(x a o e).lt
theorem HOk.fresh(x:HOk P w H h)(e:h.objs.size<=a):H a=none:=by
 cases q:H a with
 |none=>rfl
 |some u=>exact absurd (U03 (x.lt q) e) (U4i _)
theorem HOk.kept(x:HOk P w H h)(k:∀b u,h.get? b=some u->h'.get? b=some u):HOk P w H h':=fun a o e =>
 (x a o e).stay (fun b u _ q=>k b u q) (fun _ q=>q) fun _ _ q=>q
theorem HOk.laid(x:HOk P w H h)(k:∀b u,h.get? b=some u->h'.get? b=some u)(hp:h.objs.size<=a)(new:Dc P w (upd H a o) h' a o):HOk P w (upd H a o) h':=fun b u e=>by
 have hn:=x.fresh hp
 by_cases hb:b=a
 .subst hb;rw[Bv] at e;cases e;exact new
 .rw[Bo hb] at e
  exact(x b u e).stay (fun c v _ q=>k c v q) (fun c q=>by rw[Bo (DN q hn)];exact q) fun c xs q=>by rw[Bo (DN q hn)];exact q
end
def Rd(H:Hp)(a:Addr)(u:HO):Prop:=H a=some u∨∃o,H a=some (.frz o u)
theorem Rd.ok{P:Program}{w:World}{H:Hp}{h:Heap}{a:Addr}{u:HO}(r:Rd H a u)(x:HOk P w H h):Dc P w H h a u:=by
 rcases r with r|⟨o,r⟩
 .exact x a u r
 .obtain⟨_,q⟩:=x a _ r
  exact q
def Mut:Option HO->Prop
 |some (.lst _)=>True
 |some (.dK _)=>True
 |some (.dT _)=>True
 |some (.set _ _)=>True
 |some (.ins _ _ _)=>True
 |some (.ext _)=>True
 |_=>False
section
variable{P:Program}{w:World}{H:Hp}{h h':Heap}{x e:Addr}{o':HO}
theorem HOk.write(ok:HOk P w H h)(mu:Mut (H x))(he:e=x∨H e=some (.own x))(k:∀b u,b≠e->h.get? b=some u->h'.get? b=some u)(heo:∃u,h'.get? e=some u)
  (new:Dc P w (upd H x o') h' x o'):HOk P w (upd H x o') h':=fun b u q=>by
 have nown:∀c y,H c=some (.own y)->c≠x:=fun c y r z=>by subst z;rw[r] at mu;exact mu
 have ntup:∀c xs,H c=some (.tup xs)->c≠x:=fun c xs r z=>by subst z;rw[r] at mu;exact mu
 by_cases hb:b=x
 .subst hb;rw[Bv] at q;cases q;exact new
 .rw[Bo hb] at q
  by_cases hbe:b=e
  .have q':H b=some (.own x):=by
    rcases he with z|z
    .exact absurd (hbe.trans z) hb
    .rw[hbe];exact z
   rw[q] at q';cases q'
   obtain⟨v,hv⟩:=heo
   exact⟨v,by rw[hbe];exact hv⟩
  .refine(ok b u q).stay (fun c v hc r=>k c v ?_ r) (fun c r=>by rw[Bo (nown c b r)];exact r) fun c xs r=>by rw[Bo (ntup c xs r)];exact r
   rcases hc with rfl|hc
   .exact hbe
   .rintro rfl
    rcases he with z|z
    .exact nown c b hc z
    .rw[hc] at z;cases z;exact hb rfl
end
structure Un(fs ex:List Addr)(H H':Hp)(h h':Heap):Prop where
 keep:∀b o,h.get? b=some o->H b=none->b ∉ fs->b ∉ ex->h'.get? b=some o
 slot:∀b o,h.get? b=some o->H b=none->b∈fs->b ∉ ex->∃sl,h'.get? b=some { o with slots:=sl }
 free:∀b o,h.get? b=some o->H b=none->b ∉ ex->H' b=none
 there:∀b o,h.get? b=some o->b ∉ ex->∃o',h'.get? b=some o'
 tups:∀b xs,H b=some (.tup xs)->H' b=some (.tup xs)
 frzs:∀b o u,H b=some (.frz o u)->H' b=some (.frz o u)
 tbls:∀b ps,H b=some (.tbl ps)->∃more,H' b=some (.tbl (ps++more))
 sy:H sysModules=none->H' sysModules=none
section
variable{fs fs' ex ex':List Addr}{H H1 H2:Hp}{h h1 h2 h':Heap}{a x e:Addr}{o:HO}
theorem Un.any(u:Un fs ex H H1 h h1){b:Addr}{ob:Obj}(q:h.get? b=some ob)(n:H b=none)(hx:b ∉ ex):∃sl,h1.get? b=some { ob with slots:=sl }:=by
 by_cases hb:b∈fs
 .exact u.slot b ob q n hb hx
 .exact⟨ob.slots,u.keep b ob q n hb hx⟩
theorem Un.kept(k:∀b u,h.get? b=some u->h'.get? b=some u):Un fs ex H H h h' :=
 ⟨fun b ob q _ _ _=>k b ob q,fun b ob q _ _ _=>⟨ob.slots,k b ob q⟩,fun _ _ _ n _=>n,fun b ob q _=>⟨ob,k b ob q⟩,fun _ _ q=>q,fun _ _ _ q=>q,fun _ ps q=>⟨#[],by rw[q];simp⟩,id⟩
theorem Un.refl:Un fs ex H H h h:=Un.kept fun _ _ q=>q
theorem Un.laid(k:∀b u,h.get? b=some u->h'.get? b=some u)(hp:h.objs.size<=a)(hn:H a=none)(hsy:sysModules≠a):Un fs ex H (upd H a o) h h' where
 sy:=fun n=>by rw[Bo hsy];exact n
 keep:=fun b u q _ _ _=>k b u q
 slot:=fun b u q _ _ _=>⟨u.slots,k b u q⟩
 free:=fun b u q n _=>by rw[Bo (U05 (U03 (U0i q) hp))];exact n
 there:=fun b u q _=>⟨u,k b u q⟩
 tups:=fun b xs q=>by rw[Bo (DN q hn)];exact q
 frzs:=fun b u xs q=>by rw[Bo (DN q hn)];exact q
 tbls:=fun b ps q=>⟨#[],by rw[Bo (DN q hn),q];simp⟩
theorem Un.write(mu:Mut (H x))(he:e=x∨H e=some (.own x))(k:∀b u,b≠e->h.get? b=some u->h'.get? b=some u)(heo:∃u,h'.get? e=some u):Un fs ex H (upd H x o) h h':=by
 have hx:∀b,H b=none->b≠x:=fun b n z=>by subst z;rw[n] at mu;exact mu
 have hb:∀b,H b=none->b≠e:=fun b n z=>by
  subst z
  rcases he with r|r
  .exact hx b n r
  .rw[n] at r;cases r
 have hm:∀b u,H b=some u->¬Mut (some u)->b≠x:=fun b u q nm z=>by subst z;rw[q] at mu;exact nm mu
 refine⟨fun b u q n _ _=>k b u (hb b n) q,fun b u q n _ _=>⟨u.slots,k b u (hb b n) q⟩,fun b u q n _=>by rw[Bo (hx b n)];exact n,fun b u q _=>?_,
  fun b xs q=>by rw[Bo (hm b _ q fun z=>z)];exact q,fun b u xs q=>by rw[Bo (hm b _ q fun z=>z)];exact q,fun b ps q=>⟨#[],by rw[Bo (hm b _ q fun z=>z),q];simp⟩,fun n=>by rw[Bo (hx _ n)];exact n⟩
 by_cases hbe:b=e
 .subst hbe;exact heo
 .exact⟨u,k b u hbe q⟩
end
def trk(h:Heap)(H:Hp):List Addr:=(U22 h.objs.size).filter fun a=>(H a).isSome
def Ni(h:Heap)(H:Hp):Heap:=PySem.W.hideAll h (trk h H)
theorem bU(h:Heap)(H:Hp):(Ni h H).objs.size=h.objs.size:=PySem.W.hideAll_size _ _
theorem fH{h:Heap}{H:Hp}{b:Addr}{o:Obj}(e:h.get? b=some o)(n:H b=none):(Ni h H).get? b=some o :=
 PySem.W.hideAll_get _ e fun hm=>by
  have q:(H b).isSome=true:=(U4c.mp hm).2
  rw[n] at q;simp at q
theorem jL{h:Heap}{H:Hp}{b:Addr}{o:Obj}(e:(Ni h H).get? b=some o):h.get? b=some o/\H b=none:=by
 have e':h.get? b=some o:=PySem.W.of_hideAll (trk h H) e
 refine⟨e',?_⟩
 cases q:H b with
 |none=>rfl
 |some x =>
  have hm:b∈trk h H:=U4c.mpr ⟨U4o.mpr (U0i e'),by simp[q]⟩
  have z:(Ni h H).get? b=none:=PySem.W.hideAll_none (trk h H) hm
  rw[z] at e;cases e
def jy(g h:Heap)(L:Addr):List (Addr×Obj):=(U22 h.objs.size).filterMap fun a=>if a=L∨(g.get? a).isSome=true then none else (h.get? a).map fun o=>(a,o)
def rest(g h:Heap)(L d:Addr):List (Addr×Obj):=(jy g h L).filter fun p=>decide (p.1≠d)
end L2
namespace L2
open PySem PySem.Spec PyProof.Rows
structure Mod(K:U0b)(mg:Str->Option Value)(base:Heap):Prop where
 kin:K.In base
 glob:base.Ns mainGlobals mg
 blt:∃mb,base.Ns builtinsNs mb/\∀x:Str,x≠"__name__"->mb x=bootBuiltins x
 nolimit:base.NoLimit
/-- the context: a def's body (or a comprehension's block) running. base: fixed through the whole law; s₀, H₀: the entry; outer: the frames whose slots others may change (a def's callers); stack: all frames that run;
   ex: iterators that were made ahead of the entry and are walked here (a comprehension's); fn: the names whose cells were made at the entry (a def: all; a comprehension's block: its own); calm: not within an except suite; pn: pins that every state bears; xe: what is wanted of an exception that leaves the code -/
structure Cx where
 prog:Program
 w:World
 K:U0b
 mg:Str->Option Value
 base:Heap
 A:Around
 N:List Str
 s₀:Shared
 H₀:Hp
 env:Env
 outer:List Env
 stack:List Env
 ex:List Addr
 fn:Str->Bool
 calm:Bool
 pn:List (Addr×Obj)
 xe:Value->Shared->Prop
def frs(l:List Env):List Addr:=l.filterMap (·.frame)
abbrev Cx.fs(X:Cx):List Addr:=frs X.outer
def Vis(sc:Scope)(x:Str):Prop:=sc.names.lookup x=some .local∨sc.names.lookup x=some .cell∨sc.names.lookup x=some .free
def Loc(sc:Scope)(x:Str):Prop:=sc.names.lookup x=some .local∨sc.names.lookup x=some .cell
def Look(env:Env)(h:Heap)(m:Str->Option Value)(x:Str)(u:Value):Prop :=
 (env.kindOf x=some .local/\m x=some u)∨((env.kindOf x=some .cell∨env.kindOf x=some .free)/\∃c,env.cells.lookup x=some c/\h.IsCell c (some u))
structure Cx.Ok(X:Cx):Prop where
 mod:Mod X.K X.mg X.base
 kind:X.env.scope.kind=.function
 glob:X.env.globals=mainGlobals
 blt:X.env.builtins=builtinsNs
 above:X.s₀.heap.objs.size<=X.env.locals
 inj:∀x y c,X.env.cells.lookup x=some c->X.env.cells.lookup y=some c->x=y
 has:∀x,(X.env.kindOf x=some .cell∨X.env.kindOf x=some .free)->∃c,X.env.cells.lookup x=some c
 cab:∀x c,X.fn x=true->X.env.cells.lookup x=some c->X.s₀.heap.objs.size<=c
 hd:X.calm=true->X.A.handled=none
 frames:X.A.frames=some X.stack
 stk:X.stack=X.outer∨(X.stack=X.env::X.outer/\X.env.frame=some X.env.locals)
 exf:∀b∈X.ex,b≠X.env.locals/\∀x c,X.env.cells.lookup x=some c->c≠b
 bs:∀b o,X.base.get? b=some o->X.s₀.heap.get? b=some o/\X.H₀ b=none
 bsz:X.base.objs.size<=X.s₀.heap.objs.size
 noex:∀b o,X.base.get? b=some o->b ∉ X.ex
 exfs:∀b∈X.ex,b ∉ X.fs
 Li:X.s₀.heap.FunFrames X.base X.outer
 frf:∀b∈X.fs,X.H₀ b=none
 sy:X.H₀ sysModules=none
structure Inv(X:Cx)(pins:List (Addr×Obj))(σ:List (Option V))(H:Hp)(s:Shared):Prop where
 ok:X.Ok
 os:s.os=X.s₀.os
 bare:AllBare s.gens
 base:Un X.fs X.ex X.H₀ H X.s₀.heap s.heap
 loc:∃m,s.heap.Ns X.env.locals m/\∀(i:Nat)(x:Str)(v:V),X.N[i]?=some x->σ[i]?=some (some v)->Vis X.env.scope x->∃u,RelV v u/\Look X.env s.heap m x u
 cell:∀x c,X.env.cells.lookup x=some c->∃v,s.heap.IsCell c v
 free:H X.env.locals=none
 freeC:∀x c,X.env.cells.lookup x=some c->H c=none
 pin:∀p∈X.pn++pins,s.heap.get? p.1=some p.2/\H p.1=none/\p.1≠X.env.locals/\p.1 ∉ X.fs/\∀v,p.2.data≠.cell v
 hok:HOk X.prog X.w H s.heap
 len:σ.length=X.N.length
section
variable{X:Cx}{pins:List (Addr×Obj)}{σ:List (Option V)}{H H':Hp}{s:Shared}{h':Heap}
theorem Cx.Ok.sZ(ok:X.Ok){b:Addr}{o:Obj}(e:X.base.get? b=some o):b ∉ X.fs:=fun hb=>by
 have:=(ok.Li.mem hb).1
 rw[e] at this;cases this
theorem Inv.bs(I:Inv X pins σ H s):∀b o,X.base.get? b=some o->s.heap.get? b=some o/\H b=none:=fun b o e =>
 ⟨I.base.keep b o (I.ok.bs b o e).1 (I.ok.bs b o e).2 (I.ok.sZ e) (I.ok.noex b o e),I.base.free b o (I.ok.bs b o e).1 (I.ok.bs b o e).2 (I.ok.noex b o e)⟩
theorem Inv.bk(I:Inv X pins σ H s):∀b o,X.base.get? b=some o->s.heap.get? b=some o:=fun b o e=>(I.bs b o e).1
theorem Inv.mod(I:Inv X pins σ H s):Mod X.K X.mg X.base:=I.ok.mod
theorem Inv.kIn(I:Inv X pins σ H s):X.K.In s.heap:=I.ok.mod.kin.keeps I.bk
theorem Inv.fr(I:Inv X pins σ H s):∃m,Fr X.base X.env.locals s.heap m :=
 let ⟨m,hn,_⟩:=I.loc
 ⟨m,hn,I.bk,U00 I.ok.bsz I.ok.above⟩
theorem Inv.lt(I:Inv X pins σ H s):X.env.locals<s.heap.objs.size:=let ⟨_,hn,_⟩:=I.loc;hn.lt
theorem Inv.sz(I:Inv X pins σ H s):X.s₀.heap.objs.size<=s.heap.objs.size:=U00 I.ok.above (U2d I.lt)
theorem Inv.cL(I:Inv X pins σ H s){a:Addr}(h:s.heap.objs.size<=a):a ∉ X.fs:=fun hb=>by
 obtain⟨_,o,ho,_⟩:=I.ok.Li.mem hb
 exact absurd (U03 (U0i ho) (U00 I.sz h)) (U4i _)
theorem Inv.cne(I:Inv X pins σ H s):∀x c,X.env.cells.lookup x=some c->c≠X.env.locals:=fun x c e z=>by
 obtain⟨v,o,ho,hd⟩:=I.cell x c e
 obtain⟨m,⟨o',es,ep,ho',hd',_⟩,_⟩:=I.loc
 rw[z,ho'] at ho;cases ho;rw[hd'] at hd;cases hd
theorem Inv.Li(I:Inv X pins σ H s):s.heap.FunFrames X.base X.outer:=by
 have all:∀(l:List Env),(∀b∈frs l,b∈X.fs)->X.s₀.heap.FunFrames X.base l->s.heap.FunFrames X.base l:=by
  intro l
  induction l with
  |nil=>intro _ _;trivial
  |cons env r ih =>
   intro hs hl
   obtain⟨hk,⟨L,o,hf,hn,ho,hd⟩,hr⟩:=hl
   have hL:L∈X.fs:=hs L (by unfold frs;rw[U5k,hf];exact U0s)
   obtain⟨sl,e⟩:=I.base.slot L o ho (I.ok.frf L hL) hL fun z=>I.ok.exfs L z hL
   exact⟨hk,⟨L,_,hf,hn,e,hd⟩,ih (fun b hb=>hs b (by unfold frs;rw[U5k,hf];exact U0p _ hb)) hr⟩
 exact all X.outer (fun _ hb=>hb) I.ok.Li
theorem Inv.stack(I:Inv X pins σ H s):s.heap.FunFrames X.base X.stack:=by
 rcases I.ok.stk with e|⟨e,hf⟩
 .rw[e];exact I.Li
 .rw[e]
  obtain⟨m,hn,_⟩:=I.loc
  refine .cons (by rw[I.ok.kind];decide) hf hn ?_ I.Li
  exact Heap.get?_none_of_le (U00 I.ok.bsz I.ok.above)
theorem Inv.Ou(I:Inv X pins σ H s):∀b∈frs X.stack,b∈X.env.locals::X.fs:=fun b hb=>by
 rcases I.ok.stk with e|⟨e,hf⟩
 .rw[e] at hb;exact U0p _ hb
 .rw[e] at hb
  unfold frs at hb
  rw[U5k,hf] at hb
  exact hb
theorem Inv.YL(I:Inv X pins σ H s):∀b∈frs X.stack,H b=none:=fun b hb=>by
 rcases U0k.mp (I.Ou b hb) with e|hb
 .rw[e];exact I.free
 .obtain⟨_,o,ho,_⟩:=I.ok.Li.mem hb
  exact I.base.free b o ho (I.ok.frf b hb) fun z=>I.ok.exfs b z hb
theorem Inv.cQ(I:Inv X pins σ H s):sysModules<s.heap.objs.size:=by
 obtain⟨o,_,_,e,_⟩:=I.ok.mod.glob
 exact U3w (by decide:(1:Nat)<3) (U0i (I.bk _ _ e))
theorem Inv.Oh(I:Inv X pins σ H s):H sysModules=none:=I.base.sy I.ok.sy
theorem Inv.step{g':Array GenState}{t':Nat}{d':Drawn}{ch:List Addr}(I:Inv X pins σ H s)
  (hch:∀b∈ch,(b∈X.ex∨X.s₀.heap.objs.size<=b)/\b≠X.env.locals/\(∀x c,X.env.cells.lookup x=some c->c≠b)/\∀p∈X.pn++pins,p.1≠b)
  (keep:∀b o,b≠X.env.locals->b ∉ X.fs->b ∉ ch->s.heap.get? b=some o->H b=none->h'.get? b=some o)
  (slot:∀b o,b≠X.env.locals->b∈X.fs->b ∉ ch->s.heap.get? b=some o->H b=none->∃sl,h'.get? b=some { o with slots:=sl }) (free:∀b o,b ∉ ch->s.heap.get? b=some o->H b=none->H' b=none)
  (there:∀b o,b ∉ ch->s.heap.get? b=some o->∃o',h'.get? b=some o')
  (tups:∀b xs,H b=some (.tup xs)->H' b=some (.tup xs)) (frzs:∀b o u,H b=some (.frz o u)->H' b=some (.frz o u)) (tbls:∀b ps,H b=some (.tbl ps)->∃more,H' b=some (.tbl (ps++more)))
  (ns:∀m,s.heap.Ns X.env.locals m->h'.Ns X.env.locals m) (hok:HOk X.prog X.w H' h') (hg:AllBare g') (sy:H sysModules=none->H' sysModules=none) :
  Inv X pins σ H' { s with heap:=h',gens:=g',drawn:=d',toks:=t' }:=by
 have neL:∀b o,X.s₀.heap.get? b=some o->b≠X.env.locals:=fun b o e=>U05 (U03 (U0i e) I.ok.above)
 have neC:∀b o,X.s₀.heap.get? b=some o->b ∉ X.ex->b ∉ ch:=fun b o e hx hb=>by
  rcases(hch b hb).1 with z|z
  .exact hx z
  .exact absurd (U03 (U0i e) z) (U4i _)
 have cellK:∀x c,X.env.cells.lookup x=some c->∀v,s.heap.IsCell c v->h'.IsCell c v:=fun x c e v ⟨o,ho,hd⟩=>by
  have nch:c ∉ ch:=fun z=>(hch c z).2.2.1 x c e rfl
  by_cases hc:c∈X.fs
  .obtain⟨sl,q⟩:=slot c o (I.cne x c e) hc nch ho (I.freeC x c e)
   exact⟨_,q,hd⟩
  .exact⟨o,keep c o (I.cne x c e) hc nch ho (I.freeC x c e),hd⟩
 refine⟨I.ok,I.os,hg,⟨fun b o e n hb hx=>?_,fun b o e n hb hx=>?_,fun b o e n hx=>?_,fun b o e hx=>?_,fun b xs e=>tups b xs (I.base.tups b xs e),fun b o xs e=>frzs b o xs (I.base.frzs b o xs e),fun b ps e=>?_,fun n=>sy (I.base.sy n)⟩,?_,fun x c e=>?_,?_,fun x c e=>?_,fun p hp=>?_,hok,I.len⟩
 .exact keep b o (neL b o e) hb (neC b o e hx) (I.base.keep b o e n hb hx) (I.base.free b o e n hx)
 .obtain⟨sl,e1⟩:=I.base.slot b o e n hb hx
  obtain⟨sl',e2⟩:=slot b _ (neL b o e) hb (neC b o e hx) e1 (I.base.free b o e n hx)
  exact⟨sl',e2⟩
 .obtain⟨o',e1⟩:=I.base.there b o e hx
  exact free b o' (neC b o e hx) e1 (I.base.free b o e n hx)
 .obtain⟨o',e1⟩:=I.base.there b o e hx
  exact there b o' (neC b o e hx) e1
 .obtain⟨m1,e1⟩:=I.base.tbls b ps e
  obtain⟨m2,e2⟩:=tbls b _ e1
  exact⟨m1++m2,by rw[e2,Array.append_assoc]⟩
 .obtain⟨m,hn,hl⟩:=I.loc
  refine⟨m,ns m hn,fun i x v e1 e2 e3=>?_⟩
  obtain⟨u,r,l⟩:=hl i x v e1 e2 e3
  refine⟨u,r,?_⟩
  rcases l with l|⟨k,c,e,z⟩
  .exact .inl l
  .exact .inr ⟨k,c,e,cellK x c e _ z⟩
 .obtain⟨v,z⟩:=I.cell x c e
  exact⟨v,cellK x c e v z⟩
 .obtain⟨m,⟨o,_,_,ho,_⟩,_⟩:=I.loc
  exact free _ o (fun z=>(hch _ z).2.1 rfl) ho I.free
 .obtain⟨v,o,ho,hd⟩:=I.cell x c e
  exact free c o (fun z=>(hch c z).2.2.1 x c e rfl) ho (I.freeC x c e)
 .obtain⟨e,n,ne,nf,d⟩:=I.pin p hp
  have nch:p.1 ∉ ch:=fun z=>(hch p.1 z).2.2.2 p hp rfl
  exact⟨keep p.1 p.2 ne nf nch e n,free p.1 p.2 nch e n,ne,nf,d⟩
theorem Inv.un{t':Nat}(I:Inv X pins σ H s)(u:Un X.fs [] H H' s.heap h')(hok:HOk X.prog X.w H' h'):Inv X pins σ H' { s with heap:=h',toks:=t' }:=by
 obtain⟨m,⟨o,es,ep,ho,r⟩,_⟩:=id I.loc
 obtain⟨sl,hL⟩:=u.any ho I.free (by simp)
 exact I.step (g':=s.gens) (d':=s.drawn) (ch:=[]) (fun _ z=>nomatch z) (fun b o _ hb _ e n=>u.keep b o e n hb (by simp)) (fun b o _ hb _ e n=>u.slot b o e n hb (by simp)) (fun b o _ e n=>u.free b o e n (by simp)) (fun b o _ e=>u.there b o e (by simp)) u.tups u.frzs u.tbls (fun m' hm=>by
  obtain⟨o',es',ep',ho',r'⟩:=hm
  rw[ho] at ho';cases ho'
  exact⟨_,es',ep',hL,r'⟩) hok I.bare u.sy
theorem Inv.call{g':Array GenState}{t':Nat}{d':Drawn}{ch:List Addr}(I:Inv X pins σ H s)(u:Un (frs X.stack) ch H H' s.heap h')(hok:HOk X.prog X.w H' h')(hg:AllBare g')
  (hch:∀b∈ch,(b∈X.ex∨X.s₀.heap.objs.size<=b)/\b≠X.env.locals/\(∀x c,X.env.cells.lookup x=some c->c≠b)/\∀p∈X.pn++pins,p.1≠b) :
  Inv X pins σ H' { s with heap:=h',gens:=g',drawn:=d',toks:=t' }:=by
 obtain⟨m,⟨o,es,ep,ho,r⟩,_⟩:=id I.loc
 obtain⟨sl,hL⟩:=u.any ho I.free fun z=>(hch _ z).2.1 rfl
 exact I.step (ch:=ch) hch (fun b o hL hb hc e n=>u.keep b o e n (fun z=>(U0k.mp (I.Ou b z)).elim hL hb) hc) (fun b o _ _ hc e n=>u.any e n hc) (fun b o hc e n=>u.free b o e n hc) (fun b o hc e=>u.there b o e hc) u.tups u.frzs u.tbls (fun m' hm=>by
  obtain⟨o',es',ep',ho',r'⟩:=hm
  rw[ho] at ho';cases ho'
  exact⟨_,es',ep',hL,r'⟩) hok hg u.sy
theorem Inv.turned{t':Nat}{it:Addr}(I:Inv X pins σ H s)(k:∀b o,b≠it->s.heap.get? b=some o->h'.get? b=some o)(hn:H it=none)(hL:it≠X.env.locals)
  (h1:it∈X.ex∨X.s₀.heap.objs.size<=it) (h2:∀x c,X.env.cells.lookup x=some c->c≠it) (h3:∀p∈X.pn++pins,p.1≠it):Inv X pins σ H { s with heap:=h',toks:=t' }:=by
 have nit:∀b u,H b=some u->b≠it:=fun b u e z=>by rw[z,hn] at e;cases e
 refine I.step (g':=s.gens) (d':=s.drawn) (ch:=[it]) (fun b hb=>?_) (fun b o _ _ hc e _=>k b o (fun z=>hc (by simp[z])) e) (fun b o _ _ hc e _=>⟨o.slots,k b o (fun z=>hc (by simp[z])) e⟩) (fun _ _ _ _ n=>n)
  (fun b o hc e=>⟨o,k b o (fun z=>hc (by simp[z])) e⟩) (fun _ _ e=>e) (fun _ _ _ e=>e) (fun b ps e=>⟨#[],by rw[e];simp⟩) (fun m hm=>?_) (fun b u e=>?_) I.bare id
 .have e:b=it:=by simpa using hb
  subst e
  exact⟨h1,hL,h2,h3⟩
 .obtain⟨o,es,ep,ho,r⟩:=hm
  exact⟨o,es,ep,k _ o (U2g hL) ho,r⟩
 .refine(I.hok b u e).stay (fun c v hc q=>k c v ?_ q) (fun _ q=>q) fun _ _ q=>q
  rcases hc with z|z
  .rw[z];exact nit b u e
  .exact nit c _ z
theorem Inv.tok(I:Inv X pins σ H s)(t:Nat):Inv X pins σ H { s with toks:=t }:=I.un (h':=s.heap) (t':=t) Un.refl I.hok
theorem Inv.kept{t':Nat}(I:Inv X pins σ H s)(k:∀b u,s.heap.get? b=some u->h'.get? b=some u):Inv X pins σ H { s with heap:=h',toks:=t' }:=I.un (Un.kept k) (I.hok.kept k)
theorem Inv.laid{a:Addr}{o:HO}{t':Nat}(I:Inv X pins σ H s)(k:∀b u,s.heap.get? b=some u->h'.get? b=some u)(hp:s.heap.objs.size<=a)(new:Dc X.prog X.w (upd H a o) h' a o) :
  Inv X pins σ (upd H a o) { s with heap:=h',toks:=t' }:=I.un (Un.laid k hp (I.hok.fresh hp) (U05 (U03 I.cQ hp))) (I.hok.laid k hp new)
theorem Inv.write{x e:Addr}{o:HO}{t':Nat}(I:Inv X pins σ H s)(mu:Mut (H x))(he:e=x∨H e=some (.own x))(k:∀b u,b≠e->s.heap.get? b=some u->h'.get? b=some u)(heo:∃u,h'.get? e=some u)
  (new:Dc X.prog X.w (upd H x o) h' x o):Inv X pins σ (upd H x o) { s with heap:=h',toks:=t' }:=I.un (Un.write mu he k heo) (I.hok.write mu he k heo new)
theorem Inv.weak{σ':List (Option V)}(I:Inv X pins σ H s)(hl:σ'.length=σ.length)(w:∀(i:Nat) v,σ'[i]?=some (some v)->σ[i]?=some (some v)):Inv X pins σ' H s :=
 ⟨I.ok,I.os,I.bare,I.base,let ⟨m,hn,hl'⟩:=I.loc;⟨m,hn,fun i x v e1 e2 e3=>hl' i x v e1 (w i v e2) e3⟩,I.cell,I.free,I.freeC,I.pin,I.hok,hl.trans I.len⟩
theorem Inv.QH{pins':List (Addr×Obj)}(I:Inv X pins σ H s)(h:∀p∈pins',s.heap.get? p.1=some p.2/\H p.1=none/\p.1≠X.env.locals/\p.1 ∉ X.fs/\∀v,p.2.data≠.cell v):Inv X pins' σ H s :=
 ⟨I.ok,I.os,I.bare,I.base,I.loc,I.cell,I.free,I.freeC,fun p hp=>(U1h.mp hp).elim (fun z=>I.pin p (U2y _ z)) (h p),I.hok,I.len⟩
theorem Wk{N:List Str}(hN:N.Nodup){i j:Nat}{x:Str}(a:N[i]?=some x)(b:N[j]?=some x):i=j:=by
 obtain⟨h1,e1⟩:=U0n.mp a
 obtain⟨h2,e2⟩:=U0n.mp b
 exact(List.getElem_inj hN).mp (e1.trans e2.symm)
theorem Ui{M:Model}{A:Around}{E:Value->Shared->Prop}{i:Nat}{x:Str}{v:V}{u:Value}{Q:Unit->Shared->Prop}(I:Inv X pins σ H s)(hN:X.N.Nodup)(hi:X.N[i]?=some x)(hx:Loc X.env.scope x)(r:RelV v u)
  (h:∀s',Inv X pins (σ.set i (some v)) H s'->(∃a,U07 a s.heap s'.heap/\(a=X.env.locals∨X.env.cells.lookup x=some a))->Q () s') (hf:X.fn x=true∨X.env.scope.names.lookup x=some .local:=by first|exact .inl rfl|exact .inr rfl|assumption):wpAny M A (storeName X.env x u) Q E s:=by
 obtain⟨m,hn,hl⟩:=id I.loc
 have hcls:(X.env.scope.kind==.class||(X.env.scope.kind==.module&&X.env.locals != X.env.globals))=false:=by rw[I.ok.kind];rfl
 have hiσ:i<σ.length:=by rw[I.len];exact(U0n.mp hi).1
 have cne:=I.cne
 have tracked:∀{a:Addr} {h':Heap},(∃o,s.heap.get? a=some o/\H a=none)->U07 a s.heap h'->HOk X.prog X.w H h':=fun {a h'} ha hs b ob e=>by
  obtain⟨_,_,hfree⟩:=ha
  refine(I.hok b ob e).stay (fun c w' hc q=>(hs.2 c ?_).trans q) (fun _ q=>q) fun _ _ q=>q
  rintro rfl
  rcases hc with rfl|hc
  .rw[hfree] at e;cases e
  .rw[hfree] at hc;cases hc
 rcases hx with hk|hk
 .refine wpAny_storeName_local hk hn (fun h' hn' hs=>?_) hcls
  obtain⟨oL,_,_,hoL,_⟩:=id hn
  refine h _ ⟨I.ok,I.os,I.bare,⟨fun b o e n hb hx=>?_,fun b o e n hb hx=>?_,I.base.free,fun b o e hx=>?_,I.base.tups,I.base.frzs,I.base.tbls,I.base.sy⟩,⟨_,hn',fun j y v' e1 e2 e3=>?_⟩,fun y c e=>?_,I.free,I.freeC,fun p hp=>?_,tracked ⟨oL,hoL,I.free⟩ hs,by simpa using I.len⟩ ⟨_,hs,.inl rfl⟩
  .exact(hs.2 b (U05 (U03 (U0i e) I.ok.above))).trans (I.base.keep b o e n hb hx)
  .obtain⟨sl,e1⟩:=I.base.slot b o e n hb hx
   exact⟨sl,(hs.2 b (U05 (U03 (U0i e) I.ok.above))).trans e1⟩
  .obtain⟨o',e1⟩:=I.base.there b o e hx
   exact⟨o',(hs.2 b (U05 (U03 (U0i e) I.ok.above))).trans e1⟩
  .by_cases hj:j=i
   .subst hj
    rw[hi] at e1;cases e1
    rw[U20 hiσ] at e2
    cases e2
    exact⟨u,r,.inl ⟨hk,by simp⟩⟩
   .rw[U28 (U2g hj)] at e2
    obtain⟨u',r',q⟩:=hl j y v' e1 e2 e3
    refine⟨u',r',?_⟩
    rcases q with ⟨k,e⟩|⟨k,c,e,z⟩
    .refine .inl ⟨k,?_⟩
     have:y≠x:=fun e=>hj (Wk hN e1 (e ▸ hi))
     simp[this,e]
    .exact .inr ⟨k,c,e,z.sameBut hs (cne y c e)⟩
  .obtain⟨w',z⟩:=I.cell y c e
   exact⟨w',z.sameBut hs (cne y c e)⟩
  .obtain⟨e,n,ne,nf,d⟩:=I.pin p hp
   exact⟨(hs.2 p.1 ne).trans e,n,ne,nf,d⟩
 .have hfn:X.fn x=true:=by
   rcases hf with z|z
   .exact z
   .rw[z] at hk;cases hk
  obtain⟨c,hc⟩:=I.ok.has x (.inl hk)
  obtain⟨w',z⟩:=I.cell x c hc
  refine wpAny_storeName_cell I.ok.kind hk hc z (fun h' hc' hs=>?_)
  obtain⟨oc,hoc,hocd⟩:=id z
  refine h { s with heap:=h' } ⟨I.ok,I.os,I.bare,⟨fun b o e n hb hx=>?_,fun b o e n hb hx=>?_,I.base.free,fun b o e hx=>?_,I.base.tups,I.base.frzs,I.base.tbls,I.base.sy⟩,⟨m,hn.sameBut hs (U2g (cne x c hc)),fun j y v' e1 e2 e3=>?_⟩,fun y c' e=>?_,I.free,I.freeC,fun p hp=>?_,tracked ⟨oc,hoc,I.freeC x c hc⟩ hs,by simpa using I.len⟩ ⟨c,hs,.inr hc⟩
  .exact(hs.2 b (U05 (U03 (U0i e) (I.ok.cab x c hfn hc)))).trans (I.base.keep b o e n hb hx)
  .obtain⟨sl,e1⟩:=I.base.slot b o e n hb hx
   exact⟨sl,(hs.2 b (U05 (U03 (U0i e) (I.ok.cab x c hfn hc)))).trans e1⟩
  .obtain⟨o',e1⟩:=I.base.there b o e hx
   exact⟨o',(hs.2 b (U05 (U03 (U0i e) (I.ok.cab x c hfn hc)))).trans e1⟩
  .by_cases hj:j=i
   .subst hj
    rw[hi] at e1;cases e1
    rw[U20 hiσ] at e2
    cases e2
    exact⟨u,r,.inr ⟨.inl hk,c,hc,hc'⟩⟩
   .rw[U28 (U2g hj)] at e2
    obtain⟨u',r',q⟩:=hl j y v' e1 e2 e3
    refine⟨u',r',?_⟩
    rcases q with q|⟨k,c',e,z'⟩
    .exact .inl q
    .refine .inr ⟨k,c',e,z'.sameBut hs ?_⟩
     rintro rfl
     exact hj (Wk hN e1 (I.ok.inj _ _ _ e hc ▸ hi))
  .by_cases hcc:c'=c
   .subst hcc;exact⟨_,hc'⟩
   .obtain⟨w2,z2⟩:=I.cell y c' e
    exact⟨w2,z2.sameBut hs hcc⟩
  .obtain⟨e,n,ne,nf,d⟩:=I.pin p hp
   refine⟨(hs.2 p.1 ?_).trans e,n,ne,nf,d⟩
   intro q
   rw[q,hoc] at e
   have q':oc=p.2:=U0u e
   exact d w' (by rw[←q'];exact hocd)
theorem WX{M:Model}{A:Around}{E:Value->Shared->Prop}{i:Nat}{x:Str}{v:V}{u:Value}{Q:Unit->Shared->Prop}(I:Inv X pins σ H s)(hN:X.N.Nodup)(hi:X.N[i]?=some x)(hx:Loc X.env.scope x)(r:RelV v u)
  (h:∀s',Inv X pins (σ.set i (some v)) H s'->Q () s') (hf:X.fn x=true∨X.env.scope.names.lookup x=some .local:=by first|exact .inl rfl|exact .inr rfl|assumption):wpAny M A (storeName X.env x u) Q E s :=
 Ui I hN hi hx r (fun s' I' _=>h s' I') hf
theorem Inv.call'{s':Shared}{ch:List Addr}(I:Inv X pins σ H s)(ho:s'.os=s.os)(u:Un (frs X.stack) ch H H' s.heap s'.heap)(hok:HOk X.prog X.w H' s'.heap)(hg:AllBare s'.gens)
  (hch:∀b∈ch,(b∈X.ex∨X.s₀.heap.objs.size<=b)/\b≠X.env.locals/\(∀x c,X.env.cells.lookup x=some c->c≠b)/\∀p∈X.pn++pins,p.1≠b):Inv X pins σ H' s':=by
 obtain⟨h',g',d',t',o'⟩:=s'
 have e:o'=s.os:=ho
 subst e
 exact I.call (g':=g') (t':=t') (d':=d') u hok hg hch
end
abbrev XK:=Value->Option Addr->Hp->Prop
abbrev St:=List (Option V)
abbrev VK:=V->Hp->Prop
abbrev TE:=St->Hp->VK->Prop
abbrev TT:=St->Hp->(Bool->Hp->Prop)->Prop
abbrev TA:=St->Hp->(List V->Hp->Prop)->Prop
structure Ends where
 nx:St->Hp->Prop
 rt:VK
 bk:St->Hp->Prop:=fun _ _=>False
 ct:St->Hp->Prop:=fun _ _=>False
abbrev TS:=Ends->St->Hp->Prop
def EP(X:Cx)(pins:List (Addr×Obj))(σ:St)(Q:VK)(u:Value)(s':Shared):Prop:=∃v H',Inv X pins σ H' s'/\RelV v u/\Q v H'
def TP(X:Cx)(pins:List (Addr×Obj))(σ:St)(Q:Bool->Hp->Prop)(b:Bool)(s':Shared):Prop:=∃H',Inv X pins σ H' s'/\Q b H'
def AP(X:Cx)(pins:List (Addr×Obj))(σ:St)(Q:List V->Hp->Prop)(us:List Value)(s':Shared):Prop:=∃vs H',Inv X pins σ H' s'/\Vals vs us/\Q vs H'
def SP(X:Cx)(pins:List (Addr×Obj))(D:Ends)(f:Flow)(s':Shared):Prop :=
 match f with
 |.next=>∃σ' H',Inv X pins σ' H' s'/\D.nx σ' H'
 |.brk=>∃σ' H',Inv X pins σ' H' s'/\D.bk σ' H'
 |.cont=>∃σ' H',Inv X pins σ' H' s'/\D.ct σ' H'
 |.ret u=>∃v σ' H',Inv X pins σ' H' s'/\RelV v u/\D.rt v H'
def PE(X:Cx)(e:Expr)(t:TE):Prop :=
 ∀(pins:List (Addr×Obj))(s:Shared)(σ:St)(H:Hp)(Q:VK),Inv X pins σ H s->t σ H Q->wpAny (model X.prog X.w) X.A (eval e X.env) (EP X pins σ Q) X.xe s
def PT(X:Cx)(e:Expr)(t:TT):Prop :=
 ∀(pins:List (Addr×Obj))(s:Shared)(σ:St)(H:Hp)(Q:Bool->Hp->Prop),Inv X pins σ H s->t σ H Q->wpAny (model X.prog X.w) X.A (isTrue e X.env (eval e X.env)) (TP X pins σ Q) X.xe s
def PW(X:Cx)(e:Expr)(t:TT):Prop :=
 ∀(whole:Sem Value)(pins:List (Addr×Obj))(s:Shared)(σ:St)(H:Hp)(Q:Bool->Hp->Prop),Inv X pins σ H s->t σ H Q->wpAny (model X.prog X.w) X.A (isTrue e X.env whole) (TP X pins σ Q) X.xe s
theorem PW.pt{X:Cx}{e:Expr}{t:TT}(h:PW X e t):PT X e t:=h _
def PA(X:Cx)(es:List Expr)(t:TA):Prop :=
 ∀(pos:Pos)(pins:List (Addr×Obj))(s:Shared)(σ:St)(H:Hp)(Q:List V->Hp->Prop),Inv X pins σ H s->t σ H Q->wpAny (model X.prog X.w) X.A (spliced (backTo pos (starEach es X.env))) (AP X pins σ Q) X.xe s
def PS(X:Cx)(st:Stmt)(t:TS):Prop :=
 ∀(pins:List (Addr×Obj))(s:Shared)(σ:St)(H:Hp)(D:Ends),Inv X pins σ H s->t D σ H->wpAny (model X.prog X.w) X.A (exec st X.env) (SP X pins D) X.xe s
def PSs(X:Cx)(st:List Stmt)(t:TS):Prop :=
 ∀(pins:List (Addr×Obj))(s:Shared)(σ:St)(H:Hp)(D:Ends),Inv X pins σ H s->t D σ H->wpAny (model X.prog X.w) X.A (execs st X.env) (SP X pins D) X.xe s
theorem thn{α:Type}{t:Sem α}{Q Q':α->Shared->Prop}{M:Model}{A:Around}{E:Value->Shared->Prop}{s:Shared}(h:wpAny M A t Q E s)(hQ:∀a s,Q a s->Q' a s):wpAny M A t Q' E s:=U5b h hQ fun _ _ x=>x
end L2
namespace L2
open PySem PySem.Spec PyProof.Rows
section
variable{X:Cx}
theorem bin{a b:Expr}{ta tb:TE}(ha:PE X a ta)(hb:PE X b tb){pins:List (Addr×Obj)}{s:Shared}{σ:St}{H:Hp}{R:V->V->Hp->Prop}(I:Inv X pins σ H s)(h:ta σ H fun x H1=>tb σ H1 fun y H2=>R x y H2)
  {α:Type} {Q:α->Shared->Prop} {f:Value->Value->Sem α}
  (hf:∀v u s2 x y H2,Inv X pins σ H2 s2->RelV x v->RelV y u->R x y H2->wpAny (model X.prog X.w) X.A (f v u) Q X.xe s2) :
  wpAny (model X.prog X.w) X.A (eval a X.env) (fun v s₁=>wpAny (model X.prog X.w) X.A (eval b X.env) (fun u s₂=>wpAny (model X.prog X.w) X.A (f v u) Q X.xe s₂) X.xe s₁) X.xe s:=by
 refine thn (ha pins s σ H _ I h) fun v s1 ⟨x,H1,I1,r1,q1⟩=>?_
 refine thn (hb pins s1 σ H1 _ I1 q1) fun u s2 ⟨y,H2,I2,r2,q2⟩=>?_
 exact hf v u s2 x y H2 I2 r1 r2 q2
def lU(i:Nat):TE:=fun σ H Q=>∃v,σ[i]?=some (some v)/\Q v H
def tC(v:V):TE:=fun _ H Q=>Q v H
theorem Zy{i:Nat}{x:Str}{pos:Pos}(hN:X.N[i]?=some x)(hv:Vis X.env.scope x)(hd:(x==("__debug__":Str))=false:=by decide)(hcd:(x==("__classdict__":Str))=false:=by decide):PE X (.Name x pos) (lU i):=by
 intro pins s σ H Q I h
 obtain⟨v,e,h⟩:=h
 obtain⟨m,hn,hl⟩:=I.loc
 obtain⟨u,r,l⟩:=hl i x v hN e hv
 have fin:EP X pins σ Q u s:=⟨v,H,I,r,h⟩
 rcases l with ⟨hk,hm⟩|⟨hk,c,hc,hcell⟩
 .exact wpAny_Name (wpAny_loadName_local I.ok.kind hk hn hm fin) hd
 .rcases hk with hk|hk
  .exact wpAny_Name (wpAny_loadName_cell I.ok.kind hk hc hcell fin) hd
  .exact wpAny_Name (wpAny_loadName_free I.ok.kind hk hc hcell fin hcd) hd
theorem aA{i j pos}:PE X (.Constant (.int i) j pos) (tC (.int i)):=fun _ _ _ H _ I h=>wpAny_Constant_int ⟨.int i,H,I.tok _,⟨_,rfl⟩,h⟩
theorem qe{b j pos}:PE X (.Constant (.bool b) j pos) (tC (.bl b)):=fun _ _ _ H _ I h=>Constant_bool ⟨.bl b,H,I,rfl,h⟩
theorem nu{j pos}:PE X (.Constant .none j pos) (tC .non):=fun _ _ _ H _ I h=>Constant_none ⟨.non,H,I,rfl,h⟩
theorem ni{x j pos}:PE X (.Constant (.str x) j pos) (tC (.str x)):=fun _ _ _ H _ I h=>Calls.Constant_str ⟨.str x,H,I.tok _,⟨_,rfl⟩,h⟩
def Gl(X:Cx)(x:Str):Prop:=X.env.kindOf x=some .globalImplicit
theorem jW{E:Value->Shared->Prop}{pins:List (Addr×Obj)}{s:Shared}{σ:St}{H:Hp}{x:Str}{u:Value}{pos:Pos}{Q:Value->Shared->Prop}(I:Inv X pins σ H s)(hg:Gl X x)(hm:X.mg x=some u)(h:Q u s)
  (hd:(x==("__debug__":Str))=false:=by decide):wpAny (model X.prog X.w) X.A (eval (.Name x pos) X.env) Q E s :=
 Calls.Name_function_global I.ok.kind hg (Calls.loadGlobal_global (by rw[I.ok.glob];exact I.mod.glob.keeps I.bk) hm h) hd
theorem PB{E:Value->Shared->Prop}{pins:List (Addr×Obj)}{s:Shared}{σ:St}{H:Hp}{x:Str}{u:Value}{pos:Pos}{Q:Value->Shared->Prop}(I:Inv X pins σ H s)(hg:Gl X x)(hm:X.mg x=none)(hv:bootBuiltins x=some u)(h:Q u s)
  (hn:x≠"__name__":=by decide) (hd:(x==("__debug__":Str))=false:=by decide):wpAny (model X.prog X.w) X.A (eval (.Name x pos) X.env) Q E s:=by
 obtain⟨mb,h1,h2⟩:=I.mod.blt
 exact Calls.Name_function_global I.ok.kind hg (Calls.loadGlobal_builtin (by rw[I.ok.glob];exact I.mod.glob.keeps I.bk) hm (by rw[I.ok.blt];exact h1.keeps I.bk) ((h2 x hn).trans hv) h) hd
theorem jE{x:Str}{v:V}{u:Value}{pos:Pos}(hg:Gl X x)(hm:X.mg x=none)(hv:bootBuiltins x=some u)(r:RelV v u)(hn:x≠"__name__":=by decide)(hd:(x==("__debug__":Str))=false:=by decide):PE X (.Name x pos) (tC v) :=
 fun _ _ _ H _ I h=>PB I hg hm hv ⟨v,H,I,r,h⟩ hn hd
variable{a b:Expr}{ta tb:TE}{pos:Pos}
def PC(X:Cx)(op:CmpOp)(a b:Expr)(t:TE):Prop :=
 ∀(pins:List (Addr×Obj))(s:Shared)(σ:St)(H:Hp)(Q:VK),Inv X pins σ H s->t σ H Q ->
  wpAny (model X.prog X.w) X.A (eval a X.env) (fun v s₁=>wpAny (model X.prog X.w) X.A (eval b X.env) (fun u s₂=>wpAny (model X.prog X.w) X.A (compareOp op v u) (EP X pins σ Q) X.xe s₂) X.xe s₁) X.xe s
theorem eF(b:Expr){op:CmpOp}(h:op≠.In)(h2:op≠.NotIn):behindInMarks op b=false:=by
 have e1:(op==CmpOp.In)=false:=by cases op<;>first|rfl|exact absurd rfl h
 have e2:(op==CmpOp.NotIn)=false:=by cases op<;>first|rfl|exact absurd rfl h2
 cases b<;>simp[behindInMarks,e1,e2]
def tB(t:TE):TT:=fun σ H Q=>t σ H fun x H1=>∃c,x=.bl c/\Q c H1
theorem uH{op:CmpOp}{t:TE}(h:PC X op a b t)(h1:behindInMarks op b=false:=by first|exact eF _ (by decide) (by decide)|rfl):PT X (.Compare a [op] [b] pos) (tB t):=by
 intro pins s σ H Q I hw
 refine wpAny_isTrue_Compare1 (thn (h pins s σ H _ I hw) fun v s1 h1=>thn h1 fun u s2 h2=>thn h2 fun c s3 ⟨x,H1,I1,r1,q1⟩=>?_) h1
 obtain⟨d,rfl,q⟩:=q1
 cases r1
 exact U32 ⟨H1,I1,q⟩
theorem nO{e:Expr}{t:TE}(h:PE X e t)(he:∀whole,isTrue e X.env whole=(do let v ←whole;standAt e.pos;holding [v] (truthy v)):=by intro _;rfl):PT X e (tB t):=by
 intro pins s σ H Q I hw
 refine isTrue_plain (thn (h pins s σ H _ I hw) fun v s1 ⟨x,H1,I1,r1,q1⟩=>?_) (he _)
 obtain⟨d,rfl,q⟩:=q1
 cases r1
 exact U32 ⟨H1,I1,q⟩
variable{tA tB':TT}{rest:List Expr}
def Og(t u:TT):TT:=fun σ H Q=>t σ H fun c H1=>if c=true then u σ H1 Q else Q false H1
def tOr(t u:TT):TT:=fun σ H Q=>t σ H fun c H1=>if c=true then Q true H1 else u σ H1 Q
def Ga(t:TT):TT:=fun σ H Q=>t σ H fun c H1=>Q (!c) H1
theorem iZ(ha:PT X a tA):PW X (.BoolOp .And [a] pos) tA:=by
 intro wh pins s σ H Q I h
 refine isTrue_and (thn (ha pins s σ H Q I h) fun c s1 e=>?_)
 cases c with
 |true=>exact isTrue_and_nil e
 |false=>exact e
theorem nH(ha:PT X a tA):PW X (.BoolOp .Or [a] pos) tA:=by
 intro wh pins s σ H Q I h
 refine isTrue_or (thn (ha pins s σ H Q I h) fun c s1 e=>?_)
 cases c with
 |false=>exact isTrue_or_nil e
 |true=>exact e
theorem nJ(ha:PT X a tA)(hb:PW X (.BoolOp .And (b::rest) pos) tB'):PW X (.BoolOp .And (a::b::rest) pos) (Og tA tB'):=by
 intro wh pins s σ H Q I h
 refine isTrue_and (thn (ha pins s σ H _ I h) fun c s1 ⟨H1,I1,q1⟩=>?_)
 cases c with
 |true=>exact hb wh pins s1 σ H1 Q I1 q1
 |false=>exact⟨H1,I1,q1⟩
theorem qY(ha:PT X a tA)(hb:PW X (.BoolOp .Or (b::rest) pos) tB'):PW X (.BoolOp .Or (a::b::rest) pos) (tOr tA tB'):=by
 intro wh pins s σ H Q I h
 refine isTrue_or (thn (ha pins s σ H _ I h) fun c s1 ⟨H1,I1,q1⟩=>?_)
 cases c with
 |true=>exact⟨H1,I1,q1⟩
 |false=>exact hb wh pins s1 σ H1 Q I1 q1
theorem nP(ha:PT X a tA):PT X (.UnaryOp .Not a pos) (Ga tA):=by
 intro pins s σ H Q I h
 exact isTrue_not (ha pins s σ H (fun c H1=>Q (!c) H1) I h)
def qQ(ta tb:TE):TE:=fun σ H Q=>ta σ H fun x H1=>∃c,x=.bl c/\if c=true then tb σ H1 Q else Q (.bl false) H1
def qM(ta:TE):TE:=fun σ H Q=>ta σ H fun x H1=>∃c,x=.bl c/\Q (.bl (!c)) H1
theorem nj{op}{t:TE}(h:PE X a t):PE X (.BoolOp op [a] pos) t:=fun pins s σ H Q I hw=>BoolOp_one (h pins s σ H Q I hw)
theorem o7(ha:PE X a ta)(hb:PE X (.BoolOp .And (b::rest) pos) tb):PE X (.BoolOp .And (a::b::rest) pos) (qQ ta tb):=by
 intro pins s σ H Q I h
 refine BoolOp_and (thn (ha pins s σ H _ I h) fun v s1 ⟨x,H1,I1,r1,q1⟩=>?_)
 obtain⟨c,rfl,q1⟩:=q1
 cases r1
 refine U32 ?_
 cases c with
 |true=>exact hb pins s1 σ H1 Q I1 q1
 |false=>exact⟨.bl false,H1,I1,rfl,q1⟩
theorem nq(ha:PE X a ta):PE X (.UnaryOp .Not a pos) (qM ta):=by
 intro pins s σ H Q I h
 refine UnaryOp_ (thn (ha pins s σ H _ I h) fun v s1 ⟨x,H1,I1,r1,q1⟩=>?_)
 obtain⟨c,rfl,q1⟩:=q1
 cases r1
 exact not_of (U32 ⟨.bl (!c),H1,I1,rfl,q1⟩)
end
end L2
namespace L2
open PySem PySem.Spec PyProof.Rows
def SqL(K:U0b)(H:Hp)(a:Addr)(xs:List V):Prop :=
 Rd H a (.lst xs) ∨
  ∃(o:Obj)(its:Array Value)(n:Nat),K.lookup a=some o/\o.cls=.type "list"/\o.dict=none/\o.data=.seq its n/\its.size<=sizeLine/\Vals xs its.toList
def SqT(K:U0b)(H:Hp)(a:Addr)(xs:List V):Prop :=
 Rd H a (.tup xs) ∨
  ∃(o:Obj)(its:Array Value)(n:Nat),K.lookup a=some o/\o.cls=.type "tuple"/\o.data=.seq its n/\its.size<=sizeLine/\Vals xs its.toList
def tL:Value->Option V
 |.none=>some .non
 |.bool b=>some (.bl b)
 |.int i _=>some (.int i)
 |.str x _=>some (.str x)
 |.bytes b _=>some (.byt b)
 |.float b _=>some (.flt b)
 |.ref a=>some (.ref a)
 |.type n=>some (.ty n)
 |_=>none
theorem RelV.abs{x:V}{u:Value}(r:RelV x u):tL u=some x:=by
 cases x with
 |non=>cases r;rfl
 |bl _=>cases r;rfl
 |int _=>obtain⟨t,rfl⟩:=r;rfl
 |str _=>obtain⟨t,rfl⟩:=r;rfl
 |byt _=>obtain⟨t,rfl⟩:=r;rfl
 |flt _=>obtain⟨t,rfl⟩:=r;rfl
 |ref _=>cases r;rfl
 |ty _=>cases r;rfl
theorem RelV.inj{x y:V}{u:Value}(r:RelV x u)(q:RelV y u):x=y:=U0u (r.abs.symm.trans q.abs)
theorem Vals.inj:∀{xs ys:List V} {us:List Value},Vals xs us->Vals ys us->xs=ys
 |_,_,_,.nil,.nil=>rfl
 |_,_,_,.cons r t,.cons r' t'=>by rw[r.inj r',Vals.inj t t']
section
variable{X:Cx}{pins:List (Addr×Obj)}{σ:St}{H:Hp}{s:Shared}{a:Addr}{xs ys:List V}
theorem SqL.of{K:U0b}(h:H a=some (.lst xs)):SqL K H a xs:=.inl (.inl h)
theorem SqT.of{K:U0b}(h:H a=some (.tup xs)):SqT K H a xs:=.inl (.inl h)
theorem Inv.list(I:Inv X pins σ H s)(h:SqL X.K H a xs):∃its:List Value,Vals xs its/\PlainL s.heap a its.toArray/\xs.length<=sizeLine:=by
 rcases h with h|⟨o,its,n,hk,hc,hd,hs,hz,r⟩
 .obtain⟨z,its,n,r,e⟩:=h.ok I.hok
  exact⟨its,r,⟨_,n,e,rfl,rfl,rfl⟩,z⟩
 .refine⟨its.toList,r,⟨o,n,I.kIn a o hk,hc,hd,by simpa using hs⟩,?_⟩
  have e:=r.length
  simp only[U0f] at e
  omega
theorem Inv.tuple(I:Inv X pins σ H s)(h:SqT X.K H a xs):∃its:List Value,Vals xs its/\IsTup s.heap a its.toArray/\xs.length<=sizeLine:=by
 rcases h with h|⟨o,its,n,hk,hc,hs,hz,r⟩
 .obtain⟨z,its,r,p⟩:=h.ok I.hok
  exact⟨its,r,p,z⟩
 .refine⟨its.toList,r,⟨o,I.kIn a o hk,hc,n,by simpa using hs⟩,?_⟩
  have e:=r.length
  simp only[U0f] at e
  omega
theorem Inv.eO(I:Inv X pins σ H s)(h:SqL X.K H a xs)(h':SqL X.K H a ys):xs=ys:=by
 obtain⟨its,r,⟨o,n,e,_,_,d⟩,_⟩:=I.list h
 obtain⟨its',r',⟨o',n',e',_,_,d'⟩,_⟩:=I.list h'
 rw[e] at e';cases e'
 rw[d] at d'
 injection d' with d1 _
 have:its=its':=by simpa using congrArg Array.toList d1
 subst this
 exact r.inj r'
theorem Inv.ak(I:Inv X pins σ H s)(h:SqT X.K H a xs)(h':SqT X.K H a ys):xs=ys:=by
 obtain⟨its,r,⟨o,e,_,n,d⟩,_⟩:=I.tuple h
 obtain⟨its',r',⟨o',e',_,n',d'⟩,_⟩:=I.tuple h'
 rw[e] at e';cases e'
 rw[d] at d'
 injection d' with d1 _
 have:its=its':=by simpa using congrArg Array.toList d1
 subst this
 exact r.inj r'
end
abbrev Cx.wish(X:Cx)(E:Value->Shared->Prop):Cx:={ X with xe:=E }
abbrev Cx.nox(X:Cx):Cx:=X.wish fun _ _=>False
theorem Cx.Ok.wish{X:Cx}(ok:X.Ok)(E:Value->Shared->Prop):(X.wish E).Ok :=
 ⟨ok.mod,ok.kind,ok.glob,ok.blt,ok.above,ok.inj,ok.has,ok.cab,ok.hd,ok.frames,ok.stk,ok.exf,ok.bs,ok.bsz,ok.noex,ok.exfs,ok.Li,ok.frf,ok.sy⟩
theorem Cx.Ok.KZ{X:Cx}{E:Value->Shared->Prop}(ok:(X.wish E).Ok):X.Ok :=
 ⟨ok.mod,ok.kind,ok.glob,ok.blt,ok.above,ok.inj,ok.has,ok.cab,ok.hd,ok.frames,ok.stk,ok.exf,ok.bs,ok.bsz,ok.noex,ok.exfs,ok.Li,ok.frf,ok.sy⟩
section
variable{X:Cx}{pins:List (Addr×Obj)}{σ:St}{H:Hp}{s:Shared}{E:Value->Shared->Prop}
theorem Inv.wish(I:Inv X pins σ H s)(E:Value->Shared->Prop):Inv (X.wish E) pins σ H s:=⟨I.ok.wish E,I.os,I.bare,I.base,I.loc,I.cell,I.free,I.freeC,I.pin,I.hok,I.len⟩
theorem Inv.KZ(I:Inv (X.wish E) pins σ H s):Inv X pins σ H s:=⟨I.ok.KZ,I.os,I.bare,I.base,I.loc,I.cell,I.free,I.freeC,I.pin,I.hok,I.len⟩
theorem SP.KZ{D:Ends}{f:Flow}{s':Shared}(h:SP (X.wish E) pins D f s'):SP X pins D f s':=by
 cases f with
 |next=>obtain⟨σ',H',I,q⟩:=h;exact⟨σ',H',I.KZ,q⟩
 |brk=>obtain⟨σ',H',I,q⟩:=h;exact⟨σ',H',I.KZ,q⟩
 |cont=>obtain⟨σ',H',I,q⟩:=h;exact⟨σ',H',I.KZ,q⟩
 |ret u=>obtain⟨v,σ',H',I,r,q⟩:=h;exact⟨v,σ',H',I.KZ,r,q⟩
theorem PSs.nox{st:List Stmt}{t:TS}(h:PSs X.nox st t):PSs X st t:=fun pins s σ H D I hw =>
 U5b (h pins s σ H D (I.wish _) hw) (fun _ _ q=>q.KZ) fun _ _ z=>U4m z
end
section
variable{X:Cx}{st:Stmt}{rest:List Stmt}{t u:TS}{e:Expr}{te:TE}{pos:Pos}
def qN:TS:=fun D σ H=>D.nx σ H
def rm(t u:TS):TS:=fun D σ H=>t { D with nx:=u D } σ H
theorem iz:PSs X [] qN:=fun _ _ σ H _ I h=>U7h ⟨σ,H,I,h⟩
theorem dg(h1:PS X st t)(h2:PSs X rest u):PSs X (st::rest) (rm t u):=by
 intro pins s σ H D I h
 refine wpAny_execs_cons (thn (h1 pins s σ H { D with nx:=u D } I h) fun f s1 q=>?_)
 cases f with
 |next =>
  obtain⟨σ',H',I',q⟩:=q
  exact h2 pins s1 σ' H' D I' q
 |ret v=>exact q
 |brk=>exact q
 |cont=>exact q
theorem iy(h1:PS X st t):PSs X [st] t:=by
 intro pins s σ H D I h
 refine wpAny_execs_cons (thn (h1 pins s σ H D I h) fun f s1 q=>?_)
 cases f with
 |next=>exact U7h q
 |ret v=>exact q
 |brk=>exact q
 |cont=>exact q
theorem Inv.quiet{pins:List (Addr×Obj)}{σ:St}{H:Hp}{s:Shared}(I:Inv X pins σ H s):interactive X.env=false:=by simp[interactive,I.ok.kind]
def qO(te:TE):TS:=fun D σ H=>te σ H fun _ H1=>D.nx σ H1
theorem j5(he:PE X e te)(hs:swapsWith e none pos.line X.env=pure false:=by rfl):PS X (.Expr e pos) (qO te):=by
 intro pins s σ H D I h
 exact wpAny_Expr_any (thn (he pins s σ H _ I h) fun v s1 ⟨x,H1,I1,r1,q1⟩=>⟨σ,H1,I1,q1⟩) I.quiet hs
def sE(te:TE):TS:=fun D σ H=>te σ H D.rt
theorem nR(he:PE X e te):PS X (.Return (some e) pos) (sE te):=by
 intro pins s σ H D I h
 exact wpAny_Return_some (thn (he pins s σ H _ I h) fun v s1 ⟨x,H1,I1,r1,q1⟩=>⟨x,σ,H1,I1,r1,q1⟩)
def sI(c:TT)(t u:TS):TS:=fun D σ H=>c σ H fun b H1=>if b=true then t D σ H1 else u D σ H1
theorem qZ{c:Expr}{a b:List Stmt}{tc:TT}(hc:PT X c tc)(ha:PSs X a t)(hb:PSs X b u):PS X (.If c a b pos) (sI tc t u):=by
 intro pins s σ H D I h
 refine wpAny_If (thn (hc pins s σ H _ I h) fun d s1 ⟨H1,I1,q1⟩=>?_)
 cases d with
 |true=>exact ha pins s1 σ H1 D I1 q1
 |false=>exact hb pins s1 σ H1 D I1 q1
end
abbrev TG:=V->St->Hp->(St->Hp->Prop)->Prop
abbrev TGs:=List V->St->Hp->(St->Hp->Prop)->Prop
def PG(X:Cx)(target:Expr)(t:TG):Prop :=
 ∀(pins:List (Addr×Obj))(s:Shared)(σ:St)(H:Hp)(v:V)(u:Value)(Q:St->Hp->Prop),Inv X pins σ H s->RelV v u->t v σ H Q ->
  wpAny (model X.prog X.w) X.A (assign target X.env u) (fun _ s'=>∃σ' H',Inv X pins σ' H' s'/\Q σ' H') X.xe s
def PGs(X:Cx)(ts:List Expr)(t:TGs):Prop :=
 ∀(pins:List (Addr×Obj))(s:Shared)(σ:St)(H:Hp)(vs:List V)(us:List Value)(Q:St->Hp->Prop),Inv X pins σ H s->Vals vs us->t vs σ H Q ->
  wpAny (model X.prog X.w) X.A (assignInOrder ((assignEach ts X.env).map (·.2)) us) (fun _ s'=>∃σ' H',Inv X pins σ' H' s'/\Q σ' H') X.xe s
abbrev cR:=V->V->V->Hp->(Hp->Prop)->Prop
def mW(X:Cx)(t:cR):Prop :=
 ∀(pins:List (Addr×Obj))(s:Shared)(σ:St)(H:Hp)(o i v:V)(ov iv u:Value)(Q:Hp->Prop),Inv X pins σ H s->RelV o ov->RelV i iv->RelV v u->t o i v H Q ->
  wpAny (model X.prog X.w) X.A (setItem ov iv u) (fun _ s'=>∃H',Inv X pins σ H' s'/\Q H') X.xe s
section
variable{X:Cx}{pos:Pos}
def Vb(i:Nat):TG:=fun v σ H Q=>Q (σ.set i (some v)) H
theorem j9{i:Nat}{x:Str}(hN:X.N.Nodup)(hi:X.N[i]?=some x)(hx:Loc X.env.scope x)(hf:X.fn x=true∨X.env.scope.names.lookup x=some .local:=by first|exact .inl rfl|exact .inr rfl|assumption):PG X (.Name x pos) (Vb i):=by
 intro pins s σ H v u Q I r h
 exact wpAny_assign_Name (WX I hN hi hx r (fun s' I'=>⟨_,H,I',h⟩) hf)
def cO:TGs:=fun vs σ H Q=>vs=[]/\Q σ H
def ZK(t:TG)(u:TGs):TGs:=fun vs σ H Q=>∃v r,vs=v::r/\t v σ H fun σ' H'=>u r σ' H' Q
theorem j8:PGs X [] cO:=by
 intro pins s σ H vs us Q I r h
 obtain⟨e,h⟩:=h
 subst e
 cases r
 exact assignInOrder_nil ⟨σ,H,I,h⟩
theorem dj{e:Expr}{es:List Expr}{t:TG}{u:TGs}(h1:PG X e t)(h2:PGs X es u)
  (hs:(assignEach (e::es) X.env).map (·.2)=assign e X.env::(assignEach es X.env).map (·.2):=by rfl):PGs X (e::es) (ZK t u):=by
 intro pins s σ H vs us Q I r h
 obtain⟨v,vr,e1,h⟩:=h
 subst e1
 cases r with
 |cons r rr =>
  rw[hs]
  refine assignInOrder_cons (thn (h1 pins s σ H _ _ _ I r h) fun _ s1 ⟨σ1,H1,I1,q1⟩=>?_)
  exact h2 pins s1 σ1 H1 _ _ Q I1 rr q1
def cM(K:U0b)(n:Nat)(t:TGs):TG:=fun v σ H Q=>∃a xs,v=.ref a/\SqT K H a xs/\xs.length=n/\t xs σ H Q
theorem nW{es:List Expr}{k:Nat}{t:TGs}{n:Nat}(hc:X.calm=true)(h:PGs X es t)
  (hn:(assignEach es X.env).length=n:=by rfl) (hst:(assignEach es X.env).findIdx? (·.1)=none:=by rfl):PG X (.Tuple es k pos) (cM X.K n t):=by
 intro pins s σ H v u Q I r hw
 obtain⟨a,xs,e1,hq,hl,hw⟩:=hw
 subst e1
 cases r
 obtain⟨its,rv,ht,hz⟩:=I.tuple hq
 refine assign_Tuple_tuple (I.ok.hd hc) ht (by simp[hn,←hl,rv.length]) hst fun h' hx=>?_
 have I1:Inv X pins σ H { s with heap:=h' }:=I.kept (t':=s.toks) fun b o e=>hx b o (U05 (U0i e)) e
 exact h pins _ σ H xs _ Q I1 (by simpa using rv) hw
def tH(to ti:TE)(t:cR):TG:=fun v σ H Q=>to σ H fun o H1=>ti σ H1 fun i H2=>t o i v H2 fun H3=>Q σ H3
theorem nY{o i:Expr}{to ti:TE}{t:cR}(ho:PE X o to)(hi:PE X i ti)(hs:mW X t)
  (ha:∀v,assign (.Subscript o i pos) X.env v=(do
   let ov ←holding [v] (eval o X.env)
   let iv ←holding [v,ov] (eval i X.env)
   standAt pos
   holding [v,ov,iv] (setItem ov iv v)
   release [v,ov,iv] []):=by intro _;rfl):PG X (.Subscript o i pos) (tH to ti t):=by
 intro pins s σ H v u Q I r h
 rw[ha]
 refine U0 (U2n (thn (ho pins s σ H _ I h) fun ov s1 ⟨x,H1,I1,r1,q1⟩=>?_))
 refine U0 (U2n (thn (hi pins s1 σ H1 _ I1 q1) fun iv s2 ⟨y,H2,I2,r2,q2⟩=>?_))
 refine U0 (wpAny_standAt (U0 (U2n (thn (hs pins s2 σ H2 x y v ov iv u _ I2 r1 r2 r q2) fun _ s3 ⟨H3,I3,q3⟩=>?_))))
 exact wpAny_release ⟨σ,H3,I3,q3⟩
def lW(te:TE)(g:TG):TS:=fun D σ H=>te σ H fun x H1=>g x σ H1 D.nx
theorem Zx{tg e:Expr}{te:TE}{g:TG}(he:PE X e te)(hg:PG X tg g)(hs:swapsWithSole [tg] e pos.line X.env=pure false:=by rfl)(hw:swappedStores [tg] e X.env=pure none:=by rfl)
  (h1:(assignEach [tg] X.env).map (·.2)=[assign tg X.env]:=by rfl):PS X (.Assign [tg] e pos) (lW te g):=by
 intro pins s σ H D I h
 refine wpAny_Assign_stores (thn (he pins s σ H _ I h) fun v s1 ⟨x,H1,I1,r1,q1⟩=>?_) hs hw
 rw[h1]
 exact thn (hg pins s1 σ H1 x v _ I1 r1 q1) fun _ s2 q=>q
theorem nQ{i:Nat}{x:Str}{e:Expr}{te:TE}{pos':Pos}(hN:X.N.Nodup)(hi:X.N[i]?=some x)(hx:Loc X.env.scope x)(he:PE X e te)(hs:swapsWith e (some (.Name x pos')) pos.line X.env=pure false:=by rfl)(hf:X.fn x=true∨X.env.scope.names.lookup x=some .local:=by first|exact .inl rfl|exact .inr rfl|assumption) :
  PS X (.Assign [.Name x pos'] e pos) (lW te (Vb i)):=by
 intro pins s σ H D I h
 refine wpAny_Assign_Name (thn (he pins s σ H _ I h) fun v s1 ⟨y,H1,I1,r1,q1⟩=>?_) hs
 exact WX I1 hN hi hx r1 (fun s2 I2=>⟨_,H1,I2,q1⟩) hf
end
section
variable{X:Cx}{pos:Pos}
end
structure It where
 go:Nat->Hp->Prop
 yld:Nat->Hp->V->Hp->Prop
 stop:Nat->Hp->Prop
def Mt(X:Cx)(pins:List (Addr×Obj))(H:Hp)(b:Addr):Prop :=
 H b=none/\b≠X.env.locals/\b ∉ X.fs/\(b∈X.ex∨X.s₀.heap.objs.size<=b)/\(∀x c,X.env.cells.lookup x=some c->c≠b)/\∀p∈X.pn++pins,p.1≠b
theorem Inv.Z6{X:Cx}{pins:List (Addr×Obj)}{σ:St}{H H':Hp}{s:Shared}{b:Addr}(I:Inv X pins σ H s)(hb:s.heap.objs.size<=b)(hn:H' b=none):Mt X pins H' b:=by
 refine⟨hn,U3k (U03 I.lt hb),I.cL hb,.inr (U00 I.sz hb),fun x c e z=>?_,fun p hp z=>?_⟩
 .obtain⟨v,q⟩:=I.cell x c e
  exact absurd (U03 q.lt (by rw[z];exact hb)) (U4i _)
 .exact absurd (U03 (U0i (I.pin p hp).1) (by rw[z];exact hb)) (U4i _)
structure Turn(P:Program)(w:World)(K:U0b)(tg:Expr)(J:It)(fp:List Addr)(it:Addr)(tn:Nat->Heap->Prop):Prop where
 mem:it∈fp
 obj:∀i h,tn i h->∀b∈fp,∃o,h.get? b=some o/\∀v,o.data≠.cell v
 keep:∀i h h',tn i h->(∀b∈fp,∀o,h.get? b=some o->h'.get? b=some o)->tn i h'
 item:∀(X:Cx),X.prog=P->X.w=w->X.K=K->X.calm=true->∀(i:Nat)(pins:List (Addr×Obj))(s:Shared)(σ:St)(H:Hp)(E:Value->Shared->Prop),Inv X pins σ H s->(∀b∈fp,Mt X pins H b)->tn i s.heap->J.go i H ->
  wpAny (model P w) X.A (pyNext (.ref it)) (fun r s1=>∃u,r=some u /\
   wpAny (model P w) X.A (letOwnedTupleGo tg (.ref it) u) (fun _ s2=>∃x H',Inv X pins σ H' s2/\RelV x u/\J.yld i H x H'/\tn (i+1) s2.heap/\∀b∈fp,H' b=none) E s1) E s
 done:∀(X:Cx),X.prog=P->X.w=w->X.K=K->X.calm=true->∀(i:Nat)(pins:List (Addr×Obj))(s:Shared)(σ:St)(H:Hp)(E:Value->Shared->Prop),Inv X pins σ H s->(∀b∈fp,Mt X pins H b)->tn i s.heap->J.stop i H ->
  wpAny (model P w) X.A (pyNext (.ref it)) (fun r s1=>r=none/\Inv X pins σ H s1) E s
 self:∀(A:Around)(i:Nat)(s:Shared)(Q:Value->Shared->Prop)(E:Value->Shared->Prop),tn i s.heap->Q (.ref it) s->wpAny (model P w) A (pyIter (.ref it)) Q E s
abbrev TI:=St->Hp->(It->Hp->Prop)->Prop
def PIE(X:Cx)(pins:List (Addr×Obj))(σ:St)(tg:Expr)(R:It->Hp->Prop)(itv:Value)(s2:Shared):Prop :=
 ∃(it:Addr)(fp:List Addr)(tn:Nat->Heap->Prop)(J:It)(H':Hp),itv=.ref it/\Inv X pins σ H' s2/\Turn X.prog X.w X.K tg J fp it tn/\tn 0 s2.heap/\(∀b∈fp,Mt X pins H' b)/\R J H'
def PI(X:Cx)(tg iter:Expr)(wi:TI):Prop :=
 ∀(pins:List (Addr×Obj))(s:Shared)(σ:St)(H:Hp)(R:It->Hp->Prop),Inv X pins σ H s->wi σ H R ->
  wpAny (model X.prog X.w) X.A (eval iter X.env) (fun v s1=>wpAny (model X.prog X.w) X.A (pyIter v) (PIE X pins σ tg R) X.xe s1) X.xe s
theorem ZJ{M:Model}{A:Around}{E:Value->Shared->Prop}{s:Shared}{tg:Expr}{it:Addr}{u:Value}{o:Obj}{n:String}{vs:Array Value}{Q:Unit->Shared->Prop}(ho:s.heap.get? it=some o)(hc:o.cls=.type n)(hd:o.data=.fields vs)
  (hn:["enumerate","zip","dict_itemiterator","dict_reverseitemiterator","odict_iterator","itertools.zip_longest","itertools.pairwise"].contains n=false) (hQ:Q () s):wpAny M A (letOwnedTupleGo tg (.ref it) u) Q E s:=by
 unfold letOwnedTupleGo
 cases tg<;>first
  |exact U0d hQ
  |(cases u<;>first
    |exact U0d hQ
    |(refine U0 (U7v ho ?_)
      rw[hc,hd]
      show wpAny M A (if (["enumerate","zip","dict_itemiterator","dict_reverseitemiterator","odict_iterator","itertools.zip_longest","itertools.pairwise"].contains n&&vs[0]?==some (rawInt _))=true then _ else _) Q E s
      rw[if_neg (by intro h;rw[hn,U7o] at h;cases h)]
      exact U0d hQ))
def Itl(K:U0b)(a:Addr):It :=
 ⟨fun i H=>∃xs x,SqL K H a xs/\xs[i]?=some x,fun i H x H'=>H'=H/\∀xs,SqL K H a xs->xs[i]?=some x,fun i H=>∃xs,SqL K H a xs/\xs.length<=i⟩
def Itt(K:U0b)(a:Addr):It :=
 ⟨fun i H=>∃xs x,SqT K H a xs/\xs[i]?=some x,fun i H x H'=>H'=H/\∀xs,SqT K H a xs->xs[i]?=some x,fun i H=>∃xs,SqT K H a xs/\xs.length<=i⟩
def Itr(lo:Int)(n:Nat):It:=⟨fun i _=>i<n,fun i H x H'=>H'=H/\x=.int (lo+i),fun i _=>n<=i⟩
theorem aj{P:Program}{w:World}{K:U0b}{tg:Expr}(a it:Addr):Turn P w K tg (Itl K a) [it] it (fun i h=>h.IsListIter it a i) where
 mem:=by simp
 obj:=fun i h st b hb=>by
  have e:b=it:=by simpa using hb
  subst e
  obtain⟨o,e,c,d⟩:=st
  exact⟨o,e,fun v z=>by rw[d] at z;cases z⟩
 keep:=fun i h h' st k=>st.at fun o e=>k it (by simp) o e
 item:=by
  intro X hP hw hK hc i pins s σ H E I hf st hg
  subst hP hw hK
  obtain⟨xs,x,hq,hx⟩:=hg
  obtain⟨its,rv,p,hz⟩:=I.list hq
  obtain⟨u,hu,ru⟩:=rv.get hx
  obtain⟨f0,f1,f2,f3,f4,f5⟩:=hf it (by simp)
  refine wpAny_pyNext_list_item st p.isList (x:=u) (by simpa using hu) fun h' st' sb=>?_
  have I1:Inv X pins σ H { s with heap:=h' }:=I.turned (t':=s.toks) (fun b o hb e=>(sb.2 b hb).trans e) f0 f1 f3 f4 f5
  obtain⟨o,e,c,d⟩:=id st'
  exact⟨u,rfl,ZJ (s:={ s with heap:=h' }) e c d (by decide) ⟨x,H,I1,ru,⟨rfl,fun ys hy=>by rw[I.eO hy hq];exact hx⟩,st',fun b hb=>(hf b hb).1⟩⟩
 done:=by
  intro X hP hw hK hc i pins s σ H E I hf st hg
  subst hP hw hK
  obtain⟨xs,hq,hx⟩:=hg
  obtain⟨its,rv,p,hz⟩:=I.list hq
  obtain⟨f0,f1,f2,f3,f4,f5⟩:=hf it (by simp)
  have hl:=rv.length
  exact wpAny_pyNext_list_end (I.ok.hd hc) st p.isList (by simp;omega) fun h' eb=>⟨rfl,I.turned (t':=s.toks) (fun b o hb e=>eb b o hb e) f0 f1 f3 f4 f5⟩
 self:=fun _ _ _ _ _ st h=>wpAny_pyIter_listiter st h
theorem ZP{P:Program}{w:World}{K:U0b}{tg:Expr}(a it:Addr):Turn P w K tg (Itt K a) [it] it (fun i h=>h.IsTupleIter it a i) where
 mem:=by simp
 obj:=fun i h st b hb=>by
  have e:b=it:=by simpa using hb
  subst e
  obtain⟨o,e,c,d⟩:=st
  exact⟨o,e,fun v z=>by rw[d] at z;cases z⟩
 keep:=fun i h h' st k=>st.at fun o e=>k it (by simp) o e
 item:=by
  intro X hP hw hK hc i pins s σ H E I hf st hg
  subst hP hw hK
  obtain⟨xs,x,hq,hx⟩:=hg
  obtain⟨its,rv,p,hz⟩:=I.tuple hq
  obtain⟨u,hu,ru⟩:=rv.get hx
  obtain⟨f0,f1,f2,f3,f4,f5⟩:=hf it (by simp)
  refine wpAny_pyNext_tuple_item st (show s.heap.IsTuple a its.toArray from p) (x:=u) (by simpa using hu) fun h' st' sb=>?_
  have I1:Inv X pins σ H { s with heap:=h' }:=I.turned (t':=s.toks) (fun b o hb e=>(sb.2 b hb).trans e) f0 f1 f3 f4 f5
  obtain⟨o,e,c,d⟩:=id st'
  exact⟨u,rfl,ZJ (s:={ s with heap:=h' }) e c d (by decide) ⟨x,H,I1,ru,⟨rfl,fun ys hy=>by rw[I.ak hy hq];exact hx⟩,st',fun b hb=>(hf b hb).1⟩⟩
 done:=by
  intro X hP hw hK hc i pins s σ H E I hf st hg
  subst hP hw hK
  obtain⟨xs,hq,hx⟩:=hg
  obtain⟨its,rv,p,hz⟩:=I.tuple hq
  obtain⟨f0,f1,f2,f3,f4,f5⟩:=hf it (by simp)
  have hl:=rv.length
  exact wpAny_pyNext_tuple_end (I.ok.hd hc) st (show s.heap.IsTuple a its.toArray from p) (by simp;omega) fun h' eb=>⟨rfl,I.turned (t':=s.toks) (fun b o hb e=>eb b o hb e) f0 f1 f3 f4 f5⟩
 self:=fun _ _ _ _ _ st h=>wpAny_pyIter_tupleiter st h
theorem ZQ{P:Program}{w:World}{K:U0b}{tg:Expr}(it:Addr)(lo:Int)(n:Nat):Turn P w K tg (Itr lo n) [it] it (fun i h=>IsRangeIter h it (lo+(i:Nat)*1) ((n:Int)-(i:Nat)) 1) where
 mem:=by simp
 obj:=fun i h st b hb=>by
  have e:b=it:=by simpa using hb
  subst e
  exact⟨_,st,fun v z=>by
   have z':Data.fields _=Data.cell v:=z
   cases z'⟩
 keep:=fun i h h' st k=>k it (by simp) _ st
 item:=by
  intro X hP hw hK hc i pins s σ H E I hf st hg
  subst hP hw hK
  obtain⟨f0,f1,f2,f3,f4,f5⟩:=hf it (by simp)
  have W:=Walks.range (prog:=X.prog) (w:=X.w) (I.ok.hd hc) it lo 1 n
  refine W.item i s _ _ hg st fun v h' tk hv st' kk=>?_
  obtain⟨t,rfl⟩:=hv
  have I1:Inv X pins σ H { s with heap:=h',toks:=tk }:=I.turned (fun b o hb e=>kk b o (by simpa using hb) e) f0 f1 f3 f4 f5
  refine⟨_,rfl,ZJ (s:={ s with heap:=h',toks:=tk }) (n:="range_iterator") st' rfl rfl (by decide) ⟨.int (lo+i),H,I1,⟨t,?_⟩,⟨rfl,rfl⟩,st',fun b hb=>(hf b hb).1⟩⟩
  rw[Int.mul_one]
 done:=by
  intro X hP hw hK hc i pins s σ H E I hf st hg
  subst hP hw hK
  obtain⟨f0,f1,f2,f3,f4,f5⟩:=hf it (by simp)
  exact wpAny_pyNext_range_end (I.ok.hd hc) st (by have:n<=i:=hg;omega) fun h' eb=>⟨rfl,I.turned (t':=s.toks) (fun b o hb e=>eb b o hb e) f0 f1 f3 f4 f5⟩
 self:=fun _ _ _ _ _ st h=>wpAny_pyIter_rangeiter st h
end L2
namespace L2
open PySem PySem.Spec PyProof.Rows
section
variable{X:Cx}{tg:Expr}
theorem dY{pins:List (Addr×Obj)}{σ:St}{H:Hp}{s:Shared}{R:It->Hp->Prop}{E:Value->Shared->Prop}{lo hi:Int}{t u v:Tok}{tk:Nat}(I:Inv X pins σ H s)(h1:-(2^62)<=lo)(h2:lo<2^62)(h3:-(2^62)<=hi)(h4:hi<2^62)
  (q:R (Itr lo (hi-lo).toNat) H):wpAny (model X.prog X.w) X.A (pyIter (.ref s.heap.objs.size)) (PIE X pins σ tg R) E { s with heap:=s.heap.push { cls:=.type "range",data:=.fields #[.int lo t,.int hi u,.int 1 v] },toks:=tk }:=by
 refine wpAny_pyIter_range (IsRange.new ..) (small_one h1 h2 h3 h4) ?_
 have I1:Inv X pins σ H { s with heap:=s.heap.push { cls:=.type "range",data:=.fields #[.int lo t,.int hi u,.int 1 v] },toks:=tk }:=I.kept fun b o e=>U0c _ e
 refine⟨(s.heap.push { cls:=.type "range",data:=.fields #[.int lo t,.int hi u,.int 1 v] }).objs.size,[(s.heap.push { cls:=.type "range",data:=.fields #[.int lo t,.int hi u,.int 1 v] }).objs.size],_,_,H,rfl,
  I1.kept (t':=tk) fun b o e=>U0c _ e,ZQ _ lo (hi-lo).toNat,?_,fun b hb=>?_,q⟩
 .have e1:lo+((0:Nat):Int)*1=lo:=by simp
  have e2:(((hi-lo).toNat:Nat):Int)-((0:Nat):Int)=Builtin.Range.rangeSize lo hi 1:=by rw[rangeSize_one];split<;>omega
  show IsRangeIter _ _ (lo+((0:Nat):Int)*1) ((((hi-lo).toNat:Nat):Int)-((0:Nat):Int)) 1
  rw[e1,e2]
  exact U0r _ rfl
 .have e:b=(s.heap.push { cls:=.type "range",data:=.fields #[.int lo t,.int hi u,.int 1 v] }).objs.size:=by simpa using hb
  subst e
  exact I1.Z6 (U0h _) (I1.hok.fresh (U0h _))
def rC(ta:TA):TI:=fun σ H R=>ta σ H fun vs H1=>∃j:Int,vs=[.int j]/\-(2^62)<=j/\j<2^62/\R (Itr 0 j.toNat) H1
theorem bI{a:Expr}{ta:TA}{p pos:Pos}(hg:Gl X "range")(hm:X.mg "range"=none)(ha:PA X [a] ta)(hs:starEach [a] X.env=[(false,eval a X.env)]:=by rfl):PI X tg (.Call (.Name "range" p) [a] [] pos) (rC ta):=by
 intro pins s σ H R I h
 refine Call_ (PB I hg hm boot_range (U5a (thn (ha pos pins s σ H _ I h) fun us s1 ⟨vs,H1,I1,r1,q1⟩=>?_) hs rfl))
 obtain⟨j,e,q1,q2,q⟩:=q1
 subst e
 cases r1 with
 |cons r rr =>
  cases rr
  obtain⟨t,rfl⟩:=r
  exact call_range_1 (dY I1 (by omega) (by omega) q1 q2 (by simpa using q))
def sJ(wi:TI)(g:TG)(tb:TS):TS:=fun D σ H=>wi σ H fun J H1=>∃W:Nat->Nat->St->Hp->Prop,(∃m,W 0 m σ H1)/\∀i m σ H,W i m σ H ->
 (J.stop i H/\D.nx σ H)∨(J.go i H/\∃N:St->Hp->Prop,(∀σ' H',N σ' H'->∃m',m'<m/\W (i+1) m' σ' H')/\∀x H',J.yld i H x H'->g x σ H' fun σ2 H2=>tb { D with nx:=N,ct:=N,bk:=D.nx } σ2 H2)
def Kc(fp:List Addr)(h:Heap):List (Addr×Obj):=fp.filterMap fun b=>(h.get? b).map fun o=>(b,o)
theorem Kw{fp:List Addr}{h:Heap}{b:Addr}{o:Obj}(hb:b∈fp)(e:h.get? b=some o):(b,o)∈Kc fp h:=List.mem_filterMap.mpr ⟨b,hb,by rw[e];rfl⟩
theorem Um{fp:List Addr}{h:Heap}{p:Addr×Obj}(hp:p∈Kc fp h):p.1∈fp/\h.get? p.1=some p.2:=by
 obtain⟨b,hb,e⟩:=List.mem_filterMap.mp hp
 cases q:h.get? b with
 |none=>rw[q] at e;cases e
 |some o =>
  rw[q] at e
  have e':(b,o)=p:=U0u e
  subst e'
  exact⟨hb,q⟩
theorem Inv.pinned{pins:List (Addr×Obj)}{σ:St}{H:Hp}{s:Shared}{fp:List Addr}(I:Inv X pins σ H s)(hf:∀b∈fp,Mt X pins H b)(ho:∀b∈fp,∃o,s.heap.get? b=some o/\∀v,o.data≠.cell v):Inv X (pins++Kc fp s.heap) σ H s :=
 I.QH fun p hp=>(U1h.mp hp).elim (fun z=>I.pin p (U0y _ z)) fun z=>by
  obtain⟨hb,e⟩:=Um z
  obtain⟨f0,f1,f2,_⟩:=hf p.1 hb
  obtain⟨o,e',d⟩:=ho p.1 hb
  rw[e] at e';cases e'
  exact⟨e,f0,f1,f2,d⟩
theorem Inv.Nr{pins pl:List (Addr×Obj)}{σ:St}{H:Hp}{s:Shared}(I:Inv X (pins++pl) σ H s):Inv X pins σ H s:=I.QH fun p hp=>I.pin p (U0y _ (U2y _ hp))
theorem nT{iter:Expr}{body:List Stmt}{wi:TI}{g:TG}{tb:TS}{pos:Pos}(hp:PassesOwn (model X.prog X.w) X.A X.env X.xe)(hc:X.calm=true)(hi:PI X tg iter wi)(hg:PG X tg g)(hb:PSs X body tb)
  (hs:∀x,foldedSetIterable iter X.env x=pure x:=by intro _;rfl):PS X (.For tg iter body [] pos) (sJ wi g tb):=by
 intro pins s σ H D I h
 refine wpAny_For (thn (hi pins s σ H _ I h) fun v s1 h1=>thn h1 fun itv s2 h2=>?_) hs
 obtain⟨it,fp,tn,J,H2,e,I2,T,st2,f2,W,⟨m0,w0⟩,turn⟩:=h2
 subst e
 -- what stays true of the iterator's objects through the loop
 have stat:∀{H':Hp},(∀b∈fp,H' b=none)->∀b∈fp,Mt X pins H' b:=fun hn b hb=>⟨hn b hb,(f2 b hb).2⟩
 refine codeAny_forLoop_any (fun n s'=>∃i σ' H',Inv X pins σ' H' s'/\tn i s'.heap/\(∀b∈fp,H' b=none)/\W i n σ' H') ?_ m0 ⟨0,σ,H2,I2,st2,fun b hb=>(f2 b hb).1,w0⟩
 rintro n s3 ⟨i,σ3,H3,I3,st3,fr3,w3⟩
 rcases turn i n σ3 H3 w3 with ⟨stop,qn⟩|⟨go,N,hN,step⟩
 .refine U5p hp (thn (T.done X rfl rfl rfl hc i pins s3 σ3 H3 X.xe I3 (stat fr3) st3 stop) fun r s4 ⟨hr,I4⟩=>?_)
  subst hr
  exact U7h ⟨σ3,H3,I4,qn⟩
 .refine U5p hp (thn (T.item X rfl rfl rfl hc i pins s3 σ3 H3 X.xe I3 (stat fr3) st3 go) fun r s4 ⟨u,hr,h4⟩=>?_)
  subst hr
  refine U5p hp (thn h4 fun _ s5 ⟨x,H5,I5,r5,y5,st5,fr5⟩=>?_)
  have I5':=I5.pinned (stat fr5) (T.obj _ _ st5)
  refine U5p hp (thn (hg _ s5 σ3 H5 x u _ I5' r5 (step x H5 y5)) fun _ s6 ⟨σ6,H6,I6,q6⟩=>?_)
  refine U5p hp (thn (hb _ s6 σ6 H6 _ I6 q6) fun f s7 q7=>?_)
  have again:∀{σ7:St} {H7:Hp},Inv X (pins++Kc fp s5.heap) σ7 H7 s7->N σ7 H7->∃m,m<n/\∃i σ' H',Inv X pins σ' H' s7/\tn i s7.heap/\(∀b∈fp,H' b=none)/\W i m σ' H':=fun {σ7 H7} I7 n7=>by
   obtain⟨m',hm,w7⟩:=hN σ7 H7 n7
   refine⟨m',hm,i+1,σ7,H7,I7.Nr,T.keep _ _ _ st5 fun b hb o e=>(I7.pin (b,o) (U0y _ (U0y _ (Kw hb e)))).1,fun b hb=>?_,w7⟩
   obtain⟨o,e,d⟩:=T.obj _ _ st5 b hb
   exact(I7.pin (b,o) (U0y _ (U0y _ (Kw hb e)))).2.1
  cases f with
  |next=>obtain⟨σ7,H7,I7,n7⟩:=q7;exact again I7 n7
  |cont=>obtain⟨σ7,H7,I7,n7⟩:=q7;exact again I7 n7
  |brk=>obtain⟨σ7,H7,I7,q7⟩:=q7;exact⟨σ7,H7,I7.Nr,q7⟩
  |ret v=>obtain⟨x7,σ7,H7,I7,r7,q7⟩:=q7;exact⟨x7,σ7,H7,I7.Nr,r7,q7⟩
end
end L2
namespace L2
open PySem PySem.Spec PyProof.Rows
abbrev R2:=V->V->Hp->VK->Prop
def OpR(X:Cx)(f:Value->Value->Sem Value)(r:R2):Prop :=
 ∀(pins:List (Addr×Obj))(s:Shared)(σ:St)(H:Hp)(x y:V)(v u:Value)(Q:VK),Inv X pins σ H s->RelV x v->RelV y u->r x y H Q ->
  wpAny (model X.prog X.w) X.A (f v u) (EP X pins σ Q) X.xe s
def UnR(X:Cx)(f:Value->Sem Value)(r:V->Hp->VK->Prop):Prop :=
 ∀(pins:List (Addr×Obj))(s:Shared)(σ:St)(H:Hp)(x:V)(v:Value)(Q:VK),Inv X pins σ H s->RelV x v->r x H Q ->
  wpAny (model X.prog X.w) X.A (f v) (EP X pins σ Q) X.xe s
def Dd(X:Cx)(f:Value)(r:List V->Hp->VK->Prop):Prop :=
 ∀(pins:List (Addr×Obj))(s:Shared)(σ:St)(H:Hp)(xs:List V)(us:List Value)(Q:VK),Inv X pins σ H s->Vals xs us->r xs H Q ->
  wpAny (model X.prog X.w) X.A (call f us) (EP X pins σ Q) X.xe s
def tOp(r:R2)(ta tb:TE):TE:=fun σ H Q=>ta σ H fun x H1=>tb σ H1 fun y H2=>r x y H2 Q
def tUn(r:V->Hp->VK->Prop)(ta:TE):TE:=fun σ H Q=>ta σ H fun x H1=>r x H1 Q
def rI(C:Int->Int->Prop)(g:Int->Int->V):R2:=fun x y H Q=>∃i j,x=.int i/\y=.int j/\C i j/\Q (g i j) H
def rI0(g:Int->Int->V):R2:=fun x y H Q=>∃i j,x=.int i/\y=.int j/\Q (g i j) H
def rU(g:Int->V):V->Hp->VK->Prop:=fun x H Q=>∃i,x=.int i/\Q (g i) H
section
variable{X:Cx}{a b c:Expr}{ta tb tc:TE}{pos:Pos}
theorem cP(ha:PE X a ta)(hb:PE X b tb){pins:List (Addr×Obj)}{s:Shared}{σ:St}{H:Hp}{R:V->V->Hp->Prop}(I:Inv X pins σ H s)
  (h:ta σ H fun x H1=>tb σ H1 fun y H2=>R x y H2) {Q:Value->Shared->Prop} {f:Value->Value->Sem Value}
  (hf:∀v u s2 x y H2,Inv X pins σ H2 s2->RelV x v->RelV y u->R x y H2->wpAny (model X.prog X.w) X.A (f v u) Q X.xe s2) :
  wpAny (model X.prog X.w) X.A (eval a X.env) (fun v s₁=>wpAny (model X.prog X.w) X.A (eval b X.env) (fun u s₂=>wpAny (model X.prog X.w) X.A (f v u) Q X.xe s₂) X.xe s₁) X.xe s:=by
 refine thn (ha pins s σ H _ I h) fun v s1 ⟨x,H1,I1,r1,q1⟩=>?_
 refine thn (hb pins s1 σ H1 _ I1 q1) fun u s2 ⟨y,H2,I2,r2,q2⟩=>?_
 exact hf v u s2 x y H2 I2 r1 r2 q2
theorem ZD{op:Operator}{r:R2}(ho:OpR X (binaryOp op) r)(ha:PE X a ta)(hb:PE X b tb):PE X (.BinOp a op b pos) (tOp r ta tb):=by
 intro pins s σ H Q I h
 exact wpAny_BinOp (cP ha hb I h fun v u s2 x y H2 I2 rx ry q=>ho pins s2 σ H2 x y v u Q I2 rx ry q)
theorem gF{op:UnaryOp}{r:V->Hp->VK->Prop}(ho:UnR X (unaryOp op) r)(ha:PE X a ta):PE X (.UnaryOp op a pos) (tUn r ta):=by
 intro pins s σ H Q I h
 exact UnaryOp_ (thn (ha pins s σ H _ I h) fun v s1 ⟨x,H1,I1,r1,q1⟩=>ho pins s1 σ H1 x v Q I1 r1 q1)
theorem opI{f:Value->Value->Sem Value}{C:Int->Int->Prop}{g:Int->Int->Int}
  (rule:∀(i j:Int)(t u:Tok)(s:Shared)(Q:Value->Shared->Prop)(E:Value->Shared->Prop),C i j->Q (.int (g i j) s.toks) { s with toks:=s.toks+1 }->wpAny (model X.prog X.w) X.A (f (.int i t) (.int j u)) Q E s) :
  OpR X f (rI C fun i j=>.int (g i j)):=by
 intro pins s σ H x y v u Q I rx ry h
 obtain⟨i,j,rfl,rfl,hc,q⟩:=h
 obtain⟨t,rfl⟩:=rx
 obtain⟨t',rfl⟩:=ry
 exact rule i j t t' s _ _ hc ⟨.int (g i j),H,I.tok _,⟨_,rfl⟩,q⟩
theorem mL{f:Value->Value->Sem Value}{g:Int->Int->Int}
  (rule:∀(i j:Int)(t u:Tok)(s:Shared)(Q:Value->Shared->Prop)(E:Value->Shared->Prop),Q (.int (g i j) s.toks) { s with toks:=s.toks+1 }->wpAny (model X.prog X.w) X.A (f (.int i t) (.int j u)) Q E s) :
  OpR X f (rI0 fun i j=>.int (g i j)):=by
 intro pins s σ H x y v u Q I rx ry h
 obtain⟨i,j,rfl,rfl,q⟩:=h
 obtain⟨t,rfl⟩:=rx
 obtain⟨t',rfl⟩:=ry
 exact rule i j t t' s _ _ ⟨.int (g i j),H,I.tok _,⟨_,rfl⟩,q⟩
theorem Z2{f:Value->Value->Sem Value}{g:Int->Int->Bool}
  (rule:∀(i j:Int)(t u:Tok)(s:Shared)(Q:Value->Shared->Prop)(E:Value->Shared->Prop),Q (.bool (g i j)) s->wpAny (model X.prog X.w) X.A (f (.int i t) (.int j u)) Q E s) :
  OpR X f (rI0 fun i j=>.bl (g i j)):=by
 intro pins s σ H x y v u Q I rx ry h
 obtain⟨i,j,rfl,rfl,q⟩:=h
 obtain⟨t,rfl⟩:=rx
 obtain⟨t',rfl⟩:=ry
 exact rule i j t t' s _ _ ⟨.bl (g i j),H,I,rfl,q⟩
def cX(i j:Int):Prop:=0<=j/\j<=1000000/\i.natAbs<2^64
def Vm(i j:Int):Prop:=(-(2^64)<i/\i<2^64)∨(-(2^64)<j/\j<2^64)
theorem Vm.ok{i j:Int}(h:Vm i j):IntMulOk i j:=by
 rcases h with ⟨h1,h2⟩|⟨h1,h2⟩
 .exact .of_left (intBits_le_64 h1 h2)
 .exact .of_right (intBits_le_64 h1 h2)
theorem oF:OpR X (binaryOp .Add) (rI0 fun i j=>.int (i+j)):=mL fun _ _ _ _ _ _ _ q=>add_int q
theorem Vs:OpR X (binaryOp .Sub) (rI0 fun i j=>.int (i-j)):=mL fun _ _ _ _ _ _ _ q=>sub_int q
theorem o9:OpR X (binaryOp .Mult) (rI Vm fun i j=>.int (i*j)):=opI fun _ _ _ _ _ _ _ hc q=>mul_int q hc.ok
theorem N8:OpR X (binaryOp .Mod) (rI (fun _ j=>0<j) fun i j=>.int (i%j)):=opI fun i j _ _ _ _ _ hc q=>by
 have h1:(0:Int)<j:=hc
 exact mod_int' (by omega) (by rw[Int.fmod_eq_emod_of_nonneg i (by omega)];exact q)
theorem HN:OpR X (binaryOp .Pow) (rI cX fun i j=>.int (i^j.toNat)):=opI fun _ _ _ _ _ _ _ hc q=>pow_int_small hc.1 hc.2.1 hc.2.2 q
theorem unI{f:Value->Sem Value}{g:Int->Int}
  (rule:∀(i:Int)(t:Tok)(s:Shared)(Q:Value->Shared->Prop)(E:Value->Shared->Prop),Q (.int (g i) s.toks) { s with toks:=s.toks+1 }->wpAny (model X.prog X.w) X.A (f (.int i t)) Q E s) :
  UnR X f (rU fun i=>.int (g i)):=by
 intro pins s σ H x v Q I rx h
 obtain⟨i,rfl,q⟩:=h
 obtain⟨t,rfl⟩:=rx
 exact rule i t s _ _ ⟨.int (g i),H,I.tok _,⟨_,rfl⟩,q⟩
theorem Gu:UnR X (unaryOp .USub) (rU fun i=>.int (-i)):=unI fun _ _ _ _ _ q=>neg_int q
end
def lX:V->V->Bool
 |.non,.non=>true|.non,.int _=>true|.int _,.non=>true|.non,.bl _=>true|.bl _,.non=>true|.non,.str _=>true|.str _,.non=>true
 |.int _,.int _=>true|.bl _,.bl _=>true|.str _,.str _=>true|.byt _,.byt _=>true
 |.int _,.str _=>true|.str _,.int _=>true|.bl _,.str _=>true|.str _,.bl _=>true
 |_,_=>false
def rEq:R2:=fun x y H Q=>lX x y=true/\Q (.bl (decide (x=y))) H
def rNe:R2:=fun x y H Q=>lX x y=true/\Q (.bl (!decide (x=y))) H
theorem Yt{i j:Int}:decide (V.int i=V.int j)=(i==j):=by
 rw[U3f]
 simp
theorem aW{i j:Bool}:decide (V.bl i=V.bl j)=(i==j):=by
 rw[U3f]
 simp
theorem Ys{i j:Str}:decide (V.str i=V.str j)=(i==j):=by
 rw[U3f]
 simp
theorem Yu{i j:Array UInt8}:decide (V.byt i=V.byt j)=(i.toList==j.toList):=by
 rw[U3f]
 cases i
 cases j
 simp
section
variable{X:Cx}{a b c:Expr}{ta tb tc:TE}{pos:Pos}
theorem Cp{pins:List (Addr×Obj)}{σ:St}{H:Hp}{s:Shared}{Q:VK}{k k':Bool}(I:Inv X pins σ H s)(q:Q (.bl k) H)(e:k=k'):EP X pins σ Q (.bool k') s:=by
 subst e
 exact⟨.bl k,H,I,rfl,q⟩
theorem qt:OpR X (compareOp .Eq) rEq:=by
 intro pins s σ H x y v u Q I rx ry h
 obtain⟨hs,q⟩:=h
 cases x with
 |non =>
  cases rx
  cases y with
  |non=>cases ry;exact PySem.EqNone.eq_none_none (Cp I q (by simp))
  |bl j=>cases ry;exact PySem.EqNone.eq_none_bool (Cp I q (by simp))
  |int j=>obtain⟨t',rfl⟩:=ry;exact PySem.EqNone.eq_none_int (Cp I q (by simp))
  |str j=>obtain⟨t',rfl⟩:=ry;exact PySem.EqNone.eq_none_str (Cp I q (by simp))
  |_=>exact absurd (show false=true from hs) U08
 |bl i =>
  cases rx
  cases y with
  |non=>cases ry;exact PySem.EqNone.eq_bool_none (Cp I q (by simp))
  |bl j=>cases ry;exact eq_bool (Cp I q aW)
  |str j=>obtain⟨t',rfl⟩:=ry;exact PySem.EqMixed.eq_bool_str (Cp I q (by simp))
  |_=>exact absurd (show false=true from hs) U08
 |int i =>
  obtain⟨t,rfl⟩:=rx
  cases y with
  |non=>cases ry;exact PySem.EqNone.eq_int_none (Cp I q (by simp))
  |int j=>obtain⟨t',rfl⟩:=ry;exact eq_int (Cp I q Yt)
  |str j=>obtain⟨t',rfl⟩:=ry;exact PySem.EqMixed.eq_int_str (Cp I q (by simp))
  |_=>exact absurd (show false=true from hs) U08
 |str i =>
  obtain⟨t,rfl⟩:=rx
  cases y with
  |non=>cases ry;exact PySem.EqNone.eq_str_none (Cp I q (by simp))
  |bl j=>cases ry;exact PySem.EqMixed.eq_str_bool (Cp I q (by simp))
  |int j=>obtain⟨t',rfl⟩:=ry;exact PySem.EqMixed.eq_str_int (Cp I q (by simp))
  |str j=>obtain⟨t',rfl⟩:=ry;exact eq_str (Cp I q Ys)
  |_=>exact absurd (show false=true from hs) U08
 |byt i =>
  obtain⟨t,rfl⟩:=rx
  cases y with
  |byt j=>obtain⟨t',rfl⟩:=ry;exact PySem.W.eq_bytes (Cp I q Yu)
  |_=>exact absurd (show false=true from hs) U08
 |_=>cases y<;>exact absurd (show false=true from hs) U08
theorem qm:OpR X (compareOp .NotEq) rNe:=by
 intro pins s σ H x y v u Q I rx ry h
 obtain⟨hs,q⟩:=h
 cases x with
 |non =>
  cases rx
  cases y with
  |non=>cases ry;exact PySem.EqNone.ne_none_none (Cp I q (by simp))
  |bl j=>cases ry;exact PySem.EqNone.ne_none_bool (Cp I q (by simp))
  |int j=>obtain⟨t',rfl⟩:=ry;exact PySem.EqNone.ne_none_int (Cp I q (by simp))
  |str j=>obtain⟨t',rfl⟩:=ry;exact PySem.EqNone.ne_none_str (Cp I q (by simp))
  |_=>exact absurd (show false=true from hs) U08
 |bl i =>
  cases rx
  cases y with
  |non=>cases ry;exact PySem.EqNone.ne_bool_none (Cp I q (by simp))
  |bl j=>cases ry;exact ne_bool (Cp I q (congrArg not aW))
  |str j=>obtain⟨t',rfl⟩:=ry;exact PySem.EqMixed.ne_bool_str (Cp I q (by simp))
  |_=>exact absurd (show false=true from hs) U08
 |int i =>
  obtain⟨t,rfl⟩:=rx
  cases y with
  |non=>cases ry;exact PySem.EqNone.ne_int_none (Cp I q (by simp))
  |int j=>obtain⟨t',rfl⟩:=ry;exact ne_int (Cp I q (congrArg not Yt))
  |str j=>obtain⟨t',rfl⟩:=ry;exact PySem.EqMixed.ne_int_str (Cp I q (by simp))
  |_=>exact absurd (show false=true from hs) U08
 |str i =>
  obtain⟨t,rfl⟩:=rx
  cases y with
  |non=>cases ry;exact PySem.EqNone.ne_str_none (Cp I q (by simp))
  |bl j=>cases ry;exact PySem.EqMixed.ne_str_bool (Cp I q (by simp))
  |int j=>obtain⟨t',rfl⟩:=ry;exact PySem.EqMixed.ne_str_int (Cp I q (by simp))
  |str j=>obtain⟨t',rfl⟩:=ry;exact ne_str (Cp I q (congrArg not Ys))
  |_=>exact absurd (show false=true from hs) U08
 |byt i =>
  obtain⟨t,rfl⟩:=rx
  cases y with
  |byt j=>obtain⟨t',rfl⟩:=ry;exact PySem.W.ne_bytes (Cp I q (congrArg not Yu))
  |_=>exact absurd (show false=true from hs) U08
 |_=>cases y<;>exact absurd (show false=true from hs) U08
theorem Rj:OpR X (compareOp .Lt) (rI0 fun i j=>.bl (decide (i<j))):=Z2 fun _ _ _ _ _ _ _ q=>lt_int q
theorem qp:OpR X (compareOp .LtE) (rI0 fun i j=>.bl (decide (i<=j))):=Z2 fun _ _ _ _ _ _ _ q=>le_int q
theorem Va:OpR X (compareOp .Gt) (rI0 fun i j=>.bl (decide (j<i))):=Z2 fun _ _ _ _ _ _ _ q=>gt_int q
theorem Rk:OpR X (compareOp .GtE) (rI0 fun i j=>.bl (decide (j<=i))):=Z2 fun _ _ _ _ _ _ _ q=>ge_int q
theorem jH:OpR X (compareOp .IsNot) (fun x y H Q=>y=.non/\Q (.bl (!decide (x=.non))) H):=by
 intro pins s σ H x y v u Q I rx ry h
 obtain⟨rfl,q⟩:=h
 cases ry
 refine isnot_none_gen (Cp I q ?_)
 cases x<;>first
  |(cases rx;rfl)
  |(obtain⟨t,rfl⟩:=rx;rfl)
theorem OpR.or{f:Value->Value->Sem Value}{r r':R2}(h:OpR X f r)(h':OpR X f r'):OpR X f (fun x y H Q=>r x y H Q∨r' x y H Q):=by
 intro pins s σ H x y v u Q I rx ry q
 rcases q with q|q
 .exact h pins s σ H x y v u Q I rx ry q
 .exact h' pins s σ H x y v u Q I rx ry q
theorem CZ(b:Expr){op:CmpOp}(h:op≠.In:=by decide)(h2:op≠.NotIn:=by decide):behindInMarks op b=false:=by
 have e1:(op==CmpOp.In)=false:=by cases op<;>first|rfl|exact absurd rfl h
 have e2:(op==CmpOp.NotIn)=false:=by cases op<;>first|rfl|exact absurd rfl h2
 cases b<;>simp[behindInMarks,e1,e2]
theorem jC{op:CmpOp}{r:R2}(ho:OpR X (compareOp op) r)(ha:PE X a ta)(hb:PE X b tb)(hm:behindInMarks op b=false):PE X (.Compare a [op] [b] pos) (tOp r ta tb):=by
 intro pins s σ H Q I h
 exact wpAny_Compare1 (cP ha hb I h fun v u s2 x y H2 I2 rx ry q=>ho pins s2 σ H2 x y v u Q I2 rx ry q) hm
def fZ(t:TE):TT:=fun σ H Q=>t σ H fun x H'=>∃k,x=.bl k/\Q k H'
theorem iw{op:CmpOp}{r:R2}(ho:OpR X (compareOp op) r)(ha:PE X a ta)(hb:PE X b tb)(hm:behindInMarks op b=false):PT X (.Compare a [op] [b] pos) (fZ (tOp r ta tb)):=by
 intro pins s σ H Q I h
 refine wpAny_isTrue_Compare1 (thn (ha pins s σ H _ I h) fun v s1 ⟨x,H1,I1,r1,q1⟩=>thn (hb pins s1 σ H1 _ I1 q1) fun u s2 ⟨y,H2,I2,r2,q2⟩ =>
  thn (ho pins s2 σ H2 x y v u _ I2 r1 r2 q2) fun c s3 ⟨z,H3,I3,r3,k,e,q3⟩=>?_) hm
 subst e
 cases r3
 exact U32 ⟨H3,I3,q3⟩
theorem Oz:(sizeLine:Nat)<2^63:=by rw[sizeLine_eq];decide
theorem Zb:OpR X (binaryOp .Add) (fun x y H Q=>∃i j,x=.str i/\y=.str j/\i.length+j.length<=sizeLine/\Q (.str (i++j)) H):=by
 intro pins s σ H x y v u Q I rx ry h
 obtain⟨i,j,rfl,rfl,hz,q⟩:=h
 obtain⟨t,rfl⟩:=rx
 obtain⟨t',rfl⟩:=ry
 exact add_str (fun t' tk=>⟨.str (i++j),H,I.tok _,⟨_,rfl⟩,q⟩) hz
theorem vals1{x:V}{us:List Value}(r:Vals [x] us):∃u,us=[u]/\RelV x u:=by
 cases r with
 |cons r1 r2=>cases r2;exact⟨_,rfl,r1⟩
theorem vals2{x y:V}{us:List Value}(r:Vals [x,y] us):∃u w',us=[u,w']/\RelV x u/\RelV y w':=by
 cases r with
 |cons r1 r2 =>
  cases r2 with
  |cons r3 r4=>cases r4;exact⟨_,_,rfl,r1,r3⟩
theorem Pu(hc:X.calm=true):Dd X (.builtin "max") (fun xs H Q=>∃i j,xs=[.int i,.int j]/\Q (.int (if j>i then j else i)) H):=by
 intro pins s σ H xs us Q I r h
 obtain⟨i,j,rfl,q⟩:=h
 obtain⟨u,w',rfl,⟨t,rfl⟩,⟨t',rfl⟩⟩:=vals2 r
 refine max_two_ints (I.ok.hd hc) fun h' tk k=>⟨_,H,I.kept k,?_,q⟩
 by_cases hj:j>i
 .rw[if_pos hj,if_pos hj];exact⟨_,rfl⟩
 .rw[if_neg hj,if_neg hj];exact⟨_,rfl⟩
theorem Pr(hc:X.calm=true):Dd X (.builtin "min") (fun xs H Q=>∃i j,xs=[.int i,.int j]/\Q (.int (if j<i then j else i)) H):=by
 intro pins s σ H xs us Q I r h
 obtain⟨i,j,rfl,q⟩:=h
 obtain⟨u,w',rfl,⟨t,rfl⟩,⟨t',rfl⟩⟩:=vals2 r
 refine min_two_ints (I.ok.hd hc) fun h' tk k=>⟨_,H,I.kept k,?_,q⟩
 by_cases hj:j<i
 .rw[if_pos hj,if_pos hj];exact⟨_,rfl⟩
 .rw[if_neg hj,if_neg hj];exact⟨_,rfl⟩
theorem Uw:Dd X (.type "int") (fun xs H Q=>(∃i,xs=[.int i]/\Q (.int i) H)∨∃k,xs=[.bl k]/\Q (.int (if k then 1 else 0)) H):=by
 intro pins s σ H xs us Q I r h
 rcases h with ⟨i,rfl,q⟩|⟨k,rfl,q⟩
 .obtain⟨u,rfl,t,rfl⟩:=vals1 r
  exact call_int_int ⟨.int i,H,I,⟨_,rfl⟩,q⟩
 .obtain⟨u,rfl,r1⟩:=vals1 r
  cases r1
  exact call_int_bool ⟨.int (if k then 1 else 0),H,I.tok _,⟨_,rfl⟩,q⟩
theorem Zr:Dd X (.type "bool") (fun xs H Q=>(∃i,xs=[.int i]/\Q (.bl (i != 0)) H)∨∃k,xs=[.bl k]/\Q (.bl k) H):=by
 intro pins s σ H xs us Q I r h
 rcases h with ⟨i,rfl,q⟩|⟨k,rfl,q⟩
 .obtain⟨u,rfl,t,rfl⟩:=vals1 r
  exact call_bool_int ⟨.bl (i != 0),H,I,rfl,q⟩
 .obtain⟨u,rfl,r1⟩:=vals1 r
  cases r1
  exact call_bool_bool ⟨.bl k,H,I,rfl,q⟩
end
end L2
namespace L2
open PySem PySem.Spec PyProof.Rows
structure cW(h:Heap)(x dx C:Addr)(mA:Str->Option Value):Prop where
 obj:h.get? x=some (U7g C dx)
 ns:h.Ns1 dx mA
 ne:dx≠x
theorem bN{h:Heap}{dx:Addr}{mA:Str->Option Value}(n:h.Ns1 dx mA):∃od,h.get? dx=some od/\∀name,U7p name od=some (mA name):=by
 obtain⟨o,es,ep,ho,hd,hk,_,hm⟩:=n
 refine⟨o,ho,fun name=>?_⟩
 have e:=hm name
 unfold nsFind findBy at e
 rw[←Array.find?_toList] at e
 unfold U7p
 rw[hd]
 dsimp only
 split
 .rename_i y q
  rw[q] at e
  exact congrArg some e
 .rename_i q
  rw[q] at e
  have a:es.toList.any (·.refKey)=false:=by
   rw[List.any_eq_false]
   intro y hy
   obtain⟨z,t,hkey⟩:=hk y (Array.mem_toList_iff.mp hy)
   simp[DictEntry.refKey,hkey]
  have a':¬es.toList.any (·.refKey)=true:=by rw[a];exact U08
  rw[if_neg a']
  exact congrArg some e
theorem cW.look{h:Heap}{x dx C:Addr}{mA:Str->Option Value}(I:cW h x dx C mA):∃od,PySem.W.InstAt h x (U7g C dx) C (some od)/\∀name,U7p name od=some (mA name) :=
 let ⟨od,ho,hl⟩:=bN I.ns
 ⟨od,⟨I.obj,rfl,rfl,ho⟩,hl⟩
section
variable{prog:Program}{w:World}{A:Around}{E:Value->Shared->Prop}{s:Shared}{K:U0b}{x dx C f:Addr}{mA:Str->Option Value}{name:Str}{v:Value}
end
section
variable{P:Program}{w:World}{H H':Hp}{h h':Heap}{a C dx:Addr}{fs fs':List (Str×V)}
theorem jj(hok:HOk P w H h)(e:H a=some (.ins C dx fs)):∃mA,cW h a dx C mA/\(∀f,cV (fs.lookup f) (mA f))/\PySem.Within mA (fs.map (·.1))/\fs.length<=1000/\H dx=some (.own a):=by
 obtain⟨d,z,ne,ob,mA,n,r,q⟩:=(show Dc P w H h a (.ins C dx fs) from hok a _ e)
 exact⟨mA,⟨ob,n,ne⟩,r,q,z,d⟩
end
structure Cls(K:U0b)(C:Addr):Prop where
 pg:PySem.W.plainGet K C Str.empty=true
 hd:PySem.W.hasDictIn K C=true
 po:PySem.W.plainOver K C=true
 sa:U5x K (.ref C) "__setattr__"=some (some (.builtin "object.__setattr__"))
theorem Cls.get{K:U0b}{C:Addr}(c:Cls K C)(f:Str):PySem.W.plainGet K C f=true:=c.pg
structure Con(K:U0b)(C:Addr)(f:Str)(v:V)(u:Value):Prop where
 at_:U5x K (.ref C) f=some (some u)
 rel:RelV v u
 get:PySem.W.specialIn K u "__get__"=some none
 cp:PySem.W.copiedNames.contains f=false
structure Meth(K:U0b)(C:Addr)(m:Str)(f:Addr):Prop where
 at_:U5x K (.ref C) m=some (some (.ref f))
 fn:PySem.W.isFn K (.ref f)=true
 kp:U04 K (.ref f)=true
section
variable{X:Cx}{pins:List (Addr×Obj)}{σ:St}{H:Hp}{s:Shared}{a C dx:Addr}{fs:List (Str×V)}{f:Str}{v:V}{A:Around}{E:Value->Shared->Prop}
end
section
variable{X:Cx}{o e value:Expr}{f:Str}{pos pos' tpos:Pos}{ta tv:TE}
end
section
variable{X:Cx}{pins:List (Addr×Obj)}{σ:St}{H:Hp}{s:Shared}{A:Around}{E:Value->Shared->Prop}{Q:Value->Shared->Prop}{c:Value}{b:Bool}
inductive JR (K:U0b) (H:Hp):V->Value->Prop where
 |non:JR K H .non (.type "NoneType")
 |bl (x:Bool):JR K H (.bl x) (.type "bool")
 |int (i:Int):JR K H (.int i) (.type "int")
 |str (x:Str):JR K H (.str x) (.type "str")
 |flt (x:UInt64):JR K H (.flt x) (.type "float")
 |lst {a:Addr} {xs:List V} (e:H a=some (.lst xs)):JR K H (.ref a) (.type "list")
 |frz {a:Addr} {o:Obj} {xs:List V} (e:H a=some (.frz o (.lst xs))):JR K H (.ref a) (.type "list")
 |tup {a:Addr} {xs:List V} (e:H a=some (.tup xs)):JR K H (.ref a) (.type "tuple")
 |dK {a:Addr} {kvs:List (Key×V)} (e:H a=some (.dK kvs)):JR K H (.ref a) (.type "dict")
 |dT {a:Addr} {kvs:List (List Key×V)} (e:H a=some (.dT kvs)):JR K H (.ref a) (.type "dict")
 |ins {a C dx:Addr} {fs:List (Str×V)} (e:H a=some (.ins C dx fs)) (cl:Cls K C) (ha:U5x K (.ref C) "__class__"=some (some (.builtin "object.__class__")))
   (hn:PySem.W.specialIn K (.builtin "object.__class__") "__get__"=some (some (.builtin "getset_descriptor.__get__"))) (htk:PySem.W.takesIn K (.builtin "object.__class__")=some true)
   (hm:PySem.W.mroIn K C (.type "object")=some true):JR K H (.ref a) (.ref C)
theorem bO{x:V}{u t:Value}(I:Inv X pins σ H s)(rx:RelV x u)(ty:JR X.K H x t)(e:U29 X.K t c=some b)(h:∀tk,Q (.bool b) { s with toks:=tk }) :
  wpAny (model X.prog X.w) A (call (.builtin "isinstance") [u,c]) Q E s:=by
 cases ty with
 |non=>cases (show u=U2f from rx);exact U2v PySem.W.kitx_none I.kIn U69 e (fun z=>nomatch z) h
 |bl y=>cases (show u=U3l y from rx);exact U2v PySem.W.kitx_bool I.kIn U69 e (fun z=>nomatch z) h
 |int i=>obtain⟨t,q⟩:=(show ∃t,u=U6e i t from rx);cases q;exact U2v PySem.W.kitx_int I.kIn U69 e (fun z=>nomatch z) h
 |str y=>obtain⟨t,q⟩:=(show ∃t,u=Value.str y t from rx);cases q;exact U2v PySem.W.kitx_str I.kIn U69 e (fun z=>nomatch z) h
 |flt y=>obtain⟨t,q⟩:=(show ∃t,u=Value.float y t from rx);cases q;exact U2v PySem.W.kitx_float I.kIn U69 e (fun z=>nomatch z) h
 |@lst a xs ea =>
  cases (show u=U26 a from rx)
  obtain⟨_,_,n,_,h1⟩:=(show Dc X.prog X.w H s.heap a (.lst xs) from I.hok a _ ea)
  exact U2v PySem.W.kitx_list I.kIn ⟨_,h1,rfl⟩ e (fun z=>nomatch z) h
 |@frz a ob xs ea =>
  cases (show u=U26 a from rx)
  obtain⟨_,_,_,n,_,h1⟩:=(show Dc X.prog X.w H s.heap a (.frz ob (.lst xs)) from I.hok a _ ea)
  exact U2v PySem.W.kitx_list I.kIn ⟨_,h1,rfl⟩ e (fun z=>nomatch z) h
 |@tup a xs ea =>
  cases (show u=U26 a from rx)
  obtain⟨_,_,_,p⟩:=(show Dc X.prog X.w H s.heap a (.tup xs) from I.hok a _ ea)
  obtain⟨o,h1,h2,_⟩:=p
  exact U2v PySem.W.kitx_tuple I.kIn ⟨o,h1,h2⟩ e (fun z=>nomatch z) h
 |@dK a kvs ea =>
  cases (show u=U26 a from rx)
  obtain⟨_,_,vs,_,p⟩:=(show Dc X.prog X.w H s.heap a (.dK kvs) from I.hok a _ ea)
  obtain⟨o,es,ep,h1,h2,_⟩:=p
  exact U2v PySem.W.kitx_dict I.kIn ⟨o,h1,h2.1⟩ e (fun z=>nomatch z) h
 |@dT a kvs ea =>
  cases (show u=U26 a from rx)
  obtain⟨_,_,xs,_,o,es,ep,h1,h2,_⟩:=(show Dc X.prog X.w H s.heap a (.dT kvs) from I.hok a _ ea)
  exact U2v PySem.W.kitx_dict I.kIn ⟨o,h1,h2.1⟩ e (fun z=>nomatch z) h
 |@ins a C dx fs ea cl ha hn htk hm =>
  cases (show u=U26 a from rx)
  obtain⟨mA,O,_⟩:=jj I.hok ea
  obtain⟨od,J,_⟩:=O.look
  exact U2v (PySem.W.kitx_own (cl.get _) cl.hd ha hn htk hm) I.kIn J e (fun z=>nomatch z) h
end
end L2
namespace L2
open PySem PySem.Spec PyProof.Rows
structure Dy(k:Nat)(A:Around):Prop where
 hd:A.handled=none
 dp:A.depth+3*k+5<recursionLimit
 un:A.units+16*k+200<cLine
 gd:A.guards=some []
theorem Dy.mono{j k:Nat}{A:Around}(r:Dy k A)(h:j<=k):Dy j A:=⟨r.hd,by have:=r.dp;omega,by have:=r.un;omega,r.gd⟩
theorem Dy.deeper{k:Nat}{A:Around}(r:Dy (k+1) A)(env:Env):Dy k (A.deeper env) :=
 ⟨r.hd,by have:=r.dp;show A.depth+1+3*k+5<_;omega,by have:=r.un;show A.units+3+16*k+200<_;omega,r.gd⟩
theorem Dy.depth{k:Nat}{A:Around}(r:Dy k A):A.depth<recursionLimit:=by have:=r.dp;omega
theorem Dy.units{k:Nat}{A:Around}(r:Dy k A):A.units+64<cLine:=by have:=r.un;omega
def sG:TA:=fun _ H Q=>Q [] H
def qP(ta:TE)(tr:TA):TA:=fun σ H Q=>ta σ H fun x H1=>tr σ H1 fun xs H2=>Q (x::xs) H2
section
variable{X:Cx}{e:Expr}{es:List Expr}{te:TE}{t:TA}{pos:Pos}
theorem Ox:PA X [] sG:=fun _ _ _ _ H Q I h=>Calls.spliced_nil ⟨[],H,I,.nil,h⟩
theorem Nb(ha:PE X e te)(hr:PA X es t)(hs:starEach (e::es) X.env=(false,eval e X.env)::starEach es X.env:=by rfl):PA X (e::es) (qP te t):=by
 intro pos pins s σ H Q I h
 rw[hs]
 show wpAny _ _ (spliced ((false,eval e X.env)::backTo pos (starEach es X.env))) _ _ s
 refine Calls.spliced_cons (thn (ha pins s σ H _ I h) fun u s1 ⟨x,H1,I1,r1,q1⟩=>?_)
 exact thn (hr pos pins s1 σ H1 _ I1 q1) fun us s2 ⟨xs,H2,I2,r2,q2⟩=>⟨x::xs,H2,I2,.cons r1 r2,q2⟩
def lV(t:TA):TE:=fun σ H Q=>t σ H fun xs H1=>xs.length<=sizeLine/\∀p,H1 p=none->Q (.ref p) (upd H1 p (.tup xs))
def sH(t:TA):TE:=fun σ H Q=>t σ H fun xs H1=>xs.length<=sizeLine/\∀p,H1 p=none->Q (.ref p) (upd H1 p (.lst xs))
theorem nZ{x1}(h:PA X es t):PE X (.Tuple es x1 pos) (lV t):=by
 intro pins s σ H Q I hq
 refine wpAny_Tuple_spliced (thn (h pos pins s σ H _ I hq) fun us s1 ⟨xs,H1,I1,r,z,q⟩=>⟨by rw[←r.length];exact z,?_⟩)
 have hf:H1 s1.heap.objs.size=none:=I1.hok.fresh (U0h _)
 refine⟨.ref s1.heap.objs.size,upd H1 s1.heap.objs.size (.tup xs),I1.laid (t':=s1.toks) (fun b u e=>U0c _ e) (U0h _) ?_,rfl,q _ hf⟩
 exact⟨z,us,r,⟨_,U0r _ rfl,rfl,_,rfl⟩⟩
theorem Zz(h:PA X es t):PE X (.List es pos) (sH t):=by
 intro pins s σ H Q I hq
 refine wpAny_List_spliced (thn (h pos pins s σ H _ I hq) fun us s1 ⟨xs,H1,I1,r,z,q⟩=>⟨by rw[←r.length];exact z,?_⟩)
 have hf:H1 s1.heap.objs.size=none:=I1.hok.fresh (U0h _)
 refine⟨.ref s1.heap.objs.size,upd H1 s1.heap.objs.size (.lst xs),I1.laid (t':=s1.toks) (fun b u e=>U0c _ e) (U0h _) ?_,rfl,q _ hf⟩
 exact⟨z,us,0,r,U0r _ rfl⟩
end
abbrev Sp:=List V->Hp->VK->XK->Prop
abbrev CXT:=List Env->Hp->Shared->XK->Value->Shared->Prop
structure Z7(P:Program)(w:World)(K:U0b)(mg:Str->Option Value)(base:Heap)(A:Around)(outer:List Env)(s:Shared)(H:Hp):Prop where
 frames:A.frames=some outer
 mod:Mod K mg base
 bs:∀b o,base.get? b=some o->s.heap.get? b=some o/\H b=none
 bsz:base.objs.size<=s.heap.objs.size
 Li:s.heap.FunFrames base outer
 frf:∀b∈frs outer,H b=none
 hok:HOk P w H s.heap
 bare:AllBare s.gens
 sy:H sysModules=none
def CE(outer:List Env)(P:Program)(w:World)(H:Hp)(s:Shared)(Q:VK)(u:Value)(s':Shared):Prop :=
 ∃v H',s'.os=s.os/\AllBare s'.gens/\Un (frs outer) [] H H' s.heap s'.heap/\HOk P w H' s'.heap/\RelV v u/\Q v H'
def CR(CX:CXT)(outer:List Env)(P:Program)(w:World)(H:Hp)(s:Shared)(Q:VK)(E:XK)(r:Result)(s':Shared):Prop :=
 match r with
 |.ok (.ret u)=>CE outer P w H s Q u s'
 |.ok _=>False
 |.error e=>CX outer H s E e s'
structure DW(P:Program)(w:World)(K:U0b)(mg:Str->Option Value)(base:Heap)(CX:CXT)(k:Nat)(f:Addr)(fd:FuncData)(ps:List Str)(sp:Sp):Prop where
 len:∀vs H Q E,sp vs H Q E->vs.length=ps.length
 run:∀(A:Around)(outer:List Env)(s:Shared)(H:Hp)(args:Args)(us:List Value)(vs:List V)(Q:VK)(E:XK),Dy k A->Z7 P w K mg base A outer s H->BindsTo s fd args (ps.zip us)->Vals vs us->sp vs H Q E ->
  codeAny (model P w) A (.call (.ref f) args) (CR CX outer P w H s Q E) s
theorem DW.mono{P:Program}{w:World}{K:U0b}{mg:Str->Option Value}{base:Heap}{CX:CXT}{j k:Nat}{f:Addr}{fd:FuncData}{ps:List Str}{sp:Sp}(F:DW P w K mg base CX j f fd ps sp)(h:j<=k) :
  DW P w K mg base CX k f fd ps sp:=⟨F.len,fun A outer s H args us vs Q E hr=>F.run A outer s H args us vs Q E (hr.mono h)⟩
theorem DW.imp{P:Program}{w:World}{K:U0b}{mg:Str->Option Value}{base:Heap}{CX:CXT}{k:Nat}{f:Addr}{fd:FuncData}{ps:List Str}{sp sp':Sp}(F:DW P w K mg base CX k f fd ps sp)
  (h:∀vs H Q E,sp' vs H Q E->sp vs H Q E):DW P w K mg base CX k f fd ps sp' :=
 ⟨fun vs H Q E q=>F.len vs H Q E (h _ _ _ _ q),fun A outer s H args us vs Q E hr he hb hv hs=>F.run A outer s H args us vs Q E hr he hb hv (h _ _ _ _ hs)⟩
section
variable{X:Cx}{pins:List (Addr×Obj)}{σ:St}{H:Hp}{s s':Shared}
theorem Inv.env0(I:Inv X pins σ H s):Z7 X.prog X.w X.K X.mg X.base X.A X.stack s H :=
 ⟨I.ok.frames,I.ok.mod,I.bs,U00 I.ok.bsz I.sz,I.stack,I.YL,I.hok,I.bare,I.Oh⟩
theorem Inv.after{Q:VK}{u:Value}(I:Inv X pins σ H s)(h:CE X.stack X.prog X.w H s Q u s'):EP X pins σ Q u s':=by
 obtain⟨v,H',os,bare,un,hok,r,q⟩:=h
 obtain⟨hh,g,d,t,os'⟩:=s'
 obtain rfl:os'=s.os:=os
 exact⟨v,H',I.call (h':=hh) (g':=g) (d':=d) (t':=t) (ch:=[]) un hok bare (fun b z=>absurd z (by simp)),r,q⟩
end
def fj(sp:Sp)(dvs:List V)(E:XK)(t:TA):TE:=fun σ H Q=>t σ H fun vs H1=>sp (vs++dvs) H1 Q E
def Binds(K:U0b)(fd:FuncData)(ps:List Str)(ds:List Value):Prop :=
 ∀(s:Shared)(us:List Value),K.In s.heap->(us++ds).length=ps.length->BindsTo s fd ⟨us,[]⟩ (ps.zip (us++ds))
theorem Binds.all{K:U0b}{fd:FuncData}{ps:List Str}(h:∀us:List Value,us.length=ps.length->bindArgs fd ⟨us,[]⟩=pure (ps.zip us)):Binds K fd ps []:=fun s us _ hl=>by
 rw[U1n] at hl ⊢
 exact .of_eq (h us hl)
def Passes(CX:CXT)(X:Cx)(E:XK):Prop:=∀(pins:List (Addr×Obj))(σ:St)(H:Hp)(s:Shared)(e:Value)(s':Shared),Inv X pins σ H s->CX X.stack H s E e s'->X.xe e s'
section
variable{X:Cx}{CX:CXT}{k:Nat}{f C:Addr}{fd:FuncData}{ps:List Str}{sp:Sp}{dvs:List V}{ds:List Value}{E:XK}{x m:Str}{p pos apos:Pos}{e o:Expr}{es:List Expr}{ta:TE}{t:TA}
theorem nG{pins:List (Addr×Obj)}{σ:St}{H:Hp}{s:Shared}{Q:VK}{us:List Value}{vs:List V}(F:DW X.prog X.w X.K X.mg X.base CX k f fd ps sp)(hr:Dy k X.A)(hb:Binds X.K fd ps ds)(hd:Vals dvs ds)(hx:Passes CX X E)
  (I:Inv X pins σ H s) (r:Vals vs us) (h:sp (vs++dvs) H Q E):wpAny (model X.prog X.w) X.A (call (.ref f) us) (EP X pins σ Q) X.xe s:=by
 have r2:Vals (vs++dvs) (us++ds):=r.append hd
 have hl:(us++ds).length=ps.length:=by rw[←r2.length];exact F.len _ _ _ _ h
 refine wpAny_call (codeAny_mono (F.run X.A X.stack s H ⟨us,[]⟩ (us++ds) (vs++dvs) Q E hr I.env0 (hb s us I.kIn hl) r2 h) fun r s' hq=>?_)
 cases r with
 |error e=>exact hx pins σ H s e s' I hq
 |ok fl =>
  cases fl with
  |ret u=>exact I.after hq
  |next=>exact U4m hq
  |brk=>exact U4m hq
  |cont=>exact U4m hq
theorem jD(F:DW X.prog X.w X.K X.mg X.base CX k f fd ps sp)(hr:Dy k X.A)(hg:Gl X x)(hm:X.mg x=some (.ref f))(hk:U04 X.K (.ref f)=true)(hb:Binds X.K fd ps ds)(hd:Vals dvs ds)(hx:Passes CX X E)
  (ha:PA X (e::es) t) (hdb:(x==("__debug__":Str))=false:=by decide) (he:starEach (e::es) X.env=(false,eval e X.env)::starEach es X.env:=by rfl) (hpl:(backTo pos (starEach es X.env)).any (·.1)=false:=by rfl) :
  PE X (.Call (.Name x p) (e::es) [] pos) (fj sp dvs E t):=by
 intro pins s σ H Q I h
 refine U6r (jW I hg hm ?_ hdb)
 refine PySem.W.callWith_K (h₀:=X.base) I.ok.mod.kin hk (thn (ha pos pins s σ H _ I h) fun us s1 ⟨vs,H1,I1,r,q⟩=>⟨I1.kIn,?_⟩) he hpl
 exact nG F hr hb hd hx I1 r q
structure Mk(K:U0b)(C f:Addr):Prop where
 makes:PySem.W.makesIn K C=true
 init:U5x K (.ref C) "__init__"=some (some (.ref f))
 fn:PySem.W.isFn K (.ref f)=true
 kp:U04 K (.ref C)=true
end
section
variable{X:Cx}{CX:CXT}{k:Nat}{f C:Addr}{fd:FuncData}{ps ks:List Str}{sp:Sp}{E:XK}{x m:Str}{p pos apos kpos:Pos}{e o:Expr}{es:List Expr}{kws:List Keyword}{te ta:TE}{t tk:TA}{nm:Option Str}
structure uK(K:U0b)(fd:FuncData)(ps ks:List Str)(g:List Value->List Value->List Value)(gV:List V->List V->List V):Prop where
 to:∀(s:Shared)(us ws:List Value),K.In s.heap->(g us ws).length=ps.length->BindsTo s fd ⟨us,ks.zip ws⟩ (ps.zip (g us ws))
 rel:∀{vs:List V} {us:List Value} {zs:List V} {ws:List Value},Vals vs us->Vals zs ws->Vals (gV vs zs) (g us ws)
variable{g:List Value->List Value->List Value}{gV:List V->List V->List V}
end
structure Cu(N P:List Str)(sc:Scope):Prop where
 kind:sc.kind=.function
 co:sc.isCoroutine=false
 gen:sc.isGenerator=false
 nd:N.Nodup
 pre:N.take P.length=P
 par:∀x∈P,sc.names.lookup x=some .local∨sc.names.lookup x=some .cell
 nofree:∀y∈sc.names,y.2≠.free
theorem Uy{kindOf:Str->Option NameKind}{x:Str}:∀{binds:List (Str×Value)} {m:Str->Option Value},(∀v,(x,v) ∉ binds)->bindL kindOf binds m x=m x
 |[],_,_=>rfl
 |(n,v)::r,m,h=>by
  unfold bindL
  rw[Uy fun w hw=>h w (U0p _ hw)]
  split
  .have:x≠n:=by rintro rfl;exact h v U0s
   simp[this]
  .rfl
theorem V0{kindOf:Str->Option NameKind}{x:Str}:∀{binds:List (Str×Value)} {m:Str->Option Value},(∀v,(x,v) ∉ binds)->bindC kindOf binds m x=m x
 |[],_,_=>rfl
 |(n,v)::r,m,h=>by
  unfold bindC
  rw[V0 fun w hw=>h w (U0p _ hw)]
  split
  .rfl
  .have:x≠n:=by rintro rfl;exact h v U0s
   simp[this]
theorem Uz{kindOf:Str->Option NameKind}{x:Str}{v:Value}:∀{P:List Str} {vs:List Value} {i:Nat} {m:Str->Option Value},P.Nodup->P[i]?=some x->vs[i]?=some v->kindOf x=some .local ->
  bindL kindOf (P.zip vs) m x=some v
 |[],_,_,_,_,h,_,_=>by simp at h
 |_::_,[],_,_,_,_,h,_=>by simp at h
 |p::P,w::vs,0,m,nd,h1,h2,hk=>by
  simp at h1 h2;subst h1;subst h2
  show bindL kindOf ((p,w)::P.zip vs) m p=_
  unfold bindL
  rw[Uy fun v hv=>(U5q.mp nd).1 (U7i hv).1,if_pos hk]
  simp
 |p::P,w::vs,i+1,m,nd,h1,h2,hk=>by
  show bindL kindOf ((p,w)::P.zip vs) m x=_
  unfold bindL
  exact Uz (i:=i) (U5q.mp nd).2 (by simpa using h1) (by simpa using h2) hk
theorem V1{kindOf:Str->Option NameKind}{x:Str}{v:Value}:∀{P:List Str} {vs:List Value} {i:Nat} {m:Str->Option Value},P.Nodup->P[i]?=some x->vs[i]?=some v->kindOf x≠some .local ->
  bindC kindOf (P.zip vs) m x=some v
 |[],_,_,_,_,h,_,_=>by simp at h
 |_::_,[],_,_,_,_,h,_=>by simp at h
 |p::P,w::vs,0,m,nd,h1,h2,hk=>by
  simp at h1 h2;subst h1;subst h2
  show bindC kindOf ((p,w)::P.zip vs) m p=_
  unfold bindC
  rw[V0 fun v hv=>(U5q.mp nd).1 (U7i hv).1,if_neg hk]
  simp
 |p::P,w::vs,i+1,m,nd,h1,h2,hk=>by
  show bindC kindOf ((p,w)::P.zip vs) m x=_
  unfold bindC
  exact V1 (i:=i) (U5q.mp nd).2 (by simpa using h1) (by simpa using h2) hk
def start(N:List Str)(vs:List V):St:=vs.map some++U0q (N.length-vs.length) none
def Oo(CX:CXT)(P:Program)(w:World)(K:U0b)(mg:Str->Option Value)(base:Heap)(N:List Str)(qual:Str)(scope:Scope)(f:Addr)(cd:Value)(A:Around)(outer:List Env)(s:Shared)(H:Hp)(E:XK):Cx where
 prog:=P
 w:=w
 K:=K
 mg:=mg
 base:=base
 A:=A.deeper (envOfC qual scope s.heap.objs.size f cd)
 N:=N
 s₀:=s
 H₀:=H
 env:=envOfC qual scope s.heap.objs.size f cd
 outer:=outer
 stack:=envOfC qual scope s.heap.objs.size f cd::outer
 ex:=[]
 calm:=true
 fn:=fun _=>true
 pn:=[]
 xe:=fun e s'=>wpAny (model P w) (A.deeper (envOfC qual scope s.heap.objs.size f cd)) (leaving (envOfC qual scope s.heap.objs.size f cd) e) (fun _ s''=>CX outer H s E e s'') (fun e' s''=>CX outer H s E e' s'') s'
theorem Wz{sc:Scope}{n:Nat}{x:Str}(h:sc.names.lookup x=some .cell):∃c,(cellsFrom n sc.names []).lookup x=some c:=by
 have q:=U6 sc.names n [] (.inl h)
 exact U5s.mp q
theorem bQ{CX:CXT}{P:Program}{w:World}{K:U0b}{mg:Str->Option Value}{base:Heap}{N ps:List Str}{qual:Str}{scope:Scope}{f:Addr}{cd:Value}{A:Around}{outer:List Env}{s s1:Shared}{H:Hp}{E:XK}{us:List Value}{vs:List V}
  (S:Cu N ps scope) (hd:A.handled=none) (e0:Z7 P w K mg base A outer s H) (hl:vs.length=ps.length) (r:Vals vs us)
  (x:InCallC s s.heap.objs.size (bindL (envOfC qual scope s.heap.objs.size f cd).kindOf (ps.zip us) fun _=>none) (cellsFrom (s.heap.objs.size+1) scope.names []) (bindC (envOfC qual scope s.heap.objs.size f cd).kindOf (ps.zip us) fun _=>none) s1) :
  Inv (Oo CX P w K mg base N qual scope f cd A outer s H E) [] (start N vs) H s1:=by
 have hpl:ps.length<=N.length:=by have:=congrArg U3u S.pre;rw[U1l] at this;omega
 obtain⟨h1,tk,rfl,hk⟩:=x.done
 have noA:∀b:Addr,b ∉ (Oo CX P w K mg base N qual scope f cd A outer s H E).ex:=fun b z=>absurd (show b∈([]:List Addr) from z) (by simp)
 refine⟨⟨e0.mod,S.kind,rfl,rfl,U0h _,fun y z c h1 h2=>?_,fun y hy=>?_,fun y c _ h=>?_,fun _=>hd,Around.frames_deeper e0.frames,.inr ⟨rfl,rfl⟩,fun b z=>absurd z (noA b),e0.bs,e0.bsz,fun b _ _=>noA b,fun b z=>absurd z (noA b),e0.Li,e0.frf,e0.sy⟩,
  rfl,e0.bare,Un.kept hk,⟨_,x.toInCall.ns,fun i y v h1 h2 h3=>?_⟩,fun y c h=>⟨_,x.cell y c h⟩,e0.hok.fresh (U0h _),fun y c h=>?_,fun p hp=>absurd (show p∈([]:List (Addr×Obj)) from hp) (by simp),e0.hok.kept hk,?_⟩
 .exact name_of_addr x.apart (U2q h1) (U2q h2)
 .have hy:scope.names.lookup y=some .cell∨scope.names.lookup y=some .free:=hy
  rcases hy with hy|hy
  .exact Wz hy
  .exact absurd rfl (S.nofree _ (U2q hy))
 .exact U2d (x.above y c (U2q h))
 .have hi:i<vs.length:=by
   unfold start at h2
   by_cases hi:i<vs.length
   .exact hi
   .rw[U1i (by simpa using hi)] at h2
    rw[U4v] at h2
    split at h2<;>cases h2
  have ha:vs[i]?=some v:=by
   unfold start at h2
   rw[U0z (by simpa using hi),U01] at h2
   cases e:vs[i]? with
   |none=>rw[e] at h2;cases h2
   |some a=>rw[e] at h2;cases h2;rfl
  obtain⟨u,hu,rv⟩:=r.get ha
  have hp:ps[i]?=some y:=by
   rw[←S.pre,List.getElem?_take_of_lt (by omega)];exact h1
  have ndP:ps.Nodup:=by rw[←S.pre];exact S.nd.sublist (U53 _ _)
  refine⟨u,rv,?_⟩
  rcases S.par y (U2c hp) with k|k
  .exact .inl ⟨k,Uz ndP hp hu k⟩
  .obtain⟨c,e⟩:=Wz (n:=s.heap.objs.size+1) k
   refine .inr ⟨.inl k,c,e,?_⟩
   have q:=x.cell y c e
   rw[V1 ndP hp hu (by show scope.names.lookup y≠_;rw[k];decide)] at q
   exact q
 .exact e0.hok.fresh (U2d (x.above y c (U2q h)))
 .unfold start
  show _=N.length
  rw[U0j,U0e,U11]
  omega
theorem rE{CX:CXT}{P:Program}{w:World}{K:U0b}{mg:Str->Option Value}{base:Heap}{k:Nat}{f:Addr}{name qual:Str}{params:Arguments}{body:List Stmt}{scope:Scope}{dV kV doc pm cdv ct oc:Value}{an od:Option Addr}
  {osl:Array (Option Value)} {N ps:List Str} {sp:Sp} (lk:K.lookup f=some ⟨oc,od,.func (U1e name qual params body scope dV kV doc pm an cdv ct),osl⟩) (hcd:U1f K cdv qual=true) (S:Cu N ps scope)
  (len:∀vs H Q E,sp vs H Q E->vs.length=ps.length)
  (hbody:∀(A:Around)(outer:List Env)(s:Shared)(H:Hp)(vs:List V)(Q:VK)(E:XK),Dy k (A.deeper (envOfC qual scope s.heap.objs.size f cdv))->sp vs H Q E ->
   ∃t,PSs (Oo CX P w K mg base N qual scope f cdv A outer s H E) body t/\t { nx:=fun _ H'=>Q .non H',rt:=Q } (start N vs) H) :
  DW P w K mg base CX (k+1) f (U1e name qual params body scope dV kV doc pm an cdv ct) ps sp:=by
 refine⟨len,fun A outer s H args us vs Q E hr e0 hb r hsp=>?_⟩
 have hl:=len _ _ _ _ hsp
 have KX:K.In s.heap:=e0.mod.kin.keeps fun b o e=>(e0.bs b o e).1
 have lim:s.heap.NoLimit:=e0.mod.nolimit.keeps fun b o e=>(e0.bs b o e).1
 have hkind:∀y∈ps.zip us,scope.names.lookup y.1=some .local∨(scope.names.lookup y.1=some .cell/\((cellsFrom (s.heap.objs.size+1) scope.names []).lookup y.1).isSome=true):=fun⟨n,v⟩ hy=>by
  rcases S.par n (U7i hy).1 with q|q
  .exact .inl q
  .exact .inr ⟨q,U6 _ _ _ (.inl q)⟩
 refine codeAny_call_function hr.depth (KX _ _ lk) rfl S.co S.gen rfl (PySem.W.codeRec_of KX hcd) (hb _ _ _ _ ?_)
 refine wpAny_newFunctionEnv_cells S.kind hkind fun env he s1 x=>?_
 subst he
 refine⟨lim.keeps x.toInCall.keep,codeAny_func ?_⟩
 obtain⟨t,ht,hq⟩:=hbody A outer s H vs Q E (hr.deeper _) hsp
 have I:Inv (Oo CX P w K mg base N qual scope f cdv A outer s H E) [] (start N vs) H s1:=bQ S hr.hd e0 hl r x
 refine U5b (ht [] s1 (start N vs) H _ I hq) (fun fl s' hs=>?_) fun e s' hs=>hs
 have fin:∀{σ':St} {H':Hp} {v:V} {u:Value},Inv (Oo CX P w K mg base N qual scope f cdv A outer s H E) [] σ' H' s'->RelV v u->Q v H'->CE outer P w H s Q u s' :=
  fun {σ' H' v u} J rv q=>⟨v,H',J.os,J.bare,J.base,J.hok,rv,q⟩
 cases fl with
 |ret u =>
  obtain⟨v,σ',H',J,rv,q⟩:=hs
  exact fin J rv q
 |next =>
  obtain⟨σ',H',J,q⟩:=hs
  exact fin (v:=V.non) (u:=U2f) J rfl q
 |brk =>
  obtain⟨_,_,_,q⟩:=hs
  exact U4m q
 |cont =>
  obtain⟨_,_,_,q⟩:=hs
  exact U4m q
end L2
namespace L2
open PySem PySem.Spec PyProof.Rows
section
variable{X:Cx}{x:Str}{p pos:Pos}{e:Expr}{es:List Expr}{t:TA}{id T:String}{r:List V->Hp->VK->Prop}
def tCB(r:List V->Hp->VK->Prop)(t:TA):TE:=fun σ H Q=>t σ H fun vs H1=>r vs H1 Q
theorem RK(hc:Dd X (.builtin id) r)(hg:Gl X x)(hm:X.mg x=none)(hv:bootBuiltins x=some (.builtin id))(ha:PA X (e::es) t)(hn:x≠"__name__":=by decide)(hdb:(x==("__debug__":Str))=false:=by decide)
  (he:starEach (e::es) X.env=(false,eval e X.env)::starEach es X.env:=by rfl) (hpl:(backTo pos (starEach es X.env)).any (·.1)=false:=by rfl):PE X (.Call (.Name x p) (e::es) [] pos) (tCB r t):=by
 intro pins s σ H Q I h
 refine U6r (PB I hg hm hv ?_ hn hdb)
 exact PyProof.Rows.callWith_builtin1 (thn (ha pos pins s σ H _ I h) fun us s1 ⟨vs,H1,I1,r1,q1⟩=>hc pins s1 σ H1 vs us Q I1 r1 q1) he hpl
theorem MN(hc:Dd X (.type T) r)(hg:Gl X x)(hm:X.mg x=none)(hv:bootBuiltins x=some (.type T))(ha:PA X (e::es) t)(hn:x≠"__name__":=by decide)(hdb:(x==("__debug__":Str))=false:=by decide)
  (he:starEach (e::es) X.env=(false,eval e X.env)::starEach es X.env:=by rfl) (hpl:(backTo pos (starEach es X.env)).any (·.1)=false:=by rfl):PE X (.Call (.Name x p) (e::es) [] pos) (tCB r t):=by
 intro pins s σ H Q I h
 refine U6r (PB I hg hm hv ?_ hn hdb)
 exact U5a (thn (ha pos pins s σ H _ I h) fun us s1 ⟨vs,H1,I1,r1,q1⟩=>hc pins s1 σ H1 vs us Q I1 r1 q1) he hpl
end
end L2
namespace HT
open PySem PyProof.Rows
section
open PySem.SeqAt
open PySem.AutoSeq1 (wpAny_loadPart')
open PySem.MeetsSeq PySem.MeetsSeq2 PySem.MeetsSeq3
end
section
variable{prog:Program}{w:World}{A:Around}{E:Value->Shared->Prop}{s:Shared}
theorem jw{t b:Addr}{vs ws:List Value}{Q:Value->Shared->Prop}(ht:IsTup s.heap t vs.toArray)(hb:IsTup s.heap b ws.toArray)(hv:vs≠[])
  (h1:ws=[]->Q (.ref t) s) (h2:ws≠[]->Q (.ref s.heap.objs.size) { s with heap:=s.heap.push { cls:=.type "tuple",data:=.seq (vs++ws).toArray } })
  (hsz:vs.length+ws.length<=sizeLine):wpAny (model prog w) A (binaryOp .Add (.ref t) (.ref b)) Q E s:=by
 obtain⟨⟨cls,dd,data,sl⟩,ho,hc,n,hd⟩:=id ht
 obtain⟨⟨cls2,dd2,data2,sl2⟩,ho2,hc2,n2,hd2⟩:=id hb
 simp only at hc hd hc2 hd2
 subst hc hd hc2 hd2
 have e:vs.toArray++ws.toArray=(vs++ws).toArray:=by simp
 by_cases hw:ws=[]
 .exact concat_meets ⟨_,ho,rfl⟩ ⟨_,ho2,rfl⟩ noFill_tuple_add seq_tuple_add U6a U51 (U5t _ _)
   (tuple_addW1 t b vs.toArray ws.toArray n n2 dd dd2 sl sl2 (by simpa using hv) (by simp[hw])) ⟨ho,ho2,h1 hw⟩
 .refine concat_meets ⟨_,ho,rfl⟩ ⟨_,ho2,rfl⟩ noFill_tuple_add seq_tuple_add U6a U51 (U5t _ _)
   (tuple_addW2 t b vs.toArray ws.toArray n n2 dd dd2 sl sl2 (by simpa using hv) (by simpa using hw) (by rw[U0l,U0l];exact hsz)) ⟨ho,ho2,?_⟩
  rw[e]
  exact h2 hw
def sIx(n d:Nat):Option Int->Nat
 |none=>d
 |some v=>if v<0 then (v+(n:Int)).toNat else min v.toNat n
theorem nF(n d:Nat)(hd:d<=n)(o:Option Int):sIx n d o<=n:=by
 cases o with
 |none=>exact hd
 |some v =>
  show(if v<0 then (v+(n:Int)).toNat else min v.toNat n)<=n
  by_cases hv:v<0
  .rw[if_pos hv];omega
  .rw[if_neg hv];exact Nat.min_le_right _ _
theorem Yv(v:Int)(n d:Nat):(if v<0 then max (v+(n:Int)) 0 else min v (n:Int))=((sIx n d (some v):Nat):Int):=by
 show(if v<0 then max (v+(n:Int)) 0 else min v (n:Int))=(((if v<0 then (v+(n:Int)).toNat else min v.toNat n):Nat):Int)
 by_cases hv:v<0
 .simp only[if_pos hv];omega
 .simp only[if_neg hv];omega
theorem Zu(lo hi:Option Int)(n:Nat):U23 lo hi 1 (n:Int)=(((sIx n 0 lo:Nat):Int),((sIx n n hi:Nat):Int)):=by
 have h1:¬((1:Int)<0):=by omega
 unfold U23
 simp only[h1,if_false]
 refine Prod.ext ?_ ?_
 .cases lo with
  |none=>rfl
  |some v=>exact Yv v n 0
 .cases hi with
  |none=>rfl
  |some v=>exact Yv v n n
theorem Za(i j:Nat):U2p (i:Int) (j:Int) 1=j-i:=by
 unfold U2p
 have h1:(1:Int)>0:=by omega
 simp only[h1,if_true,U70]
 split<;>omega
theorem SJ{v:Value}{o:Option Int}{Q:Option Int->Shared->Prop}(p:IsPart v o)(h:Q o s):wpAny (model prog w) A (Builtin.Slice.slicePartIndex v) Q E s:=by
 cases p with
 |none=>exact slicePart_none h
 |int i t=>exact slicePart_int h
theorem M4{sl:Addr}{vl vu:Value}{lo hi:Option Int}{n:Nat}{Q:Int×Int×Nat->Shared->Prop}(hs:s.heap.IsSliceOf sl vl vu .none)(pl:IsPart vl lo)(pu:IsPart vu hi)
  (h:Q (((sIx n 0 lo:Nat):Int),1,sIx n n hi-sIx n 0 lo) s):wpAny (model prog w) A (U5e (.ref sl) (pure (n:Int))) Q E s:=by
 obtain⟨os,hos,hcs,hds⟩:=id hs
 unfold U5e Builtin.Slice.sliceFields
 refine U0 (U0 (U2k hos hds (x:=vl) rfl (U0 (U2k hos hds (x:=vu) rfl (U0 (U2k hos hds (x:=.none) rfl (U0d ?_)))))))
 refine U0 (slicePart_none ?_)
 show wpAny _ _ (if ((1:Int)==0)=true then _ else _) _ _ s
 rw[if_neg (by decide)]
 refine U0 (SJ pl (U0 (SJ pu (U0 (U0d ?_)))))
 show wpAny _ _ (match U23 lo hi 1 (n:Int) with|(lo,hi)=>pure (lo,(1:Int),U2p lo hi 1)) _ _ s
 rw[Zu lo hi n]
 show wpAny _ _ (pure (((sIx n 0 lo:Nat):Int),(1:Int),U2p ((sIx n 0 lo:Nat):Int) ((sIx n n hi:Nat):Int) 1)) _ _ s
 rw[Za]
 exact U0d h
theorem dh(xs:Array Value)(i k:Nat):((U22 k).filterMap fun(m:Nat)=>xs[((i:Int)+(m:Int)*1).toNat]?).toArray=((xs.toList.drop i).take k).toArray:=by
 have e:(fun(m:Nat)=>xs[((i:Int)+(m:Int)*1).toNat]?)=fun m=>xs[i+m]?:=by
  funext m
  have:((i:Int)+(m:Int)*1).toNat=i+m:=by omega
  rw[this]
 rw[e]
 have:=pick_run xs i k
 rw[List.filterMap_map] at this
 have e2:((fun x=>xs[x]?)∘fun x=>i+x)=fun m=>xs[i+m]?:=rfl
 rw[e2] at this
 rw[this]
theorem Qh{t sl:Addr}{items:Array Value}{vl vu:Value}{lo hi:Option Int}{Q:Value->Shared->Prop}(ht:IsTup s.heap t items)(hs:s.heap.IsSliceOf sl vl vu .none)(pl:IsPart vl lo)(pu:IsPart vu hi)
  (hw:¬(sIx items.size 0 lo=0/\sIx items.size items.size hi=items.size))
  (h:Q (.ref s.heap.objs.size) { s with heap:=s.heap.push { cls:=.type "tuple",data:=.seq ((items.toList.drop (sIx items.size 0 lo)).take (sIx items.size items.size hi-sIx items.size 0 lo)).toArray } })
  (hsz:items.size<=sizeLine):wpAny (model prog w) A (getItem (.ref t) (.ref sl)) Q E s:=by
 have htake:sizeOk (.seq ((items.toList.drop (sIx items.size 0 lo)).take (sIx items.size items.size hi-sIx items.size 0 lo)).toArray):=by
  show((items.toList.drop (sIx items.size 0 lo)).take (sIx items.size items.size hi-sIx items.size 0 lo)).toArray.size<=sizeLine
  rw[U0l,U1l,U1w,U0f]
  omega
 have hj:sIx items.size items.size hi<=items.size:=nF _ _ (U0h _) hi
 obtain⟨os,hos,hcs,hds⟩:=id hs
 have hTs:s.TypeIs (.ref sl) "slice":=⟨os,hos,hcs⟩
 unfold getItem
 try with_reducible refine U2n ?_
 first|refine U0 (U0d ?_)|skip
 refine U0 (U6z ht.typeIs (by decide) ?_)
 refine U0 (wpAny_callSpecial?_slot (name:=U3x "__getitem__") ht.typeIs U1s
  (U2i U1s ht.typeIs entry_tuple_getitem ?_ (args_tuple_getitem _ _)))
 show wpAny _ _ (U5f (.ref t) >>= _) _ _ s
 refine U0 (tupleItemsOf_ ht ?_)
 refine U0 (U44 hTs ?_)
 rw[if_pos (by decide)]
 refine U0 (M4 hs pl pu ?_)
 have hno:¬((((sIx items.size 0 lo:Nat):Int)==0&&(1:Int)==1&&(sIx items.size items.size hi-sIx items.size 0 lo)==items.size)=true):=by
  intro q
  rw[U0m,U0m] at q
  have q1:((sIx items.size 0 lo:Nat):Int)=0:=eq_of_beq q.1.1
  have q2:sIx items.size items.size hi-sIx items.size 0 lo=items.size:=eq_of_beq q.2
  exact hw ⟨by omega,by omega⟩
 show wpAny _ _ (if (((sIx items.size 0 lo:Nat):Int)==0&&(1:Int)==1&&(sIx items.size items.size hi-sIx items.size 0 lo)==items.size)=true then _ else _) _ _ s
 rw[if_neg hno,dh]
 first
  |exact U0 (m:=U2t _) (U1p (U0d ⟨_,rfl,U0d h⟩) htake)
  |exact U0 (m:=U2t _) (U1p (U0 (U0d (U0d ⟨_,rfl,U0d h⟩))) htake)
  |exact U0 (U0 (m:=U2t _) (U1p (U0d (U0d ⟨_,rfl,U0d h⟩)) htake))
  |exact U0 (U0 (m:=U2t _) (U1p (U0d ⟨_,rfl,U0d h⟩) htake))
end
end HT
namespace L2
open PySem PySem.Spec PyProof.Rows
abbrev TO:=St->Hp->(Option Int->Hp->Prop)->Prop
def PO(X:Cx)(e:Option Expr)(t:TO):Prop :=
 ∀(pins:List (Addr×Obj))(s:Shared)(σ:St)(H:Hp)(Q:Option Int->Hp->Prop),Inv X pins σ H s->t σ H Q ->
  wpAny (model X.prog X.w) X.A (evalPart e X.env) (fun u s'=>∃o H',Inv X pins σ H' s'/\IsPart u o/\Q o H') X.xe s
def iI:TO:=fun _ H Q=>Q none H
def qL(t:TE):TO:=fun σ H Q=>t σ H fun x H1=>∃i,x=.int i/\Q (some i) H1
theorem intsAre_of{ns:List Int}:∀{us:List Value},Vals (ns.map V.int) us->IntsAre us ns:=by
 induction ns with
 |nil=>intro us r;rw[U1t] at r;cases r;exact .nil
 |cons n ns ih =>
  intro us r
  rw[U0o] at r
  cases r with
  |cons r1 r2 =>
   obtain⟨t,e⟩:=r1
   subst e
   exact .cons n t (ih r2)
section
variable{X:Cx}{e:Expr}{te:TE}{lo hi:Option Expr}{tl th:TO}{pos p2:Pos}
theorem j7:PO X none iI:=by
 intro pins s σ H Q I h
 rw[evalPart_none]
 exact U0d ⟨none,H,I,.none,h⟩
theorem j6(h:PE X e te):PO X (some e) (qL te):=by
 intro pins s σ H Q I hw
 rw[evalPart_some]
 refine thn (h pins s σ H _ I hw) fun u s1 ⟨x,H1,I1,r1,q1⟩=>?_
 obtain⟨i,rfl,q⟩:=q1
 obtain⟨t,rfl⟩:=r1
 exact⟨some i,H1,I1,.int i t,q⟩
def SlR(X:Cx)(r:V->Option Int->Option Int->Hp->VK->Prop):Prop :=
 ∀(pins:List (Addr×Obj))(s:Shared)(σ:St)(H:Hp)(x:V)(v vl vu:Value)(lo hi:Option Int)(sl:Addr)(Q:VK),Inv X pins σ H s->RelV x v->s.heap.IsSliceOf sl vl vu .none->IsPart vl lo->IsPart vu hi->r x lo hi H Q ->
  ∃T id,typeLookup (.type T) "__getitem__"=pure (some (.builtin id))/\s.TypeIs v T/\wpAny (model X.prog X.w) X.A (getItem v (.ref sl)) (EP X pins σ Q) X.xe s
theorem SlR.or{r r':V->Option Int->Option Int->Hp->VK->Prop}(h:SlR X r)(h':SlR X r'):SlR X (fun x lo hi H Q=>r x lo hi H Q∨r' x lo hi H Q):=by
 intro pins s σ H x v vl vu lo hi sl Q I rx hs pl pu q
 rcases q with q|q
 .exact h pins s σ H x v vl vu lo hi sl Q I rx hs pl pu q
 .exact h' pins s σ H x v vl vu lo hi sl Q I rx hs pl pu q
def tSl(r:V->Option Int->Option Int->Hp->VK->Prop)(te:TE)(tl th:TO):TE:=fun σ H Q=>te σ H fun x H1=>tl σ H1 fun l H2=>th σ H2 fun u H3=>r x l u H3 Q
theorem dw{r:V->Option Int->Option Int->Hp->VK->Prop}(hr:SlR X r)(he:PE X e te)(hl:PO X lo tl)(hu:PO X hi th):PE X (.Subscript e (.Slice lo hi none p2) pos) (tSl r te tl th):=by
 intro pins s σ H Q I h
 refine Subscript_ (thn (he pins s σ H _ I h) fun v s1 ⟨x,H1,I1,r1,q1⟩=>?_)
 refine wpAny_Slice (thn (hl pins s1 σ H1 _ I1 q1) fun vl s2 ⟨l,H2,I2,pl,q2⟩=>thn (hu pins s2 σ H2 _ I2 q2) fun vu s3 ⟨u,H3,I3,pu,q3⟩=>?_)
 rw[evalPart_none]
 refine U0d ?_
 have I4:Inv X pins σ H3 { s3 with heap:=s3.heap.push { cls:=.type "slice",data:=.fields #[vl,vu,.none] } }:=I3.kept (t':=s3.toks) fun b ob q=>U0c _ q
 obtain⟨T,id,hT,ht,hg⟩:=hr pins { s3 with heap:=s3.heap.push { cls:=.type "slice",data:=.fields #[vl,vu,.none] } } σ H3 x v vl vu l u s3.heap.objs.size Q I4 r1 (U6s ..) pl pu q3
 show wpAny (model X.prog X.w) X.A (subscriptTail e (.Slice lo hi none p2) v (.ref s3.heap.objs.size)) (EP X pins σ Q) X.xe { s3 with heap:=s3.heap.push { cls:=.type "slice",data:=.fields #[vl,vu,.none] } }
 exact tail_any (ops:=[.ref s3.heap.objs.size,v]) ht hT hg (by with_unfolding_all rfl)
def Jl(xs:List V)(lo hi:Option Int):List V:=(xs.drop (HT.sIx xs.length 0 lo)).take (HT.sIx xs.length xs.length hi-HT.sIx xs.length 0 lo)
theorem Qu(xs:List V)(lo hi:Option Int):(Jl xs lo hi).length<=xs.length:=by
 unfold Jl
 rw[U1l,U1w]
 omega
def sO(K:U0b):V->Option Int->Option Int->Hp->VK->Prop:=fun x lo hi H Q=>∃a xs,x=.ref a/\SqT K H a xs /\
 ¬(HT.sIx xs.length 0 lo=0/\HT.sIx xs.length xs.length hi=xs.length)/\∀p,H p=none->Q (.ref p) (upd H p (.tup (Jl xs lo hi)))
theorem Rp:SlR X (sO X.K):=by
 intro pins s σ H x v vl vu lo hi sl Q I rx hs pl pu h
 obtain⟨a,xs,rfl,hx,hw,q⟩:=h
 cases rx
 obtain⟨its,r,ht,hz⟩:=I.tuple hx
 have hlen:its.toArray.size=xs.length:=by rw[U0l];exact r.length.symm
 refine⟨"tuple",_,U1s.lookup,ht.typeIs,?_⟩
 refine HT.Qh ht hs pl pu (by rw[hlen];exact hw) ?_ (by rw[hlen];exact hz)
 rw[hlen]
 refine⟨.ref s.heap.objs.size,_,I.laid (t':=s.toks) (o:=.tup (Jl xs lo hi)) (fun b ob q=>U0c _ q) (U0h _) ?_,rfl,q _ (I.hok.fresh (U0h _))⟩
 exact⟨U00 (Qu xs lo hi) hz,_,(r.drop (HT.sIx xs.length 0 lo)).take (HT.sIx xs.length xs.length hi-HT.sIx xs.length 0 lo),U6t _ _⟩
def qW(K:U0b):R2:=fun x y H Q=>∃a b xs ys,x=.ref a/\y=.ref b/\SqT K H a xs/\SqT K H b ys/\xs≠[]/\xs.length+ys.length<=sizeLine /\
 (ys=[]->Q (.ref a) H)/\(ys≠[]->∀p,H p=none->Q (.ref p) (upd H p (.tup (xs++ys))))
theorem Vals.QJ{xs:List V}{us:List Value}(r:Vals xs us):us=[]↔xs=[]:=by
 cases r with
 |nil=>simp
 |cons _ _=>simp
theorem jJ:OpR X (binaryOp .Add) (qW X.K):=by
 intro pins s σ H x y v u Q I rx ry h
 obtain⟨a,b,xs,ys,rfl,rfl,ha,hb,hx,hz,q1,q2⟩:=h
 cases rx
 cases ry
 obtain⟨its,r1,p1,_⟩:=I.tuple ha
 obtain⟨its2,r2,p2,_⟩:=I.tuple hb
 refine HT.jw p1 p2 (fun z=>hx (r1.QJ.mp z)) (fun z=>⟨.ref a,H,I,rfl,q1 (r2.QJ.mp z)⟩) (fun z=>?_) (by rw[←r1.length,←r2.length];exact hz)
 refine⟨.ref s.heap.objs.size,_,I.laid (t':=s.toks) (o:=.tup (xs++ys)) (fun b ob q=>U0c _ q) (U0h _) ?_,rfl,q2 (fun w=>z (r2.QJ.mpr w)) _ (I.hok.fresh (U0h _))⟩
 exact⟨by rw[U0j];exact hz,_,r1.append r2,U6t _ _⟩
end
end L2
namespace L2
open PySem PySem.Spec PyProof.Rows
def ixN(n:Nat)(i:Int):Option Nat:=if 0<=i then (if i<n then some i.toNat else none) else if -(n:Int)<=i then some (i+n).toNat else none
def atI{α:Type}(xs:List α)(i:Int):Option α:=(ixN xs.length i).bind fun j=>xs[j]?
theorem Ym{n:Nat}{i:Int}{j:Nat}(h:ixN n i=some j):seqIndex? i n=some j/\j<n/\-(n:Int)<=i/\i<n:=by
 unfold ixN at h
 by_cases h0:0<=i
 .rw[if_pos h0] at h
  by_cases h1:i<n
  .rw[if_pos h1] at h
   have e:i.toNat=j:=U0u h
   exact⟨by rw[seqIndex_of h0 h1,e],by omega,by omega,h1⟩
  .rw[if_neg h1] at h;cases h
 .rw[if_neg h0] at h
  by_cases h1:-(n:Int)<=i
  .rw[if_pos h1] at h
   have e:(i+n).toNat=j:=U0u h
   exact⟨by rw[seqIndex_neg (by omega) h1,e],by omega,h1,by omega⟩
  .rw[if_neg h1] at h;cases h
theorem Ub{α:Type}{xs:List α}{i:Int}{v:α}(h:atI xs i=some v):∃j,seqIndex? i xs.length=some j/\xs[j]?=some v/\j<xs.length/\-(xs.length:Int)<=i/\i<xs.length:=by
 unfold atI at h
 cases e:ixN xs.length i with
 |none=>rw[e] at h;cases h
 |some j =>
  rw[e] at h
  obtain⟨h1,h2,h3,h4⟩:=Ym e
  exact⟨j,h1,h,h2,h3,h4⟩
theorem Le{α:Type}{xs:List α}{j:Nat}{v:α}(h:xs[j]?=some v):atI xs (j:Int)=some v:=by
 have hj:j<xs.length:=(U0n.mp h).1
 have e:ixN xs.length (j:Int)=some j:=by
  unfold ixN
  rw[if_pos (by omega),if_pos (by omega)];simp
 unfold atI;rw[e];exact h
theorem Rf{α:Type}(xs:List α)(v:α):atI (xs++[v]) (-1)=some v:=by
 have hl:(xs++[v]).length=xs.length+1:=by simp
 have e:ixN (xs++[v]).length (-1)=some xs.length:=by
  unfold ixN
  rw[hl,if_neg (by decide),if_pos (by omega)]
  congr 1
  omega
 unfold atI
 rw[e]
 show(xs++[v])[xs.length]?=some v
 simp
def Yz(b:Expr):Prop:=∀o i,subscripted b false o i=operate [o,i] (getItem o i)
def IxR(X:Cx)(r:R2):Prop :=
 ∀(value slice:Expr)(pins:List (Addr×Obj))(s:Shared)(σ:St)(H:Hp)(x y:V)(v u:Value)(Q:VK),Inv X pins σ H s->RelV x v->RelV y u->r x y H Q ->
  subscripted slice false v u=operate [v,u] (getItem v u)->wpAny (model X.prog X.w) X.A (subscriptTail value slice v u) (EP X pins σ Q) X.xe s
def MtR(X:Cx)(id:String)(r:V->List V->Hp->VK->Prop):Prop :=
 ∀(pins:List (Addr×Obj))(s:Shared)(σ:St)(H:Hp)(x:V)(xs:List V)(v:Value)(us:List Value)(Q:VK),Inv X pins σ H s->RelV x v->Vals xs us->r x xs H Q ->
  wpAny (model X.prog X.w) X.A (call (.builtin id) (v::us)) (EP X pins σ Q) X.xe s
section
variable{X:Cx}{a b:Expr}{ta tb:TE}{pos:Pos}
theorem IxR.or{r r':R2}(h:IxR X r)(h':IxR X r'):IxR X (fun x y H Q=>r x y H Q∨r' x y H Q):=by
 intro value slice pins s σ H x y v u Q I rx ry q hs
 rcases q with q|q
 .exact h value slice pins s σ H x y v u Q I rx ry q hs
 .exact h' value slice pins s σ H x y v u Q I rx ry q hs
theorem qb{r:R2}(hr:IxR X r)(ha:PE X a ta)(hb:PE X b tb)(hs:Yz b):PE X (.Subscript a b pos) (tOp r ta tb):=by
 intro pins s σ H Q I h
 exact Subscript_ (cP ha hb I h fun v u s2 x y H2 I2 rx ry q=>hr a b pins s2 σ H2 x y v u Q I2 rx ry q (hs _ _))
def mF(K:U0b):R2:=fun x y H Q=>∃p xs i v,x=.ref p/\y=.int i/\SqL K H p xs/\atI xs i=some v/\Q v H
def mC(K:U0b):R2:=fun x y H Q=>∃p xs i v,x=.ref p/\y=.int i/\SqT K H p xs/\atI xs i=some v/\Q v H
def mD:R2:=fun x y H Q=>∃z i c,x=.str z/\y=.int i/\z.length<=sizeLine/\atI z.cps.toList i=some c/\Q (.str ⟨#[c]⟩) H
theorem jg:IxR X (mF X.K):=by
 intro value slice pins s σ H x y v u Q I rx ry h hs
 obtain⟨p,xs,i,z,rfl,rfl,hq,he,q⟩:=h
 cases rx
 obtain⟨t,rfl⟩:=ry
 obtain⟨its,r,pl,hz⟩:=I.list hq
 obtain⟨j,h1,h2,h3,h4,h5⟩:=Ub he
 obtain⟨w,ew,rw'⟩:=r.get h2
 have hl:=r.length
 have hn:=Oz
 have fin:EP X pins σ Q w s:=⟨z,H,I,rw',q⟩
 by_cases h0:0<=i
 .have hj:i.toNat=j:=by
   rw[seqIndex_of h0 h5] at h1
   exact U0u h1
  exact item_listR pl.isList h0 (by omega) (by rw[hj];simpa using ew) fin hs
 .have hj:(i+(its.toArray.size:Int)).toNat=j:=by
   rw[seqIndex_neg (by omega) h4] at h1
   rw[U0l,←hl]
   exact U0u h1
  exact subscriptTail_builtinR (x:=w) pl.isList.typeIs slot_list_getitem.lookup
   (wpAny_getItem_list_neg (Q:=fun r s'=>r=w/\EP X pins σ Q r s') pl.isList (by omega) (by rw[U0l]<;>omega) (by omega) (by rw[hj];simpa using ew) ⟨rfl,fin⟩) hs
theorem oY:IxR X (mC X.K):=by
 intro value slice pins s σ H x y v u Q I rx ry h hs
 obtain⟨p,xs,i,z,rfl,rfl,hq,he,q⟩:=h
 cases rx
 obtain⟨t,rfl⟩:=ry
 obtain⟨its,r,pl,hz⟩:=I.tuple hq
 obtain⟨j,h1,h2,h3,h4,h5⟩:=Ub he
 obtain⟨w,ew,rw'⟩:=r.get h2
 have hl:=r.length
 have hn:=Oz
 have fin:EP X pins σ Q w s:=⟨z,H,I,rw',q⟩
 exact subscriptTail_builtinR (x:=w) pl.typeIs slot_tuple_getitem.lookup
  (getItem_tuple (j:=j) (Q:=fun r s'=>r=w/\EP X pins σ Q r s') pl (by omega) (by omega) (by rw[U0l,←hl];exact h1) (by simpa using ew) ⟨rfl,fin⟩) hs
theorem oZ:IxR X mD:=by
 intro value slice pins s σ H x y v u Q I rx ry h hs
 obtain⟨z,i,c,rfl,rfl,hz,he,q⟩:=h
 obtain⟨t,rfl⟩:=rx
 obtain⟨t',rfl⟩:=ry
 obtain⟨j,h1,h2,h3,h4,h5⟩:=Ub he
 have hl:z.cps.toList.length=z.length:=by simp[Str.length]
 rw[hl] at h1 h4 h5
 have hn:=Oz
 exact tail_any (typeIs_str s z t) slot_str_getitem.lookup (getItem_str (c:=c) (by
  have e1:decide (i < -(2^63:Int))=false:=decide_eq_false (by omega)
  have e2:decide (i≥2^63)=false:=decide_eq_false (by omega)
  rw[e1,e2,U7x]) (by rw[h1];simpa using h2) ⟨.str ⟨#[c]⟩,H,I.tok _,⟨_,rfl⟩,q⟩) hs
def rIx(K:U0b):R2:=fun x y H Q=>mF K x y H Q∨mC K x y H Q∨mD x y H Q
theorem BP:IxR X (rIx X.K):=jg.or (oY.or oZ)
theorem Ze(its:List Value)(n j:Nat)(u:Value):U19 (·.setIfInBounds j u) { cls:=.type "list",data:=.seq its.toArray n }={ cls:=.type "list",data:=.seq (its.set j u).toArray n }:=by
 simp[U19]
theorem Inv.lst{pins:List (Addr×Obj)}{σ:St}{H:Hp}{s:Shared}{p:Addr}{xs:List V}(I:Inv X pins σ H s)(h:H p=some (.lst xs)) :
  ∃(its:List Value)(n:Nat),Vals xs its/\s.heap.get? p=some { cls:=.type "list",data:=.seq its.toArray n }/\xs.length<=sizeLine:=by
 obtain⟨z,its,n,r,e⟩:=I.hok p _ h
 exact⟨its,n,r,e,z⟩
theorem Inv.oM{pins:List (Addr×Obj)}{σ:St}{H:Hp}{s:Shared}{p:Addr}{xs ys:List V}{its its':List Value}{n n':Nat}{f:Obj->Obj}(I:Inv X pins σ H s)(h:H p=some (.lst xs))
  (ho:s.heap.get? p=some { cls:=.type "list",data:=.seq its.toArray n }) (hf:f { cls:=.type "list",data:=.seq its.toArray n }={ cls:=.type "list",data:=.seq its'.toArray n' }) (r:Vals ys its') (hz:ys.length<=sizeLine) (t:Nat) :
  Inv X pins σ (upd H p (.lst ys)) { s with heap:=s.heap.update p f,toks:=t }:=by
 have e:(s.heap.update p f).get? p=some { cls:=.type "list",data:=.seq its'.toArray n' }:=by
  rw[U2o f ho (by rw[hf]<;>rfl),hf]
 refine I.write (x:=p) (e:=p) (by rw[h];trivial) (.inl rfl) (fun b u hb q=>(U1a _ _ (U2g hb)).trans q) ⟨_,e⟩ ?_
 exact⟨hz,its',n',r,e⟩
def qR:V->V->V->Hp->(Hp->Prop)->Prop:=fun o i v H Q=>∃p xs k j,o=.ref p/\i=.int k/\H p=some (.lst xs)/\ixN xs.length k=some j/\Q (upd H p (.lst (xs.set j v)))
theorem set_list:mW X qR:=by
 intro pins s σ H o i v ov iv u Q I ro ri rv h
 obtain⟨p,xs,k,j,rfl,rfl,hp,hj,q⟩:=h
 cases ro
 obtain⟨t,rfl⟩:=ri
 obtain⟨its,n,r,ho,hz⟩:=I.lst hp
 obtain⟨h1,h2,h3,h4⟩:=Ym hj
 have hl:=r.length
 have hn:=Oz
 have I':Inv X pins σ (upd H p (.lst (xs.set j v))) { s with heap:=s.heap.update p (U19 (·.setIfInBounds j u)) } :=
  I.oM hp ho (Ze its n j u) (r.set rv j) (by rw[U4w];exact hz) s.toks
 by_cases h0:0<=k
 .have hk:k.toNat=j:=by
   rw[seqIndex_of h0 h4] at h1
   exact U0u h1
  exact PySem.W.ki_setAt ho h0 (by omega) (by rw[U0l,←hl];exact h4) (by rw[hk];exact⟨_,I',q⟩)
 .have hk:(k+(its.toArray.size:Int)).toNat=j:=by
   rw[seqIndex_neg (by omega) h3] at h1
   rw[U0l,←hl]
   exact U0u h1
  exact PySem.W.ki_setBack ho (by omega) (by rw[U0l,←hl];exact h3) (by omega) (by rw[hk];exact⟨_,I',q⟩)
theorem X6(lo hi:Option Int)(n:Nat):(sliceBounds lo hi none n).1=((HT.sIx n 0 lo:Nat):Int)/\(sliceBounds lo hi none n).2.1=((HT.sIx n n hi:Nat):Int)/\(sliceBounds lo hi none n).2.2=1:=by
 refine⟨?_,?_,rfl⟩
 .cases lo with
  |none=>simp[sliceBounds,HT.sIx]
  |some i =>
   simp only[sliceBounds,HT.sIx,Option.getD_none,show(1:Int)>0 by decide,if_true]
   by_cases h:i<0
   .simp only[h,if_true]<;>omega
   .simp only[h,if_false]<;>omega
 .cases hi with
  |none=>simp[sliceBounds,HT.sIx]
  |some i =>
   simp only[sliceBounds,HT.sIx,Option.getD_none,show(1:Int)>0 by decide,if_true]
   by_cases h:i<0
   .simp only[h,if_true]<;>omega
   .simp only[h,if_false]<;>omega
theorem V4(its:List Value)(lo hi:Option Int):slicePick its.toArray lo hi none=((its.drop (HT.sIx its.length 0 lo)).take (HT.sIx its.length its.length hi-HT.sIx its.length 0 lo)).toArray:=by
 obtain⟨h1,h2,h3⟩:=X6 lo hi its.toArray.size
 unfold slicePick
 rw[h1,h2,h3]
 simp only[sliceRange_one,pick_run,U0l]<;>rfl
def lg(K:U0b):V->Option Int->Option Int->Hp->VK->Prop:=fun x lo hi H Q=>∃a xs,x=.ref a/\SqL K H a xs/\∀p,H p=none->Q (.ref p) (upd H p (.lst (Jl xs lo hi)))
theorem iK:SlR X (lg X.K):=by
 intro pins s σ H x v vl vu lo hi sl Q I rx hs pl pu h
 obtain⟨a,xs,rfl,hx,q⟩:=h
 cases rx
 obtain⟨its,r,ht,hz⟩:=I.list hx
 have hlen:=r.length
 refine⟨"list",_,slot_list_getitem.lookup,ht.isList.typeIs,?_⟩
 refine wpAny_getItem_list_slice ht.isList hs pl pu .none (by simp) ?_ (by rw[U0l]<;>omega)
 rw[V4,←hlen]
 refine⟨.ref s.heap.objs.size,_,I.laid (t':=s.toks) (o:=.lst (Jl xs lo hi)) (fun b ob q=>U0c _ q) (U0h _) ?_,rfl,q _ (I.hok.fresh (U0h _))⟩
 exact⟨U00 (Qu xs lo hi) hz,_,0,(r.drop (HT.sIx xs.length 0 lo)).take (HT.sIx xs.length xs.length hi-HT.sIx xs.length 0 lo),U0r _ rfl⟩
theorem G8:Dd X (.builtin "len") (fun xs H Q=>∃p ys,xs=[.ref p]/\(SqL X.K H p ys∨SqT X.K H p ys)/\Q (.int ys.length) H):=by
 intro pins s σ H xs us Q I r h
 obtain⟨p,ys,rfl,hq,q⟩:=h
 obtain⟨u,rfl,rx⟩:=vals1 r
 cases rx
 have hn:=Oz
 rcases hq with hq|hq
 .obtain⟨its,r',pl,hz⟩:=I.list hq
  have hlen:=r'.length
  exact Calls.call_len_list pl.isList (by simp only[U0l]<;>omega) ⟨.int ys.length,H,I.tok _,⟨s.toks+1,by rw[U0l,hlen]⟩,q⟩
 .obtain⟨its,r',pl,hz⟩:=I.tuple hq
  have hlen:=r'.length
  exact len_tuple pl (by simp only[U0l]<;>omega) ⟨.int ys.length,H,I.tok _,⟨s.toks+1,by rw[U0l,hlen]⟩,q⟩
theorem Dd.or{f:Value}{r r':List V->Hp->VK->Prop}(h:Dd X f r)(h':Dd X f r'):Dd X f (fun xs H Q=>r xs H Q∨r' xs H Q):=by
 intro pins s σ H xs us Q I rs q
 rcases q with q|q
 .exact h pins s σ H xs us Q I rs q
 .exact h' pins s σ H xs us Q I rs q
theorem Xc:Dd X (.type "list") (fun xs H Q=>∃p ys,xs=[.ref p]/\(SqL X.K H p ys∨SqT X.K H p ys)/\∀l,H l=none->Q (.ref l) (upd H l (.lst ys))):=by
 intro pins s σ H xs us Q I r h
 obtain⟨p,ys,rfl,hq,q⟩:=h
 obtain⟨u,rfl,rx⟩:=vals1 r
 cases rx
 have fin:∀(its:List Value),Vals ys its->ys.length<=sizeLine->∀(h':Heap)(c':Nat),(∀b o',s.heap.get? b=some o'->h'.get? b=some o') ->
   h'.get? s.heap.objs.size=some { cls:=.type "list",dict:=none,data:=.seq its.toArray c',slots:=#[] }->EP X pins σ Q (.ref s.heap.objs.size) { s with heap:=h' }:=fun its r' hz h' c' kp e =>
  ⟨.ref s.heap.objs.size,_,I.laid (t':=s.toks) kp (U0h _) (show Dc X.prog X.w _ h' _ (.lst ys) from ⟨hz,its,c',r',e⟩),rfl,q _ (I.hok.fresh (U0h _))⟩
 rcases hq with hq|hq
 .obtain⟨its,r',pl,hz⟩:=I.list hq
  have hlen:=r'.length
  obtain⟨o,ho,hc,n,hd⟩:=pl.isList
  exact call_list_seq p (.inl rfl) ho hc hd (fun h' c' kp e=>fin its r' hz h' c' kp e) (by simp only[U0l]<;>omega)
 .obtain⟨its,r',pl,hz⟩:=I.tuple hq
  have hlen:=r'.length
  obtain⟨o,ho,hc,n,hd⟩:=pl
  exact call_list_seq p (.inr rfl) ho hc hd (fun h' c' kp e=>fin its r' hz h' c' kp e) (by simp only[U0l]<;>omega)
theorem VG:Dd X (.type "tuple") (fun xs H Q=>∃p ys,xs=[.ref p]/\((SqL X.K H p ys/\∀l,H l=none->Q (.ref l) (upd H l (.tup ys)))∨(SqT X.K H p ys/\Q (.ref p) H))):=by
 intro pins s σ H xs us Q I r h
 obtain⟨p,ys,rfl,h⟩:=h
 obtain⟨u,rfl,rx⟩:=vals1 r
 cases rx
 rcases h with ⟨hq,q⟩|⟨hq,q⟩
 .obtain⟨its,r',pl,hz⟩:=I.list hq
  have hlen:=r'.length
  refine call_tuple_list pl.isList (fun h' kp=>?_) (by simp only[U0l]<;>omega)
  have I1:Inv X pins σ H { s with heap:=h' }:=I.kept (t':=s.toks) kp
  have I2:Inv X pins σ (upd H h'.objs.size (.tup ys)) { s with heap:=h'.push { cls:=.type "tuple",data:=.seq its.toArray } } :=
   I1.laid (t':=s.toks) (fun b o e=>U0c _ e) (U0h _) (show Dc X.prog X.w _ _ _ (.tup ys) from ⟨hz,its,r',U6t _ _⟩)
  exact⟨.ref h'.objs.size,_,I2,rfl,q _ (I1.hok.fresh (U0h _))⟩
 .obtain⟨its,r',pl,hz⟩:=I.tuple hq
  exact call_tuple_same pl ⟨.ref p,H,I,rfl,q⟩
def tyV(K:U0b)(T:String)(x:V)(H:Hp):Prop:=match x with
 |.str _=>T="str"
 |.int _=>T="int"
 |.ref p=>(T="list"/\∃xs,SqL K H p xs)∨(T="tuple"/\∃o,K.lookup p=some o/\o.cls=.type "tuple"/\o.dict=none) ∨
   (T="dict"/\((∃kvs,H p=some (.dK kvs))∨∃kvs,H p=some (.dT kvs)))∨(T="set"/\∃S n,H p=some (.set S n))
 |_=>False
theorem mZ{pins:List (Addr×Obj)}{σ:St}{H:Hp}{s:Shared}{T:String}{x:V}{v:Value}(I:Inv X pins σ H s)(r:RelV x v)(ty:tyV X.K T x H) :
  s.TypeIs v T/\∀a,v=.ref a->∃ob,s.heap.get? a=some ob/\ob.dict=none:=by
 cases x with
 |str z =>
  obtain⟨t,rfl⟩:=r
  cases (show T="str" from ty)
  exact⟨typeIs_str s z t,fun _ e=>nomatch e⟩
 |int i =>
  obtain⟨t,rfl⟩:=r
  cases (show T="int" from ty)
  exact⟨typeIs_int s i t,fun _ e=>nomatch e⟩
 |ref p =>
  cases r
  rcases ty with ⟨rfl,xs,hq⟩|⟨rfl,o,hk,hc,hd⟩|⟨rfl,hk⟩|⟨rfl,S,n,hk⟩
  .obtain⟨its,_,pl,_⟩:=I.list hq
   refine⟨pl.isList.typeIs,fun a e=>?_⟩
   cases e
   obtain⟨o,n,e,c,hd,_⟩:=pl
   exact⟨o,e,hd⟩
  .refine⟨⟨o,I.kIn p o hk,hc⟩,fun a e=>?_⟩
   cases e
   exact⟨o,I.kIn _ o hk,hd⟩
  .have z:∃o,s.heap.get? p=some o/\o.ExactDict:=by
    rcases hk with ⟨kvs,hk⟩|⟨kvs,hk⟩
    .obtain⟨_,_,_,_,o,_,_,e,ex,_⟩:=I.hok p _ hk
     exact⟨o,e,ex⟩
    .obtain⟨_,_,_,_,o,_,_,e,ex,_⟩:=I.hok p _ hk
     exact⟨o,e,ex⟩
   obtain⟨o,e,ex⟩:=z
   refine⟨⟨o,e,ex.1⟩,fun a e2=>?_⟩
   cases e2
   exact⟨o,e,ex.2.1⟩
  .obtain⟨o,_,_,_,e,ex,_⟩:=I.hok p _ hk
   refine⟨⟨o,e,ex.1⟩,fun a e2=>?_⟩
   cases e2
   exact⟨o,e,ex.2.1⟩
 |_=>exact U4m ty
def tBM(K:U0b)(T:String)(r:V->List V->Hp->VK->Prop)(to:TE)(t:TA):TE:=fun σ H Q=>to σ H fun x H1=>tyV K T x H1/\t σ H1 fun xs H2=>r x xs H2 Q
variable{o e:Expr}{es:List Expr}{to:TE}{t:TA}{name:Str}{apos cpos:Pos}{T id:String}{r:V->List V->Hp->VK->Prop}
theorem qd(pa:PlainAttrs T)(slot:Slot T name id)(hty:typeOf (.builtin id)=pure (.type "method_descriptor"))(hm:MtR X id r)(ho:PE X o to)(ha:PA X (e::es) t)
  (hbase:attributeBase o name X.env (eval o X.env)=eval o X.env:=by rfl)
  (hfew:((backTo cpos (starEach (e::es) X.env)).all (fun x=>!x.1)&&(backToKw cpos (keywordEach [] X.env)).all (fun x=>x.1.isSome)
   && decide ((e::es).length+([]:List Keyword).length+(if ([]:List Keyword).isEmpty then 0 else 1)<30))=true:=by rfl)
  (hline:(apos.endLine==cpos.line)=true:=by rfl) (hs:starEach (e::es) X.env=(false,eval e X.env)::starEach es X.env:=by rfl) (hplain:(backTo cpos (starEach es X.env)).any (·.1)=false:=by rfl) :
  PE X (.Call (.Attribute o name apos) (e::es) [] cpos) (tBM X.K T r to t):=by
 intro pins s σ H Q I h
 refine wpAny_Call_method_late hbase hfew hline rfl (thn (ho pins s σ H _ I h) fun v s1 ⟨x,H1,I1,r1,ty,q1⟩=>?_)
 obtain⟨h1,h2⟩:=mZ I1 r1 ty
 refine⟨T,id,pa,slot,hty,h1,h2,?_⟩
 have hA:=ha cpos pins s1 σ H1 _ I1 q1
 rw[hs] at hA ⊢
 refine Calls.callWith_builtin (by show(false||(backTo cpos (starEach es X.env)).any (·.1))=false;rw[hplain]<;>rfl) (Calls.evalArgs_plain ?_)
 exact thn hA fun us s2 ⟨vs,H2,I2,r2,q2⟩=>hm pins s2 σ H2 x vs v us Q I2 r1 r2 q2
/- xs.append(e), list.index on a module's tuple .. are MtR facts of 06m -/
end
end L2
namespace L2
open PySem PySem.Spec PyProof.Rows
def MtM(X:Cx)(id:String)(r:V->List V->Hp->VK->Prop):Prop :=
 ∀(pins:List (Addr×Obj))(s:Shared)(σ:St)(H:Hp)(x:V)(xs:List V)(v:Value)(us:List Value)(Q:VK),Inv X pins σ H s->RelV x v->Vals xs us->r x xs H Q ->
  wpAny (model X.prog X.w) X.A (call (.builtin id) (v::us)) (EP X pins σ Q) X.xe s
theorem Vals.one:∀{x:V} {us:List Value},Vals [x] us->∃u,us=[u]/\RelV x u
 |_,_,.cons r .nil=>⟨_,rfl,r⟩
theorem Vals.reverse{xs:List V}{us:List Value}(h:Vals xs us):Vals xs.reverse us.reverse:=by
 induction h with
 |nil=>exact .nil
 |cons r t ih=>rw[U54,U54];exact Vals.append ih (.cons r .nil)
theorem Vals.rep{xs:List V}{us:List Value}(h:Vals xs us):∀k:Nat,Vals (U0q k xs).flatten (U0q k us).flatten
 |0=>.nil
 |k+1=>by
  rw[U0t,U0t,U2s,U2s]
  exact Vals.append h (Vals.rep h k)
theorem foldl_rep(its:List Value):∀(k:Nat)(acc:List Value),
  U6g (fun x1 x2=>x1++x2) acc.toArray (U0q k its.toArray)=(acc++(U0q k its).flatten).toArray
 |0,acc=>by simp
 |k+1,acc=>by
  have e:acc.toArray++its.toArray=(acc++its).toArray:=by simp
  have e2:(acc++its)++(U0q k its).flatten=acc++(U0q (k+1) its).flatten:=by
   rw[U0t,U2s,U0x]
  rw[←e2,←foldl_rep its k (acc++its),←e,U0t,U3g]
section
variable{X:Cx}{pins:List (Addr×Obj)}{σ:St}{H:Hp}{s:Shared}{l b:Addr}{xs ys zs:List V}
theorem Inv.tD{its its':List Value}{n:Nat}{f:Array Value->Array Value}{t':Nat}(I:Inv X pins σ H s)(hH:H l=some (.lst xs))
  (e:s.heap.get? l=some { cls:=.type "list",data:=.seq its.toArray n }) (hf:f its.toArray=its'.toArray) (hv:Vals ys its') (hz:ys.length<=sizeLine) :
  Inv X pins σ (upd H l (.lst ys)) { s with heap:=s.heap.update l (U19 f),toks:=t' }:=by
 have q:=PySem.IsL.update e f
 rw[hf] at q
 refine I.write (x:=l) (e:=l) (by rw[hH];exact trivial) (.inl rfl) (fun b' u hb hu=>(U1a s.heap (U19 f) (U2g hb)).trans hu) ⟨_,q⟩ ?_
 exact⟨hz,its',_,hv,q⟩
theorem Inv.mQ{its:List Value}{t':Nat}(I:Inv X pins σ H s)(hv:Vals ys its)(hz:ys.length<=sizeLine) :
  Inv X pins σ (upd H s.heap.objs.size (.lst ys)) { s with heap:=s.heap.push { cls:=.type "list",data:=.seq its.toArray },toks:=t' } :=
 I.laid (fun _ _ q=>U0c _ q) (U0h _) ⟨hz,its,0,hv,U0r _ rfl⟩
theorem Inv.fresh(I:Inv X pins σ H s):H s.heap.objs.size=none:=I.hok.fresh (U0h _)
theorem Inv.Z4(I:Inv X pins σ H s)(hH:H l=some (.lst xs)):xs.length<=sizeLine/\∃(its:List Value)(n:Nat),Vals xs its/\xs.length=its.length/\s.heap.get? l=some { cls:=.type "list",data:=.seq its.toArray n }:=by
 obtain⟨z,its,n,r,e⟩:=I.hok l _ hH
 exact⟨z,its,n,r,r.length,e⟩
theorem eE{n:Nat}(h:n<=sizeLine):U5u n=false:=by
 unfold U5u
 exact decide_eq_false (by omega)
end
section
variable{X:Cx}
def Yc:V->List V->Hp->VK->Prop:=fun x vs H Q=>∃l xs y,x=.ref l/\vs=[y]/\H l=some (.lst xs)/\xs.length<sizeLine/\Q .non (upd H l (.lst (xs++[y])))
theorem Kf:MtM X "list.append" Yc:=by
 intro pins s σ H x vs v us Q I rx rv h
 obtain⟨l,xs,y,rfl,rfl,hH,hz,q⟩:=h
 cases rx
 obtain⟨u,rfl,ru⟩:=rv.one
 obtain⟨z,its,n,r,hl,e⟩:=I.Z4 hH
 refine call_meets F.slot_list_append ⟨_,e,rfl⟩ F.entry_list_append (F.args_list_append_2 _ _) (PySem.list_append l its.toArray n u (by rw[U0l];omega)) ⟨e,?_⟩
 refine⟨.non,_,I.tD (its':=its++[u]) hH e (by simp) (r.append (.cons ru .nil)) ?_,rfl,q⟩
 rw[U0j,U3s]
 omega
def mK:R2:=fun x y H Q=>∃l b xs zs,x=.ref l/\y=.ref b/\H l=some (.lst xs)/\H b=some (.lst zs)/\xs.length+zs.length<=sizeLine/\∀p,H p=none->Q (.ref p) (upd H p (.lst (xs++zs)))
theorem aF:OpR X (binaryOp .Add) mK:=by
 intro pins s σ H x y v u Q I rx ry h
 obtain⟨l,b,xs,zs,rfl,rfl,hH,hB,hz,q⟩:=h
 cases rx
 cases ry
 obtain⟨z,its,n,r,hl,e⟩:=I.Z4 hH
 obtain⟨z2,its2,n2,r2,hl2,e2⟩:=I.Z4 hB
 refine PySem.P.add_list e e2 ?_ (by rw[U0l,U0l];omega)
 have ea:its.toArray++its2.toArray=(its++its2).toArray:=by simp
 rw[ea]
 exact⟨.ref _,_,I.mQ (t':=s.toks) (r.append r2) (by rw[U0j];omega),rfl,q _ I.fresh⟩
def m9:R2:=fun x y H Q=>∃l k xs,x=.ref l/\y=.int k/\H l=some (.lst xs)/\-(2^63)<=k/\k<2^63/\xs.length*k.toNat<=sizeLine /\
 ∀p,H p=none->Q (.ref p) (upd H p (.lst (U0q k.toNat xs).flatten))
theorem len_rep{α:Type}(xs:List α)(k:Nat):(U0q k xs).flatten.length=k*xs.length:=by
 induction k with
 |zero=>simp
 |succ k ih=>rw[U0t,U2s,U0j,ih,Nat.succ_mul,Nat.add_comm]
theorem aC:OpR X (binaryOp .Mult) m9:=by
 intro pins s σ H x y v u Q I rx ry h
 obtain⟨l,k,xs,rfl,rfl,hH,h1,h2,hz,q⟩:=h
 cases rx
 obtain⟨t,rfl⟩:=ry
 obtain⟨z,its,n,r,hl,e⟩:=I.Z4 hH
 have hlen:its.toArray.size*k.toNat<=sizeLine:=by rw[U0l,←hl];exact hz
 have hcap:¬its.toArray.size*k.toNat>(2^63-1)/8:=by
  have:(sizeLine:Nat)<=(2^63-1)/8:=by decide
  omega
 have hfit:¬(!Builtin.List.listFitsIndex k)=true:=by
  rw[fitsIndex_both h1 h2]
  exact U08
 have hlong:¬U5u (its.toArray.size*k.toNat)=true:=by
  rw[eE hlen]
  exact U08
 have hnew:U6g (fun x1 x2=>x1++x2) #[] (U0q (if its.toArray.isEmpty=true then 0 else k.toNat) its.toArray)=(U0q k.toNat its).flatten.toArray:=by
  have f0:∀m:Nat,U6g (fun x1 x2=>x1++x2) #[] (U0q m its.toArray)=(U0q m its).flatten.toArray:=fun m=>by
   have:=foldl_rep its m []
   rw[U1z] at this
   exact this
  rw[f0]
  cases its with
  |nil=>simp
  |cons a r'=>rw[if_neg (by simp)]
 refine wpAny_binaryOp_repeat_ref (T:="list") (U:="int") (by decide) ⟨_,e,rfl⟩ (fun s'=>typeIs_int s' k t) noFill_list_mul F.fills_int_mul F.slot_int_rmul repeat_list F.slot_int_index.lookup
  (call_meets F.slot_int_rmul (typeIs_int s k t) F.entry_int_rmul (F.args_int_rmul_2 _ _) (int___rmul___int_list k t l its.toArray n)
   ⟨e,rfl,⟨_,e,rfl⟩,call_meets F.slot_list_mul ⟨_,e,rfl⟩ F.entry_list_mul (F.args_list_mul_2 _ _) (AutoListH.list___mul___list_int_3 l its.toArray n k t hfit hcap hlong) ⟨e,?_⟩⟩)
 rw[hnew]
 exact⟨.ref _,_,I.mQ (t':=s.toks) (r.rep k.toNat) (by rw[len_rep,U71];exact hz),rfl,q _ I.fresh⟩
end
section
variable{prog:Program}{w:World}{A:Around}{E:Value->Shared->Prop}{s:Shared}
set_option maxRecDepth 100000 in
end
section
variable{X:Cx}
end
end L2
namespace Att
open PySem PySem.W PySem.Calls PyProof.Rows
theorem TJ{P:Params}{h:Heap}:∀(ns:List Int)(vs:List Value),WellAll P h vs (ns.map WData.int)->IntsAre vs ns:=by
 intro ns
 induction ns with
 |nil =>
  intro vs w
  rw[U1t] at w
  cases w
  exact .nil
 |cons n ns ih =>
  intro vs w
  rw[U0o] at w
  cases w with
  |cons a b =>
   cases a
   exact .cons _ _ (ih _ b)
theorem bC{l:OpenLaw}{n:Nat}(hn:l.most=some n){P:Params}{h:Heap}{args:List WData}{vals:List Value}
  (hpre:l.row.toRowW.claim.pre args=true) (hwl:WellAll P h vals args) :
  ∃a vs ns,vals=[U26 a]/\args=[WData.list (ns.map WData.int)]/\h.get? a=some { cls:=.type "list",data:=.seq vs.toArray }/\IntsAre vs ns/\ns.length<=n:=by
 have hsh:WShape.hasAll [] args [.list .int]=true:=(pre_splitW hpre).1
 have hc:l.pre.holds [] { args:=args }=true:=(pre_splitW hpre).2
 obtain⟨d,r,rfl,h1,h2⟩:=hasAllW_cons hsh
 obtain rfl:=hasAllW_nil h2
 obtain⟨xs,rfl,h3⟩:=hasW_list h1
 obtain⟨ns,rfl⟩:=items_int h3
 have hlen:ns.length<=n:=by
  unfold OpenLaw.pre at hc
  have h4:(WTm.not (.lt (.lit (.int (n:Int))) (.len (.arg 0)))).holds [] { args:=[.list (ns.map .int)] }=true:=by
   have h4:=(holds_andW hc).1
   rw[hn] at h4
   exact h4
  have h5:=condW_of h4 (w_not (w_lt w_lit (w_len_list (w_arg rfl))))
  rw[U0e] at h5
  refine Nat.le_of_not_lt fun q=>?_
  have q':(n:Int)<((ns.length:Nat):Int):=by omega
  first
   |(rw[decide_eq_true q'] at h5;exact absurd h5 (by decide))
   |(simp at h5;omega)
 cases hwl with
 |cons w1 w2 =>
  cases w2
  cases w1 with
  |list ho hall=>exact⟨_,_,ns,rfl,rfl,ho,TJ ns _ hall,hlen⟩
theorem bG(l:OpenLaw)(args:List WData):l.row.toRowW.claim.post args (.bool true) args=true :=
 postW_of (r:=l.row.toRowW) (X:=(true==true))
  (show WShape.has [] (.bool true) .bool=true by first|rfl|decide|simp[WShape.has,WShape.arms,WShape.armsAll])
  (show(WTm.eq .res (.lit (.bool true))).value [] { args:=args,res:=some (.bool true),after:=args }=some (.bool (true==true)) from w_eq_bool (w_res rfl) w_lit) rfl
theorem Zf{R:WRecords}{cl:Str->Option Addr}{h:Heap}{a:Addr}{ds:List WData}{as:List Addr}(r:ReadsAllW R cl h [.ref a] [.list ds] as)(lo:∀b∈as,(b==sysModules)=false):a≠sysModules:=by
 cases r with
 |cons r1 _ =>
  cases r1 with
  |list _ _ _ _=>exact fun z=>by have:=lo a (by simp);rw[z] at this;simp at this
theorem Y7{l:OpenLaw}{n:Nat}{q:Program}{loose:List Str}{XP:(Str->Option Value)->Heap->Prop}{YP:World->Heap->Prop}{d:DefRec}
  (hn:l.most=some n) (hdf:d.params.defaults=[])
  (call:∀(w:World)(s₀ s₁:Shared)(mg mb:Str->Option Value)(fa:Addr)(o:Obj)(pm cd doc:Value)(a:Addr)(vs:List Value)(ns:List Int),
   Ground q loose [] XP w s₀ mg mb s₁.heap->YP w s₁.heap ->
   s₁.heap.get? fa=some o->o.data=.func (docDef d.name d.params d.body d.scope pm cd doc)->s₁.heap.CodeRec cd d.name->mg d.name=some (.ref fa) ->
   s₁.heap.get? a=some { cls:=.type "list",data:=.seq vs.toArray }->IntsAre vs ns->ns.length<=n->a≠sysModules->s₁.gens=#[] ->
   codeAny (model l.prog w) callerA (.call (.ref fa) ⟨[.ref a],[]⟩) (fun r s'=>r=.ok (.ret (.bool true))/\OldK s₁.heap s'.heap/\s'.os=s₁.os/\AllBare s'.gens) s₁) :
  WalkO q loose XP YP l.row.toRowW d [] (fun f vs=>U7w f vs):=by
 intro w s₀ s₁ mg mb G Y fa o pm cd doc dV kV ho hd hcd hD hmg hg args vals as hpre hlay hrd hwl hlo
 obtain rfl:dV=.none:=Dflts.none hD hdf
 obtain rfl:kV=.none:=Dflts.noKw hD
 obtain⟨a,vs,ns,rfl,rfl,hobj,hints,hlen⟩:=bC hn hpre hwl
 refine enter_call (codeAny_mono (call w s₀ s₁ mg mb fa o pm cd doc a vs ns G Y ho (fd_plain hd) hcd hmg hobj hints hlen (Zf hrd hlo) hg) fun r s' hq=>?_)
 obtain⟨rfl,h2,h3,h4⟩:=hq
 exact⟨.inl ⟨.bool true,.bool true,[],rfl,fun _=>rfl,.bool true,bG l _,fun _=>⟨U60,fun _ hm=>(nomatch hm)⟩⟩,h2,h3,h4⟩
section
variable{prog:Program}{w:World}{A:Around}{E:Value->Shared->Prop}{s:Shared}{K:Frag}
end
end Att
namespace L2
open PySem PySem.Spec PyProof.Rows
theorem MK:∀{vs:List Value} {ns:List Int},IntsAre vs ns->Vals (ns.map V.int) vs
 |_,_,.nil=>.nil
 |_,_,.cons n t h=>.cons ⟨t,rfl⟩ (MK h)
def Only(H:Hp):Prop:=∀b,H b=none∨∃o xs,H b=some (.frz o (.lst xs))
theorem eV{P:Program}{w:World}{K:U0b}{mg mb:Str->Option Value}{CX:CXT}{k:Nat}{fa a:Addr}{fd:FuncData}{x:Str}{sp:Sp}{s₁:Shared}{vs:List Value}{ns:List Int}
  (KX:K.In s₁.heap) (hns:s₁.heap.Ns mainGlobals mg) (hb:s₁.heap.Ns builtinsNs mb) (hbb:∀x:Str,x≠"__name__"->mb x=bootBuiltins x) (hlim:s₁.heap.NoLimit) (hg:s₁.gens=#[])
  (ha:s₁.heap.get? a=some { cls:=.type "list",data:=.seq vs.toArray }) (hi:IntsAre vs ns) (hl:ns.length<=sizeLine) (hasy:a≠sysModules) (hr:Dy k callerA)
  (F:∀base:Heap,K.In base->base.Ns mainGlobals mg->DW P w K mg base CX k fa fd [x] sp) (hbind:∀(s:Shared)(u:Value),BindsTo s fd ⟨[u],[]⟩ [(x,u)])
  (hsp:∀H:Hp,Only H->SqL K H a (ns.map V.int)->sp [.ref a] H (fun v _=>v=.bl true) fun _ _ _=>False)
  (hCX:∀H e s',CX [] H s₁ (fun _ _ _=>False) e s'->False) :
  codeAny (model P w) callerA (.call (.ref fa) ⟨[.ref a],[]⟩) (fun r s'=>r=.ok (.ret (.bool true))/\OldK s₁.heap s'.heap/\s'.os=s₁.os/\AllBare s'.gens) s₁:=by
 have rv:=MK hi
 have lenV:=hi.length
 -- from an abstract heap in which nothing but the script may be tracked
 have core:∀H:Hp,Only H->SqL K H a (ns.map V.int)->HOk P w H s₁.heap->(∀b,H b≠none->b=a)->(H a≠none->K.lookup a=none) ->
   codeAny (model P w) callerA (.call (.ref fa) ⟨[.ref a],[]⟩) (fun r s'=>r=.ok (.ret (.bool true))/\OldK s₁.heap s'.heap/\s'.os=s₁.os/\AllBare s'.gens) s₁:=by
  intro H hO hS hok hA hK
  have base_of:∀{b:Addr} {o:Obj},s₁.heap.get? b=some o->H b=none->(Ni s₁.heap H).get? b=some o:=fun e n=>fH e n
  have noA:∀{b:Addr} {o:Obj} {es:Array DictEntry} {ep:Nat},s₁.heap.get? b=some o->o.data=.dict es ep->H b=none:=fun {b o es ep} e d=>by
   cases q:H b with
   |none=>rfl
   |some u =>
    have e':b=a:=hA b (by rw[q];simp)
    subst e'
    rw[ha] at e;cases e
    have d':Data.seq vs.toArray _=Data.dict es ep:=d
    cases d'
  have nsK:∀{b:Addr} {m:Str->Option Value},s₁.heap.Ns b m->(Ni s₁.heap H).Ns b m:=fun {b m} ⟨o,es,ep,e,d,r⟩=>⟨o,es,ep,base_of e (noA e d),d,r⟩
  have hKb:K.In (Ni s₁.heap H):=fun b o e=>base_of (KX b o e) (by
   cases q:H b with
   |none=>rfl
   |some u =>
    have e':b=a:=hA b (by rw[q];simp)
    subst e'
    rw[hK (by rw[q];simp)] at e;cases e)
  have hM:Mod K mg (Ni s₁.heap H):=⟨hKb,nsK hns,⟨mb,nsK hb,hbb⟩,let ⟨mc,h1,h2⟩:=hlim;⟨mc,nsK h1,h2⟩⟩
  have e0:Z7 P w K mg (Ni s₁.heap H) callerA [] s₁ H:=⟨rfl,hM,fun b o e=>jL e,U72 (bU _ _),trivial,fun b hb=>absurd (show b∈([]:List Addr) from hb) (by simp),hok,.of_eq hg,Classical.byContradiction fun z=>hasy (hA _ z).symm⟩
  refine codeAny_mono ((F _ hKb (nsK hns)).run callerA [] s₁ H ⟨[.ref a],[]⟩ [.ref a] [.ref a] _ _ hr e0 (hbind s₁ (.ref a)) (.cons rfl .nil) (hsp H hO hS)) fun r s' h=>?_
  cases r with
  |error e=>exact(hCX H e s' h).elim
  |ok fl =>
   cases fl with
   |next=>exact U4m h
   |brk=>exact U4m h
   |cont=>exact U4m h
   |ret u =>
    obtain⟨v,H',os,bare,un,hok',r',q⟩:=h
    have q':v=.bl true:=q
    subst q'
    obtain rfl:u=U3l true:=r'
    refine⟨rfl,OldK.of_keep fun b o e=>?_,os,bare⟩
    cases q:H b with
    |none=>exact un.keep b o e q (by intro z;exact absurd (show b∈([]:List Addr) from z) (by simp)) (by simp)
    |some u =>
     rcases hO b with z|⟨ob,xs,z⟩
     .rw[q] at z;cases z
     .have z2:=un.frzs b ob _ z
      obtain⟨e1,_⟩:=hok b _ z
      obtain⟨e2,_⟩:=hok' b _ z2
      rw[e] at e1;cases e1
      exact e2
 cases hk:K.lookup a with
 |some o =>
  -- the script is one of the module's own objects
  have e:=KX a o hk
  rw[ha] at e
  cases e
  refine core (fun _=>none) (fun _=>.inl rfl) (.inr ⟨_,vs.toArray,_,hk,rfl,rfl,rfl,by rw[U0l,lenV];exact hl,by simpa using rv⟩) (fun b u z=>by have z':(none:Option HO)=some u:=z;cases z') (fun b z=>absurd rfl z) fun z=>absurd rfl z
 |none =>
  refine core (fun b=>if b=a then some (.frz { cls:=.type "list",data:=.seq vs.toArray } (.lst (ns.map V.int))) else none) (fun b=>?_) (.inl (.inr ⟨{ cls:=.type "list",data:=.seq vs.toArray },if_pos rfl⟩)) (fun b u z=>?_) (fun b z=>?_) fun _=>hk
  .by_cases hb:b=a
   .exact .inr ⟨_,_,if_pos hb⟩
   .exact .inl (if_neg hb)
  .by_cases hb:b=a
   .have z':=(if_pos hb).symm.trans z
    cases z'
    subst hb
    exact⟨ha,by rw[U0e];exact hl,vs,_,rv,ha⟩
   .have z':=(if_neg hb).symm.trans z
    cases z'
  .by_cases hb:b=a
   .exact hb
   .exact absurd (if_neg hb) z
end L2
namespace L2
open PySem PySem.Spec PyProof.Rows
abbrev KOf{K:U0b}{h:Heap}(_:K.In h):U0b:=K
theorem walk_of{l:U6h}{n k:Nat}{q:Program}{loose:List Str}{XP:(Str->Option Value)->Heap->Prop}{YP:World->Heap->Prop}{d:DefRec}{K:Params->U0b}{CX:World->CXT}{sp:World->Sp}{x:Str}
  (hn:l.most=some n) (hn2:n<=sizeLine) (hdf:d.params.defaults=[]) (hr:Dy k callerA)
  (hY:∀(w:World)(h:Heap),YP w h->(K w.params).In h)
  (F:∀(w:World)(mg:Str->Option Value)(fa:Addr)(h:Heap),(K w.params).In h->h.Ns mainGlobals mg->mg d.name=some (.ref fa) ->
   ∃fd:FuncData,(∀(s:Shared)(u:Value),BindsTo s fd ⟨[u],[]⟩ [(x,u)]) /\
    ∀base:Heap,(K w.params).In base->base.Ns mainGlobals mg->DW l.prog w (K w.params) mg base (CX w) k fa fd [x] (sp w))
  (hsp:∀(w:World)(H:Hp)(a:Addr)(ns:List Int),ns.length<=n->Only H->SqL (K w.params) H a (ns.map V.int)->sp w [.ref a] H (fun v _=>v=.bl true) fun _ _ _=>False)
  (hCX:∀(w:World)(H:Hp)(s:Shared)(e:Value)(s':Shared),CX w [] H s (fun _ _ _=>False) e s'->False) :
  U7y q loose XP YP l.row.toRowW d [] (fun f vs=>U7w f vs):=by
 refine Att.Y7 hn hdf fun w s₀ s₁ mg mb fa o pm cd doc a vs ns G Y ho hd hcd hmg hobj hints hlen hasy hg=>?_
 have KX:=hY w _ Y
 obtain⟨fd,hb,hF⟩:=F w mg fa _ KX G.T.g hmg
 exact eV KX G.T.g G.T.b G.T.builtins G.T.nolimit hg hobj hints (U00 hlen hn2) hasy hr hF hb (fun H hO hS=>hsp w H a ns hlen hO hS) fun H e s'=>hCX w H s₁ e s'
theorem cZ{l:U6h}{n k:Nat}{q:Program}{loose:List Str}{XP:(Str->Option Value)->Heap->Prop}{YP:World->Heap->Prop}{d:DefRec}{K:Params->U0b}{CX:CXT}{sp:U0b->Sp}{x:Str}
  (hn:l.most=some n) (hn2:n<=sizeLine) (hdf:d.params.defaults=[]) (hr:Dy k callerA)
  (hY:∀(w:World)(h:Heap),YP w h->(K w.params).In h)
  (F:∀(w:World)(mg:Str->Option Value)(fa:Addr)(h:Heap),(K w.params).In h->h.Ns mainGlobals mg->mg d.name=some (.ref fa) ->
   ∃fd:FuncData,(∀(s:Shared)(u:Value),BindsTo s fd ⟨[u],[]⟩ [(x,u)]) /\
    ∀base:Heap,(K w.params).In base->base.Ns mainGlobals mg->DW l.prog w (K w.params) mg base CX k fa fd [x] (sp (K w.params)))
  (hsp:∀(K:U0b)(H:Hp)(a:Addr)(ns:List Int),ns.length<=n->Only H->SqL K H a (ns.map V.int)->sp K [.ref a] H (fun v _=>v=.bl true) fun _ _ _=>False)
  (hCX:∀(H:Hp)(s:Shared)(e:Value)(s':Shared),CX [] H s (fun _ _ _=>False) e s'->False) :
  U7y q loose XP YP l.row.toRowW d [] (fun f vs=>U7w f vs) :=
 walk_of (K:=K) (CX:=fun _=>CX) (sp:=fun w=>sp (K w.params)) hn hn2 hdf hr hY F (fun w H a ns h1 h2 h3=>hsp (K w.params) H a ns h1 h2 h3) fun _ H s e s'=>hCX H s e s'
end L2
/- THE LAST THEOREM (shape; LID, My.* are yours):
   My.Adr: a structure of the addresses that your layer names (classes, functions); My.Txt K t: a structure (Prop) of the equations over K;
   My.txt_mk : {K} {implicit addresses ..} (e1 : nsIn K mainGlobals "law" = some (some (.ref f))) (e2 : K.lookup f = some ⟨oc, od, .func (fnOf "law" "law" params body scope dV kV doc pm an cdv ct), sl⟩) (e3 : codeIn K cdv "law" = true) .. : ∃ t, My.Txt K t

set_option maxRecDepth 100000 in
set_option maxHeartbeats 0 in
theorem PySem.Challenge.cw_LID_holds : PySem.Challenge.rw_LID.Holds := by
  w_on; o_law; k_head; (case hw => w_witness2)
  k_fill
  refine L2.walk_of (l := PySem.Challenge.rw_LID) (n := 63) (k := 40) (x := "script") (CX := fun w => ..) (sp := fun _ => My.sp_law) rfl (by decide) rfl ⟨rfl, by decide, by decide⟩ (fun w h Y => PySem.W.kIn_of Y) ?F ?S ?C
  case F =>
    intro w mg fa h KX G hmg
    have T : ∃ t, My.Txt (L2.KOf KX) t := by
      dsimp only [L2.KOf]                          -- K must stand as «<heap const> w.params» for k_is
      refine' My.txt_mk ?e1 ?e2 ?e3 ..
      (case e1 => PySem.W.k_is)                    -- in the order: a name -> its address -> its object -> its parts
      (case e2 => PySem.W.k_is)
      ..
    obtain ⟨t, T⟩ := T
    have e0 := hmg.symm.trans (PySem.W.mg_of KX G T.law)
    cases e0                                       -- fa is the law's own address
    exact ⟨_, fun s u => .of_eq rfl, fun base kb nb => My.law_fn T kb nb⟩     -- if «.of_eq rfl» comes too early: refine' ⟨_, ?b, fun base kb nb => My.law_fn T kb nb⟩; exact fun s u => .of_eq rfl
  case S => exact fun w H a ns hl hO hS => ..
  case C => exact ..
(the tactic k_is has no namespace: write k_is) -/
namespace L2
open PySem PySem.Spec PyProof.Rows
def Cr(s:Stmt):Arguments:=match s with
 |.FunctionDef _ a _ _ _ _ _ _ _ _=>a
 |_=>{ posonlyargs:=[],args:=[],vararg:=none,kwonlyargs:=[],kw_defaults:=[],kwarg:=none,defaults:=[] }
def Ca(s:Stmt):List Stmt:=match s with
 |.FunctionDef _ _ b _ _ _ _ _ _ _=>b
 |_=>[]
def Av(s:Stmt):Scope:=match s with
 |.FunctionDef _ _ _ _ _ _ sc _ _ _=>sc
 |_=>{ kind:=.function,names:=[],isGenerator:=false,isCoroutine:=false }
abbrev CX0:CXT:=fun _ _ _ _ _ _=>False
abbrev E0:XK:=fun _ _ _=>False
theorem qg{X:Cx}:Passes CX0 X E0:=fun _ _ _ _ _ _ _ h=>h.elim
structure Fun(K:U0b)(x qual:Str)(st:Stmt)(f:Addr)(fd:FuncData):Prop where
 ex:∃(oc:Value)(od:Option Addr)(kV doc pm:Value)(an:Option Addr)(cdv ct:Value)(osl:Array (Option Value)),
  fd=U1e x qual (Cr st) (Ca st) (Av st) .none kV doc pm an cdv ct/\K.lookup f=some ⟨oc,od,.func fd,osl⟩/\U1f K cdv qual=true
 kp:U04 K (.ref f)=true
section
variable{P:Program}{w:World}{K:U0b}{mg:Str->Option Value}{base:Heap}
theorem Fun.ok{x qual:Str}{st:Stmt}{f:Addr}{fd:FuncData}{N ps:List Str}{k:Nat}{sp:Sp}(F:Fun K x qual st f fd)(S:Cu N ps (Av st))(len:∀vs H Q E,sp vs H Q E->vs.length=ps.length)
  (hbody:∀(cdv:Value)(A:Around)(outer:List Env)(s:Shared)(H:Hp)(vs:List V)(Q:VK)(E:XK),Dy k (A.deeper (envOfC qual (Av st) s.heap.objs.size f cdv))->sp vs H Q E ->
   ∃t,PSs (Oo CX0 P w K mg base N qual (Av st) f cdv A outer s H E).nox (Ca st) t/\t { nx:=fun _ H'=>Q .non H',rt:=Q } (start N vs) H):DW P w K mg base CX0 (k+1) f fd ps sp:=by
 obtain⟨oc,od,kV,doc,pm,an,cdv,ct,osl,rfl,lk,hcd⟩:=F.ex
 refine rE lk hcd S len fun A outer s H vs Q E hr hsp=>?_
 obtain⟨t,h,q⟩:=hbody cdv A outer s H vs Q E hr hsp
 exact⟨t,h.nox,q⟩
theorem Fun.binds{x qual:Str}{st:Stmt}{f:Addr}{fd:FuncData}{ps:List Str}(F:Fun K x qual st f fd)
  (h:∀(kV doc pm:Value)(an:Option Addr)(cdv ct:Value)(us:List Value),us.length=ps.length->bindArgs (U1e x qual (Cr st) (Ca st) (Av st) .none kV doc pm an cdv ct) ⟨us,[]⟩=pure (ps.zip us)):Binds K fd ps []:=by
 obtain⟨oc,od,kV,doc,pm,an,cdv,ct,osl,rfl,lk,hcd⟩:=F.ex
 exact .all (h kV doc pm an cdv ct)
theorem EY{x qual:Str}{st:Stmt}{f:Addr}{oc:Value}{od an:Option Addr}{osl:Array (Option Value)}{kV doc pm cdv ct:Value}(l:K.lookup f=some ⟨oc,od,.func (U1e x qual (Cr st) (Ca st) (Av st) .none kV doc pm an cdv ct),osl⟩)
  (c:U1f K cdv qual=true) (k:U04 K (.ref f)=true):Fun K x qual st f (U1e x qual (Cr st) (Ca st) (Av st) .none kV doc pm an cdv ct):=⟨⟨oc,od,kV,doc,pm,an,cdv,ct,osl,rfl,l,c⟩,k⟩
end
theorem Uk{n:Nat}(h:n<=1000):n<sizeLine:=U4x h (by decide)
section
variable{X:Cx}
theorem pv(i:Nat){x:Str}{pos:Pos}(hN:X.N[i]?=some x:=by rfl)(hv:Vis X.env.scope x:=by first|exact U73 rfl|exact U7 (U73 rfl)|exact U7 (U7 rfl))(hd:(x==("__debug__":Str))=false:=by decide)
  (hcd:(x==("__classdict__":Str))=false:=by decide):PE X (.Name x pos) (lU i):=Zy hN hv hd hcd
end
def Same(H H':Hp):Prop:=∀b o,H b=some o->H' b=some o
theorem Same.refl(H:Hp):Same H H:=fun _ _ h=>h
theorem Same.free{H H':Hp}(e:Same H H'){l:Addr}(h:H' l=Option.none):H l=Option.none:=by
 cases q:H l with
 |none=>rfl
 |some o =>
  rw[e l o q] at h
  cases h
end L2
end
section
namespace SetP
open PySem
def JV(xs:Array Nat):Prop:=xs.toList.Pairwise (·<·)
theorem dU:JV #[]:=U60
theorem ZW(n:Nat):JV (Array.range n):=by
 unfold JV
 rw[Array.toList_range]
 exact List.pairwise_lt_range
theorem JV.lt{xs:Array Nat}(h:JV xs){i k:Nat}(hik:i<k)(hk:k<xs.size):xs.getD i 0<xs.getD k 0:=by
 have q:=U3t.mp h i k (by rw[U0f];omega) (by rw[U0f];exact hk) hik
 rw[U2x,U2x,U1o (by omega),U1o hk]
 simpa using q
theorem JV.le{xs:Array Nat}(h:JV xs){i k:Nat}(hik:i<=k)(hk:k<xs.size):xs.getD i 0<=xs.getD k 0:=by
 rcases Nat.lt_or_eq_of_le hik with z|z
 .exact U2d (h.lt z hk)
 .rw[z];exact U0h _
theorem UJ{xs:Array Nat}{j:Nat}(h:JV xs):∀(fuel lo hi:Nat),lo<=hi->hi<=xs.size->hi-lo<=fuel->(∀i,i<lo->xs.getD i 0<j)->(∀i,hi<=i->i<xs.size->j<=xs.getD i 0) ->
  U43 xs j fuel lo hi<=xs.size/\(∀i,i<U43 xs j fuel lo hi->xs.getD i 0<j)/\∀i,U43 xs j fuel lo hi<=i->i<xs.size->j<=xs.getD i 0
 |0,lo,hi,h1,h2,h3,h4,h5=>by
  have e:lo=hi:=by omega
  subst e
  unfold U43
  exact⟨h2,h4,h5⟩
 |fuel+1,lo,hi,h1,h2,h3,h4,h5=>by
  unfold U43
  by_cases hlt:lo<hi
  .rw[if_pos hlt]
   have hm:(lo+hi)/2<hi:=by omega
   have hl:lo<=(lo+hi)/2:=by omega
   have e:xs.getD ((lo+hi)/2) j=xs.getD ((lo+hi)/2) 0:=by
    rw[U2x,U2x,U1o (by omega)]
    rfl
   dsimp only
   rw[e]
   by_cases hc:xs.getD ((lo+hi)/2) 0<j
   .rw[if_pos hc]
    exact UJ h fuel _ hi (by omega) h2 (by omega) (fun i hi'=>U4x (h.le (by omega) (by omega)) hc) h5
   .rw[if_neg hc]
    exact UJ h fuel lo _ (by omega) (by omega) (by omega) h4 (fun i hi' hs=>U00 (Nat.le_of_not_lt hc) (h.le hi' hs))
  .rw[if_neg hlt]
   have e:lo=hi:=by omega
   subst e
   exact⟨h2,h4,h5⟩
theorem OD{xs:Array Nat}{j:Nat}(h:JV xs):U1j xs j<=xs.size/\(∀i,i<U1j xs j->xs.getD i 0<j)/\∀i,U1j xs j<=i->i<xs.size->j<=xs.getD i 0:=by
 unfold U1j
 exact UJ h xs.size 0 xs.size (U2w _) (U0h _) (by omega) (fun i hi=>absurd hi (Nat.not_lt_zero _)) fun i h1 h2=>absurd h2 (by omega)
theorem TF{xs:Array Nat}(h:JV xs){i:Nat}(hi:i<xs.size):U1j xs (xs.getD i 0+1)=i+1:=by
 obtain⟨a,b,c⟩:=OD (j:=xs.getD i 0+1) h
 generalize U1j xs (xs.getD i 0+1)=r at a b c
 rcases Nat.lt_trichotomy r (i+1) with z|z|z
 .have:=c i (by omega) hi;omega
 .exact z
 .have h1:=b (i+1) z
  have h2:xs.getD i 0<xs.getD (i+1) 0:=h.lt (U7a i) (by omega)
  omega
theorem Sy{xs:Array Nat}(h:JV xs):U1j xs 0=0:=by
 obtain⟨a,b,c⟩:=OD (j:=0) h
 generalize U1j xs 0=r at a b c
 cases r with
 |zero=>rfl
 |succ r=>exact absurd (b 0 (by omega)) (Nat.not_lt_zero _)
theorem Xm{xs:Array Nat}{j:Nat}(h:JV xs)(hn:xs[U1j xs j]?≠some j):JV (SetTable.insertAt xs (U1j xs j) j):=by
 obtain⟨a,b,c⟩:=OD (j:=j) h
 unfold JV
 rw[SetTable.toList_insertAt]
 generalize U1j xs j=p at a b c hn
 have getT:∀i,i<xs.size->xs.toList[i]?=some (xs.getD i 0):=fun i hi=>by
  rw[U18,U2x,U1o hi];rfl
 refine U1d.mpr ⟨h.sublist (U53 _ _),U27.mpr ⟨fun y hy=>?_,h.sublist (U61 _ _)⟩,fun x hx y hy=>?_⟩
 .obtain⟨i,hi⟩:=U4d.mp hy
  rw[U6u] at hi
  have hlt:p+i<xs.size:=by
   have:=(U0n.mp hi).1
   rwa [U0f] at this
  rw[getT _ hlt] at hi
  have e:=U0u hi
  have h1:=c (p+i) (U5c _ _) hlt
  rw[←e]
  rcases Nat.lt_or_eq_of_le h1 with z|z
  .exact z
  .exfalso
   have hp:p<xs.size:=by omega
   have h2:=c p (U0h _) hp
   have h3:=h.le (U5c p i) hlt
   have h4:xs.getD p 0=j:=by omega
   apply hn
   have:=getT p hp
   rw[U18] at this
   rw[this,h4]
 .have hxj:x<j:=by
   obtain⟨i,hi⟩:=U4d.mp hx
   have hip:i<p:=by
    have:=(U0n.mp hi).1
    rw[U1l] at this;omega
   rw[List.getElem?_take_of_lt hip] at hi
   have hlt:i<xs.size:=by
    have:=(U0n.mp hi).1
    rwa [U0f] at this
   rw[getT _ hlt] at hi
   rw[←U0u hi]
   exact b i hip
  rcases U0k.mp hy with z|z
  .rw[z];exact hxj
  .obtain⟨i,hi⟩:=U4d.mp z
   rw[U6u] at hi
   have hlt:p+i<xs.size:=by
    have:=(U0n.mp hi).1
    rwa [U0f] at this
   rw[getT _ hlt] at hi
   rw[←U0u hi]
   exact U03 hxj (c (p+i) (U5c _ _) hlt)
def Off(t:SetTable)(j:Nat):Prop:=t.place[U1j t.place j]?≠some j
theorem Ql{t:SetTable}{j:Nat}(h:∀i,t.slot j≠.live i):Off t j:=fun e=>by
 apply h (U1j t.place j)
 unfold SetTable.slot
 dsimp only
 rw[e]
 simp
theorem Pg{t:SetTable}{f:Nat->Int}{h:Int}{j:Nat}{d:Option Nat}:∀(fuel:Nat)(p:SetTable.Probe),(∀d,p.dummy=some d->Off t d)->U62 t f h fuel p=some (.empty j d)->Off t j/\∀d',d=some d'->Off t d'
 |0,_,_,e=>by unfold U62 at e;cases e
 |fuel+1,p,hp,e=>by
  unfold U62 at e
  cases hs:t.slot p.j with
  |empty =>
   rw[hs] at e
   have e':=U0u e
   cases e'
   exact⟨Ql (fun i z=>by rw[hs] at z;exact SetTable.Slot.noConfusion z),hp⟩
  |dummy =>
   rw[hs] at e
   refine Pg fuel _ (fun d' hd=>?_) e
   have hd':(t.advance { p with dummy:=some p.j }).dummy=some p.j:=by
    unfold SetTable.advance;dsimp only;split<;>rfl
   rw[hd'] at hd
   cases hd
   exact Ql fun i z=>by rw[hs] at z;cases z
  |live i =>
   rw[hs] at e
   dsimp only at e
   split at e
   .cases e
   .refine Pg fuel _ (fun d' hd=>hp d' ?_) e
    rw[←hd]
    unfold SetTable.advance
    split<;>rfl
theorem XS{t:SetTable}{h:Int}{j:Nat}{b:Bool}(e:t.freeSlot h=some (j,b)):Off t j:=by
 unfold SetTable.freeSlot at e
 split at e
 .rename_i j' d q
  unfold U6p at q
  obtain⟨o1,o2⟩:=Pg _ _ (fun d hd=>by unfold SetTable.probeStart at hd;cases hd) q
  have e':=U0u e
  cases d with
  |none=>cases e';exact o1
  |some d=>cases e';exact o2 _ rfl
 .cases e
def TabOk(L:Bool)(t:SetTable):Prop:=JV t.place/\t.led=L
theorem TabOk.fresh(L:Bool)(f m:Nat):TabOk L (.fresh f m L):=⟨dU,rfl⟩
theorem TabOk.standIn{L:Bool}{t:SetTable}(h:TabOk L t)(n:Nat):TabOk L (t.standIn n):=⟨ZW n,h.2⟩
theorem TabOk.orStandIn{L:Bool}{t:SetTable}(h:TabOk L t)(n:Nat):TabOk L (t.orStandIn n):=by
 unfold SetTable.orStandIn
 split
 .exact h
 .exact h.standIn n
theorem TabOk.iC{L:Bool}{t:SetTable}(h:TabOk L t)(b:Bool):TabOk L { t with plain:=b }:=h
theorem Zi{L:Bool}{t:SetTable}(h:TabOk L t)(es:Array (Int×Value))(k:Int)(x:Value):TabOk L (layNew t es k x).2.1:=by
 unfold layNew
 split
 .rename_i slot wasDummy q
  exact TabOk.orStandIn (t:=(t.put slot).1) ⟨Xm h.1 (XS q),h.2⟩ _
 .exact h.standIn _
theorem RQ{α:Type}(g:Nat->Option α):∀l:List Nat,List.Sublist ((l.filterMap fun j=>(g j).map (j,·)).map (·.1)) l
 |[]=>List.Sublist.slnil
 |j::r=>by
  rw[U5k]
  cases hg:g j with
  |none=>exact(RQ g r).cons j
  |some a=>exact(RQ g r).cons_cons j
theorem XC{L:Bool}{t:SetTable}(h:TabOk L t)(es:Array (Int×Value))(n:Nat):TabOk L (relayAll t es n).2.1:=by
 unfold relayAll
 split
 .rename_i t' order q
  dsimp only
  split
  .unfold SetTable.relaid SetTable.laid at q
   cases ho:SetTable.layClean (SetTable.sizeAbove n-1) (es.map (·.1)) with
   |none=>rw[ho] at q;cases q
   |some owner =>
    rw[ho] at q
    have q':=U0u q
    cases q'
    refine⟨?_,h.2⟩
    show U6x (·<·) (List.toArray _).toList
    exact List.pairwise_lt_range.sublist (RQ (fun j=>owner.getD j none) _)
  .exact h.standIn _
 .exact h.standIn _
end SetP
end
section
set_option maxRecDepth 100000
namespace SetP
open PySem PyProof.Rows
abbrev MF(w:World):Bool:=!(w.params.followText "set-order")
structure SetT(prog:Program)(w:World)(h:Heap)(a:Addr)(ds:List Int):Prop where
 nd:ds.Nodup
 ex:∃o es ep t,h.get? a=some o/\o.ExactSet/\o.data=.set es ep t/\ElemsOf (intKind prog w) es.toList/\(∀k,decide (k∈ds)=true↔∃e∈es.toList,(intKind prog w).is k e.2=true) /\
  es.size<scanBound/\t.fits es.size=true/\es.size=ds.length/\TabOk (MF w) t
def Fe(ds:List Int)(k:Int):List Int:=if k∈ds then ds else ds++[k]
theorem Rg{ds:List Int}(h:ds.Nodup)(k:Int):(Fe ds k).Nodup:=by
 unfold Fe
 split
 .exact h
 .rename_i hk
  exact List.nodup_append.mpr ⟨h,by simp,fun a ha b hb=>by rw[U1k] at hb;subst hb;rintro rfl;exact hk ha⟩
theorem Uo{ds:List Int}{k j:Int}:j∈Fe ds k↔j∈ds∨j=k:=by
 unfold Fe
 split
 .rename_i hk
  exact⟨.inl,fun z=>z.elim id fun e=>e ▸ hk⟩
 .rw[U1h,U1k]
theorem cD(ds:List Int)(k:Int):(Fe ds k).length<=ds.length+1:=by
 unfold Fe
 split
 .omega
 .rw[U0j,U3s];omega
section
variable{prog:Program}{w:World}{A:Around}{E:Value->Shared->Prop}{s:Shared}
theorem SetT.sameBut{h h':Heap}{a:Addr}{ds:List Int}(x:SetT prog w h a ds)(hs:∀o,h.get? a=some o->h'.get? a=some o):SetT prog w h' a ds:=by
 obtain⟨nd,o,es,ep,t,e,r⟩:=x
 exact⟨nd,o,es,ep,t,hs o e,r⟩
theorem SetT.stored{h:Heap}{a:Addr}{o:Obj}{es es':Array (Int×Value)}{ep:Nat}{t t':SetTable}{ds:List Int}(ho:h.get? a=some o)(hex:o.ExactSet)(hd:o.data=.set es ep t)(nd:ds.Nodup)
  (hel:ElemsOf (intKind prog w) es'.toList) (hm:∀k,decide (k∈ds)=true↔∃e∈es'.toList,(intKind prog w).is k e.2=true) (hb:es'.size<scanBound) (hf:t'.fits es'.size=true) (hn:es'.size=ds.length) (ht:TabOk (MF w) t') :
  (h.update a (Obj.putSet es' t')).get? a=some { o with data:=.set es' (ep+1) t' }/\SetT prog w (h.update a (Obj.putSet es' t')) a ds:=by
 obtain⟨g,_⟩:=SetOf_store (knd:=intKind prog w) ho hex hd hel hm hb hf
 exact⟨g,nd,_,es',ep+1,t',g,hex,rfl,hel,hm,hb,hf,hn,ht⟩
theorem V2{g:Bool->Sem Unit}(hg:∀(b:Bool)(s₁:Shared)(Q':Unit->Shared->Prop),Q' () s₁->wpAny (model prog w) A (g b) Q' E s₁)
  {a:Addr} {o:Obj} {es es1:Array (Int×Value)} {ep:Nat} {t t2:SetTable} {ds:List Int} (ho:s.heap.get? a=some o) (hex:o.ExactSet) (hd:o.data=.set es ep t) (nd:ds.Nodup)
  (hel:ElemsOf (intKind prog w) es1.toList) (hm:∀k,decide (k∈ds)=true↔∃e∈es1.toList,(intKind prog w).is k e.2=true) (hb:es1.size<scanBound) (hf:t2.fits es1.size=true) (hn:es1.size=ds.length) (ht:TabOk (MF w) t2)
  {dummy:Bool} {R:Option Bool->Shared->Prop} (h:∀h',U07 a s.heap h'->SetT prog w h' a ds->R (some true) { s with heap:=h' }) :
  wpAny (model prog w) A (do
    storeSet a es1 t2
    if (!dummy&&t2.tooFull)=true then do
      g (relayAll t2 es1 (U4p es1.size)).2.2
      storeSet a (relayAll t2 es1 (U4p es1.size)).1 (relayAll t2 es1 (U4p es1.size)).2.1
      pure (some true)
     else pure (some true)) R E s:=by
 obtain⟨g1,T1⟩:=SetT.stored (prog:=prog) (w:=w) ho hex hd nd hel hm hb hf hn ht
 have sb1:=U14 s.heap a (Obj.putSet es1 t2)
 refine U0 (wpAny_storeSet_of ho hd ?_ (fits_of_scanBound hb))
 split
 .have p:=relayAll_perm t2 es1 (U4p es1.size)
  have f:=relayAll_fits t2 es1 (U4p es1.size)
  have tb:=XC ht es1 (U4p es1.size)
  generalize relayAll t2 es1 (U4p es1.size)=RR at p f tb
  obtain⟨es2,t3,gave⟩:=RR
  have sz:es2.size=es1.size:=by simpa using p.length_eq
  have T2:=SetT.stored (prog:=prog) (w:=w) (es':=es2) (t':=t3) g1 hex rfl nd (hel.perm p) (fun k=>(hm k).trans ⟨fun⟨e,he,q⟩=>⟨e,p.mem_iff.mpr he,q⟩,fun⟨e,he,q⟩=>⟨e,p.mem_iff.mp he,q⟩⟩)
   (by rw[sz];exact hb) f (by rw[sz];exact hn) tb
  refine U0 (hg _ _ _ (U0 (wpAny_storeSet_of g1 rfl ?_ (fits_of_scanBound (by show es2.size<_;rw[sz];exact hb)))))
  exact U0d (h _ (sb1.trans (U14 _ a _)) T2.2)
 .exact U0d (h _ sb1 T1)
theorem Y8{a:Addr}{ds:List Int}{k:Int}{t0:Tok}{Q:Bool->Shared->Prop}(hS:SetT prog w s.heap a ds)(room:ds.length+1<scanBound)
  (h:∀b h',U07 a s.heap h'->SetT prog w h' a (Fe ds k)->Q b { s with heap:=h' }):wpAny (model prog w) A (setAddHashed a (.int k t0) ((intKind prog w).hash k)) Q E s:=by
 obtain⟨nd,o,es,ep,t,ho,hex,hd,hel,hm,hb,hf,hn,ht⟩:=hS
 have hkey:(intKind prog w).is k (.int k t0)=true:=intKind_is prog w k t0
 have hsc:(U6e k t0).scannable=true:=rfl
 unfold setAddHashed setAddHashedIn
 refine U2n (U0 (U4k ho hd hf ?_))
 dsimp only
 rw[byScan_of hsc hb hel,if_pos rfl]
 unfold setAddByScan
 refine U0 (U0 (U3 (U0 (wpAny_setScan_of hkey ho hd hf hel ?_))))
 cases hr:List.findIdx? (fun e=>(intKind prog w).is k e.2) es.toList with
 |some j =>
  obtain⟨hj,hpj,_⟩:=List.findIdx?_eq_some_iff_getElem.mp hr
  have hk:k∈ds:=of_decide_eq_true ((hm k).mpr ⟨es.toList[j],U37 hj,hpj⟩)
  refine U0d (U0d ?_)
  have q:=h false s.heap (U07.refl a s.heap) (by
   have e:Fe ds k=ds:=by unfold Fe;rw[if_pos hk]
   rw[e];exact⟨nd,o,es,ep,t,ho,hex,hd,hel,hm,hb,hf,hn,ht⟩)
  cases s;exact q
 |none =>
  have hk:k ∉ ds:=fun z=>by
   obtain⟨e,he,hp⟩:=(hm k).mp (decide_eq_true z)
   have q:=List.findIdx?_eq_none_iff.mp hr e he
   rw[hp] at q;cases q
  have eA:Fe ds k=ds++[k]:=by unfold Fe;rw[if_neg hk]
  have p:=layNew_perm t es ((intKind prog w).hash k) (.int k t0)
  have f:=layNew_fits t es ((intKind prog w).hash k) (.int k t0)
  have tb:=Zi ht es ((intKind prog w).hash k) (.int k t0)
  generalize layNew t es ((intKind prog w).hash k) (.int k t0)=LL at p f tb
  obtain⟨es1,t1,dummy,gave⟩:=LL
  dsimp only at p f tb ⊢
  rw[U63] at p
  have hel1:ElemsOf (intKind prog w) es1.toList:=(hel.push hkey hsc).perm p
  have sz:es1.size=(Fe ds k).length:=by
   have q:=p.length_eq
   rw[U0f,U0j,U3s,U0f] at q
   rw[q,eA,U0j,U3s,hn]
  have hm1:∀j,decide (j∈Fe ds k)=true↔∃e∈es1.toList,(intKind prog w).is j e.2=true:=fun j=>by
   rw[←mem_push_iff (S:=fun k'=>decide (k'∈ds)) hkey hm p j]
   simp only[decide_eq_true_eq,U7j,Uo]
  have hb1:es1.size<scanBound:=by rw[sz,eA,U0j,U3s];exact room
  refine U0 ?_
  have gw:∀(b:Bool)(s₁:Shared)(Q':Unit->Shared->Prop),Q' () s₁->wpAny (model prog w) A (match b with|true=>rule "set.scan.the-table-gave-way"|false=>pure ()) Q' E s₁:=fun b s₁ Q' q=>by
   cases b
   .exact U0d q
   .exact U3 q
  refine gw _ _ _ ?_
  split
  .refine U0 ?_
   rw[hashByValue_scannable 8 hsc]
   refine U0d (V2 gw ho hex hd (Rg nd k) hel1 hm1 hb1 ?_ sz ?_ fun h' sb T=>U0d (h true h' sb T))
   .split
    .exact f
    .exact SetTable.fits_plain_off f
   .split
    .exact tb
    .exact tb.iC false
  .refine U0 (U0d ?_)
   rw[if_pos rfl]
   exact V2 gw ho hex hd (Rg nd k) hel1 hm1 hb1 f sz tb fun h' sb T=>U0d (h true h' sb T)
end
end SetP
end
section
set_option maxRecDepth 100000
namespace SetP
open PySem PyProof.Rows
theorem Uu:entryFor table "set.update.loop"=some Builtin.«set.update.loop»:=entryFor_of_tree (by kernel_rfl)
theorem Ph:plainId "set.update.loop"=true:=by decide +kernel
def once(ns:List Int):List Int:=ns.foldl Fe []
theorem bK(ns:List Int)(k:Int):once (ns++[k])=Fe (once ns) k:=by unfold once;rw[U64];rfl
theorem HJ:∀(ns:List Int),(once ns).Nodup/\(once ns).length<=ns.length/\∀j,j∈once ns↔j∈ns:=by
 intro ns
 have all:∀(ns ds:List Int),ds.Nodup->(ns.foldl Fe ds).Nodup/\(ns.foldl Fe ds).length<=ds.length+ns.length/\∀j,j∈ns.foldl Fe ds↔j∈ds∨j∈ns:=by
  intro ns
  induction ns with
  |nil=>intro ds h;exact⟨h,by simp,fun j=>by simp⟩
  |cons n r ih =>
   intro ds h
   obtain⟨a,b,c⟩:=ih (Fe ds n) (Rg h n)
   refine⟨a,?_,fun j=>?_⟩
   .have:=cD ds n
    rw[U3g,U0g];omega
   .rw[U3g,c j,Uo,U0k]
    constructor
    .rintro((z|z)|z)
     .exact .inl z
     .exact .inr (.inl z)
     .exact .inr (.inr z)
    .rintro(z|z|z)
     .exact .inl (.inl z)
     .exact .inl (.inr z)
     .exact .inr z
 obtain⟨a,b,c⟩:=all ns [] List.nodup_nil
 exact⟨a,by rw[U1b,U4r] at b;exact b,fun j=>by rw[show once ns=ns.foldl Fe [] from rfl,c j];simp⟩
section
variable{prog:Program}{w:World}{A:Around}{E:Value->Shared->Prop}{s:Shared}
theorem cg{R:Result->Shared->Prop}{S I l:Addr}{items:Array Value}{ns:List Int}(hh:A.handled=none)(hi:IntsAre items.toList ns)(hb:items.size+1<scanBound)(hSI:S≠I)(hSl:S≠l)(hIl:I≠l) :
  ∀(k i:Nat)(s:Shared),items.size-i=k->i<=items.size->s.heap.IsListIter I l i->s.heap.IsList l items->SetT prog w s.heap S (once (ns.take i)) ->
   (∀h' tk,(∀b o,b≠S->b≠I->s.heap.get? b=some o->h'.get? b=some o)->SetT prog w h' S (once ns)->R (.ok (.ret .none)) { s with heap:=h',toks:=tk }) ->
   codeAny (model prog w) A (.builtin "set.update.loop" ⟨[.ref S,.ref I],[]⟩) R s:=by
 have hlen:items.size=ns.length:=by have:=hi.length;simpa using this
 intro k
 induction k with
 |zero =>
  intro i s hk hi' it il T hR
  have e:i=items.size:=by omega
  subst e
  refine codeAny_builtin Uu ?_
  rw[U3a Ph _]
  show wpAny _ A.in1 (pyNext (.ref I) >>= _) _ _ s
  refine U0 (wpAny_pyNext_list_end hh it il (by simp) fun h' eb=>?_)
  show wpAny _ A.in1 (ret U2f) _ _ _
  refine U0d (hR h' s.toks (fun b o _ hbI q=>eb b o hbI q) ?_)
  rw[U2l (by omega)] at T
  exact T.sameBut fun o q=>eb S o hSI q
 |succ k ih =>
  intro i s hk hi' it il T hR
  have hlt:i<items.size:=by omega
  refine codeAny_builtin Uu ?_
  rw[U3a Ph _]
  show wpAny _ A.in1 (pyNext (.ref I) >>= _) _ _ s
  refine U0 (wpAny_pyNext_list_item it il (x:=items[i]) (by simp[hlt]) fun h1 it1 sb1=>?_)
  have hn:i<ns.length:=by omega
  obtain⟨t0,hv⟩:∃t0,items[i]=.int ns[i] t0:=by
   have all:∀{vs:List Value} {ms:List Int},IntsAre vs ms->∀(j:Nat)(h1:j<vs.length)(h2:j<ms.length),∃t0,vs[j]=.int ms[j] t0:=by
    intro vs ms r
    induction r with
    |nil=>intro j h1;simp at h1
    |cons n t _ ih=>intro j h1 h2;cases j with
     |zero=>exact⟨t,rfl⟩
     |succ j=>exact ih j (by simpa using h1) (by simpa using h2)
   have q:=all hi i (by simpa using hlt) hn
   simpa using q
  rw[hv]
  show wpAny _ A.in1 (holding [U6e ns[i] t0] (setAdd S (.int ns[i] t0)) >>= _) _ _ _
  have T1:SetT prog w h1 S (once (ns.take i)):=T.sameBut fun o q=>(sb1.2 S hSI).trans q
  have il1:h1.IsList l items:=by
   obtain⟨o,ho,r⟩:=il
   exact⟨o,(sb1.2 l hIl.symm).trans ho,r⟩
  refine U0 (U2n ?_)
  unfold setAdd
  refine U2n (U0 ((intKind prog w).pyHash (k:=ns[i]) (intKind_is _ _ _ _) ?_))
  have room:(once (ns.take i)).length+1<scanBound:=by
   have q:=(HJ (ns.take i)).2.1
   rw[U1l] at q
   omega
  refine Y8 (s:={ s with heap:=h1,toks:=s.toks+1 }) T1 room fun b h2 sb2 T2=>?_
  have T2':SetT prog w h2 S (once (ns.take (i+1))):=by
   rw[List.take_succ_eq_append_getElem hn,bK];exact T2
  refine U0d ⟨plainId_quiet Ph _,ih (i+1) _ (by omega) hlt ?_ ?_ T2' fun h' tk hk' T'=>?_⟩
  .obtain⟨o,ho,r⟩:=it1
   exact⟨o,(sb2.2 I hSI.symm).trans ho,r⟩
  .obtain⟨o,ho,r⟩:=il1
   exact⟨o,(sb2.2 l hSl.symm).trans ho,r⟩
  .exact hR h' tk (fun c o hcS hcI q=>hk' c o hcS hcI ((sb2.2 c hcS).trans ((sb1.2 c hcI).trans q))) T'
theorem qu(a:Value){Q₁:Value->Shared->Prop}
  (h:Q₁ (.ref s.heap.objs.size) { s with heap:=s.heap.push { cls:=.type "set",dict:=none,data:=.set #[] 0 (.fresh 0 0 (MF w)) } }) :
  codeAny (model prog w) A (.call (.builtin "set.__new__") ⟨[.type "set",a],[]⟩) (wants Q₁ E) s:=by
 refine codeAny_of_tree ?_
 have hck:checkBuiltinCall "set.__new__" ⟨[.type "set",a],[]⟩=pure ():=by kernel_rfl
 show wpAny _ A.in1 (checkBuiltinCall "set.__new__" ⟨[.type "set",a],[]⟩ >>= fun _=>again (.builtin "set.__new__" ⟨[.type "set",a],[]⟩)) _ _ s
 rw[hck]
 refine U0 (U0d (U0d ⟨plainId_quiet F.plain_set_new _,codeAny_builtin F.entry_set_new ?_⟩))
 rw[U3a F.plain_set_new _]
 have hsub:=sub_set_self
 unfold Builtin.«set.__new__» Builtin.Frozenset.newClass
 obtain⟨hp,g,d,tk,os⟩:=s
 dsimp only
 wp_walk
 refine U4s (U0d ?_)
 simp only[newObj]
 exact U0 (wpAny_alloc (U0d (U0d h)))
theorem fC{M:Model}{self a:Value}{Q:Unit->Shared->Prop}(hT:s.TypeIs self "set")(hQ:Q () s):wpAny M A (checkBuiltinCall "set.__init__" ⟨[self,a],[]⟩) Q E s:=by
 simp only[checkBuiltinCall,kind_set_init,split_set_init,sig_set_init]
 refine U0 (U6d hT sub_set_self ?_)
 simp only[U3m,U0w,if_false]
 unfold Bind.checkArgs
 dsimp only
 refine U0 (m:=Bind.printed "set" true _ _) (printed_name (by decide) ?_)
 refine U0 (m:=Bind.printed "*" false _ _) (printed_star (self:=self) rfl hT fun short=>?_)
 have one:(if (U55.self==U55.none)=true then [self,a].length else [self,a].length-1)=1:=by
  have z:(U55.self==U55.none)=false:=by decide
  simp[z]
 rw[one]
 simp only[U1t]
 have z1:(U4j==U4j)=true:=by decide
 have z2:(U4j==U38.posOrKw)=false:=by decide
 have z3:(U4j==U38.varPos)=false:=by decide
 have fine:Bind.check ⟨.positional,"set","*",.self,[⟨"iterable",.posOnly,false⟩]⟩ "set" short 1 []=pure ():=by
  simp[Bind.check,Bind.checkCount,Bind.isPositional,z1,z2,z3]
 rw[fine]
 exact U0d hQ
set_option maxHeartbeats 3200000 in
theorem iR{l:Addr}{items:Array Value}{ns:List Int}{Q:Value->Shared->Prop}(hh:A.handled=none)(hl:s.heap.IsList l items)(hi:IntsAre items.toList ns)(hb:items.size+1<scanBound)
  (h:∀h' tk,(∀b o,s.heap.get? b=some o->h'.get? b=some o)->SetT prog w h' s.heap.objs.size (once ns)->Q (.ref s.heap.objs.size) { s with heap:=h',toks:=tk }) :
  wpAny (model prog w) A (call (.type "set") [.ref l]) Q E s:=by
 have hmade:=U4t.made
 have hsub:=U4t.sub
 have h1:=U4t.notType
 have h2:=U4t.canCreate
 have hct:checkTypeCall "set" ⟨[.ref l],[]⟩=pure ():=by kernel_rfl
 obtain⟨c,tl,hmro⟩:=U4t.mro
 refine wpAny_call (codeAny_of_tree ?_)
 show wpAny _ _ (callAny (.type "set") ⟨[.ref l],[]⟩) _ _ s
 refine U0d ⟨Code.quiet_builtin _ (by decide +kernel),codeAny_builtin F.entry_type_call ?_⟩
 rw[Around.under_plain (weight_type_call_type "set" [.ref l] []) rfl]
 repeat (any_goals (first|assumption|wp_step))
 refine codeAny_mono (qu (.ref l) (E:=E) (Q₁:=fun obj s₁=>obj=.ref s.heap.objs.size/\s₁={ s with heap:=s.heap.push { cls:=.type "set",dict:=none,data:=.set #[] 0 (.fresh 0 0 (MF w)) } }) ⟨rfl,rfl⟩) fun r s₁ hr=>?_
 cases r with
 |error e=>exact hr
 |ok fl =>
  cases fl with
  |ret obj =>
   obtain⟨rfl,rfl⟩:=hr
   generalize hg1:s.heap.push { cls:=.type "set",dict:=none,data:=.set #[] 0 (.fresh 0 0 (MF w)) }=g1
   have e1:g1.get? s.heap.objs.size=some { cls:=.type "set",dict:=none,data:=.set #[] 0 (.fresh 0 0 (MF w)) }:=hg1 ▸ U0r _ rfl
   have k1:∀b o,s.heap.get? b=some o->g1.get? b=some o:=fun b o q=>hg1 ▸ U0c _ q
   have z1:g1.objs.size=s.heap.objs.size+1:=by rw[←hg1,U2h]
   have hT:U5g { s with heap:=g1 } (.ref s.heap.objs.size) "set":=⟨_,e1,rfl⟩
   have hli:=U4t.init.lookup
   have hbi:=U4t.init.bind (.ref s.heap.objs.size)
   repeat (any_goals (first|assumption|wp_step))
   refine codeAny_mono (codeAny_call_builtin (R:=wants (fun r s₂=>r=.none/\∃h' tk,s₂={ s with heap:=h',toks:=tk }/\(∀b o,s.heap.get? b=some o->h'.get? b=some o)/\SetT prog w h' s.heap.objs.size (once ns)) E)
    U4t.init.plain F.entry_set_init (fC hT ?_)) fun r₂ s₂ hr₂=>?_
   .obtain⟨ol,hol,hcl,nl,hdl⟩:=hl
    obtain⟨ocls,odict,odata,oslots⟩:=ol
    simp only at hcl hdl
    subst hcl hdl
    have q1:g1.get? l=some { cls:=.type "list",dict:=odict,data:=.seq items nl,slots:=oslots }:=k1 _ _ hol
    have il:g1.IsList l items:=⟨_,q1,rfl,nl,rfl⟩
    have hlS:l<s.heap.objs.size:=U0i hol
    have hs1:isSubtype (.type "list") (.type "set")=pure false:=by rw[isSubtype_type];kernel_rfl
    have hs2:isSubtype (.type "list") (.type "frozenset")=pure false:=by rw[isSubtype_type];kernel_rfl
    have hs3:(U2r "list"==U2r "dict")=false:=by decide
    unfold Builtin.«set.__init__» noKeywords Builtin.Frozenset.updateFrom
    generalize hPI:pyIter=PI
    wp_walk
    subst hPI
    refine U56 il (U0 (U7r ?_))
    have n1:s.heap.objs.size≠g1.objs.size:=by rw[z1];exact U05 (U7a _)
    have n2:s.heap.objs.size≠l:=U3k hlS
    have n3:g1.objs.size≠l:=by rw[z1];exact U3k (U65 hlS)
    refine cg (l:=l) (items:=items) (by simpa using hh) hi hb n1 n2 n3 (items.size-0) 0 _ (by omega) (U2w _) ⟨_,U0r _ rfl,rfl,rfl⟩ ?_ ?_ ?_
    .obtain⟨o,ho,r⟩:=il
     exact⟨o,U0c _ ho,r⟩
    .refine⟨List.nodup_nil,_,#[],0,_,U0c _ e1,⟨rfl,rfl,rfl⟩,rfl,fun e he=>by simp at he,fun k=>by simp[once],by decide,by rfl,rfl,TabOk.fresh _ _ _⟩
    .intro h' tk hk T
     show wpAny _ _ _ _ _ _
     refine U0d ?_
     show wpAny _ _ (ret U2f) _ _ _
     refine U0d ⟨rfl,h',tk,rfl,fun b o q=>?_,T⟩
     have hb':=U0i q
     exact hk b o (U05 hb') (by rw[z1];exact U05 (U65 hb')) (U0c _ (k1 b o q))
   .cases r₂ with
    |error e=>exact hr₂
    |ok fl₂ =>
     cases fl₂ with
     |ret r =>
      obtain⟨rfl,h',tk,rfl,hk,T⟩:=hr₂
      repeat (any_goals (first|assumption|wp_step))
      exact h h' tk hk T
     |_=>exact hr₂.elim
  |_=>exact hr.elim
end
end SetP
end
section
set_option maxRecDepth 100000
namespace SetP
open PySem PyProof.Rows
theorem O9{α:Type}:∀(l:List α)(i:Nat)(h:i<l.length),(l[i]::l.eraseIdx i).Perm l
 |[],i,h=>absurd h (by simp)
 |x::r,0,_=>U45 _
 |x::r,i+1,h=>(U2j.swap x _ _).trans (U7s x (O9 r i (by simpa using h)))
theorem Qk:∀{ds ns:List Int},ds.Nodup->(∀k,k∈ds->k∈ns)->ns.length<=ds.length->ns.Perm ds
 |[],ns,_,_,h=>by
  have e:ns=[]:=U3e.mp (by simpa using h)
  rw[e]
 |d::r,ns,nd,sub,h=>by
  have hd:d∈ns:=sub d U0s
  have p:=List.perm_cons_erase hd
  obtain⟨h1,h2⟩:=U5q.mp nd
  refine p.trans (U7s d (Qk h2 (fun k hk=>?_) ?_))
  .have hne:k≠d:=fun e=>h1 (e ▸ hk)
   exact(List.mem_erase_of_ne hne).mpr (sub k (U0p _ hk))
  .rw[List.length_erase_of_mem hd]
   rw[U0g] at h
   omega
theorem Ye{α:Type}(next:Nat->Nat):∀(fuel k:Nat)(left:List α)(out:Array α),left.length=fuel->(pickOrder.go next fuel k left out).toList.Perm (out.toList++left)
 |0,_,left,out,h=>by
  have e:left=[]:=U3e.mp h
  subst e
  unfold pickOrder.go
  simp
 |fuel+1,k,left,out,h=>by
  unfold pickOrder.go
  have hi:next k%left.length<left.length:=Nat.mod_lt _ (by omega)
  rw[U02 hi]
  dsimp only
  refine(Ye next fuel (k+1) _ _ (by rw[List.length_eraseIdx_of_lt hi];omega)).trans ?_
  rw[U63,U0x]
  exact U12 _ (O9 _ _ hi)
theorem bH{α:Type}(next:Nat->Nat)(xs:Array α):(pickOrder next xs).toList.Perm xs.toList:=by
 unfold pickOrder
 simpa using Ye next xs.size 0 xs.toList #[] (by simp)
section
variable{M:Model}{A:Around}{E:Value->Shared->Prop}
theorem Zq{src:Source}{n:Nat}{s:Shared}{Q:Nat->Shared->Prop}(hn:n≠0)(h:∀i d',i<n->Q i { s with drawn:=d' }):wpAny M A (choose src n) Q E s :=
 fun _ _ _=>⟨hn,h _ _ (Nat.mod_lt _ (Nat.pos_of_ne_zero hn))⟩
theorem Od{α:Type}:∀(n:Nat)(xs:List α)(s:Shared)(Q:List α->Shared->Prop),xs.length<=n->(∀ys d',ys.Perm xs->Q ys { s with drawn:=d' })->wpAny M A (drawOrder n xs) Q E s
 |0,xs,s,Q,h,q=>by
  have e:xs=[]:=U3e.mp (by omega)
  subst e
  unfold drawOrder
  exact U0d (q [] s.drawn (U45 _))
 |n+1,[],s,Q,h,q=>by
  unfold drawOrder
  exact U0d (q [] s.drawn (U45 _))
 |n+1,x::xs,s,Q,h,q=>by
  unfold drawOrder
  refine U0 (Zq (by simp) fun i d' hi=>?_)
  rw[U02 hi]
  dsimp only
  refine U0 (Od n _ _ _ (by rw[List.length_eraseIdx_of_lt hi];simp at h ⊢;omega) fun ys d'' p=>U0d (q _ d'' ?_))
  exact(U7s _ p).trans (O9 _ _ hi)
end
theorem En:Slot "set_iterator" "__next__" "set_iterator.__next__" :=
 .of (owner:="set_iterator") (n:="__next__") (by rw[typeLookup_type,builtinLookup_eq_fast];kernel_rfl) (by decide +kernel) (by decide +kernel) (by decide +kernel)
  (by first|exact .inl (by decide +kernel)|exact .inr (by decide +kernel)) (by rw[isSubtype_type];kernel_rfl)
theorem M8:entryFor table "set_iterator.__next__"=some Builtin.«set_iterator.__next__»:=entryFor_of_tree (by kernel_rfl)
theorem Ml(a:Value):argsOk "set_iterator.__next__" ⟨[a],[]⟩:=by unfold argsOk;kernel_rfl
theorem Ue:entryFor table "set.__iter__"=some Builtin.«frozenset.__iter__» :=
 entryFor_alias (id':="frozenset.__iter__") (by kernel_rfl) rfl (by decide +kernel) (by kernel_rfl)
def J7(first:Value)(i:Nat)(S:Addr)(n ep:Nat):Obj:={ cls:=.type "set_iterator",data:=.fields #[first,.int i 0,.ref S,.int n 0,.int ep 0] }
inductive Road (w:World) (h:Heap) (es:Array (Int×Value)) (ep:Nat) (t:SetTable) (S it T:Addr) (vs:List Value) (i:Nat):Value->Prop
 |text (k:Int):w.params.followText "set-order"=true->(∀(j:Nat),vs[j]?=((pickOrder (w.params.setOrder S ep) es)[j]?).map fun(e:Int×Value)=>e.2)->Road w h es ep t S it T vs i (.int k 0)
 |plain:w.params.followText "set-order"=false->(!t.plain&&decide (es.size>1))=false->TabOk true t->(∀(j:Nat),vs[j]?=(es[j]?).map fun(e:Int×Value)=>e.2)->Road w h es ep t S it T vs i (.int ((if i=0 then 0 else t.place.getD (i-1) 0+1:Nat):Int) 0)
 |drawn (ps:List Nat):T≠it->h.get? T=some { cls:=.type "tuple",data:=.seq (ps.map fun(p:Nat)=>rawInt p).toArray 0 }->(∀p∈ps,p<es.size)->(∀(j:Nat),vs[j]?=(ps[j]?).bind fun p=>(es[p]?).map fun(e:Int×Value)=>e.2)->Road w h es ep t S it T vs i (.ref T)
structure KN(w:World)(h:Heap)(it S T:Addr)(vs:List Value)(i:Nat):Prop where
 ne:it≠S
 ex:∃o es ep t first,h.get? S=some o/\o.data=.set es ep t/\t.fits es.size=true/\vs.length=es.size/\h.get? it=some (J7 first i S es.size ep)/\Road w h es ep t S it T vs i first
section
variable{prog:Program}{w:World}{A:Around}{E:Value->Shared->Prop}{s:Shared}
theorem KN.keep{h h':Heap}{it S T:Addr}{vs:List Value}{i:Nat}(x:KN w h it S T vs i)(k:∀b∈[it,S,T],∀o,h.get? b=some o->h'.get? b=some o):KN w h' it S T vs i:=by
 obtain⟨ne,o,es,ep,t,first,a,b,c,d,e,r⟩:=x
 refine⟨ne,o,es,ep,t,first,k S (by simp) _ a,b,c,d,k it (by simp) _ e,?_⟩
 cases r with
 |text k1 z1 z2=>exact .text k1 z1 z2
 |plain z1 z2 z3 z4=>exact .plain z1 z2 z3 z4
 |drawn ps z1 z2 z3 z4=>exact .drawn ps z1 (k T (by simp) _ z2) z3 z4
theorem aO{S:Addr}{ds:List Int}{Q:Value->Shared->Prop}(hS:SetT prog w s.heap S ds)
  (h:∀h' d' it T vs,(∀b o,s.heap.get? b=some o->h'.get? b=some o)->s.heap.objs.size<=it->(T=S∨s.heap.objs.size<=T)->KN w h' it S T vs 0->(∃ns,IntsAre vs ns/\ns.Perm ds)->Q (.ref it) { s with heap:=h',drawn:=d' }) :
  wpAny (model prog w) A (pyIter (.ref S)) Q E s:=by
 obtain⟨nd,o,es,ep,t,ho,hex,hd,hel,hm,hb,hf,hn,ht⟩:=hS
 have hT:s.TypeIs (.ref S) "set":=⟨o,ho,hex.1⟩
 have hlt:=U0i ho
 -- the members as ints
 have intsV:∀(l:List (Int×Value)),ElemsOf (intKind prog w) l->∃ns,IntsAre (l.map (·.2)) ns/\∀k,k∈ns↔∃e∈l,(intKind prog w).is k e.2=true:=by
  intro l
  induction l with
  |nil=>intro _;exact⟨[],.nil,fun k=>by simp⟩
  |cons e r ih =>
   intro he
   obtain⟨ns,a,b⟩:=ih he.tail
   obtain⟨⟨k0,hk0,_⟩,_⟩:=he.head
   obtain⟨t0,e0⟩:=Value.isInt_shape (show Value.isInt k0 e.2=true from hk0)
   refine⟨k0::ns,by rw[U0o,e0];exact .cons k0 t0 a,fun k=>?_⟩
   rw[U0k,b k]
   constructor
   .rintro(z|⟨e',he',q⟩)
    .exact⟨e,U0s,by rw[z];exact hk0⟩
    .exact⟨e',U0p _ he',q⟩
   .rintro⟨e',he',q⟩
    rcases U0k.mp he' with z|z
    .subst z;exact .inl ((intKind prog w).inj _ _ _ q hk0)
    .exact .inr ⟨e',z,q⟩
 -- any order of the members is the ints in some order
 have fin:∀(l:List (Int×Value)),l.Perm es.toList->∃ns,IntsAre (l.map (·.2)) ns/\ns.Perm ds:=fun l p=>by
  obtain⟨ns,a,b⟩:=intsV l (hel.perm p)
  refine⟨ns,a,?_⟩
  have hsub:ds ⊆ ns:=fun k hk=>(b k).mpr (by
   obtain⟨e,he,q⟩:=(hm k).mp (decide_eq_true hk)
   exact⟨e,p.mem_iff.mpr he,q⟩)
  have hle:ns.length<=ds.length:=by
   have q1:(l.map (·.2)).length=ns.length:=U5y a
   rw[U0e] at q1
   exact U72 (by rw[←q1,p.length_eq,U0f,hn])
  exact Qk nd (fun k hk=>hsub hk) hle
 refine wpAny_pyIter_slot hT F.slot_set_iter (U2i F.slot_set_iter hT Ue ?_ (F.args_set_iter_1 _))
 unfold Builtin.«frozenset.__iter__» Builtin.Frozenset.slot0 slotArgs
 simp only[U7b,U3m,U0w,↓reduceIte,bind_assoc,U1b,bne_self_eq_false]
 unfold Builtin.Frozenset.addrOf Builtin.Frozenset.sizeOf
 refine U0 (U0d ?_)
 try dsimp only
 refine U0 (U0d ?_)
 refine U0 (U0 (U6m ho hd hf (U0d ?_)))
 unfold setDrawn setsByText
 simp only[bind_assoc]
 refine U0 (U4k ho hd hf ?_)
 refine U0 (U4s ?_)
 refine U0 (U0d (U0 (U0d ?_)))
 show wpAny (model prog w) A.in1 (if (!(w.params.followText "set-order")&&(!t.plain&&decide (es.size>1)))=true then _ else _) _ _ s
 have len2:∀(ps:List Nat),ps.Perm (U22 es.size)->((ps.filterMap fun p=>es[p]?)).Perm es.toList/\∀(j:Nat),((ps.filterMap fun p=>es[p]?).map (·.2))[j]?=(ps[j]?).bind fun p=>(es[p]?).map fun(e:Int×Value)=>e.2:=fun ps p=>by
  refine⟨(p.filterMap _).trans (by rw[filterMap_getElem?_range]),?_⟩
  have all:∀(ps:List Nat),(∀p∈ps,p<es.size)->∀(j:Nat),((ps.filterMap fun p=>es[p]?).map (·.2))[j]?=(ps[j]?).bind fun p=>(es[p]?).map fun(e:Int×Value)=>e.2:=by
   intro ps
   induction ps with
   |nil=>intro _ j;simp
   |cons q r ih =>
    intro hq j
    have hq':q<es.size:=hq q U0s
    rw[List.filterMap_cons_some (b:=es[q]) (by simp[hq'])]
    cases j with
    |zero=>simp[hq']
    |succ j=>simpa using ih (fun p hp=>hq p (U0p _ hp)) j
  exact all ps fun q hq=>U4o.mp (p.mem_iff.mp hq)
 split
 .rename_i hc
  refine U0 (Od es.size (U22 es.size) s _ (by simp) fun ps d' p=>?_)
  obtain⟨p1,p2⟩:=len2 ps p
  refine U0 (U1p ?_ ?_)
  .refine U0 (wpAny_setEpoch_of (U0c _ ho) hd hf ?_)
   refine U0 (U1p (U0d ⟨_,rfl,"set_iterator",_,⟨_,U0r _ rfl,rfl⟩,En.lookup,?_⟩))
   refine h _ d' _ s.heap.objs.size ((ps.filterMap fun p=>es[p]?).map (·.2)) (fun b o' e=>U0c _ (U0c _ e)) ?_ (.inr (U0h _)) ?_ (fin _ p1)
   .show s.heap.objs.size<=(s.heap.push _).objs.size
    rw[U2h];exact U5j _
   .refine⟨?_,o,es,ep,t,_,U0c _ (U0c _ ho),hd,hf,?_,U0r _ rfl,.drawn ps ?_ (U0c _ (U0r _ rfl)) (fun q hq=>U4o.mp (p.mem_iff.mp hq)) p2⟩
    .show(s.heap.push _).objs.size≠S
     rw[U2h];exact U3k (U65 hlt)
    .rw[U0e,p1.length_eq,U0f]
    .show s.heap.objs.size≠(s.heap.push _).objs.size
     rw[U2h];exact U05 (U7a _)
  .show _<=sizeLine
   rw[U0l,U0e,p.length_eq,U66]
   exact fits_of_scanBound hb
 .rename_i hc
  refine U0 (U0d (U0 (wpAny_setEpoch_of ho hd hf ?_)))
  refine U0 (U1p (U0d ⟨_,rfl,"set_iterator",_,⟨_,U0r _ rfl,rfl⟩,En.lookup,?_⟩))
  by_cases ht':w.params.followText "set-order"=true
  .have pp:=bH (w.params.setOrder S ep) es
   have q:=h (s.heap.push (J7 (rawInt 0) 0 S es.size ep)) s.drawn s.heap.objs.size S ((pickOrder (w.params.setOrder S ep) es).toList.map (·.2)) (fun b o' e=>U0c _ e) (U0h _) (.inl rfl)
    ⟨U3k hlt,o,es,ep,t,_,U0c _ ho,hd,hf,by rw[U0e,pp.length_eq,U0f],U0r _ rfl,.text 0 ht' fun j=>by rw[U01,U18]⟩ (fin _ pp)
   exact q
  .have hf':w.params.followText "set-order"=false:=by simpa using ht'
   have hL:MF w=true:=by show(!_)=true;rw[hf'];rfl
   rw[hL] at ht
   have hdr:(!t.plain&&decide (es.size>1))=false:=by
    rw[hf'] at hc
    simpa using hc
   have q:=h (s.heap.push (J7 (rawInt 0) 0 S es.size ep)) s.drawn s.heap.objs.size S (es.toList.map (·.2)) (fun b o' e=>U0c _ e) (U0h _) (.inl rfl)
    ⟨U3k hlt,o,es,ep,t,_,U0c _ ho,hd,hf,by rw[U0e,U0f],U0r _ rfl,.plain hf' hdr ht fun j=>by rw[U01,U18]⟩ (fin _ (U45 _))
   exact q
end
end SetP
end
section
set_option maxRecDepth 100000
namespace SetP
open PySem PyProof.Rows
section
variable{prog:Program}{w:World}{A:Around}{E:Value->Shared->Prop}{s:Shared}
theorem SX(first x:Value)(i:Nat)(S:Addr)(n ep:Nat):U33 (·.setIfInBounds 0 x) (J7 first i S n ep)=J7 x i S n ep:=rfl
theorem Zk(first:Value)(i:Nat)(S:Addr)(n ep:Nat):U33 (·.setIfInBounds 1 (rawInt ((i:Int)+1))) (J7 first i S n ep)=J7 first (i+1) S n ep:=rfl
theorem Px{S:Addr}{o:Obj}{es:Array (Int×Value)}{ep slot given:Nat}{t:SetTable}{Q:Option (Value×Nat)->Shared->Prop}(ho:s.heap.get? S=some o)(hd:o.data=.set es ep t)(hf:t.fits es.size=true)
  (z:w.params.followText "set-order"=true) (h:Q (((pickOrder (w.params.setOrder S ep) es)[given]?).map fun e=>(e.2,slot)) s):wpAny (model prog w) A (setNext S slot given ep) Q E s:=by
 unfold setNext
 refine U0 (U4k ho hd hf ?_)
 unfold setsByText
 refine U0 (U0 (U4s (U0d ?_)))
 show wpAny _ _ (if (w.params.followText "set-order")=true then _ else _) _ _ s
 rw[if_pos z]
 show wpAny _ _ (if (ep != ep)=true then _ else _) _ _ s
 rw[if_neg (by simp)]
 unfold setWalk
 refine U0 (U0 (U4k ho hd hf ?_))
 unfold setsByText
 refine U0 (U0 (U4s (U0d ?_)))
 show wpAny _ _ (if (w.params.followText "set-order")=true then _ else _) _ _ s
 rw[if_pos z]
 exact U0 (U4s (U0d (U0d h)))
theorem Ob{S:Addr}{o:Obj}{es:Array (Int×Value)}{ep slot given:Nat}{t:SetTable}{Q:Option (Value×Nat)->Shared->Prop}(ho:s.heap.get? S=some o)(hd:o.data=.set es ep t)(hf:t.fits es.size=true)
  (z:w.params.followText "set-order"=false) (z2:(!t.plain&&decide (es.size>1))=false) (z3:t.led=true)
  (h:Q (match es[U1j t.place slot]?,t.place[U1j t.place slot]? with|some (_,x),some j=>some (x,j+1)|_,_=>none) s):wpAny (model prog w) A (setNext S slot given ep) Q E s:=by
 unfold setNext
 refine U0 (U4k ho hd hf ?_)
 unfold setsByText
 refine U0 (U0 (U4s (U0d ?_)))
 show wpAny _ _ (if (w.params.followText "set-order")=true then _ else _) _ _ s
 rw[if_neg (by rw[z];simp)]
 show wpAny _ _ (if (!t.plain&&decide (es.size>1))=true then _ else _) _ _ s
 rw[if_neg (by rw[z2];simp)]
 refine U0 ?_
 show wpAny _ _ (if (!t.led&&!es.isEmpty)=true then _ else _) _ _ s
 rw[if_neg (by rw[z3];simp)]
 exact U0d (U0d h)
theorem Zd{it S T:Addr}{vs:List Value}{i:Nat}{v:Value}{Q:Option Value->Shared->Prop}(x:KN w s.heap it S T vs i)(hv:vs[i]?=some v)
  (h:∀h',U07 it s.heap h'->KN w h' it S T vs (i+1)->Q (some v) { s with heap:=h' }):wpAny (model prog w) A (pyNext (.ref it)) Q E s:=by
 obtain⟨ne,o,es,ep,t,first,ho,hd,hf,hl,hi,r⟩:=x
 have hT:s.TypeIs (.ref it) "set_iterator":=⟨_,hi,rfl⟩
 unfold pyNext
 refine U0 (U6b (wpAny_callSpecial?_slot (name:=U3x "__next__") hT En (U2i En hT M8 ?_ (Ml _))))
 unfold Builtin.«set_iterator.__next__» slotArgs
 simp only[U7b,U3m,U0w,↓reduceIte,U1b,bne_self_eq_false]
 refine U0 (U0d ?_)
 refine U0 (wpAny_fieldsOf hi rfl ?_)
 show wpAny _ _ (setEntries S >>= _) _ _ s
 refine U0 (U6m ho hd hf ?_)
 show wpAny _ _ (if ((es.size:Int) != (es.size:Int))=true then _ else _) _ _ s
 rw[if_neg (by simp)]
 have lt:i<vs.length:=(U0n.mp hv).1
 have upd1:∀{h1:Heap} {f1:Value},h1.get? it=some (J7 f1 i S es.size ep)->(h1.update it (U33 (·.setIfInBounds 1 (rawInt ((i:Int)+1))))).get? it=some (J7 f1 (i+1) S es.size ep):=fun {h1 f1} e=>by
  rw[←Zk f1 i S es.size ep];exact U2o _ e rfl
 have upd0:∀{h1:Heap} {f1 y:Value},h1.get? it=some (J7 f1 i S es.size ep)->(h1.update it (U33 (·.setIfInBounds 0 y))).get? it=some (J7 y i S es.size ep):=fun {h1 f1 y} e=>by
  rw[←SX f1 y i S es.size ep];exact U2o _ e rfl
 cases r with
 |text k z1 z2 =>
  show wpAny _ _ (setNext S k.toNat i ep >>= _) _ _ s
  refine U0 (Px ho hd hf z1 ?_)
  have q:=z2 i
  rw[hv] at q
  cases hp:(pickOrder (w.params.setOrder S ep) es)[i]? with
  |none=>rw[hp] at q;cases q
  |some e =>
   rw[hp] at q
   have q':v=e.2:=U0u q
   subst q'
   refine U0 (U21 hi rfl (by simp) (U0 (U21 (upd0 hi) rfl (by simp) (U0d ⟨_,rfl,U0d (h _ ((U14 ..).trans (U14 ..)) ⟨ne,o,es,ep,t,_,?_,hd,hf,hl,upd1 (upd0 hi),.text _ z1 z2⟩)⟩))))
   rw[U1a _ _ ne,U1a _ _ ne];exact ho
 |plain z1 z2 z3 z4 =>
  show wpAny _ _ (setNext S (Int.toNat ((if i=0 then 0 else t.place.getD (i-1) 0+1:Nat):Int)) i ep >>= _) _ _ s
  rw[U4l]
  refine U0 (Ob ho hd hf z1 z2 z3.2 ?_)
  have psz:t.place.size=es.size:=by
   have q:=hf
   simp only[SetTable.fits,U0m,beq_iff_eq] at q
   exact q.1
  have hb:U1j t.place (if i=0 then 0 else t.place.getD (i-1) 0+1)=i:=by
   cases i with
   |zero=>rw[if_pos rfl];exact Sy z3.1
   |succ i=>rw[if_neg (by omega)];exact TF z3.1 (by omega)
  rw[hb]
  have q:=z4 i
  rw[hv] at q
  have hie:i<es.size:=by omega
  have hip:i<t.place.size:=by omega
  rw[U1o hie] at q ⊢
  rw[U1o hip]
  have q':v=es[i].2:=U0u q
  subst q'
  show wpAny _ _ (setField (.ref it) 0 (rawInt ((t.place[i]+1:Nat):Int)) >>= _) _ _ s
  refine U0 (U21 hi rfl (by simp) (U0 (U21 (upd0 hi) rfl (by simp) (U0d ⟨_,rfl,U0d (h _ ((U14 ..).trans (U14 ..)) ⟨ne,o,es,ep,t,_,?_,hd,hf,hl,upd1 (upd0 hi),?_⟩)⟩))))
  .rw[U1a _ _ ne,U1a _ _ ne];exact ho
  .have e:t.place[i]=t.place.getD (i+1-1) 0:=by
    rw[U2x,Nat.add_sub_cancel,U1o hip];rfl
   have rr:∀hp:Heap,Road w hp es ep t S it T vs (i+1) (.int ((t.place[i]+1:Nat):Int) 0):=fun hp=>by
    have r1:Road w hp es ep t S it T vs (i+1) (.int ((if i+1=0 then 0 else t.place.getD (i+1-1) 0+1:Nat):Int) 0):=.plain z1 z2 z3 z4
    rw[if_neg (by omega),←e] at r1
    exact r1
   exact rr _
 |drawn ps z1 z2 z3 z4 =>
  show wpAny _ _ (seqItems? (.ref T) >>= _) _ _ s
  refine U0 (U3b z2 rfl ?_)
  have q:=z4 i
  rw[hv] at q
  cases hp:ps[i]? with
  |none=>rw[hp] at q;cases q
  |some p =>
   rw[hp] at q
   have hlt:p<es.size:=z3 p (U2c hp)
   have q2:some v=(es[p]?).map fun(e:Int×Value)=>e.2:=q
   rw[U1o hlt] at q2
   have q':v=es[p].2:=U0u q2
   subst q'
   have hg:((ps.map fun(p:Nat)=>rawInt p).toArray)[i]?=some (rawInt p):=by
    rw[U6f,U01,hp];rfl
   show wpAny _ _ (match ((ps.map fun(p:Nat)=>rawInt p).toArray)[(i:Int).toNat]? with|some (.int place _)=>_|some _=>_|none=>_) _ _ s
   rw[U4l,hg]
   show wpAny _ _ (setNextDrawn S p ep >>= _) _ _ s
   unfold setNextDrawn
   refine U0 (U0 (U4k ho hd hf ?_))
   show wpAny _ _ (if (ep != ep)=true then _ else _) _ _ s
   rw[if_neg (by simp)]
   dsimp only
   rw[U1o hlt]
   refine U0d ?_
   refine U0 (U21 hi rfl (by simp) (U0d ⟨_,rfl,U0d (h _ (U14 ..) ⟨ne,o,es,ep,t,_,?_,hd,hf,hl,upd1 hi,.drawn ps z1 ?_ z3 z4⟩)⟩))
   .rw[U1a _ _ ne];exact ho
   .rw[U1a _ _ z1.symm];exact z2
theorem bL{it S T:Addr}{vs:List Value}{Q:Option Value->Shared->Prop}(hh:A.handled=none)(x:KN w s.heap it S T vs vs.length)
  (h:∀h',U6q it s.heap h'->Q none { s with heap:=h' }):wpAny (model prog w) A (pyNext (.ref it)) Q E s:=by
 obtain⟨ne,o,es,ep,t,first,ho,hd,hf,hl,hi,r⟩:=x
 have hT:s.TypeIs (.ref it) "set_iterator":=⟨_,hi,rfl⟩
 unfold pyNext
 refine U0 (U6b (wpAny_callSpecial?_slot (name:=U3x "__next__") hT En (U2i En hT M8 ?_ (Ml _))))
 unfold Builtin.«set_iterator.__next__» slotArgs
 simp only[U7b,U3m,U0w,↓reduceIte,U1b,bne_self_eq_false]
 refine U0 (U0d ?_)
 refine U0 (wpAny_fieldsOf hi rfl ?_)
 show wpAny _ _ (setEntries S >>= _) _ _ s
 refine U0 (U6m ho hd hf ?_)
 show wpAny _ _ (if ((es.size:Int) != (es.size:Int))=true then _ else _) _ _ s
 rw[if_neg (by simp)]
 have stop:∀{s1:Shared},U6q it s.heap s1.heap->s1={ s with heap:=s1.heap }->wpAny (model prog w) A.in1 (newExc (.type "StopIteration") [] >>= fun e=>(raiseNew e:Sem Fin)) (fun fin s'=>∃v,fin=.done (.ret v)/\wpAny (model prog w) A (pure (some v)) Q E s')
   (fun e s'=>wpAny (model prog w) A (do if ←isInstance e (.type "StopIteration") then pure none else throw e) Q E s') s1:=fun {s1} eb es1=>by
  refine U0 ?_
  simp only[newExc,newTuple]
  refine U0 (U1p ?_ (by size_fits))
  refine U0 (m:=firstArgMember _ _) (wpAny_of_eq (a:=U2f) (by first|rfl|(simp only[firstArgMember];rfl)) ?_)
  refine U1p ?_ (by size_fits)
  simp only[raiseNew]
  refine U0 (wpAny_handled ?_)
  rw[show A.in1.handled=none from hh]
  refine U0 (U0d (wpAny_throw ?_))
  refine U0 (U6d (T:="StopIteration") (b:=true) ⟨_,U0r _ rfl,rfl⟩ isSubtype_stop ?_)
  rw[if_pos rfl,es1]
  exact U0d (h _ ((eb.push _).push _))
 cases r with
 |text k z1 z2 =>
  show wpAny _ _ (setNext S k.toNat vs.length ep >>= _) _ _ s
  refine U0 (Px ho hd hf z1 ?_)
  have q:=z2 vs.length
  rw[U46 (U0h _)] at q
  cases hp:(pickOrder (w.params.setOrder S ep) es)[vs.length]? with
  |some e=>rw[hp] at q;cases q
  |none =>
   refine U0 (U21 hi rfl (by simp) ?_)
   exact stop (s1:={ s with heap:=s.heap.update it (U33 (·.setIfInBounds 2 U2f)) }) (U14 ..).extBut rfl
 |plain z1 z2 z3 z4 =>
  generalize hsl:(if vs.length=0 then 0 else t.place.getD (vs.length-1) 0+1:Nat)=sl
  show wpAny _ _ (setNext S (Int.toNat (sl:Int)) vs.length ep >>= _) _ _ s
  rw[U4l]
  refine U0 (Ob ho hd hf z1 z2 z3.2 ?_)
  have psz:t.place.size=es.size:=by
   have q:=hf
   simp only[SetTable.fits,U0m,beq_iff_eq] at q
   exact q.1
  have hb:U1j t.place sl=vs.length:=by
   rw[←hsl]
   generalize vs.length=n at hl
   cases n with
   |zero=>rw[if_pos rfl];exact Sy z3.1
   |succ i=>rw[if_neg (by omega)];exact TF z3.1 (by omega)
  rw[hb,hl,Array.getElem?_eq_none (U0h _)]
  refine U0 (U21 hi rfl (by simp) ?_)
  exact stop (s1:={ s with heap:=s.heap.update it (U33 (·.setIfInBounds 2 U2f)) }) (U14 ..).extBut rfl
 |drawn ps z1 z2 z3 z4 =>
  show wpAny _ _ (seqItems? (.ref T) >>= _) _ _ s
  refine U0 (U3b z2 rfl ?_)
  have q:=z4 vs.length
  rw[U46 (U0h _)] at q
  have hg:((ps.map fun(p:Nat)=>rawInt p).toArray)[vs.length]?=none:=by
   rw[U6f,U01]
   cases hp:ps[vs.length]? with
   |none=>rfl
   |some p =>
    rw[hp] at q
    have hlt:p<es.size:=z3 p (U2c hp)
    have q2:none=(es[p]?).map fun(e:Int×Value)=>e.2:=q
    rw[U1o hlt] at q2
    cases q2
  show wpAny _ _ (match ((ps.map fun(p:Nat)=>rawInt p).toArray)[(vs.length:Int).toNat]? with|some (.int place _)=>_|some _=>_|none=>_) _ _ s
  rw[U4l,hg]
  refine U0 (U21 hi rfl (by simp) ?_)
  have e0:(s.heap.update it (U33 (·.setIfInBounds 0 (rawInt 0)))).get? it=some (J7 (rawInt 0) vs.length S es.size ep):=by
   rw[←SX (.ref T) (rawInt 0) vs.length S es.size ep];exact U2o _ hi rfl
  refine U0 (U21 e0 rfl (by simp) ?_)
  exact stop (s1:={ s with heap:=(s.heap.update it (U33 (·.setIfInBounds 0 (rawInt 0)))).update it (U33 (·.setIfInBounds 2 U2f)) }) ((U14 ..).trans (U14 ..)).extBut rfl
end
end SetP
end
section
set_option maxRecDepth 100000
namespace SetP
open PySem PyProof.Rows
theorem Mj:Slot "set_iterator" "__iter__" "set_iterator.__iter__" :=
 .of (owner:="set_iterator") (n:="__iter__") (by rw[typeLookup_type,builtinLookup_eq_fast];kernel_rfl) (by decide +kernel) (by decide +kernel) (by decide +kernel)
  (by first|exact .inl (by decide +kernel)|exact .inr (by decide +kernel)) (by rw[isSubtype_type];kernel_rfl)
theorem Ri:entryFor table "set_iterator.__iter__"=some Builtin.«dict_keyiterator.__iter__» :=
 entryFor_alias (id':="dict_keyiterator.__iter__") (by kernel_rfl) rfl (by decide +kernel) (by kernel_rfl)
theorem TV(a:Value):argsOk "set_iterator.__iter__" ⟨[a],[]⟩:=by unfold argsOk;kernel_rfl
theorem Zh:typeLookup (.type "set") "__len__"=pure (some (.builtin "set.__len__")):=F.slot_set_len.lookup
section
variable{prog:Program}{w:World}{A:Around}{E:Value->Shared->Prop}{s:Shared}
theorem YC(hh:A.handled=none)(it S T:Addr)(vs:List Value):Walks prog w A it [it,S,T] [it] vs.length (fun i v=>vs[i]?=some v) (fun i h=>KN w h it S T vs i) where
 sub:=fun b hb=>by simp at hb;subst hb;simp
 frame:=fun i h h' x k=>x.keep fun b hb o e=>k b hb o e
 item:=fun i s Q E hi x hQ=>by
  have hv:vs[i]?=some vs[i]:=U02 hi
  exact Zd x hv fun h' sb x'=>hQ _ h' s.toks hv x' fun b o hb e=>(sb.2 b (by simpa using hb)).trans e
 done:=fun s Q E x hQ=>bL hh x fun h' eb=>hQ h' s.toks fun b o hb e=>eb b o (by simpa using hb) e
 self:=fun i s Q E x hQ=>by
  obtain⟨_,o,es,ep,t,first,_,_,_,_,hi,_⟩:=x
  have hT:s.TypeIs (.ref it) "set_iterator":=⟨_,hi,rfl⟩
  refine wpAny_pyIter_slot hT Mj (U2i Mj hT Ri ?_ (TV _))
  show wpAny _ _ (ret (.ref it)) _ _ s
  exact U0d ⟨_,rfl,"set_iterator",_,hT,En.lookup,hQ⟩
theorem aR{S:Addr}{Q:Bool->Shared->Prop}(hT:s.TypeIs (.ref S) "set")(h:Q false s):wpAny (model prog w) A (Builtin.List.listLengthHint (.ref S)) Q E s:=by
 unfold Builtin.List.listLengthHint
 refine U0 (wpAny_specialOf hT Zh ?_)
 have hs:splitId "set.__len__"=some ("set","__len__"):=by decide +kernel
 dsimp only
 rw[hs]
 dsimp only
 refine U0 (U6d hT sub_set_self ?_)
 simp only[U3m,U0w,if_false]
 refine U0 (U44 hT ?_)
 exact U0d h
theorem bZ{S:Addr}{ds:List Int}{Q:List Value->Shared->Prop}(hh:A.handled=none)(hS:SetT prog w s.heap S ds)(h64:ds.length<64)
  (h:∀h' d' tk vs ns,(∀b o,s.heap.get? b=some o->h'.get? b=some o)->IntsAre vs ns->ns.Perm ds->Q vs { s with heap:=h',drawn:=d',toks:=tk }):wpAny (model prog w) A (collect (.ref S)) Q E s:=by
 obtain⟨o,ho,hex⟩:∃o,s.heap.get? S=some o/\o.ExactSet:=by
  obtain⟨_,o,es,ep,t,ho,hex,_⟩:=hS
  exact⟨o,ho,hex⟩
 have hlt:=U0i ho
 unfold collect
 refine U0 (U7r (codeAny_builtin F.entry_proto_collect ?_))
 rw[U3a F.plain_proto_collect _]
 show wpAny _ A.in1 (newList [] >>= fun l=>again (.builtin "list.__iadd__" ⟨[l,.ref S],[]⟩)) _ _ s
 refine U0 (U1p (U0d ⟨plainId_quiet U57 _,codeAny_builtin F.entry_list_iadd ?_⟩))
 rw[U3a U57 _]
 generalize hL:s.heap.objs.size=L
 generalize hg:s.heap.push { cls:=.type "list",dict:=none,data:=.seq ([]:List Value).toArray }=g
 have k1:∀b o,s.heap.get? b=some o->g.get? b=some o:=fun b o e=>hg ▸ U0c _ e
 have hLg:g.get? L=some { cls:=.type "list",data:=.seq ([]:List Value).toArray }:=hg ▸ hL ▸ U0r _ rfl
 have hsz:g.objs.size=L+1:=by rw[←hg,U2h,hL]
 have hLS:L≠S:=by rw[←hL];exact U3k hlt
 have hT:U5g { s with heap:=g } (.ref S) "set":=⟨o,k1 _ _ ho,hex.1⟩
 show wpAny _ A.in1 (U39 (.ref L) (.ref S) (.ref L)) _ _ _
 unfold U39
 refine U0 (U44 hT ?_)
 have h1:U4u (.ref L) (.ref S)=false:=by simp[U4u,hLS]
 have h2:(U2r "set"==U2r "list")=false:=by decide
 have h3:(U2r "set"==U2r "tuple")=false:=by decide
 simp only[h1,h2,h3,U7x,U0w,if_false]
 refine U0 (aO (s:={ s with heap:=g }) (hS.sameBut fun o e=>k1 _ _ e) fun g2 d2 it T vs k2 hit hTT x ⟨ns,hi,hp⟩=>?_)
 have hT2:U5g { s with heap:=g2,drawn:=d2 } (.ref S) "set":=⟨o,k2 _ _ (k1 _ _ ho),hex.1⟩
 refine U0 (U2n (aR hT2 ?_))
 have hit':L<it:=by
  have hit2:g.objs.size<=it:=hit
  omega
 show wpAny _ A.in1 (rule "list.extend.makes-room" >>= fun _=>Builtin.List.listTouch (.ref L) >>= fun _=>again (.builtin "list.extend.loop" ⟨[.ref L,.ref it,.ref L],[]⟩)) _ _ _
 refine U0 (U3 (U0 ?_))
 have e1:=k2 _ _ hLg
 show wpAny _ A.in1 (updateSeq L (·.push .none) >>= fun _=>updateSeq L (·.pop)) _ _ _
 refine U0 (U6i e1 rfl ?_)
 have e2:=U2o (U19 (·.push U2f)) e1 rfl
 refine U6i e2 rfl ?_
 have e3:=U2o (U19 (·.pop)) e2 rfl
 have oth:∀b o,b≠L->g2.get? b=some o->((g2.update L (U19 (·.push U2f))).update L (U19 (·.pop))).get? b=some o:=fun b o hb e=>(U1a _ _ (U2g hb)).trans ((U1a _ _ (U2g hb)).trans e)
 have hvn:vs.length=ns.length:=U5y hi
 have hv64:vs.length<64:=by rw[hvn,hp.length_eq];exact h64
 have hz:vs.length<=sizeLine:=by rw[sizeLine_eq];omega
 have nin:L ∉ [it,S,T]:=fun z=>by
  simp only[U0k,U1m,or_false] at z
  rcases z with z|z|z
  .omega
  .exact hLS z
  .rcases hTT with q|q
   .exact hLS (z.trans q)
   .have q':g.objs.size<=T:=q
    omega
 have W:=(YC (prog:=prog) (w:=w) (A:=A.in1) (by simpa using hh) it S T vs).toS
 have x3:KN w ((g2.update L (U19 (·.push U2f))).update L (U19 (·.pop))) it S T vs 0:=x.keep fun b hb o e=>oth b o (fun z=>nin (z ▸ hb)) e
 refine U0d ⟨plainId_quiet F.plain_extend_loop _,codeAny_extend_loopS W hz L nin _ vs.length 0 _ _ _ (by omega) (U2w _) x3 e3 (ItemsOf.nil _) fun s' acc c hm hS' hacc=>?_⟩
 show wpAny _ A (load L >>= _) _ _ s'
 refine U0 (U7v hS' ?_)
 have eacc:acc.toList=vs:=by
  apply U58
  intro j
  rw[U18]
  cases hj:acc[j]? with
  |some v=>exact(hacc.2 j v hj).symm
  |none =>
   have:acc.size<=j:=by simpa using hj
   rw[hacc.1] at this
   exact(U46 this).symm
 obtain⟨h',g',d',tk,os'⟩:=s'
 have q1:g'=s.gens:=hm.gens
 have q2:os'=s.os:=hm.os
 subst q1 q2
 refine U0d ?_
 show Q acc.toList _
 rw[eacc]
 refine h h' d' tk vs ns (fun b o e=>hm.heap b o ?_ (oth b o ?_ (k2 _ _ (k1 _ _ e)))) hi hp
 .have hb:b<L:=by rw[←hL];exact U0i e
  intro z
  rcases U0k.mp z with z|z
  .exact absurd z (U05 hb)
  .exact absurd (U1k.mp z) (U05 (U3w hb hit'))
 .exact U05 (by rw[←hL];exact U0i e)
theorem Mi{h:Heap}{a:Addr}{vs:List Value}{n:Nat}{out:Array Value}(ho:h.get? a=some (seqObj "list" vs.toArray n)):∃n',(sortedHeap h a vs out).get? a=some (seqObj "list" out n'):=by
 unfold sortedHeap
 have q1:=get?_update_seq ho (fun _=>#[])
 exact⟨_,get?_update_seq (U0c _ (U0c _ q1)) (fun _=>out)⟩
theorem Lz{h:Heap}{a b:Addr}{vs:List Value}{out:Array Value}{o:Obj}(hb:b≠a)(ho:h.get? b=some o):(sortedHeap h a vs out).get? b=some o:=by
 unfold sortedHeap
 rw[U1a _ _ (U2g hb)]
 exact U0c _ (U0c _ ((U1a _ _ (U2g hb)).trans ho))
theorem dH{S:Addr}{ds:List Int}{Q:Value->Shared->Prop}(hh:A.handled=none)(hS:SetT prog w s.heap S ds)(h64:ds.length<64)
  (h:∀h' d' tk l vs ns n,(∀b o,s.heap.get? b=some o->h'.get? b=some o)->(∀b o,s.heap.get? b=some o->b<l)->h'.get? l=some { cls:=.type "list",data:=.seq vs n }->IntsAre vs.toList ns->ns.Perm ds->ns.Pairwise (·<=·)->Q (.ref l) { s with heap:=h',drawn:=d',toks:=tk }) :
  wpAny (model prog w) A (call (.builtin "sorted") [.ref S]) Q E s:=by
 refine Calls.call_function_entry kind_sorted plain_sorted entry_sorted (args_sorted1 _) ?_
 unfold Builtin.«sorted»
 refine U0 (m:=checkCount "sorted" 1 1 _) (U0d ?_)
 refine U0 (bZ (A:=A.in1) (by simpa using hh) hS h64 fun h1 d1 t1 vs ns k1 hi hp=>?_)
 have hv64:vs.length<64:=by rw[show vs.length=ns.length from U5y hi,hp.length_eq];exact h64
 refine U0 (wpAny_newList ?_)
 have hoL:(h1.push (seqObj "list" vs.toArray 0)).get? h1.objs.size=some (seqObj "list" vs.toArray 0):=U0r _ rfl
 show wpAny _ _ _ _ _ { s with heap:=h1.push (seqObj "list" vs.toArray 0),drawn:=d1,toks:=t1 }
 refine U0 (U2n (U2i slot_list_sort ⟨_,hoL,rfl⟩ entry_list_sort (list_sort_tree hoL hi hv64 fun out ns' a1 a2 a3=>⟨_,rfl,?_⟩) (args_list_sort _)))
 refine U0d ⟨_,rfl,?_⟩
 have old:∀b o,s.heap.get? b=some o->b≠h1.objs.size:=fun b o e=>U05 (U0i (k1 b o e))
 obtain⟨n',e'⟩:=Mi (out:=out) hoL
 refine h _ d1 t1 h1.objs.size out ns' n' (fun b o e=>Lz (old b o e) (U0c _ (k1 b o e))) (fun b o e=>U0i (k1 b o e)) e' a1 (a2.trans hp) a3
end
end SetP
end
section
namespace L2
open PySem PySem.Spec PyProof.Rows
def PTs(X:Cx)(ifs:List Expr)(t:TT):Prop :=
 ∀(pins:List (Addr×Obj))(s:Shared)(σ:St)(H:Hp)(Q:Bool->Hp->Prop),Inv X pins σ H s->t σ H Q ->
  wpAny (model X.prog X.w) X.A (forIn ifs true fun c r=>if r=true then do let ok ←isTrue c X.env (eval c X.env);pure (U4e ok) else pure (U4e r)) (TP X pins σ Q) X.xe s
def Jj:TT:=fun _ H Q=>Q true H
theorem iu{X:Cx}:PTs X [] Jj:=fun _ _ _ H _ I h=>U0d ⟨H,I,h⟩
theorem ig{X:Cx}{c:Expr}{t:TT}(h:PT X c t):PTs X [c] t:=by
 intro pins s σ H Q I hw
 rw[U5r]
 simp only[if_true]
 refine U0 (U0 (thn (h pins s σ H Q I hw) fun b s1 hb=>U0d ?_))
 show wpAny _ _ (pure b) _ _ _
 exact U0d hb
def Low(k:Nat)(g:TG):Prop:=∀x σ H Q,g x σ H Q->g x σ H fun σ' H'=>Q σ' H'/\σ'.length=σ.length/\∀j,k<=j->σ'[j]?=σ[j]?
def Vk(k:Nat)(g:TGs):Prop:=∀x σ H Q,g x σ H Q->g x σ H fun σ' H'=>Q σ' H'/\σ'.length=σ.length/\∀j,k<=j->σ'[j]?=σ[j]?
theorem eH{k i:Nat}(h:i<k):Low k (Vb i):=fun x σ H Q q =>
 ⟨q,U4w ..,fun j hj=>U28 (by omega)⟩
theorem jP{k:Nat}:Vk k cO:=fun _ _ _ _ ⟨e,q⟩=>⟨e,q,rfl,fun _ _=>rfl⟩
theorem eN{k:Nat}{t:TG}{u:TGs}(ht:Low k t)(hu:Vk k u)(mono:∀x σ H Q Q',(∀σ' H',Q σ' H'->Q' σ' H')->t x σ H Q->t x σ H Q')
  (monoU:∀x σ H Q Q',(∀σ' H',Q σ' H'->Q' σ' H')->u x σ H Q->u x σ H Q'):Vk k (ZK t u):=fun x σ H Q ⟨v,r,e,q⟩=>by
 refine⟨v,r,e,mono v σ H _ _ (fun σ1 H1 z=>?_) (ht v σ H _ q)⟩
 obtain⟨z1,z2,z3⟩:=z
 exact monoU r σ1 H1 _ _ (fun σ2 H2 y=>⟨y.1,y.2.1.trans z2,fun j hj=>(y.2.2 j hj).trans (z3 j hj)⟩) (hu r σ1 H1 _ z1)
theorem jO{K:U0b}{n k:Nat}{t:TGs}(h:Vk k t):Low k (cM K n t):=fun x σ H Q ⟨a,xs,e,hs,hl,q⟩=>⟨a,xs,e,hs,hl,h xs σ H Q q⟩
def compLook(sc:Scope)(N N2:List Str)(k:Nat)(caps:List Nat)(scope:Scope):Bool :=
 decide (scope.kind=.function)&&scope.names.all (fun y=>decide (y.2≠.cell)||decide (scope.names.lookup y.1=some .cell))&&scope.names.all (fun y=>decide (y.2≠.local)||decide (scope.names.lookup y.1=some .local)) &&
 scope.names.all (fun y=>decide (y.2≠.free)||decide (sc.names.lookup y.1=some .cell)||decide (sc.names.lookup y.1=some .free))&&decide N2.Nodup&&decide (N2.length=k+caps.length) &&
 (U22 caps.length).all fun j=>match caps[j]?,N2[k+j]? with
  |some i,some y=>decide (N[i]?=some y)&&decide (scope.names.lookup y=some .free)
  |_,_=>false
structure Eu(sc:Scope)(N N2:List Str)(k:Nat)(caps:List Nat)(scope:Scope):Prop where
 kind:scope.kind=.function
 one:∀y∈scope.names,y.2=.cell->scope.names.lookup y.1=some .cell
 loc:∀y∈scope.names,y.2=.local->scope.names.lookup y.1=some .local
 free:∀y∈scope.names,y.2=.free->sc.names.lookup y.1=some .cell∨sc.names.lookup y.1=some .free
 nd:N2.Nodup
 len:N2.length=k+caps.length
 cap:∀j i,caps[j]?=some i->∃y,N2[k+j]?=some y/\N[i]?=some y/\scope.names.lookup y=some .free
theorem Eu.of{sc:Scope}{N N2:List Str}{k:Nat}{caps:List Nat}{scope:Scope}(h:compLook sc N N2 k caps scope=true):Eu sc N N2 k caps scope:=by
 unfold compLook at h
 simp only[U0m,U15,U7j,decide_eq_true_eq] at h
 obtain⟨⟨⟨⟨⟨⟨h1,h2⟩,h3⟩,h4⟩,h5⟩,h6⟩,h7⟩:=h
 refine⟨h1,fun y hy e=>?_,fun y hy e=>?_,fun y hy e=>?_,h5,h6,fun j i e=>?_⟩
 .rcases h2 y hy with z|z
  .exact absurd e z
  .exact z
 .rcases h3 y hy with z|z
  .exact absurd e z
  .exact z
 .rcases h4 y hy with (z|z)|z
  .exact absurd e z
  .exact .inl z
  .exact .inr z
 .have hj:j∈U22 caps.length:=U4o.mpr (U0n.mp e).1
  have q:=h7 j hj
  rw[e] at q
  cases hy:N2[k+j]? with
  |none=>rw[hy] at q;exact absurd q (by simp)
  |some y =>
   rw[hy] at q
   simp only[U0m,decide_eq_true_eq] at q
   exact⟨y,rfl,q.1,q.2⟩
theorem Py{env:Env}:∀{names:List (Str×NameKind)} {x:Str},names.lookup x=some .free ->
  (names.map fun(n,k)=>if (k==U2b&&env.scope.kind==.function&&env.kindOf n==some .cell) then (n,U3n) else (n,k)).lookup x=some .cell ∨
  (names.map fun(n,k)=>if (k==U2b&&env.scope.kind==.function&&env.kindOf n==some .cell) then (n,U3n) else (n,k)).lookup x=some .free
 |[],_,h=>by simp at h
 |(n,k)::r,x,h=>by
  have ih:=@Py env r x
  show U7m x ((if (k==U2b&&env.scope.kind==.function&&env.kindOf n==some .cell)=true then (n,U3n) else (n,k))::_)=_∨U7m x ((if (k==U2b&&env.scope.kind==.function&&env.kindOf n==some .cell)=true then (n,U3n) else (n,k))::_)=_
  cases hx:x==n with
  |true =>
   simp only[U1x,hx] at h
   cases h
   by_cases hc:(U2b==U2b&&env.scope.kind==.function&&env.kindOf n==some .cell)=true
   .rw[if_pos hc];left;simp only[U1x,hx]
   .rw[if_neg hc];right;simp only[U1x,hx]
  |false =>
   simp only[U1x,hx] at h
   by_cases hc:(k==U2b&&env.scope.kind==.function&&env.kindOf n==some .cell)=true
   .rw[if_pos hc];simp only[U1x,hx];exact ih h
   .rw[if_neg hc];simp only[U1x,hx];exact ih h
theorem Pz{env:Env}:∀{names:List (Str×NameKind)} {x:Str},
  ((names.map fun(n,k)=>if (k==U2b&&env.scope.kind==.function&&env.kindOf n==some .cell) then (n,U3n) else (n,k)).lookup x=some .cell ∨
   (names.map fun(n,k)=>if (k==U2b&&env.scope.kind==.function&&env.kindOf n==some .cell) then (n,U3n) else (n,k)).lookup x=some .free)->names.lookup x=some .free∨names.lookup x=some .cell
 |[],_,h=>by simp at h
 |(n,k)::r,x,h=>by
  have ih:=@Pz env r x
  cases hx:x==n with
  |true =>
   simp only[U1x,hx]
   by_cases hf:k=.free
   .rw[hf];exact .inl rfl
   .have hkf:(k==U2b)=false:=by
     cases k<;>first|rfl|exact absurd rfl hf
    simp only[U0o,hkf,U7o,U0w,if_false,U1x,hx] at h
    rcases h with z|z
    .exact .inr z
    .exact absurd (U0u z) hf
  |false =>
   simp only[U1x,hx]
   refine ih ?_
   have h':U7m x ((if (k==U2b&&env.scope.kind==.function&&env.kindOf n==some .cell)=true then (n,U3n) else (n,k))::List.map _ r)=some .cell∨U7m x ((if (k==U2b&&env.scope.kind==.function&&env.kindOf n==some .cell)=true then (n,U3n) else (n,k))::List.map _ r)=some .free:=h
   by_cases hcc:(k==U2b&&env.scope.kind==.function&&env.kindOf n==some .cell)=true
   .rw[if_pos hcc] at h';simp only[U1x,hx] at h';exact h'
   .rw[if_neg hcc] at h';simp only[U1x,hx] at h';exact h'
theorem HW:∀(names:List (Str×NameKind))(n:Nat)(acc:List (Str×Addr)),cellsFrom n names acc=cellsFrom n names []++acc
 |[],_,_=>rfl
 |(x,k)::r,n,acc=>by
  unfold cellsFrom
  split
  .rw[HW r (n+1) ((x,n)::acc),HW r (n+1) [(x,n)],U0x];rfl
  .exact HW r n acc
theorem Kq:∀(names:List (Str×NameKind))(n:Nat){x:Str}{c:Addr},(x,c)∈cellsFrom n names []->(x,U3n)∈names
 |[],_,_,_,h=>by simp[cellsFrom] at h
 |(y,k)::r,n,x,c,h=>by
  unfold cellsFrom at h
  split at h
  .rename_i hk
   rw[HW] at h
   rcases U1h.mp h with z|z
   .exact U0p _ (Kq r (n+1) z)
   .have z':(x,c)=(y,n):=by simpa using z
    have hk':k=.cell:=by simpa using hk
    cases z'
    rw[hk'];exact U0s
  .exact U0p _ (Kq r n h)
theorem Zg{cs ds:List (Str×Addr)}{x:Str}{c:Addr}(h:(cs++ds).lookup x=some c):cs.lookup x=some c∨(cs.lookup x=none/\ds.lookup x=some c):=by
 rw[U4y] at h
 cases e:cs.lookup x with
 |none=>rw[e] at h;exact .inr ⟨rfl,h⟩
 |some d=>rw[e] at h;exact .inl h
theorem Xw{M:Model}{A:Around}{E:Value->Shared->Prop}{s:Shared}{scope:Scope}{globals:Addr}{cl:List (Str×Addr)}{qual:Str}{env:Env}{Q:Env->Shared->Prop}
  (hQ:∀h':Heap,h'.Ns s.heap.objs.size (fun _=>none)->(∀b o,s.heap.get? b=some o->h'.get? b=some o)->CellsOk h' (s.heap.objs.size+1) (cellsFrom (s.heap.objs.size+1) scope.names []) ->
   Q { scope,locals:=s.heap.objs.size,globals,cells:=cellsFrom (s.heap.objs.size+1) scope.names []++cl,qual,func:=none,code:=env.code,frame:=env.frame,builtins:=env.builtins } { s with heap:=h' }) :
  wpAny M A (newFunctionEnv scope globals cl [] qual none .none (some env)) Q E s:=by
 simp only[newFunctionEnv,Option.isSome_some,if_true]
 refine U0 (wpAny_alloc ?_)
 refine U0 (wpAny_layCells _ (fun name kind cells=>by cases hkc:kind==U3n<;>simp[hkc]) _ _ _ _ ?_)
 rw[show({ s with heap:=s.heap.push { cls:=.type "dict",data:=.dict #[] } }:Shared).heap.objs.size=s.heap.objs.size+1 from U2h ..]
 have ok:=cellsFrom_ok scope.names (s.heap.push { cls:=.type "dict",data:=.dict #[] }) (s.heap.objs.size+1) [] ⟨fun _ _ hm=>(nomatch hm),U60⟩ (by rw[U2h];exact U0h _)
 rw[U2h] at ok
 rw[HW]
 refine U0 ?_
 rw[U7t]
 refine U0d (U0d (hQ _ ?_ ?_ ok))
 .exact(Heap.Ns.new s.heap (.type "dict")).keeps (pushCells_keeps _ _)
 .exact fun b o e=>pushCells_keeps _ _ b o (U0c _ e)
theorem Sx{scope:Scope}{env:Env}(h:∀y∈scope.names,y.2=.free->∃c,env.cells.lookup y.1=some c) :
  ∃cl,closureFor scope env=pure cl/\(∀x c,cl.lookup x=some c->env.cells.lookup x=some c)/\∀x,scope.names.lookup x=some .free->∃c,cl.lookup x=some c:=by
 have all:∀(names:List (Str×NameKind))(cs:List (Str×Addr)),(∀y∈names,y.2=.free->∃c,env.cells.lookup y.1=some c)->(∀x c,cs.lookup x=some c->env.cells.lookup x=some c) ->
   ∃cl,(forIn names cs (fun(x:Str×NameKind) (cs:List (Str×Addr))=>(match x with
     |(name,kind)=>if (kind==U2b)=true then (cellOf env name >>= fun a=>pure (U4e ((name,a)::cs))) else pure (U4e cs):Sem (ForInStep (List (Str×Addr)))) ):Sem (List (Str×Addr)))=pure cl /\
    (∀x c,cl.lookup x=some c->env.cells.lookup x=some c)/\(∀x c,cs.lookup x=some c->∃c',cl.lookup x=some c')/\∀x,names.lookup x=some .free->∃c,cl.lookup x=some c:=by
  intro names
  induction names with
  |nil=>intro cs _ hc;exact⟨cs,rfl,hc,fun x c e=>⟨c,e⟩,fun x e=>by simp at e⟩
  |cons y r ih =>
   intro cs hy hc
   obtain⟨n,kd⟩:=y
   by_cases hk:kd=.free
   .subst hk
    obtain⟨c,hcn⟩:=hy (n,.free) U0s rfl
    have hc':∀x c',((n,c)::cs).lookup x=some c'->env.cells.lookup x=some c':=fun x c' e=>by
     rw[U1x] at e
     cases hx:x==n with
     |true =>
      rw[hx] at e
      have hxn:x=n:=by simpa using hx
      rw[hxn,hcn];exact e
     |false=>rw[hx] at e;exact hc x c' e
    obtain⟨cl,e1,e2,e3,e4⟩:=ih ((n,c)::cs) (fun z hz=>hy z (U0p _ hz)) hc'
    refine⟨cl,?_,e2,fun x c' e=>?_,fun x e=>?_⟩
    .rw[U5r]
     have hb:(U2b==U2b)=true:=rfl
     simp only[hb,if_true,cellOf,hcn,pure_bind]
     exact e1
    .by_cases hx:(x==n)=true
     .exact e3 x c (by rw[U1x,hx])
     .have hx':(x==n)=false:=by simpa using hx
      exact e3 x c' (by rw[U1x,hx'];exact e)
    .rw[U1x] at e
     cases hx:x==n with
     |true=>exact e3 x c (by rw[U1x,hx])
     |false=>rw[hx] at e;exact e4 x e
   .have hb:(kd==U2b)=false:=by
     cases kd<;>first|rfl|exact absurd rfl hk
    obtain⟨cl,e1,e2,e3,e4⟩:=ih cs (fun z hz=>hy z (U0p _ hz)) hc
    refine⟨cl,?_,e2,e3,fun x e=>?_⟩
    .rw[U5r]
     simp only[hb,U0w,if_false,pure_bind]
     exact e1
    .rw[U1x] at e
     cases hx:x==n with
     |true=>rw[hx] at e;exact absurd (U0u e) hk
     |false=>rw[hx] at e;exact e4 x e
 obtain⟨cl,e1,e2,_,e4⟩:=all scope.names [] h (fun x c e=>by simp at e)
 refine⟨cl,?_,e2,e4⟩
 unfold closureFor
 rw[←bind_pure (pure cl:Sem _),←e1]
abbrev DP(X:Cx)(N2:List Str)(scope:Scope)(cl:List (Str×Addr))(C:Addr)(s:Shared)(H:Hp)(ex:List Addr):Cx :=
 { X with N:=N2,s₀:=s,H₀:=H,env:=compEnvC scope cl C X.env,outer:=X.stack,ex:=ex,fn:=fun x=>decide (scope.names.lookup x=some .cell),pn:=[],xe:=fun _ _=>False }
def Io(k:Nat)(caps:List Nat)(σ:St):St:=U0q k none++caps.map fun j=>(σ[j]?).join
def rG(J:It)(k:Nat)(caps:List Nat)(σ:St)(g:TG)(tt:TT)(te:TE)(Q:VK)(H1:Hp):Prop:=∃W:Nat->Nat->List V->Hp->Prop,(∃m,W 0 m [] H1)/\∀i m ys H,W i m ys H ->
 (J.stop i H/\∀p,H p=none->Q (.ref p) (upd H p (.lst ys))) ∨
 (J.go i H/\ys.length<sizeLine/\∀x H',J.yld i H x H'->g x (Io k caps σ) H' fun σ2 H2=>tt σ2 H2 fun b H3 =>
  if b=true then te σ2 H3 fun v H4=>∃m',m'<m/\W (i+1) m' (ys++[v]) H4 else ∃m',m'<m/\W (i+1) m' ys H3)
def Z8(k:Nat)(caps:List Nat)(wi:TI)(g:TG)(tt:TT)(te:TE):TE:=fun σ H Q=>wi σ H fun J H1=>rG J k caps σ g tt te Q H1
theorem Yw{k:Nat}{caps:List Nat}{σ:St}{i:Nat}{v:V}(h:(Io k caps σ)[i]?=some (some v)):∃j a,i=k+j/\caps[j]?=some a/\σ[a]?=some (some v):=by
 unfold Io at h
 by_cases hi:i<k
 .rw[U0z (by simpa using hi),U4v,if_pos hi] at h
  cases h
 .rw[U1i (by simpa using hi),U11,U01] at h
  cases e:caps[i-k]? with
  |none=>rw[e] at h;cases h
  |some a =>
   rw[e] at h
   have h':(σ[a]?).join=some v:=U0u h
   refine⟨i-k,a,by omega,e,?_⟩
   cases e2:σ[a]? with
   |none=>rw[e2] at h';cases h'
   |some o =>
    rw[e2] at h'
    cases o with
    |none=>cases h'
    |some v' =>
     have h'':some v'=some v:=h'
     rw[h'']
theorem KH{a b n:Nat}(h1:a<n)(h2:n<=b):a≠b:=by omega
section
variable{X:Cx}{pins:List (Addr×Obj)}{σ:St}
theorem Inv.but{H:Hp}{s:Shared}{C:Addr}{h':Heap}(I:Inv X pins σ H s)(hb:U07 C s.heap h')(hn:H C=none)(hL:C≠X.env.locals)(h1:X.s₀.heap.objs.size<=C)(h2:∀x c,X.env.cells.lookup x=some c->c≠C)(h3:∀p∈X.pn++pins,p.1≠C) :
  Inv X pins σ H { s with heap:=h' }:=I.turned (t':=s.toks) (fun b o hne e=>(hb.2 b hne).trans e) hn hL (.inr h1) h2 h3
theorem Sw{s2:Shared}{H2:Hp}{elt tg iter:Expr}{ifs:List Expr}{scope:Scope}{pos:Pos}{N2:List Str}{k:Nat}{caps:List Nat}{cl:List (Str×Addr)}{g:TG}{tt:TT}{te:TE}{E:Value->Shared->Prop}
  {it:Addr} {fp:List Addr} {tn:Nat->Heap->Prop} {J:It} {RR:Value->Addr->Result->Shared->Prop} {Qe:List V->Hp->Prop} {W:Nat->Nat->List V->Hp->Prop} {m0:Nat}
  (hc:X.calm=true) (hS:Eu X.env.scope X.N N2 k caps scope) (hlow:Low k g)
  (hcl:∀x c,cl.lookup x=some c->X.env.cells.lookup x=some c) (hcf:∀x,scope.names.lookup x=some .free->∃c,cl.lookup x=some c)
  (hb:∀(cl:List (Str×Addr))(C:Addr)(s:Shared)(H:Hp)(ex:List Addr),PG (DP X N2 scope cl C s H ex) tg g/\PTs (DP X N2 scope cl C s H ex) ifs tt/\PE (DP X N2 scope cl C s H ex) elt te)
  (I2:Inv X pins σ H2 s2) (T:Turn X.prog X.w X.K tg J fp it tn) (st2:tn 0 s2.heap) (f2:∀b∈fp,Mt X pins H2 b) (w0:W 0 m0 [] H2)
  (turn:∀i m ys H,W i m ys H->(J.stop i H/\Qe ys H) ∨
   (J.go i H/\ys.length<sizeLine/\∀x H',J.yld i H x H'->g x (Io k caps σ) H' fun σ2 H2=>tt σ2 H2 fun b H3 =>
    if b=true then te σ2 H3 fun v H4=>∃m',m'<m/\W (i+1) m' (ys++[v]) H4 else ∃m',m'<m/\W (i+1) m' ys H3))
  (hRR:∀D C s' H' ys,s2.heap.objs.size<=D->s2.heap.objs.size<=C->C≠D->H' D=none->H' C=none->Inv X pins σ (upd H' D (.lst ys)) s'->(∃m,s'.heap.Ns C m)->Qe ys H'->RR (.ref D) C (.ok .next) s') :
  wpAny (model X.prog X.w) X.A (newList []) (fun acc s₃=>wpAny (model X.prog X.w) X.A (newFunctionEnv scope X.env.globals cl [] X.env.qual none .none (some X.env)) (fun cenv s₄ =>
   codeAny (model X.prog X.w) X.A (.compStart (.ListComp elt [⟨tg,iter,ifs,0⟩] scope pos) 0 (.ref it) acc { cenv with scope:=relabel scope X.env }) (RR acc cenv.locals) s₄) E s₃) E s2:=by
 refine U1p (Xw fun h₁ hns₁ kp cok=>?_)
 dsimp only at hns₁ kp cok ⊢
 generalize hH3:s2.heap.push { cls:=.type "list",dict:=none,data:=.seq ([]:List Value).toArray }=H3 at hns₁ kp cok ⊢
 have hC:H3.objs.size=s2.heap.objs.size+1:=by rw[←hH3,U2h]
 generalize hDD:s2.heap.objs.size=D at hC
 generalize hCC:H3.objs.size=C at hns₁ cok hC ⊢
 have hDC:D≠C:=by omega
 have szD:s2.heap.objs.size<=D:=U72 hDD
 have szC:s2.heap.objs.size<=C:=by rw[hDD,hC];exact U5j _
 have below:∀b o,s2.heap.get? b=some o->b≠C/\b≠D:=fun b o e=>⟨KH (U0i e) szC,KH (U0i e) szD⟩
 have old:∀b o,s2.heap.get? b=some o->h₁.get? b=some o:=fun b o e=>kp b o (hH3 ▸ U0c _ e)
 have hacc:h₁.get? D=some { cls:=.type "list",data:=.seq ([]:List Value).toArray 0 }:=kp _ _ (hH3 ▸ hDD ▸ U0r _ rfl)
 have f2h:∀b∈fp,∃o,s2.heap.get? b=some o:=fun b hbf=>let ⟨o,e,_⟩:=T.obj 0 _ st2 b hbf;⟨o,e⟩
 -- the block's context
 have okc:∀x c,X.env.cells.lookup x=some c->∃o,s2.heap.get? c=some o:=fun x c e=>let ⟨_,o,ho,_⟩:=I2.cell x c e;⟨o,ho⟩
 have oMem:∀x c,(cellsFrom (C+1) scope.names []).lookup x=some c->C+1<=c/\h₁.IsCell c none/\scope.names.lookup x=some .cell:=fun x c e=>by
  have m:=U2q e
  exact⟨(cok.empty x c m).2,(cok.empty x c m).1,hS.one _ (Kq _ _ m) rfl⟩
 have oHas:∀x,scope.names.lookup x=some .cell->∃c,(cellsFrom (C+1) scope.names []).lookup x=some c:=fun x e=>U5s.mp (U6 scope.names (C+1) [] (.inl e))
 have oApart:=cok.apart
 generalize cellsFrom (C+1) scope.names []=own at oMem oHas oApart ⊢
 have hcs:∀x c,(own++cl).lookup x=some c->(C+1<=c/\h₁.IsCell c none/\own.lookup x=some c)∨X.env.cells.lookup x=some c:=fun x c e=>by
  rcases Zg e with z|z
  .exact .inl ⟨(oMem x c z).1,(oMem x c z).2.1,z⟩
  .exact .inr (hcl x c z.2)
 have hlt:∀x c,X.env.cells.lookup x=some c->c<s2.heap.objs.size:=fun x c e=>let ⟨o,ho⟩:=okc x c e;U0i ho
 have OK:(DP X N2 scope (own++cl) C s2 H2 fp).Ok:=by
  refine⟨I2.ok.mod,hS.kind,I2.ok.glob,I2.ok.blt,?_,fun x y c h1 h2=>?_,fun x hx=>?_,fun x c hf h1=>?_,I2.ok.hd,I2.ok.frames,.inl rfl,fun b hbf=>?_,I2.bs,
   U00 I2.ok.bsz I2.sz,fun b o e hbf=>?_,fun b hbf hb'=>?_,I2.stack,I2.YL,I2.Oh⟩
  .exact szC
  .rcases hcs x c h1 with z|z
   .rcases hcs y c h2 with z'|z'
    .exact name_of_addr oApart (U2q z.2.2) (U2q z'.2.2)
    .exact absurd (hlt y c z') (Nat.not_lt.mpr (U00 szC (U00 (U5j _) z.1)))
   .rcases hcs y c h2 with z'|z'
    .exact absurd (hlt x c z) (Nat.not_lt.mpr (U00 szC (U00 (U5j _) z'.1)))
    .exact I2.ok.inj x y c z z'
  .rcases Pz (env:=X.env) hx with z|z
   .obtain⟨c,e⟩:=hcf x z
    show ∃c,(own++cl).lookup x=some c
    rw[U4y]
    cases q:own.lookup x with
    |none=>exact⟨c,e⟩
    |some d=>exact⟨d,rfl⟩
   .obtain⟨c,e⟩:=oHas x z
    exact⟨c,by show(own++cl).lookup x=some c;rw[U4y,e];rfl⟩
  .obtain⟨d,e⟩:=oHas x (of_decide_eq_true hf)
   have h1':(own++cl).lookup x=some c:=h1
   rw[U4y,e] at h1'
   have e2:d=c:=U0u h1'
   rw[←e2]
   exact U00 szC (U00 (U5j _) (oMem x d e).1)
  .obtain⟨o,e⟩:=f2h b hbf
   refine⟨(below b o e).1,fun x c h1=>?_⟩
   rcases hcs x c h1 with z|z
   .exact fun w=>absurd (U0i e) (by rw[←w];exact Nat.not_lt.mpr (U00 szC (U00 (U5j _) z.1)))
   .exact(f2 b hbf).2.2.2.2.1 x c z
  .rcases(f2 b hbf).2.2.2.1 with z|z
   .exact I2.ok.noex b o e z
   .exact absurd (U03 (U0i (I2.ok.bs b o e).1) z) (U4i _)
  .rcases U0k.mp (I2.Ou b hb') with z|z
   .exact(f2 b hbf).2.1 z
   .exact(f2 b hbf).2.2.1 z
 have fresh:∀a,s2.heap.objs.size<=a->H2 a=none:=fun a ha=>I2.hok.fresh ha
 have I4:∀tk,Inv (DP X N2 scope (own++cl) C s2 H2 fp) [(D,{ cls:=.type "list",data:=.seq ([]:List Value).toArray 0 })] (Io k caps σ) H2 { s2 with heap:=h₁,toks:=tk }:=fun tk=>by
  refine⟨OK,rfl,I2.bare,Un.kept old,⟨_,hns₁,fun i x v e1 e2 e3=>?_⟩,fun x c e=>?_,fresh C szC,fun x c e=>?_,fun p hp=>?_,I2.hok.kept old,?_⟩
  .obtain⟨j,a,rfl,ha,hv⟩:=Yw e2
   obtain⟨y,y1,y2,y3⟩:=hS.cap j a ha
   have e1':N2[k+j]?=some x:=e1
   rw[y1] at e1';cases e1'
   have hk:X.env.scope.names.lookup x=some .cell∨X.env.scope.names.lookup x=some .free:=hS.free (x,.free) (U2q y3) rfl
   obtain⟨m',_,hl⟩:=id I2.loc
   obtain⟨u,ru,lk⟩:=hl a x v y2 hv (hk.elim (fun z=>.inr (.inl z)) fun z=>.inr (.inr z))
   refine⟨u,ru,.inr ⟨Py y3,?_⟩⟩
   rcases lk with ⟨kk,_⟩|⟨_,c,e,z⟩
   .have kk':X.env.scope.names.lookup x=some .local:=kk
    rw[kk'] at hk
    rcases hk with z|z<;>cases z
   .obtain⟨c',e'⟩:=hcf x y3
    have e'':=hcl x c' e'
    rw[e] at e'';cases e''
    obtain⟨o,ho,hd⟩:=z
    refine⟨c,?_,o,old c o ho,hd⟩
    show(own++cl).lookup x=some c
    rw[U4y]
    cases q:own.lookup x with
    |none=>exact e'
    |some d=>have:=(oMem x d q).2.2;rw[y3] at this;cases this
  .rcases hcs x c e with z|z
   .exact⟨none,z.2.1⟩
   .obtain⟨v,o,ho,hd⟩:=I2.cell x c z
    exact⟨v,o,old c o ho,hd⟩
  .rcases hcs x c e with z|z
   .exact fresh c (U00 szC (U00 (U5j _) z.1))
   .exact I2.freeC x c z
  .have hp':p∈[(D,({ cls:=.type "list",data:=.seq ([]:List Value).toArray 0 }:Obj))]:=hp
   have e:p=(D,({ cls:=.type "list",data:=.seq ([]:List Value).toArray 0 }:Obj)):=by simpa using hp'
   subst e
   exact⟨hacc,fresh D szD,hDC,fun z=>by
    rcases U0k.mp (I2.Ou D z) with z|z
    .exact KH I2.lt szD z.symm
    .exact I2.cL szD z,fun v z=>by cases z⟩
  .show(Io k caps σ).length=N2.length
   unfold Io
   rw[U0j,U11,U0e,hS.len]
 -- the loop
 obtain⟨hg,ht,he⟩:=hb (own++cl) C s2 H2 fp
 have loop:∀s₃:Shared,Inv (DP X N2 scope (own++cl) C s2 H2 fp) [(D,{ cls:=.type "list",data:=.seq ([]:List Value).toArray 0 })] (Io k caps σ) H2 s₃->tn 0 s₃.heap ->
   codeAny (model X.prog X.w) X.A (.compLoop (.ListComp elt [⟨tg,iter,ifs,0⟩] scope pos) 0 (.ref it) (.ref D) (compEnvC scope (own++cl) C X.env)) (RR (.ref D) C) s₃:=by
  intro s₃ I₃ st₃
  refine codeAny_loop rfl (fun n s'=>∃i ys its nn H',Inv (DP X N2 scope (own++cl) C s2 H2 fp) [(D,{ cls:=.type "list",data:=.seq (its:List Value).toArray nn })] (Io k caps σ) H' s'/\Vals ys its/\tn i s'.heap/\(∀b∈fp,H' b=none)/\ys.length<=sizeLine/\W i n ys H') ?_ m0
   ⟨0,[],[],0,H2,I₃,.nil,st₃,fun b hbf=>(f2 b hbf).1,U2w _,w0⟩
  rintro n s5 ⟨i,ys,its,nn,H5,I5,rv,st5,fr5,hz,w5⟩
  show wpAny _ X.A ((compTurn (.ListComp elt [⟨tg,iter,ifs,0⟩] scope pos) 0 (.ref it) (.ref D) (compEnvC scope (own++cl) C X.env)).onRaise (fun x=>do noteFrame x (compEnvC scope (own++cl) C X.env);theTreesLotGoes x)) _ _ s5
  refine wpAny_noted ?_
  rw[compTurn_list]
  refine U0 (wpAny_standAt (U0 ?_))
  have fpok:∀{H':Hp} {o:Obj},(∀b∈fp,H' b=none)->∀b∈fp,Mt (DP X N2 scope (own++cl) C s2 H2 fp) [(D,o)] H' b:=fun {H' o} hn b hbf=>by
   obtain⟨ob,e⟩:=f2h b hbf
   refine⟨hn b hbf,(below b ob e).1,OK.exfs b hbf,.inl hbf,(OK.exf b hbf).2,fun p hp z=>?_⟩
   have hp':p∈[(D,o)]:=hp
   have e':p=(D,o):=by simpa using hp'
   subst e'
   exact(below b ob e).2 z.symm
  rcases turn i n ys H5 w5 with ⟨stop,qn⟩|⟨go,hz2,step⟩
  .refine thn (T.done (DP X N2 scope (own++cl) C s2 H2 fp) rfl rfl rfl hc i _ s5 _ H5 _ I5 (fpok fr5) st5 stop) fun r s6 ⟨hr,I6⟩=>?_
   subst hr
   refine U0d ?_
   obtain⟨pe,pn,pne,pnf,_⟩:=I6.pin (D,{ cls:=.type "list",data:=.seq its.toArray nn }) (U0y _ (U1k.mpr rfl))
   have hD:H5 D=none:=pn
   have hCn:H5 C=none:=I6.free
   refine hRR D C s6 H5 ys szD szC (U2g hDC) hD hCn ?_ ?_ qn
   .have un:Un (frs X.stack) fp H2 (upd H5 D (.lst ys)) s2.heap s6.heap:=by
     have u:=I6.base
     refine⟨u.keep,u.slot,fun b o e n1 n2=>?_,u.there,fun b xs e=>?_,fun b o u' e=>?_,fun b ps e=>?_,fun n=>by rw[Bo (U05 (U03 I2.cQ szD))];exact u.sy n⟩
     .rw[Bo (below b o e).2];exact u.free b o e n1 n2
     .rw[Bo (DN (u.tups b xs e) hD)];exact u.tups b xs e
     .rw[Bo (DN (u.frzs b o u' e) hD)];exact u.frzs b o u' e
     .obtain⟨more,q⟩:=u.tbls b ps e
      exact⟨more,by rw[Bo (DN q hD)];exact q⟩
    refine I2.call' I6.os un (fun b u e=>?_) I6.bare (fun b hbf=>⟨(f2 b hbf).2.2.2.1,(f2 b hbf).2.1,(f2 b hbf).2.2.2.2.1,(f2 b hbf).2.2.2.2.2⟩)
    by_cases hbd:b=D
    .subst hbd
     rw[Bv] at e;cases e
     exact⟨hz,its,nn,rv,pe⟩
    .rw[Bo hbd] at e
     exact(I6.hok b u e).stay (fun _ _ _ q=>q) (fun c q=>by rw[Bo (DN q hD)];exact q) fun c xs q=>by rw[Bo (DN q hD)];exact q
   .obtain⟨m,hn,_⟩:=I6.loc
    exact⟨m,hn⟩
  .refine thn (T.item (DP X N2 scope (own++cl) C s2 H2 fp) rfl rfl rfl hc i _ s5 _ H5 _ I5 (fpok fr5) st5 go) fun r s6 ⟨u,hr,h6⟩=>?_
   subst hr
   refine U0 (thn h6 fun _ s7 ⟨x,H7,I7,r7,y7,st7,fr7⟩=>?_)
   have I7':=I7.pinned (fpok fr7) (T.obj _ _ st7)
   refine U0 (U5b (hg _ s7 _ H7 x u _ I7' r7 (hlow _ _ _ _ (step x H7 y7))) (fun _ s8 ⟨σ8,H8,I8,q8,ql,qk⟩=>?_) fun _ _ z=>z.elim)
   have wk:∀{pl:List (Addr×Obj)} {H9:Hp} {s9:Shared},Inv (DP X N2 scope (own++cl) C s2 H2 fp) pl σ8 H9 s9->Inv (DP X N2 scope (own++cl) C s2 H2 fp) pl (Io k caps σ) H9 s9:=fun {pl H9 s9} I9 =>
    I9.weak ql.symm fun i v e=>by
     obtain⟨j,a,rfl,_,_⟩:=Yw e
     rw[qk (k+j) (U5c _ _)];exact e
   have pinD:∀{pl:List (Addr×Obj)} {σ9:St} {H9:Hp} {s9:Shared},Inv (DP X N2 scope (own++cl) C s2 H2 fp) (((D,({ cls:=.type "list",data:=.seq its.toArray nn }:Obj))::[])++pl) σ9 H9 s9->s9.heap.get? D=some { cls:=.type "list",data:=.seq its.toArray nn }/\H9 D=none:=fun {pl σ9 H9 s9} I9=>by
    obtain⟨e1,e2,_⟩:=I9.pin (D,_) (U0y _ (U2y _ (U1k.mpr rfl)))
    exact⟨e1,e2⟩
   have stn:∀{pl:List (Addr×Obj)} {σ9:St} {H9:Hp} {s9:Shared},Inv (DP X N2 scope (own++cl) C s2 H2 fp) (pl++Kc fp s7.heap) σ9 H9 s9->tn (i+1) s9.heap/\∀b∈fp,H9 b=none:=fun {pl σ9 H9 s9} I9=>by
    refine⟨T.keep _ _ _ st7 fun b hbf o e=>(I9.pin (b,o) (U0y _ (U0y _ (Kw hbf e)))).1,fun b hbf=>?_⟩
    obtain⟨o,e,d⟩:=T.obj _ _ st7 b hbf
    exact(I9.pin (b,o) (U0y _ (U0y _ (Kw hbf e)))).2.1
   refine U0 (U5b (ht _ s8 σ8 H8 _ I8 q8) (fun ok s9 ⟨H9,I9,q9⟩=>?_) fun _ _ z=>z.elim)
   cases ok with
   |false =>
    obtain⟨m',hm,w9⟩:=(by simpa using q9:∃m',m'<n/\W (i+1) m' ys H9)
    refine U0d ⟨rfl,m',hm,i+1,ys,its,nn,H9,wk I9.Nr,rv,(stn I9).1,(stn I9).2,hz,w9⟩
   |true =>
    have q9':te σ8 H9 fun v H4=>∃m',m'<n/\W (i+1) m' (ys++[v]) H4:=by simpa using q9
    refine U0 (U0 (U5b (he _ s9 σ8 H9 _ I9 q9') (fun y s10 ⟨v,H10,I10,r10,q10⟩=>U0 ?_) fun _ _ z=>z.elim))
    obtain⟨m',hm,w10⟩:=q10
    obtain⟨eD,nD⟩:=pinD I10
    have hl:=rv.length
    refine call_meets F.slot_list_append ⟨_,eD,rfl⟩ F.entry_list_append (F.args_list_append_2 _ _) (PySem.list_append D its.toArray nn y (by rw[U0l];omega)) ⟨eD,?_⟩
    refine U0d (U0d ⟨rfl,m',hm,?_⟩)
    obtain⟨n2,qD⟩:∃n2,(s10.heap.update D (U19 fun z=>z.push y)).get? D=some { cls:=.type "list",data:=.seq (its++[y]).toArray n2 }:=by
     have q0:=PySem.IsL.update eD (fun z=>z.push y)
     have hf:its.toArray.push y=(its++[y]).toArray:=by simp
     rw[hf] at q0
     exact⟨_,q0⟩
    have J0:Inv (DP X N2 scope (own++cl) C s2 H2 fp) (Kc fp s7.heap) (Io k caps σ) H10 s10:=wk (I10.QH fun p hp=>I10.pin p (U0y _ (U0y _ hp)))
    have J1:Inv (DP X N2 scope (own++cl) C s2 H2 fp) (Kc fp s7.heap) (Io k caps σ) H10 { s10 with heap:=s10.heap.update D (U19 fun z=>z.push y),toks:=s10.toks }:=by
     refine J0.turned (fun b o hne e=>(U1a s10.heap _ (U2g hne)).trans e) nD hDC (.inr szD) (fun x c e z=>?_) fun p hp z=>?_
     .rcases hcs x c e with y|y
      .have:=y.1
       rw[z] at this
       omega
      .obtain⟨o,ho⟩:=okc x c y
       exact(below c o ho).2 z
     .have hp':p∈Kc fp s7.heap:=hp
      obtain⟨ob,e⟩:=f2h p.1 (Um hp').1
      exact(below p.1 ob e).2 z
    have J2:Inv (DP X N2 scope (own++cl) C s2 H2 fp) [(D,{ cls:=.type "list",data:=.seq (its++[y]).toArray n2 })] (Io k caps σ) H10 { s10 with heap:=s10.heap.update D (U19 fun z=>z.push y),toks:=s10.toks }:=by
     refine J1.QH fun p hp=>?_
     have e:p=(D,{ cls:=.type "list",data:=.seq (its++[y]).toArray n2 }):=U1k.mp hp
     subst e
     exact⟨qD,nD,hDC,fun z=>by
      rcases U0k.mp (I2.Ou D z) with z|z
      .exact KH I2.lt szD z.symm
      .exact I2.cL szD z,fun v z=>by cases z⟩
    refine⟨i+1,ys++[v],its++[y],_,H10,J2,rv.append (.cons r10 .nil),?_,(stn I10).2,?_,w10⟩
    .refine T.keep _ _ _ (stn I10).1 fun b hbf o e=>?_
     obtain⟨ob,e'⟩:=f2h b hbf
     exact(U1a s10.heap _ (U2g (below b ob e').2)).trans e
    .rw[U0j,U3s];omega
 have st1:tn 0 h₁:=T.keep _ _ _ st2 fun b hbf o e=>old b o e
 exact codeAny_compStart_list (loop _ (I4 _) st1) (T.self X.A 0 _ _ _ st1 (loop _ (I4 _) st1))
theorem jB{elt tg iter:Expr}{ifs:List Expr}{scope:Scope}{pos:Pos}{N2:List Str}{k:Nat}{caps:List Nat}{wi:TI}{g:TG}{tt:TT}{te:TE}
  (hc:X.calm=true) (hS:Eu X.env.scope X.N N2 k caps scope) (hlow:Low k g) (hi:PI X tg iter wi)
  (hb:∀(cl:List (Str×Addr))(C:Addr)(s:Shared)(H:Hp)(ex:List Addr),PG (DP X N2 scope cl C s H ex) tg g/\PTs (DP X N2 scope cl C s H ex) ifs tt/\PE (DP X N2 scope cl C s H ex) elt te)
  (hs:∀x,foldedSetIterable iter X.env x=pure x:=by intro _;rfl):PE X (.ListComp elt [⟨tg,iter,ifs,0⟩] scope pos) (Z8 k caps wi g tt te):=by
 intro pins s σ H Q I h
 rw[eval_ListComp]
 obtain⟨cl,hcl0,hcl,hcf⟩:=Sx (scope:=scope) (env:=X.env) fun y hy e=>I.ok.has y.1 (hS.free y hy e)
 refine wpAny_comprehension_free (use:=none) rfl hs hcl0 hS.kind hS.loc ?_
 refine thn (hi pins s σ H _ I h) fun v s1 h1=>thn h1 fun itv s2 h2=>?_
 obtain⟨it,fp,tn,J,H2,e,I2,T,st2,f2,W,⟨m0,w0⟩,turn⟩:=h2
 subst e
 refine Sw (RR:=fun acc C=>compPost (model X.prog X.w) X.A X.xe none (EP X pins σ Q) acc C) (Qe:=fun ys H=>∀p,H p=none->Q (.ref p) (upd H p (.lst ys))) hc hS hlow hcl hcf hb I2 T st2 f2 w0 turn ?_
 intro D C s' H' ys hD hC hDC nD nC I' hn q
 obtain⟨m,hn⟩:=hn
 refine⟨m,hn,fun h' hsb=>⟨.ref D,_,?_,rfl,q D nD⟩⟩
 refine I'.but hsb (by rw[Bo hDC];exact nC) (fun z=>?_) (U00 I2.sz hC) (fun x c e z=>?_) fun p hp z=>?_
 .exact KH I2.lt hC z.symm
 .obtain⟨v,o,ho,_⟩:=I2.cell x c e
  exact KH (U0i ho) hC z
 .exact KH (U0i (I2.pin p hp).1) hC z
def qJ(i:Nat)(t:TE):TS:=fun D σ H=>t σ H fun v H1=>D.nx (σ.set i (some v)) H1
theorem j4{elt tg iter:Expr}{ifs:List Expr}{scope:Scope}{pos py spos:Pos}{N2:List Str}{k i:Nat}{y:Str}{caps:List Nat}{wi:TI}{g:TG}{tt:TT}{te:TE}
  (hc:X.calm=true) (hN:X.N.Nodup) (hi':X.N[i]?=some y) (hS:Eu X.env.scope X.N N2 k caps scope) (hlow:Low k g) (hi:PI X tg iter wi)
  (hb:∀(cl:List (Str×Addr))(C:Addr)(s:Shared)(H:Hp)(ex:List Addr),PG (DP X N2 scope cl C s H ex) tg g/\PTs (DP X N2 scope cl C s H ex) ifs tt/\PE (DP X N2 scope cl C s H ex) elt te)
  (hx:X.env.scope.names.lookup y=some .local:=by rfl) (hsw:swapsWith (.ListComp elt [⟨tg,iter,ifs,0⟩] scope pos) (some (.Name y py)) spos.line X.env=pure true:=by rfl)
  (hs:∀x,foldedSetIterable iter X.env x=pure x:=by intro _;rfl):PS X (.Assign [.Name y py] (.ListComp elt [⟨tg,iter,ifs,0⟩] scope pos) spos) (qJ i (Z8 k caps wi g tt te)):=by
 intro pins s σ H D0 I h
 obtain⟨cl,hcl0,hcl,hcf⟩:=Sx (scope:=scope) (env:=X.env) fun y hy e=>I.ok.has y.1 (hS.free y hy e)
 rw[exec_Assign_Name_used _ _ _ _ hsw]
 refine U0 (wpAny_standAt (U0 ?_))
 show wpAny _ X.A (do let _ ←comprehension (.ListComp elt [⟨tg,iter,ifs,0⟩] scope pos) scope X.env _ (newList []) false (eval iter X.env) (some (assign (.Name y py) X.env))) _ _ s
 refine U0 (U5b (wpAny_comprehension_free (use:=some (assign (.Name y py) X.env)) (Q:=fun _ s'=>SP X pins D0 .next s') rfl hs hcl0 hS.kind hS.loc ?_) (fun _ s' hq=>U0d (U0d hq)) fun _ _ e=>e)
 refine thn (hi pins s σ H _ I h) fun v s1 h1=>thn h1 fun itv s2 h2=>?_
 obtain⟨it,fp,tn,J,H2,e,I2,T,st2,f2,W,⟨m0,w0⟩,turn⟩:=h2
 subst e
 refine Sw (RR:=fun acc C=>compPost (model X.prog X.w) X.A X.xe (some (assign (.Name y py) X.env)) (fun _ s'=>SP X pins D0 .next s') acc C)
  (Qe:=fun ys H=>∀p,H p=none->D0.nx (σ.set i (some (.ref p))) (upd H p (.lst ys))) hc hS hlow hcl hcf hb I2 T st2 f2 w0 turn ?_
 intro D C s' H' ys hD hC hDC nD nC I' hn q
 obtain⟨m,hn⟩:=hn
 show wpAny _ X.A (assign (.Name y py) X.env (.ref D)) _ _ _
 refine wpAny_assign_Name (Ui (v:=.ref D) I' hN hi' (.inl hx) rfl (fun s'' I'' ⟨a,hsb,ha⟩=>?_) (.inr hx))
 have hLC:C≠X.env.locals:=fun z=>KH I2.lt hC z.symm
 have hcC:∀x c,X.env.cells.lookup x=some c->c≠C:=fun x c e z=>by
  obtain⟨v,o,ho,_⟩:=I2.cell x c e
  exact KH (U0i ho) hC z
 have haC:C≠a:=by
  rcases ha with z|z
  .rw[z];exact hLC
  .exact fun e=>hcC y a z e.symm
 refine⟨m,hn.sameBut hsb haC,fun h' hsb'=>?_⟩
 refine⟨_,_,I''.but hsb' (by rw[Bo hDC];exact nC) hLC (U00 I2.sz hC) hcC fun p hp z=>?_,q D nD⟩
 exact KH (U0i (I2.pin p hp).1) hC z
end
end L2
end
section
namespace L2
open PySem PySem.Spec PyProof.Rows
theorem Dc.obj{P:Program}{w:World}{H:Hp}{h:Heap}{a:Addr}{o:HO}(x:Dc P w H h a o):∃ob,h.get? a=some ob:=by
 cases o with
 |lst xs=>obtain⟨_,_,_,_,e⟩:=x;exact⟨_,e⟩
 |tup xs=>obtain⟨_,_,_,ob,e,_⟩:=x;exact⟨ob,e⟩
 |dK kvs=>obtain⟨_,_,_,_,o,_,_,e,_⟩:=x;exact⟨o,e⟩
 |dT kvs=>obtain⟨_,_,_,_,o,_,_,e,_⟩:=x;exact⟨o,e⟩
 |set S n=>obtain⟨o,_,_,_,e,_⟩:=x;exact⟨o,e⟩
 |ins C dx fs=>obtain⟨_,_,_,e,_⟩:=x;exact⟨_,e⟩
 |own y=>exact x
 |xd fs=>obtain⟨_,⟨o,_,_,e,_⟩,_⟩:=x;exact⟨o,e⟩
 |rng lo hi=>obtain⟨_,_,_,e⟩:=x;exact⟨_,e⟩
 |frz ob u=>obtain⟨e,_⟩:=x;exact⟨_,e⟩
 |tbl ps=>exact⟨_,x⟩
 |met f y=>exact⟨_,x⟩
 |ext φ=>obtain⟨_,e,_⟩:=x;exact e
section
variable{X:Cx}{pins:List (Addr×Obj)}{σ:St}{H:Hp}{s:Shared}
theorem Inv.Tt(I:Inv X pins σ H s){a:Addr}(h:s.heap.get? a=none):H a=none:=by
 cases q:H a with
 |none=>rfl
 |some o =>
  obtain⟨ob,e⟩:=(I.hok a o q).obj
  rw[h] at e;cases e
theorem Inv.laidN{a:Addr}{o:HO}{h':Heap}{d':Drawn}{t':Nat}(I:Inv X pins σ H s)(k:∀b u,s.heap.get? b=some u->h'.get? b=some u)(hn:s.heap.get? a=none)(hsy:sysModules≠a)(new:Dc X.prog X.w (upd H a o) h' a o) :
  Inv X pins σ (upd H a o) { s with heap:=h',drawn:=d',toks:=t' }:=by
 have hH:=I.Tt hn
 have ne:∀b u,s.heap.get? b=some u->b≠a:=fun b u e z=>by rw[z,hn] at e;cases e
 refine I.step (g':=s.gens) (ch:=[]) (fun _ z=>nomatch z) (fun b u _ _ _ e _=>k b u e) (fun b u _ _ _ e _=>⟨u.slots,k b u e⟩) (fun b u _ e n=>by rw[Bo (ne b u e)];exact n) (fun b u _ e=>⟨u,k b u e⟩)
  (fun b xs e=>by rw[Bo (DN e hH)];exact e) (fun b u xs e=>by rw[Bo (DN e hH)];exact e) (fun b ps e=>⟨#[],by rw[Bo (DN e hH),e];simp⟩) (fun m hm=>?_) (fun b u e=>?_) I.bare (fun n=>by rw[Bo hsy];exact n)
 .obtain⟨ob,es,ep,e,r⟩:=hm
  exact⟨ob,es,ep,k _ _ e,r⟩
 .by_cases hb:b=a
  .subst hb;rw[Bv] at e;cases e;exact new
  .rw[Bo hb] at e
   exact(I.hok b u e).stay (fun c v _ q=>k c v q) (fun c q=>by rw[Bo (DN q hH)];exact q) fun c xs q=>by rw[Bo (DN q hH)];exact q
end
def Oi(P:Program)(w:World)(a:Addr)(ds:List Int):HO:=.ext fun h=>SetP.SetT P w h a ds
theorem iT{P:Program}{w:World}{H:Hp}{h:Heap}{a:Addr}{ds:List Int}(x:SetP.SetT P w h a ds):Dc P w H h a (Oi P w a ds) :=
 ⟨x,(by obtain⟨_,o,_,_,_,e,_⟩:=x;exact⟨o,e⟩),fun h1 h2 y k=>y.sameBut k⟩
section
variable{X:Cx}
theorem X3(hc:X.calm=true):Dd X (.type "set") (fun xs H Q=>∃p ns,xs=[.ref p]/\SqL X.K H p (ns.map V.int)/\ns.length<1000/\∀a,H a=none->Q (.ref a) (upd H a (Oi X.prog X.w a (SetP.once ns)))):=by
 intro pins s σ H xs us Q I r h
 obtain⟨p,ns,rfl,hq,hl,q⟩:=h
 obtain⟨u,rfl,rx⟩:=vals1 r
 cases rx
 obtain⟨its,rv,pl,hz⟩:=I.list hq
 have hlen:=rv.length
 rw[U0e] at hlen
 refine SetP.iR (I.ok.hd hc) pl.isList (by simpa using intsAre_of rv) (by rw[U0l,←hlen];unfold scanBound;omega) fun h' tk k T=>?_
 have hn:s.heap.get? s.heap.objs.size=none:=Heap.get?_none_of_le (U0h _)
 exact⟨.ref s.heap.objs.size,_,I.laidN (d':=s.drawn) (t':=tk) k hn (U05 I.cQ) (iT T),rfl,q _ (I.hok.fresh (U0h _))⟩
theorem Ug(hc:X.calm=true):Dd X (.builtin "sorted") (fun xs H Q=>∃(a:Addr)(ds:List Int),xs=[.ref a]/\H a=some (Oi X.prog X.w a ds)/\ds.length<64 /\
  ∀(l:Addr)(ns:List Int),H l=none->ns.Perm ds->ns.Pairwise (·<=·)->Q (.ref l) (upd H l (.lst (ns.map V.int)))):=by
 intro pins s σ H xs us Q I r h
 obtain⟨a,ds,rfl,hH,hl,q⟩:=h
 obtain⟨u,rfl,rx⟩:=vals1 r
 cases rx
 obtain⟨T,_,_⟩:=(show Dc X.prog X.w H s.heap a (Oi X.prog X.w a ds) from I.hok a _ hH)
 refine SetP.dH (I.ok.hd hc) T hl fun h' d' tk l vs ns n k hb e hi hp hs=>?_
 have hn:s.heap.get? l=none:=by
  cases q:s.heap.get? l with
  |none=>rfl
  |some o=>exact absurd (hb l o q) (U4i _)
 have hsy:sysModules≠l:=by
  obtain⟨o,_,_,e,_⟩:=I.ok.mod.glob
  exact U05 (U3w (by decide:(1:Nat)<3) (hb _ _ (I.bk _ _ e)))
 have hlen:ns.length<64:=by rw[hp.length_eq];exact hl
 refine⟨.ref l,_,I.laidN (d':=d') (t':=tk) (o:=.lst (ns.map V.int)) k hn hsy ⟨?_,vs.toList,n,MK hi,by simpa using e⟩,rfl,q l ns (I.Tt hn) hp hs⟩
 rw[U0e]
 exact U2d (Uk (by omega))
theorem Xh{prog:Program}{w:World}{A:Around}{bs:List Bool}{its:List Value}(r:Vals (bs.map V.bl) its):TruthOf prog w A (fun i v=>its.toArray[i]?=some v) (fun i=>bs.getD i false):=by
 intro i v s Q E hP h
 rw[U6f] at hP
 have hlen:=r.length
 rw[U0e] at hlen
 have hi:i<bs.length:=by rw[hlen];exact(U0n.mp hP).1
 obtain⟨u,e,ru⟩:=r.get (i:=i) (x:=.bl bs[i]) (by rw[U01,U02 hi];rfl)
 rw[e] at hP;cases hP
 have ru':v=U3l bs[i]:=ru
 subst ru'
 have e2:bs.getD i false=bs[i]:=by rw[U3o,U02 hi];rfl
 have h:Q (bs.getD i false) s:=h
 rw[e2] at h
 exact U32 h
theorem all_range(bs:List Bool):(U22 bs.length).all (fun i=>bs.getD i false)=bs.all id:=by
 rw[U3f,U15,U15]
 constructor
 .intro h b hb
  obtain⟨i,hi⟩:=U4d.mp hb
  have q:=h i (U4o.mpr (U0n.mp hi).1)
  rw[U3o,hi] at q
  exact q
 .intro h i hi
  have hi':=U4o.mp hi
  rw[U3o,U02 hi']
  exact h _ (U37 hi')
theorem O1(hc:X.calm=true):Dd X (.builtin "all") (fun xs H Q=>∃(p:Addr)(bs:List Bool),xs=[.ref p]/\SqL X.K H p (bs.map V.bl)/\Q (.bl (bs.all id)) H):=by
 intro pins s σ H xs us Q I r h
 obtain⟨p,bs,rfl,hq,q⟩:=h
 obtain⟨u,rfl,rx⟩:=vals1 r
 cases rx
 obtain⟨its,rv,pl,hz⟩:=I.list hq
 have hlen:=rv.length
 rw[U0e] at hlen
 have hl:=pl.isList
 have hlt:p<s.heap.objs.size:=by obtain⟨o,ho,_⟩:=hl;exact U0i ho
 refine call_all_walk (U56 hl ?_)
 refine⟨s.heap.objs.size,[s.heap.objs.size,p],[s.heap.objs.size],its.toArray.size,_,_,fun i=>bs.getD i false,rfl,Walks.list (by simpa using I.ok.hd hc) s.heap.objs.size p (U05 hlt) its.toArray,⟨⟨_,U0r _ rfl,rfl,rfl⟩,hl.push _⟩,Xh rv,fun h' tk k=>?_⟩
 refine⟨.bl (bs.all id),H,I.kept (h':=h') (t':=tk) fun b o e=>k b o (fun z=>?_) (U0c _ e),?_,q⟩
 .exact absurd (U1k.mp z) (U05 (U0i e))
 .show U3l _=U3l _
  rw[U0l,←hlen,all_range]
theorem CW{K:U0b}{a b:String}{r:Bool}(h:(if (U2r a==U2r b)=true then some true else if PySem.W.kitMeta b=true then (PySem.fastBuiltinMro a).map (·.contains (.type b)) else none)=some r):U29 K (.type a) (.type b)=some r:=h
theorem Y6:Dd X (.builtin "isinstance") (fun xs H Q=>∃(x:V)(T:String)(t:Value)(b:Bool),xs=[x,.ty T]/\JR X.K H x t/\U29 X.K t (.type T)=some b/\Q (.bl b) H):=by
 intro pins s σ H xs us Q I r h
 obtain⟨x,T,t,b,rfl,ty,e,q⟩:=h
 obtain⟨u,w',rfl,rx,rt⟩:=vals2 r
 cases (show w'=U2r T from rt)
 exact bO I rx ty e fun tk=>⟨.bl b,H,I.tok tk,rfl,q⟩
theorem Inv.big{pins:List (Addr×Obj)}{σ:St}{H:Hp}{s:Shared}(I:Inv X pins σ H s):sysModules<s.heap.objs.size:=by
 obtain⟨o,_,_,e,_⟩:=I.ok.mod.glob
 exact U3w (by decide:(1:Nat)<3) (U0i (I.bk _ _ e))
end
end L2
end
section
namespace L2
open PySem PySem.Spec PyProof.Rows
mutual
inductive Tr (N:Addr->Prop) (H:Hp):V->PyData->Prop
 |non:Tr N H .non .none
 |bl (b:Bool):Tr N H (.bl b) (.bool b)
 |int (i:Int):Tr N H (.int i) (.int i)
 |str (x:Str):Tr N H (.str x) (.str x)
 |lst {a:Addr} {xs:List V} {ds:List PyData}:N a->H a=some (.lst xs)->Jo N H xs ds->Tr N H (.ref a) (.list ds)
 |tup {a:Addr} {xs:List V} {ds:List PyData}:N a->H a=some (.tup xs)->Jo N H xs ds->Tr N H (.ref a) (.tuple ds)
 |dct {a:Addr}:N a->H a=some (.dK [])->Tr N H (.ref a) (.dict [])
inductive Jo (N:Addr->Prop) (H:Hp):List V->List PyData->Prop
 |nil:Jo N H [] []
 |cons {x:V} {d:PyData} {xs:List V} {ds:List PyData}:Tr N H x d->Jo N H xs ds->Jo N H (x::xs) (d::ds)
end
section
variable{N N':Addr->Prop}{H H':Hp}
end
section
variable{N:Addr->Prop}{P:Program}{w:World}{H:Hp}{h:Heap}
mutual
theorem Tr.reads(ok:HOk P w H h)(hs:H sysModules=none):∀{v:V} {d:PyData},Tr N H v d->∀u,RelV v u->∃as,Reads h u d as/\sysModules ∉ as
 |_,_,.non,u,r=>⟨[],by cases (show u=U2f from r);exact .none,by simp⟩
 |_,_,.bl b,u,r=>⟨[],by cases (show u=U3l b from r);exact .bool b,by simp⟩
 |_,_,.int i,u,r=>by obtain⟨t,rfl⟩:=(show ∃t,u=U6e i t from r);exact⟨[],.int i t,by simp⟩
 |_,_,.str x,u,r=>by obtain⟨t,rfl⟩:=(show ∃t,u=Value.str x t from r);exact⟨[],.str x t,by simp⟩
 |_,_,.lst (a:=a) (xs:=xs) (ds:=ds) _ hH t,u,r=>by
  cases (show u=U26 a from r)
  obtain⟨_,its,n,rv,e⟩:=(show Dc P w H h a (.lst xs) from ok a _ hH)
  obtain⟨as,ra,na⟩:=Jo.reads ok hs t its rv
  refine⟨a::as,.list e rfl rfl (by simpa using ra),fun z=>?_⟩
  rcases U0k.mp z with z|z
  .rw[z] at hs;rw[hs] at hH;cases hH
  .exact na z
 |_,_,.tup (a:=a) (xs:=xs) (ds:=ds) _ hH t,u,r=>by
  cases (show u=U26 a from r)
  obtain⟨_,its,rv,ob,e,c,n,d⟩:=(show Dc P w H h a (.tup xs) from ok a _ hH)
  obtain⟨as,ra,na⟩:=Jo.reads ok hs t its rv
  exact⟨as,.tuple e c d (by simpa using ra),na⟩
 |_,_,.dct (a:=a) _ hH,u,r=>by
  cases (show u=U26 a from r)
  obtain⟨_,y,vs,kv,o,es,ep,e,ex,d,el⟩:=(show Dc P w H h a (.dK []) from ok a _ hH)
  cases kv
  have e0:es.toList=[]:=by
   have q:Pairs (Tv P w) es.toList []:=el.2.1
   generalize es.toList=l at q
   cases q
   rfl
  refine⟨[a],.dict (as:=[]) (bs:=[]) e ex.1 d (by rw[e0];exact .nil) (by rw[e0];exact .nil),fun z=>?_⟩
  have z':=U1k.mp z
  rw[←z'] at y
  simp at y
theorem Jo.reads(ok:HOk P w H h)(hs:H sysModules=none):∀{xs:List V} {ds:List PyData},Jo N H xs ds->∀us,Vals xs us->∃as,ReadsAll h us ds as/\sysModules ∉ as
 |_,_,.nil,us,r=>by cases r;exact⟨[],.nil,by simp⟩
 |_,_,.cons t ts,us,r=>by
  cases r with
  |cons rx rr =>
   obtain⟨as,ra,na⟩:=Tr.reads ok hs t _ rx
   obtain⟨bs,rb,nb⟩:=Jo.reads ok hs ts _ rr
   exact⟨as++bs,.cons ra rb,fun z=>(U1h.mp z).elim na nb⟩
end
end
section
variable{X:Cx}
theorem bf{k:Nat}(hr:Dy k X.A):Dd X (.builtin "repr") (fun xs H Q=>∃(N:Addr->Prop)(a:Addr)(d:PyData),xs=[.ref a]/\Tr N H (.ref a) d/\d.showable=true/\d.depth<=60/\d.shown.length<=sizeLine/\Q (.str d.shown) H):=by
 intro pins s σ H xs us Q I r h
 obtain⟨N,a,d,rfl,t,h1,h2,h3,q⟩:=h
 obtain⟨u,rfl,rx⟩:=vals1 r
 cases rx
 obtain⟨as,ra,na⟩:=t.reads I.hok I.Oh (.ref a) rfl
 have hu:=hr.un
 exact repr_of_reads' ra h1 (fun _=>na) hr.gd (by omega) (fun _ _ e=>e) (fun h' u tk k=>⟨.str d.shown,H,I.kept (h':=h') (t':=tk) k,⟨u,rfl⟩,q⟩) h3
theorem oE{k:Nat}(hr:Dy k X.A):OpR X (compareOp .Eq) (fun x y H Q=>∃(N N':Addr->Prop)(d e:PyData),Tr N H x d/\Tr N' H y e/\U2e d=true/\U2e e=true/\Q (.bl (U3c d e)) H):=by
 intro pins s σ H x y v u Q I rx ry h
 obtain⟨N,N',d,e,t1,t2,s1,s2,q⟩:=h
 obtain⟨as,ra,_⟩:=t1.reads I.hok I.Oh v rx
 obtain⟨bs,rb,_⟩:=t2.reads I.hok I.Oh u ry
 exact SeqAt.compareEq_shaped ra rb s1 s2 hr.units ⟨.bl _,H,I,rfl,q⟩
theorem o8{k:Nat}(hr:Dy k X.A):OpR X (compareOp .NotEq) (fun x y H Q=>∃(N N':Addr->Prop)(d e:PyData),Tr N H x d/\Tr N' H y e/\U2e d=true/\U2e e=true/\Q (.bl (!PyData.eqv d e)) H):=by
 intro pins s σ H x y v u Q I rx ry h
 obtain⟨N,N',d,e,t1,t2,s1,s2,q⟩:=h
 obtain⟨as,ra,_⟩:=t1.reads I.hok I.Oh v rx
 obtain⟨bs,rb,_⟩:=t2.reads I.hok I.Oh u ry
 exact SeqAt.compareNe_shaped ra rb s1 s2 hr.units ⟨.bl _,H,I,rfl,q⟩
end
end L2
end
section
namespace HT
open PySem PySem.Spec PyProof.Rows
section
variable{prog:Program}{w:World}{A:Around}{E:Value->Shared->Prop}{s:Shared}
theorem fP{t b:Addr}{ws:List Value}{Q:Value->Shared->Prop}(ht:IsTup s.heap t ([]:List Value).toArray)(hb:IsTup s.heap b ws.toArray)(h:Q (.ref b) s):wpAny (model prog w) A (binaryOp .Add (.ref t) (.ref b)) Q E s:=by
 obtain⟨⟨c1,d1,x1,sl1⟩,ho,hc,n,hd⟩:=id ht
 obtain⟨⟨c2,d2,x2,sl2⟩,ho2,hc2,n2,hd2⟩:=id hb
 simp only at hc hd hc2 hd2
 subst hc hd hc2 hd2
 exact concat_meets ⟨_,ho,rfl⟩ ⟨_,ho2,rfl⟩ noFill_tuple_add seq_tuple_add U6a U51 (U5t _ _) (tuple_addW0 t b _ ws.toArray n n2 d1 d2 sl1 sl2 (by simp)) ⟨ho,ho2,h⟩
theorem Xi{t sl:Addr}{items:Array Value}{vl vu:Value}{lo hi:Option Int}{Q:Value->Shared->Prop}(ht:IsTup s.heap t items)(hs:s.heap.IsSliceOf sl vl vu .none)(pl:IsPart vl lo)(pu:IsPart vu hi)
  (hw:sIx items.size 0 lo=0/\sIx items.size items.size hi=items.size) (h:Q (.ref t) s):wpAny (model prog w) A (getItem (.ref t) (.ref sl)) Q E s:=by
 obtain⟨os,hos,hcs,hds⟩:=id hs
 have hTs:s.TypeIs (.ref sl) "slice":=⟨os,hos,hcs⟩
 unfold getItem
 try with_reducible refine U2n ?_
 first|refine U0 (U0d ?_)|skip
 refine U0 (U6z ht.typeIs (by decide) ?_)
 refine U0 (wpAny_callSpecial?_slot (name:=U3x "__getitem__") ht.typeIs U1s (U2i U1s ht.typeIs entry_tuple_getitem ?_ (args_tuple_getitem _ _)))
 show wpAny _ _ (U5f (.ref t) >>= _) _ _ s
 refine U0 (tupleItemsOf_ ht (U0 (U44 hTs ?_)))
 rw[if_pos (by decide)]
 refine U0 (M4 hs pl pu ?_)
 have yes:(((sIx items.size 0 lo:Nat):Int)==0&&(1:Int)==1&&(sIx items.size items.size hi-sIx items.size 0 lo)==items.size)=true:=by
  rw[hw.1,hw.2];simp
 show wpAny _ _ (if (((sIx items.size 0 lo:Nat):Int)==0&&(1:Int)==1&&(sIx items.size items.size hi-sIx items.size 0 lo)==items.size)=true then _ else _) _ _ s
 rw[if_pos yes]
 unfold Builtin.Tuple.tupleIsExact
 refine U0 (U0 (U44 ht.typeIs (U0d ?_)))
 rw[if_pos (by decide)]
 exact U0 (U3 (U0d ⟨_,rfl,U0d h⟩))
theorem Wg(xs:Array Value):((U22 xs.size).filterMap fun(m:Nat)=>xs[(((xs.size:Int)-1)+(m:Int)*(-1)).toNat]?)=xs.toList.reverse:=by
 have e:∀m∈U22 xs.size,xs[(((xs.size:Int)-1)+(m:Int)*(-1)).toNat]?=some (xs.toList.reverse.getD m .none):=fun m hm=>by
  have hm':=U4o.mp hm
  have q:(((xs.size:Int)-1)+(m:Int)*(-1)).toNat=xs.size-1-m:=by omega
  rw[q,U1o (by omega),U3o,List.getElem?_reverse (by rw[U0f];exact hm'),U0f,U18,U1o (by omega)]
  rfl
 have all:∀(l:List Nat)(f:Nat->Option Value)(g:Nat->Value),(∀m∈l,f m=some (g m))->l.filterMap f=l.map g:=by
  intro l f g
  induction l with
  |nil=>intro _;rfl
  |cons a r ih =>
   intro h
   rw[List.filterMap_cons_some (h a U0s),U0o,ih fun m hm=>h m (U0p _ hm)]
 rw[all _ _ _ e]
 have len:(List.map (fun m=>xs.toList.reverse.getD m .none) (U22 xs.size)).length=xs.toList.reverse.length:=by simp
 refine List.ext_getElem len fun j h1 h2=>?_
 rw[List.getElem_map,List.getElem_range,U3o,U02 h2]
 rfl
theorem au{t sl:Addr}{items:Array Value}{t0:Tok}{Q:Value->Shared->Prop}(ht:IsTup s.heap t items)(hs:s.heap.IsSliceOf sl .none .none (.int (-1) t0))(hsz:items.size<=sizeLine)
  (h:Q (.ref s.heap.objs.size) { s with heap:=s.heap.push { cls:=.type "tuple",data:=.seq items.toList.reverse.toArray } }):wpAny (model prog w) A (getItem (.ref t) (.ref sl)) Q E s:=by
 obtain⟨os,hos,hcs,hds⟩:=id hs
 have hTs:s.TypeIs (.ref sl) "slice":=⟨os,hos,hcs⟩
 have fits:sizeOk (.seq items.toList.reverse.toArray):=by
  show items.toList.reverse.toArray.size<=sizeLine
  simpa using hsz
 unfold getItem
 try with_reducible refine U2n ?_
 first|refine U0 (U0d ?_)|skip
 refine U0 (U6z ht.typeIs (by decide) ?_)
 refine U0 (wpAny_callSpecial?_slot (name:=U3x "__getitem__") ht.typeIs U1s (U2i U1s ht.typeIs entry_tuple_getitem ?_ (args_tuple_getitem _ _)))
 show wpAny _ _ (U5f (.ref t) >>= _) _ _ s
 refine U0 (tupleItemsOf_ ht (U0 (U44 hTs ?_)))
 rw[if_pos (by decide)]
 refine U0 ?_
 unfold U5e Builtin.Slice.sliceFields
 refine U0 (U0 (U2k hos hds (x:=.none) rfl (U0 (U2k hos hds (x:=.none) rfl (U0 (U2k hos hds (x:=.int (-1) t0) rfl (U0d ?_)))))))
 refine U0 (slicePart_int ?_)
 show wpAny _ _ (if ((-1:Int)==0)=true then _ else _) _ _ s
 rw[if_neg (by decide)]
 refine U0 (slicePart_none (U0 (slicePart_none (U0 (U0d ?_)))))
 have adj:U23 none none (-1) (items.size:Int)=((items.size:Int)-1,-1):=by
  unfold U23;simp
 show wpAny _ _ (match U23 none none (-1) (items.size:Int) with|(lo,hi)=>pure (lo,(-1:Int),U2p lo hi (-1))) _ _ s
 rw[adj]
 have pl:U2p ((items.size:Int)-1) (-1) (-1)=items.size:=by
  unfold U2p
  rw[if_neg (by decide)]
  by_cases hz:(items.size:Int)-1>-1
  .rw[if_pos hz]
   have e1:(-(-1:Int))=1:=rfl
   rw[e1,U70];omega
  .rw[if_neg hz];omega
 dsimp only
 rw[pl]
 refine U0d ?_
 have no:¬((((items.size:Int)-1)==0&&(-1:Int)==1&&items.size==items.size)=true):=by simp
 show wpAny _ _ (if (((items.size:Int)-1)==0&&(-1:Int)==1&&items.size==items.size)=true then _ else _) _ _ s
 rw[if_neg no,Wg]
 first
  |exact U0 (m:=U2t _) (U1p (U0d ⟨_,rfl,U0d h⟩) fits)
  |exact U0 (m:=U2t _) (U1p (U0 (U0d (U0d ⟨_,rfl,U0d h⟩))) fits)
  |exact U0 (U0 (m:=U2t _) (U1p (U0d ⟨_,rfl,U0d h⟩) fits))
end
end HT
namespace L2
open PySem PySem.Spec PyProof.Rows
theorem Cd{H:Hp}{p:Addr}(h:H p=none)(o:HO):Same H (upd H p o):=fun b u q=>by rw[Bo (DN q h)];exact q
theorem Zn(xs:List V)(lo hi:Option Int)(h:HT.sIx xs.length 0 lo=0/\HT.sIx xs.length xs.length hi=xs.length):Jl xs lo hi=xs:=by
 unfold Jl
 rw[h.1,h.2,U5z,Nat.sub_zero,U7c]
section
variable{X:Cx}
theorem jK:OpR X (binaryOp .Add) (fun x y H Q=>∃(a b:Addr)(xs ys:List V),x=.ref a/\y=.ref b/\H a=some (.tup xs)/\H b=some (.tup ys)/\xs.length+ys.length<=sizeLine/\∀p H',Same H H'->H' p=some (.tup (xs++ys))->Q (.ref p) H'):=by
 intro pins s σ H x y v u Q I rx ry h
 obtain⟨a,b,xs,ys,rfl,rfl,ha,hb,hz,q⟩:=h
 by_cases hx:xs=[]
 .subst hx
  cases rx
  cases ry
  obtain⟨its,r1,p1,_⟩:=I.tuple (SqT.of ha)
  obtain⟨its2,r2,p2,_⟩:=I.tuple (SqT.of hb)
  cases r1
  exact HT.fP p1 p2 ⟨.ref b,H,I,rfl,q b H (Same.refl H) hb⟩
 .refine jJ pins s σ H _ _ v u Q I rx ry ⟨a,b,xs,ys,rfl,rfl,SqT.of ha,SqT.of hb,hx,hz,fun z=>?_,fun _ p hp=>q p _ (Cd hp _) Bv⟩
  subst z
  exact q a H (Same.refl H) (by rw[U1n];exact ha)
theorem iJ:SlR X (fun x lo hi H Q=>∃(a:Addr)(xs:List V),x=.ref a/\H a=some (.tup xs)/\∀p H',Same H H'->H' p=some (.tup (Jl xs lo hi))->Q (.ref p) H'):=by
 intro pins s σ H x v vl vu lo hi sl Q I rx hs pl pu h
 obtain⟨a,xs,rfl,ha,q⟩:=h
 by_cases hw:HT.sIx xs.length 0 lo=0/\HT.sIx xs.length xs.length hi=xs.length
 .cases rx
  obtain⟨its,r,ht,hz⟩:=I.tuple (SqT.of ha)
  have hlen:its.toArray.size=xs.length:=by rw[U0l];exact r.length.symm
  refine⟨"tuple",_,U1s.lookup,ht.typeIs,?_⟩
  exact HT.Xi ht hs pl pu (by rw[hlen];exact hw) ⟨.ref a,H,I,rfl,q a H (Same.refl H) (by rw[Zn xs lo hi hw];exact ha)⟩
 .exact Rp pins s σ H _ v vl vu lo hi sl Q I rx hs pl pu ⟨a,xs,rfl,SqT.of ha,hw,fun p hp=>q p _ (Cd hp _) Bv⟩
end
end L2
end
section
namespace L2
open PySem PySem.Spec PyProof.Rows
def Cal(P:Program)(w:World)(K:U0b)(mg:Str->Option Value)(base:Heap)(x:Str)(k:Nat)(ps:List Str)(sp:Sp):Prop :=
 ∃f fd,DW P w K mg base CX0 k f fd ps sp/\Binds K fd ps []/\U04 K (.ref f)=true/\mg x=some (.ref f)
section
variable{X:Cx}
theorem RJ{x:Str}{k k':Nat}{ps:List Str}{sp:Sp}{e:Expr}{es:List Expr}{t:TA}{p pos:Pos}(c:Cal X.prog X.w X.K X.mg X.base x k ps sp)(hr:Dy k' X.A)(hk:k<=k')(hg:Gl X x)(ha:PA X (e::es) t)
  (hdb:(x==("__debug__":Str))=false:=by decide) (he:starEach (e::es) X.env=(false,eval e X.env)::starEach es X.env:=by rfl) (hpl:(backTo pos (starEach es X.env)).any (·.1)=false:=by rfl) :
  PE X (.Call (.Name x p) (e::es) [] pos) (fj sp [] E0 t):=by
 obtain⟨f,fd,F,b,kp,m⟩:=c
 exact jD (F.mono hk) hr hg m kp b .nil qg ha hdb he hpl
theorem Wj:OpR X (binaryOp .FloorDiv) (rI (fun _ j=>0<j/\j<2^64) fun i j=>.int (i/j)):=opI fun i j _ _ _ _ _ hc q=>by
 rw[←Int.fdiv_eq_ediv_of_nonneg _ (U4 hc.1)] at q
 refine floordiv_int (Int.ne_of_gt hc.1) q (.inl (PyProof.noPylong_of_log2 ?_))
 have h1:j.natAbs<2^64:=by omega
 have h2:j.natAbs≠0:=by omega
 exact U3w ((Nat.log2_lt h2).mpr h1) (by decide)
end
theorem Lr:bootBuiltins "len"=some (.builtin "len"):=by decide +kernel
theorem Dq:bootBuiltins "isinstance"=some (.builtin "isinstance"):=by decide +kernel
theorem S7:bootBuiltins "all"=some (.builtin "all"):=by decide +kernel
theorem Ux:bootBuiltins "sorted"=some (.builtin "sorted"):=by decide +kernel
theorem W6:bootBuiltins "min"=some (.builtin "min"):=by decide +kernel
theorem W7:bootBuiltins "max"=some (.builtin "max"):=by decide +kernel
theorem QW:bootBuiltins "repr"=some (.builtin "repr"):=by decide +kernel
theorem aX:bootBuiltins "set"=some (.type "set"):=by decide +kernel
theorem Nh:bootBuiltins "list"=some (.type "list"):=by decide +kernel
theorem Rb:bootBuiltins "tuple"=some (.type "tuple"):=by decide +kernel
theorem S6:bootBuiltins "int"=some (.type "int"):=by decide +kernel
theorem Ua:bootBuiltins "bool"=some (.type "bool"):=by decide +kernel
def Rc:List Str:=["len","isinstance","all","sorted","min","max","abs","repr","set","list","tuple","range","int","bool","str"]
def Blt(mg:Str->Option Value):Prop:=∀x∈Rc,mg x=none
theorem Blt.is{mg:Str->Option Value}(b:Blt mg)(x:Str)(h:Rc.contains x=true:=by decide +kernel):mg x=none:=b x (List.contains_iff_mem.mp h)
def tyName:PyData->String
 |.none=>"NoneType"
 |.bool _=>"bool"
 |.int _=>"int"
 |.str _=>"str"
 |.list _=>"list"
 |.tuple _=>"tuple"
 |.dict _=>"dict"
theorem Tr.ty{N:Addr->Prop}{K:U0b}{H:Hp}{v:V}{d:PyData}(t:Tr N H v d):JR K H v (.type (tyName d)):=by
 cases t with
 |non=>exact .non
 |bl b=>exact .bl b
 |int i=>exact .int i
 |str x=>exact .str x
 |lst _ h _=>exact .lst h
 |tup _ h _=>exact .tup h
 |dct _ h=>exact .dK h
def Vi(T:String)(d:PyData):Bool:=match T with
 |"int"=>(match d with|.int _=>true|.bool _=>true|_=>false)
 |"bool"=>(match d with|.bool _=>true|_=>false)
 |"tuple"=>(match d with|.tuple _=>true|_=>false)
 |"list"=>(match d with|.list _=>true|_=>false)
 |_=>false
theorem jZ{K:U0b}(d:PyData):U29 K (.type (tyName d)) (.type "int")=some (Vi "int" d):=by
 cases d with
 |none=>exact CW (a:="NoneType") (r:=false) (by decide +kernel)
 |bool _=>exact CW (a:="bool") (r:=true) (by decide +kernel)
 |int _=>exact CW (a:="int") (r:=true) (by decide +kernel)
 |str _=>exact CW (a:="str") (r:=false) (by decide +kernel)
 |list _=>exact CW (a:="list") (r:=false) (by decide +kernel)
 |tuple _=>exact CW (a:="tuple") (r:=false) (by decide +kernel)
 |dict _=>exact CW (a:="dict") (r:=false) (by decide +kernel)
theorem eY{K:U0b}(d:PyData):U29 K (.type (tyName d)) (.type "bool")=some (Vi "bool" d):=by
 cases d with
 |none=>exact CW (a:="NoneType") (r:=false) (by decide +kernel)
 |bool _=>exact CW (a:="bool") (r:=true) (by decide +kernel)
 |int _=>exact CW (a:="int") (r:=false) (by decide +kernel)
 |str _=>exact CW (a:="str") (r:=false) (by decide +kernel)
 |list _=>exact CW (a:="list") (r:=false) (by decide +kernel)
 |tuple _=>exact CW (a:="tuple") (r:=false) (by decide +kernel)
 |dict _=>exact CW (a:="dict") (r:=false) (by decide +kernel)
theorem kit_tuple{K:U0b}(d:PyData):U29 K (.type (tyName d)) (.type "tuple")=some (Vi "tuple" d):=by
 cases d with
 |none=>exact CW (a:="NoneType") (r:=false) (by decide +kernel)
 |bool _=>exact CW (a:="bool") (r:=false) (by decide +kernel)
 |int _=>exact CW (a:="int") (r:=false) (by decide +kernel)
 |str _=>exact CW (a:="str") (r:=false) (by decide +kernel)
 |list _=>exact CW (a:="list") (r:=false) (by decide +kernel)
 |tuple _=>exact CW (a:="tuple") (r:=true) (by decide +kernel)
 |dict _=>exact CW (a:="dict") (r:=false) (by decide +kernel)
theorem eX{K:U0b}(d:PyData):U29 K (.type (tyName d)) (.type "list")=some (Vi "list" d):=by
 cases d with
 |none=>exact CW (a:="NoneType") (r:=false) (by decide +kernel)
 |bool _=>exact CW (a:="bool") (r:=false) (by decide +kernel)
 |int _=>exact CW (a:="int") (r:=false) (by decide +kernel)
 |str _=>exact CW (a:="str") (r:=false) (by decide +kernel)
 |list _=>exact CW (a:="list") (r:=true) (by decide +kernel)
 |tuple _=>exact CW (a:="tuple") (r:=false) (by decide +kernel)
 |dict _=>exact CW (a:="dict") (r:=false) (by decide +kernel)
end L2
end
section
namespace L2
open PySem PySem.Spec PyProof.Rows
def K1:PyData->Bool
 |.none=>true
 |.bool _=>true
 |.int i=>decide (i.natAbs<10^41)
 |.str x=>decide (x.length<=30)&&x.cps.toList.all fun c=>decide (c<16^8)
 |.dict kvs=>kvs.isEmpty
 |_=>false
def fit:List Nat->PyData->Bool
 |w::ws,.list xs=>decide (xs.length<=w)&&xs.all (fit ws)
 |w::ws,.tuple xs=>decide (xs.length<=w)&&xs.all (fit ws)
 |_,d=>K1 d
def bnd:List Nat->Nat
 |[]=>400
 |w::ws=>w*(bnd ws+2)+400
theorem Yj{d:PyData}(h:K1 d=true):d.showable=true/\d.depth<=1/\d.shown.length<=400:=by
 cases d with
 |none=>exact⟨rfl,by simp[U2z],by decide⟩
 |bool b=>exact⟨rfl,by simp[U2z],by cases b<;>decide⟩
 |int i =>
  have hi:i.natAbs<10^41:=of_decide_eq_true h
  refine⟨?_,by simp[U2z],?_⟩
  .simp only[U6j,decide_eq_true_eq]
   by_cases h0:i.natAbs=0
   .rw[h0];decide
   .exact U3w ((Nat.log2_lt h0).mpr (U3w hi (by decide:10^41<2^137))) (by decide)
  .have q:=int_text_length_le10 (k:=41) (by decide) hi
   have e:(U47 (.int i)).length=(toString i).length:=by
    show(U3x (toString i)).length=_
    exact PySem.ofString_length _
   rw[e];omega
 |str x =>
  simp only[K1,U0m,decide_eq_true_eq,U15] at h
  refine⟨rfl,by simp[U2z],?_⟩
  have q:=StrLaws.reprText_len x h.2
  simp only[U47]
  have:=h.1
  omega
 |list xs=>cases h
 |tuple xs=>cases h
 |dict kvs =>
  cases kvs with
  |nil=>exact⟨rfl,by simp[U2z,PyData.depthKv],by decide⟩
  |cons a r=>cases h
theorem UW{ws:List Nat}(ih:∀d,fit ws d=true->d.showable=true/\d.depth<=ws.length+1/\d.shown.length<=bnd ws):∀xs:List PyData,xs.all (fit ws)=true ->
  PyData.showableAll xs=true/\U4f xs<=ws.length+1/\((U4z xs).map (·.length)).sum+2*(U4z xs).length<=xs.length*(bnd ws+2)
 |[],_=>⟨rfl,by simp[U4f],by simp[U4z]⟩
 |x::r,h=>by
  rw[U3p,U0m] at h
  obtain⟨a1,a2,a3⟩:=ih x h.1
  obtain⟨b1,b2,b3⟩:=UW ih r h.2
  refine⟨by simp[PyData.showableAll,a1,b1],by simp only[U4f];omega,?_⟩
  simp only[U4z,U0o,List.sum_cons,U0g]
  rw[show(r.length+1)*(bnd ws+2)=r.length*(bnd ws+2)+(bnd ws+2) from Nat.succ_mul _ _]
  omega
theorem aU:∀(ws:List Nat)(d:PyData),fit ws d=true->d.showable=true/\d.depth<=ws.length+1/\d.shown.length<=bnd ws
 |[],d,h=>by
  have h':K1 d=true:=by
   cases d<;>exact h
  obtain⟨a,b,c⟩:=Yj h'
  exact⟨a,b,c⟩
 |w::ws,d,h=>by
  have ih:=aU ws
  have leaf:K1 d=true->d.showable=true/\d.depth<=(w::ws).length+1/\d.shown.length<=bnd (w::ws):=fun h'=>by
   obtain⟨a,b,c⟩:=Yj h'
   refine⟨a,by rw[U0g];omega,U00 c ?_⟩
   unfold bnd;omega
  cases d with
  |list xs =>
   simp only[fit,U0m,decide_eq_true_eq] at h
   obtain⟨a,b,c⟩:=UW ih xs h.2
   refine⟨by simpa [U6j] using a,by simp only[U2z,U0g];omega,?_⟩
   have q:=listText_len_le (U4z xs)
   have m:=Nat.mul_le_mul_right (bnd ws+2) h.1
   simp only[U47,bnd]
   omega
  |tuple xs =>
   simp only[fit,U0m,decide_eq_true_eq] at h
   obtain⟨a,b,c⟩:=UW ih xs h.2
   refine⟨by simpa [U6j] using a,by simp only[U2z,U0g];omega,?_⟩
   have q:=tupleText_len_le (U4z xs)
   have m:=Nat.mul_le_mul_right (bnd ws+2) h.1
   simp only[U47,bnd]
   omega
  |none=>exact leaf h
  |bool b=>exact leaf h
  |int i=>exact leaf h
  |str x=>exact leaf h
  |dict kvs=>exact leaf h
def Nx(n:Nat)(Pv:Nat->List V->Hp->Prop)(i:Nat)(ys:List V)(H:Hp):Prop:=∃m',m'<n-i/\(m'=n-(i+1)/\i+1<=n/\Pv (i+1) ys H)
theorem nx{n:Nat}{Pv:Nat->List V->Hp->Prop}{i:Nat}{ys:List V}{H:Hp}(hi:i<n)(p:Pv (i+1) ys H):Nx n Pv i ys H:=⟨n-(i+1),by omega,rfl,hi,p⟩
section
variable{k:Nat}{caps:List Nat}{σ:St}{g:TG}{tt:TT}{te:TE}{Q:VK}{H:Hp}
end
def Well(H:Hp)(a:Addr):Prop:=∃x y:Int,H a=some (.lst [.int x,.int y])
end L2
end
section
namespace L2
open PySem PySem.Spec PyProof.Rows
section
variable{a:Addr}{H0:Hp}{σ:St}{te t1 t2:TE}{ta:TA}{d:PyData}{ds d1 d2:List PyData}{i j:Int}
end
end L2
end
section
namespace L2
open PySem PySem.Spec PyProof.Rows
section
variable{X:Cx}{K:U0b}
abbrev sU(K:U0b):List V->Hp->VK->Prop:=fun xs H Q=>∃p ys,xs=[.ref p]/\(SqL K H p ys∨SqT K H p ys)/\Q (.int ys.length) H
abbrev iY(K:U0b):List V->Hp->VK->Prop:=fun xs H Q=>∃p ys,xs=[.ref p]/\(SqL K H p ys∨SqT K H p ys)/\∀l,H l=none->Q (.ref l) (upd H l (.lst ys))
abbrev dZ(K:U0b):List V->Hp->VK->Prop:=fun xs H Q=>∃p ys,xs=[.ref p]/\((SqL K H p ys/\∀l,H l=none->Q (.ref l) (upd H l (.tup ys)))∨(SqT K H p ys/\Q (.ref p) H))
theorem Xn:OpR X (compareOp .IsNot) (fun x y H Q=>∃(c d:Bool),x=.bl c/\y=.bl d/\Q (.bl (!decide (c=d))) H):=by
 intro pins s σ H x y v u Q I rx ry h
 obtain⟨c,d,rfl,rfl,q⟩:=h
 cases (show v=U3l c from rx)
 cases (show u=U3l d from ry)
 refine isnot_bool ⟨.bl (!decide (c=d)),H,I,?_,q⟩
 show U3l _=U3l _
 cases c<;>cases d<;>rfl
end
end L2
end
section
namespace Bc
open PySem PySem.Spec PyProof.Rows L2
def mR:PyData->Bool
 |.tuple es=>U59 es&&decide (U4f es<=60)
 |_=>true
def lay:PyData->Bool
 |.tuple ds=>ds.all mR
 |_=>true
abbrev F3:List Nat:=[9,9,9]
def nr(a:Int):Bool:=decide (-(10^9)<=a)&&decide (a<=10^9)
def bx:PyData->Bool
 |.tuple [.int a,.int b]=>nr a&&nr b&&decide (a<b)
 |_=>false
def part(d:PyData):Bool:=fit [9,9] d&&mR d
def good(d:PyData):Bool:=fit F3 d&&lay d
end Bc
end
section
set_option maxRecDepth 100000
namespace HT
open PySem PySem.Spec PyProof.Rows
open AutoSeq1 (wpAny_loadPart')
theorem Rh:fillsNumberSlot (.type "tuple") "mul"=pure false :=
 PySem.fillsNumberSlot_seq (id:="tuple.__mul__") (r:=some (.builtin "tuple.__rmul__")) U41.lookup (by decide +kernel) PySem.F.slot_tuple_rmul.lookup (by decide +kernel)
theorem bD:seqRepeat? (.type "tuple")=pure (some (.builtin "tuple.__mul__")):=by
 unfold seqRepeat?
 rw[PySem.seqSlot_of (T:="tuple") (name:="__mul__") (id:="tuple.__mul__") U41.lookup (by decide +kernel),PySem.seqSlot_of (T:="tuple") (name:="__rmul__") (id:="tuple.__rmul__") PySem.F.slot_tuple_rmul.lookup (by decide +kernel)]
 rfl
theorem XR(a:Int)(t:Tok)(l:Addr)(items:Array Value)(n:Nat)(dd:Option Addr)(sl:Array (Option Value)) :
  Meets (Builtin.«int.__rmul__» ⟨[.int a t,.ref l],[]⟩) (fun _ R s=>s.heap.get? l=some { cls:=.type "tuple",dict:=dd,data:=.seq items n,slots:=sl }/\R (.ok (.ret Value.notImplemented)) s) :=
 .of_wp fun prog w A R s h=>by obtain⟨hp,g,d,tk,os⟩:=s;obtain⟨hl,h⟩:=h;wp_walk using wpAny_loadPart' hl;exact⟨_,rfl,h⟩
theorem dB(l:Addr)(items:Array Value)(n:Nat)(dd:Option Addr)(sl:Array (Option Value))(x:Int)(u:Tok)(hc0:¬(decide (x < -(2^63))||decide (x≥2^63))=true)(hc1:(items.isEmpty||x==1)=true) :
  Meets (Builtin.«tuple.__mul__» ⟨[.ref l,.int x u],[]⟩) (fun _ R s=>s.heap.get? l=some { cls:=.type "tuple",dict:=dd,data:=.seq items n,slots:=sl }/\R (.ok (.ret (U26 l))) { s with heap:=s.heap,toks:=s.toks }) :=
 .of_wp fun prog w A R s h=>by obtain⟨hp,g,d,tk,os⟩:=s;obtain⟨hl,h⟩:=h;have f1:=AutoSeq1.idx_int;wp_walk;refine U7k (decide_eq_false hc0) ?_;wp_walk using wpAny_loadPart' hl;exact⟨_,rfl,h⟩
theorem cu(l:Addr)(items:Array Value)(n:Nat)(dd:Option Addr)(sl:Array (Option Value))(x:Int)(u:Tok)(hc0:¬(decide (x < -(2^63))||decide (x≥2^63))=true)(hc1:¬(items.isEmpty||x==1)=true)
  (hc2:¬(decide (x<=0)||items.isEmpty)=true) (hc3:¬(items.size:Int)*x>(2^63-1)/8) (hc4:¬Builtin.Tuple.tupleTooMany ((items.size:Int)*x)=true) (hsz:(U6g (fun x1 x2=>x1++x2) #[] (U0q x.toNat items)).size<=sizeLine) :
  Meets (Builtin.«tuple.__mul__» ⟨[.ref l,.int x u],[]⟩) (fun _ R s=>s.heap.get? l=some { cls:=.type "tuple",dict:=dd,data:=.seq items n,slots:=sl }/\R (.ok (.ret (U26 s.heap.objs.size))) { s with heap:=s.heap.push { cls:=U2r "tuple",data:=Data.seq (U6g (fun x1 x2=>x1++x2) #[] (U0q x.toNat items)) },toks:=s.toks }) :=
 .of_wp fun prog w A R s h=>by obtain⟨hp,g,d,tk,os⟩:=s;obtain⟨hl,h⟩:=h;have f1:=AutoSeq1.idx_int;wp_walk;refine U7k (decide_eq_false hc0) ?_;wp_walk using wpAny_loadPart' hl;refine U7k (decide_eq_false hc3) ?_;wp_walk;exact⟨_,rfl,h⟩
section
variable{prog:Program}{w:World}{A:Around}{E:Value->Shared->Prop}{s:Shared}
theorem jM{t:Addr}{its:List Value}{k:Int}{u:Tok}{Q:Value->Shared->Prop}(ht:IsTup s.heap t its.toArray)(hne:its≠[])(h1:1<=k)(h2:k<2^60)(hz:its.length*k.toNat<=sizeLine)
  (q1:k=1->Q (.ref t) s) (q2:k≠1->Q (.ref s.heap.objs.size) { s with heap:=s.heap.push { cls:=.type "tuple",data:=.seq (U0q k.toNat its).flatten.toArray } }) :
  wpAny (model prog w) A (binaryOp .Mult (.ref t) (.int k u)) Q E s:=by
 obtain⟨⟨c1,d1,x1,sl1⟩,ho,hc,n,hd⟩:=id ht
 simp only at hc hd
 subst hc hd
 have c0:¬(decide (k < -(2^63))||decide (k≥2^63))=true:=by
  rw[decide_eq_false (by omega),decide_eq_false (by omega)];exact U08
 have ne:its.toArray.isEmpty=false:=by cases its with|nil=>exact absurd rfl hne|cons _ _=>rfl
 have hnew:U6g (fun x1 x2=>x1++x2) #[] (U0q k.toNat its.toArray)=(U0q k.toNat its).flatten.toArray:=by
  have:=L2.foldl_rep its k.toNat []
  rw[U1z] at this
  exact this
 refine wpAny_binaryOp_repeat_ref (T:="tuple") (U:="int") (by decide) ⟨_,ho,rfl⟩ (fun s'=>typeIs_int s' k u) Rh PySem.F.fills_int_mul PySem.F.slot_int_rmul bD PySem.F.slot_int_index.lookup
  (call_meets PySem.F.slot_int_rmul (typeIs_int s k u) PySem.F.entry_int_rmul (PySem.F.args_int_rmul_2 _ _) (XR k u t its.toArray n d1 sl1) ⟨ho,rfl,⟨_,ho,rfl⟩,?_⟩)
 by_cases k1:k=1
 .exact call_meets U41 ⟨_,ho,rfl⟩ PySem.F.entry_tuple_mul (PySem.F.args_tuple_mul_2 _ _) (dB t its.toArray n d1 sl1 k u c0 (by rw[k1];simp)) ⟨ho,q1 k1⟩
 .have e:((its.toArray.size:Nat):Int)*k=((its.length*k.toNat:Nat):Int):=by
   rw[U0l,Int.natCast_mul,Int.toNat_of_nonneg (by omega)]
  have hs:(sizeLine:Nat)=16777216:=by decide
  refine call_meets U41 ⟨_,ho,rfl⟩ PySem.F.entry_tuple_mul (PySem.F.args_tuple_mul_2 _ _) (cu t its.toArray n d1 sl1 k u c0 ?_ ?_ ?_ ?_ ?_) ⟨ho,?_⟩
  .rw[ne];simp[k1]
  .rw[ne,decide_eq_false (by omega)];exact U08
  .rw[e];omega
  .rw[e]
   unfold Builtin.Tuple.tupleTooMany
   rw[decide_eq_true_eq]
   omega
  .rw[hnew,U0l,L2.len_rep,U71];exact hz
  .rw[hnew];exact q2 k1
end
end HT
namespace L2
open PySem PySem.Spec PyProof.Rows
abbrev fu:R2:=fun x y H Q=>∃(a:Addr)(k:Int)(xs:List V),x=.ref a/\y=.int k/\H a=some (.tup xs)/\xs≠[]/\1<=k/\k<2^60/\xs.length*k.toNat<=sizeLine/\∀p H',Same H H'->H' p=some (.tup (U0q k.toNat xs).flatten)->Q (.ref p) H'
section
variable{X:Cx}
theorem jG:OpR X (binaryOp .Mult) fu:=by
 intro pins s σ H x y v u Q I rx ry h
 obtain⟨a,k,xs,rfl,rfl,ha,hne,k1,k2,hz,q⟩:=h
 cases rx
 obtain⟨t,rfl⟩:=ry
 obtain⟨its,r1,p1,_⟩:=I.tuple (SqT.of ha)
 refine HT.jM p1 (fun z=>hne (r1.QJ.mp z)) k1 k2 (by rw[←r1.length];exact hz) (fun e=>?_) (fun e=>?_)
 .refine⟨.ref a,H,I,rfl,q a H (Same.refl H) ?_⟩
  rw[e]
  simpa using ha
 .refine⟨.ref s.heap.objs.size,_,I.laid (t':=s.toks) (o:=.tup (U0q k.toNat xs).flatten) (fun b ob q=>U0c _ q) (U0h _) ?_,rfl,q _ _ (Cd (I.hok.fresh (U0h _)) _) Bv⟩
  exact⟨by rw[len_rep,U71];exact hz,_,r1.rep k.toNat,U6t _ _⟩
end
section
variable{X:Cx}
theorem LQ{k:Nat}(hr:Dy k X.A):Dd X (.builtin "repr") (fun xs H Q=>∃(N:Addr->Prop)(v:V)(d:PyData),xs=[v]/\Tr N H v d/\d.showable=true/\d.depth<=60/\d.shown.length<=sizeLine/\Q (.str d.shown) H):=by
 intro pins s σ H xs us Q I r h
 obtain⟨N,v,d,rfl,t,h1,h2,h3,q⟩:=h
 have onRef:∀b,v=.ref b->wpAny (model X.prog X.w) X.A (call (.builtin "repr") us) (EP X pins σ Q) X.xe s:=fun b e=>by
  subst e
  exact bf hr pins s σ H _ us Q I r ⟨N,b,d,rfl,t,h1,h2,h3,q⟩
 cases t with
 |lst _ _ _=>exact onRef _ rfl
 |tup _ _ _=>exact onRef _ rfl
 |dct _ _=>exact onRef _ rfl
 |non =>
  obtain⟨u,rfl,rx⟩:=vals1 r
  cases (show u=U2f from rx)
  exact PySem.P.repr_of_none ⟨.str "None",H,I.tok _,⟨_,rfl⟩,q⟩
 |bl b =>
  obtain⟨u,rfl,rx⟩:=vals1 r
  cases (show u=U3l b from rx)
  exact PySem.P.repr_of_bool ⟨.str (if b then "True" else "False"),H,I.tok _,⟨_,rfl⟩,q⟩
 |int i =>
  obtain⟨u,rfl,rx⟩:=vals1 r
  obtain⟨t,rfl⟩:=rx
  exact PySem.P.repr_of_int (by simpa [U6j] using h1) ⟨.str (toString i),H,I.tok _,⟨_,rfl⟩,q⟩
 |str x =>
  obtain⟨u,rfl,rx⟩:=vals1 r
  obtain⟨t,rfl⟩:=rx
  exact PySem.P.repr_of_str ⟨.str (reprText x),H,I.tok _,⟨_,rfl⟩,q⟩ h3
end
section
variable{a:Addr}{H0:Hp}{σ:St}{te t1 t2:TE}{ta:TA}{d:PyData}{ds d1 d2:List PyData}{i j:Int}{K:U0b}
end
structure Wq(a q:Addr)(bs:List V)(H:Hp):Prop where
 w:Well H a
 at_:H q=some (.lst bs)
 ne:q≠a
section
variable{a q p:Addr}{bs:List V}{H H':Hp}
abbrev gB:R2:=fun x y H Q=>∃(a b:Addr)(xs ys:List V),x=.ref a/\y=.ref b/\H a=some (.tup xs)/\H b=some (.tup ys)/\xs.length+ys.length<=sizeLine/\∀p H',Same H H'->H' p=some (.tup (xs++ys))->Q (.ref p) H'
abbrev lq:V->Option Int->Option Int->Hp->VK->Prop:=fun x lo hi H Q=>∃(a:Addr)(xs:List V),x=.ref a/\H a=some (.tup xs)/\∀p H',Same H H'->H' p=some (.tup (Jl xs lo hi))->Q (.ref p) H'
end
end L2
end
section
namespace L2
open PySem PySem.Spec PyProof.Rows
end L2
namespace Bc
open PySem PySem.Spec PyProof.Rows L2
def oK:PyData->Nat
 |.int 1=>20
 |.int 2=>10
 |.int 3=>6
 |_=>0
def tK(n:Nat):PyData->Bool
 |.tuple es=>decide (es.length=n)&&es.all bx
 |_=>false
end Bc
end
section
namespace L2
open PySem PySem.Spec PyProof.Rows
theorem Inv.YG{X:Cx}{pins:List (Addr×Obj)}{σ:St}{H:Hp}{s:Shared}{h':Heap}{t':Nat}{fp:List Addr}(I:Inv X pins σ H s)(k:∀b o,b ∉ fp->s.heap.get? b=some o->h'.get? b=some o)(hf:∀b∈fp,Mt X pins H b) :
  Inv X pins σ H { s with heap:=h',toks:=t' }:=by
 have nit:∀b u,H b=some u->b ∉ fp:=fun b u e z=>by
  have:=(hf b z).1
  rw[this] at e
  cases e
 refine I.step (g':=s.gens) (d':=s.drawn) (ch:=fp) (fun b hb=>?_) (fun b o _ _ hc e _=>k b o hc e) (fun b o _ _ hc e _=>⟨o.slots,k b o hc e⟩) (fun _ _ _ _ n=>n) (fun b o hc e=>⟨o,k b o hc e⟩) (fun _ _ e=>e) (fun _ _ _ e=>e)
  (fun b ps e=>⟨#[],by rw[e];simp⟩) (fun m hm=>?_) (fun b u e=>?_) I.bare id
 .obtain⟨_,a2,_,a4,a5,a6⟩:=hf b hb
  exact⟨a4,a2,a5,a6⟩
 .obtain⟨o,es,ep,ho,r⟩:=hm
  exact⟨o,es,ep,k _ o (fun z=>(hf _ z).2.1 rfl) ho,r⟩
 .refine(I.hok b u e).stay (fun c v hc q=>k c v ?_ q) (fun _ q=>q) fun _ _ q=>q
  rcases hc with z|z
  .rw[z];exact nit b u e
  .exact nit c _ z
theorem Inv.qj{X:Cx}{pins:List (Addr×Obj)}{σ:St}{H:Hp}{s:Shared}{h':Heap}{t':Nat}{fp:List Addr}{x y:V}{u v:Value}(I:Inv X pins σ H s)(rx:RelV x u)(ry:RelV y v)
  (ht:h'.get? s.heap.objs.size=some { cls:=.type "tuple",data:=.seq #[u,v] }) (k:∀b o,b ∉ fp->s.heap.get? b=some o->h'.get? b=some o) (hf:∀b∈fp,Mt X pins H b) (hlt:∀b∈fp,b<s.heap.objs.size) :
  Inv X pins σ (upd H s.heap.objs.size (.tup [x,y])) { s with heap:=h',toks:=t' }:=by
 have I1:=I.laid (h':=s.heap.push { cls:=.type "tuple",data:=.seq #[u,v] }) (t':=s.toks) (a:=s.heap.objs.size) (o:=.tup [x,y]) (fun b ob q=>U0c _ q) (U0h _)
  ⟨(by decide:2<=sizeLine),[u,v],.cons rx (.cons ry .nil),U6t _ _⟩
 refine Inv.YG (s:={ s with heap:=s.heap.push { cls:=.type "tuple",data:=.seq #[u,v] } }) (h':=h') (t':=t') (fp:=fp) I1 (fun b o hb e=>?_) (fun b hb=>?_)
 .rcases Heap.get?_push_cases e with ⟨z1,z2⟩|z
  .rw[z1,z2]
   exact ht
  .exact k b o hb z
 .obtain⟨a1,a2,a3,a4,a5,a6⟩:=hf b hb
  exact⟨by rw[Bo (U05 (hlt b hb))];exact a1,a2,a3,a4,a5,a6⟩
section
variable{X:Cx}
end
end L2
end
section
set_option maxRecDepth 100000
namespace HT
open PySem PySem.Spec PyProof.Rows
section
variable{prog:Program}{w:World}{A:Around}{E:Value->Shared->Prop}{s:Shared}
theorem nextT{it t:Addr}{i:Nat}{ws:Array Value}{x:Value}{Q:Value->Shared->Prop}(c:s.heap.IsTupleIter it t i)(ct:s.heap.IsTuple t ws)(ex:ws[i]?=some x)
  (q:∀h',h'.IsTupleIter it t (i+1)->U07 it s.heap h'->Q x { s with heap:=h' }):wpAny (model prog w) A (U2a (.ref it)) Q E s:=by
 obtain⟨o,e0,e1,e2⟩:=id c
 obtain⟨ot,f0,_,nt,f1⟩:=ct
 unfold U2a
 refine U0 (wpAny_callSpecial?_slot (name:=U3x "__next__") c.typeIs U3r (U2i U3r c.typeIs PySem.F.entry_tuple_iterator_next ?_ (PySem.F.args_tuple_iterator_next_1 _)))
 refine(show wpAny _ _ (field (.ref it) 0 >>= _) _ _ s from U0 (U2k e0 e2 (x:=.ref t) rfl ?_))
 show wpAny _ _ (ite ((U26 t==U2f)=true) _ _) _ _ s
 rw[if_neg (by exact U08)]
 refine(show wpAny _ _ (field (.ref it) 1 >>= _) _ _ s from U0 (U2k e0 e2 (x:=.int i 0) rfl ?_))
 refine(show wpAny _ _ (seqItems? (.ref t) >>= _) _ _ s from U0 (U3b f0 f1 ?_))
 simp only[ex,U4l]
 refine U0 (U21 e0 e2 (by simp) (U0d ⟨x,rfl,U0d (q _ ⟨_,U2o _ e0 (Obj.isFreed_of_fields (Obj.data_mapFields e2 _)),(Obj.cls_mapFields ..).trans e1,?_⟩ (U14 ..))⟩))
 rw[Obj.data_mapFields e2]
 simp[rawInt]
theorem oJ{it t:Addr}{i:Nat}{ws:Array Value}{Q:Value->Shared->Prop}(ha:A.handled=none)(c:s.heap.IsTupleIter it t i)(ct:s.heap.IsTuple t ws)(ex:ws[i]?=none)
  (q:∀h' e,U6q it s.heap h'->(∃o,h'.get? e=some o/\o.cls=.type "StopIteration")->E (.ref e) { s with heap:=h' }):wpAny (model prog w) A (U2a (.ref it)) Q E s:=by
 obtain⟨o,e0,e1,e2⟩:=id c
 obtain⟨ot,f0,_,nt,f1⟩:=ct
 unfold U2a
 refine U0 (wpAny_callSpecial?_slot (name:=U3x "__next__") c.typeIs U3r (U2i U3r c.typeIs PySem.F.entry_tuple_iterator_next ?_ (PySem.F.args_tuple_iterator_next_1 _)))
 refine(show wpAny _ _ (field (.ref it) 0 >>= _) _ _ s from U0 (U2k e0 e2 (x:=.ref t) rfl ?_))
 show wpAny _ _ (ite ((U26 t==U2f)=true) _ _) _ _ s
 rw[if_neg (by exact U08)]
 refine(show wpAny _ _ (field (.ref it) 1 >>= _) _ _ s from U0 (U2k e0 e2 (x:=.int i 0) rfl ?_))
 refine(show wpAny _ _ (seqItems? (.ref t) >>= _) _ _ s from U0 (U3b f0 f1 ?_))
 simp only[ex,U4l]
 refine U0 (U3 (U0 (U21 e0 e2 (by simp) (show wpAny _ _ (newExc (.type "StopIteration") [] >>= _) _ _ _ from U0 ?_))))
 simp only[newTuple,newExc]
 refine U0 (U1p (U0 (m:=firstArgMember _ _) (wpAny_of_eq (a:=U2f) (by first|rfl|(simp only[firstArgMember];rfl)) (U1p ?_ (by size_fits)))) (by size_fits))
 simp only[raiseNew]
 refine U0 (wpAny_handled ?_)
 rw[show A.in1.handled=none from ha]
 exact U0 (U0d (wpAny_throw (q _ _ (((U14 ..).extBut.push _).push _) ⟨_,U0r _ rfl,rfl⟩)))
theorem pA(ha:A.handled=none)(it t:Addr)(ne:t≠it)(ws:Array Value):Draws prog w A it [it,t] ws.size (fun i v=>ws[i]?=some v) (fun i h=>h.IsTupleIter it t i/\h.IsTuple t ws) where
 live:=fun _ _ st=>let ⟨o,e,_⟩:=st.1;⟨o,e⟩
 frame:=fun _ _ _ st k=>⟨st.1.at fun o e=>k it (by simp) o e,st.2.at fun o e=>k t (by simp) o e⟩
 item:=fun i s Q E hi st q=>nextT st.1 st.2 (x:=ws[i]) (by simp[hi]) fun h' c' sb=>q _ h' s.toks (by simp[hi]) ⟨c',st.2.extBut sb.extBut ne⟩ sb
 done:=fun s Q E st q=>oJ ha st.1 st.2 (by simp) q
structure Apart(z TI TO i1 i2:Addr)(fp1 fp2:List Addr):Prop where
 a1:TI≠z
 a2:TO≠z
 a3:TI≠TO
 b1:∀b∈fp1,b≠z/\b≠TO/\b≠i2
 b2:∀b∈fp2,b≠z/\b≠TO/\b≠i1
 c1:i1≠z/\i1≠TO/\i1≠TI
 c2:i2≠z/\i2≠TO/\i2≠TI
 c3:i1≠i2
section
variable{z TI TO i1 i2:Addr}{fp1 fp2:List Addr}{n1 n2 k:Nat}{P1 P2:Nat->Value->Prop}{S1 S2:Nat->Heap->Prop}{a b:Value}
theorem rY{Q:Value->Shared->Prop}(D1:Draws prog w A i1 fp1 n1 P1 S1)(D2:Draws prog w A i2 fp2 n2 P2 S2)(D:Apart z TI TO i1 i2 fp1 fp2)(hZ:IsZip s.heap z TI TO .none)(hI:IsPair s.heap TI (.ref i1) (.ref i2))(hO:IsPair s.heap TO a b)
  (s1:S1 k s.heap) (s2:S2 k s.heap) (k1:k<n1) (k2:k<n2)
  (q:∀x y h' tk,P1 k x->P2 k y->IsZip h' z TI TO (rawInt s.heap.objs.size)->IsPair h' TO x y->S1 (k+1) h'->S2 (k+1) h'->IsPair h' s.heap.objs.size x y->h'.objs.size=s.heap.objs.size+1 ->
   (∀c o,c≠z->c≠TO->c≠i1->c≠i2->s.heap.get? c=some o->h'.get? c=some o)->Q (.ref s.heap.objs.size) { s with heap:=h',toks:=tk }) :
  wpAny (model prog w) A (Builtin.«zip.__next__» ⟨[.ref z],[]⟩) (fun fin s'=>∃v,fin=.done (.ret v)/\Q v s') E s:=by
 obtain⟨hp,g,d,tk0,os⟩:=s
 refine(show wpAny _ _ (field (.ref z) 2 >>= _) _ _ _ from U0 (U2k hZ rfl (x:=.bool false) rfl ?_))
 refine(show wpAny _ _ (field (.ref z) 3 >>= _) _ _ _ from U0 (U2k hZ rfl (x:=.ref TI) rfl (U0 (U3b hI rfl ?_))))
 refine(show wpAny _ _ (U3d (.ref z) >>= _) _ _ _ from U0 ?_)
 unfold U3d
 refine U0 (U2k hZ rfl (x:=.none) rfl (U0d ?_))
 simp only[if_true]
 refine U0 (U3 (U0 (U2k hZ rfl (x:=.ref TO) rfl (U0 (U4a hZ (by simp) fun g1 z1 m1=>?_)))))
 replace z1:IsZip g1 z TI TO .ellipsis:=z1
 replace m1:U07 z hp g1:=m1
 refine U0 ?_
 simp only[U7d,List.zipIdx_nil,U5r,U7t]
 have t1:S1 k g1:=D1.frame _ _ _ s1 fun c hc o e=>m1.extBut _ _ (D.b1 c hc).1 e
 have u1:S2 k g1:=D2.frame _ _ _ s2 fun c hc o e=>m1.extBut _ _ (D.b2 c hc).1 e
 refine U0 (U0 (U6c (show wpAny _ _ (U2a (.ref i1) >>= _) _ _ _ from U0 (D1.item k ⟨g1,g,d,tk0,os⟩ _ _ k1 t1 fun x g2 tk1 px t2 m2=>U0d ?_))))
 replace m2:U07 i1 g1 g2:=m2
 have o2:IsPair g2 TO a b:=m2.extBut _ _ (U2g D.c1.2.1) (m1.extBut _ _ D.a2 hO)
 refine U0 (U3b o2 rfl (U0 (U6k o2 fun g3 o3 m3=>?_)))
 replace o3:IsPair g3 TO x b:=o3
 replace m3:U07 TO g2 g3:=m3
 have u3:S2 k g3:=D2.frame _ _ _ u1 fun c hc o e=>m3.extBut _ _ (D.b2 c hc).2.1 (m2.extBut _ _ (D.b2 c hc).2.2 e)
 refine U0 (wpAny_letGo (U0d ?_))
 refine U0 (U0 (U6c (show wpAny _ _ (U2a (.ref i2) >>= _) _ _ _ from U0 (D2.item k ⟨g3,g,d,tk1,os⟩ _ _ k2 u3 fun y g4 tk2 py u4 m4=>U0d ?_))))
 replace m4:U07 i2 g3 g4:=m4
 have o4:IsPair g4 TO x b:=m4.extBut _ _ (U2g D.c2.2.1) o3
 refine U0 (U3b o4 rfl (U0 (U6k o4 fun g5 o5 m5=>?_)))
 replace o5:IsPair g5 TO x y:=o5
 replace m5:U07 TO g4 g5:=m5
 refine U0 (wpAny_letGo (U0d (U0d (U0 (U3b o5 rfl (U0 (wpAny_newTuple ?_)))))))
 have sz:g5.objs.size=hp.objs.size:=by rw[m5.1,m4.1,m3.1,m2.1,m1.1]
 have z5:IsZip g5 z TI TO .ellipsis:=m5.extBut _ _ (U2g D.a2) (m4.extBut _ _ (U2g D.c2.1) (m3.extBut _ _ (U2g D.a2) (m2.extBut _ _ (U2g D.c1.1) z1)))
 have kk:∀c o,c≠z->c≠TO->c≠i1->c≠i2->hp.get? c=some o->g5.get? c=some o:=fun c o n1 n2 n3 n4 e=>m5.extBut _ _ n2 (m4.extBut _ _ n4 (m3.extBut _ _ n2 (m2.extBut _ _ n3 (m1.extBut _ _ n1 e))))
 have lz:z<g5.objs.size:=U0i z5
 refine(show wpAny _ _ (Builtin.SmallTypes.ownedTupleHandOut (.ref z) (.ref g5.objs.size) >>= _) _ _ _ from U0 ?_)
 unfold Builtin.SmallTypes.ownedTupleHandOut
 have z6:IsZip (g5.push { cls:=.type "tuple",data:=.seq #[x,y] }) z TI TO .ellipsis:=U0c _ z5
 refine U0 (U4a z6 (by simp) fun g7 z7 m7=>?_)
 replace z7:IsZip g7 z TI TO (rawInt g5.objs.size):=z7
 refine U4a z7 (by simp) fun g8 z8 m8=>?_
 replace z8:IsZip g8 z TI TO (rawInt g5.objs.size):=z8
 have up:∀c o,c≠z->g5.get? c=some o->g8.get? c=some o:=fun c o n e=>m8.extBut _ _ n (m7.extBut _ _ n (U0c _ e))
 have p8:IsPair g8 g5.objs.size x y:=m8.extBut _ _ (U3k lz) (m7.extBut _ _ (U3k lz) (U0r _ rfl))
 have w8:g8.objs.size=g5.objs.size+1:=by rw[m8.1,m7.1,U2h]
 rw[sz] at z8 p8 w8
 refine U0d ⟨_,rfl,?_⟩
 show Q (.ref g5.objs.size) _
 rw[sz]
 refine q x y g8 tk2 px py z8 (up _ _ D.a2 o5) ?_ ?_ p8 w8 fun c o n1 n2 n3 n4 e=>up c o n1 (kk c o n1 n2 n3 n4 e)
 .exact D1.frame _ _ _ t2 fun c hc o e=>up _ _ (D.b1 c hc).1 (m5.extBut _ _ (D.b1 c hc).2.1 (m4.extBut _ _ (D.b1 c hc).2.2 (m3.extBut _ _ (D.b1 c hc).2.1 e)))
 .exact D2.frame _ _ _ u4 fun c hc o e=>up _ _ (D.b2 c hc).1 (m5.extBut _ _ (D.b2 c hc).2.1 e)
theorem rZ{Q:PySem.Fin->Shared->Prop}(D1:Draws prog w A i1 fp1 n1 P1 S1)(D2:Draws prog w A i2 fp2 n2 P2 S2)(D:Apart z TI TO i1 i2 fp1 fp2)(hZ:IsZip s.heap z TI TO .none)(hI:IsPair s.heap TI (.ref i1) (.ref i2))(hO:IsPair s.heap TO a b)
  (s1:S1 k s.heap) (s2:S2 k s.heap) (ke:k=n1∨(k<n1/\k=n2))
  (q:∀h' e tk,(∀c o,c≠z->c≠TO->c≠i1->c≠i2->s.heap.get? c=some o->h'.get? c=some o)->(∃o,h'.get? e=some o/\o.cls=.type "StopIteration")->E (.ref e) { s with heap:=h',toks:=tk }) :
  wpAny (model prog w) A (Builtin.«zip.__next__» ⟨[.ref z],[]⟩) Q E s:=by
 obtain⟨hp,g,d,tk0,os⟩:=s
 refine(show wpAny _ _ (field (.ref z) 2 >>= _) _ _ _ from U0 (U2k hZ rfl (x:=.bool false) rfl ?_))
 refine(show wpAny _ _ (field (.ref z) 3 >>= _) _ _ _ from U0 (U2k hZ rfl (x:=.ref TI) rfl (U0 (U3b hI rfl ?_))))
 refine(show wpAny _ _ (U3d (.ref z) >>= _) _ _ _ from U0 ?_)
 unfold U3d
 refine U0 (U2k hZ rfl (x:=.none) rfl (U0d ?_))
 simp only[if_true]
 refine U0 (U3 (U0 (U2k hZ rfl (x:=.ref TO) rfl (U0 (U4a hZ (by simp) fun g1 z1 m1=>?_)))))
 replace z1:IsZip g1 z TI TO .ellipsis:=z1
 replace m1:U07 z hp g1:=m1
 refine U0 ?_
 simp only[U7d,List.zipIdx_nil,U5r,U7t]
 have t1:S1 k g1:=D1.frame _ _ _ s1 fun c hc o e=>m1.extBut _ _ (D.b1 c hc).1 e
 have u1:S2 k g1:=D2.frame _ _ _ s2 fun c hc o e=>m1.extBut _ _ (D.b2 c hc).1 e
 rcases ke with ke|⟨k1,ke⟩
 .subst ke
  refine U0 (U0 (U6c (show wpAny _ _ (U2a (.ref i1) >>= _) _ _ _ from U0 (D1.done ⟨g1,g,d,tk0,os⟩ _ _ t1 fun g2 e m2 he=>?_))))
  obtain⟨oe,he1,he2⟩:=he
  replace m2:U6q i1 g1 g2:=m2
  have z2:IsZip g2 z TI TO .ellipsis:=m2 _ _ (U2g D.c1.1) z1
  have ez:e≠z:=fun x=>by subst x;rw[z2] at he1;cases he1;simp at he2
  exact U4a z2 (by simp) fun g3 _ m3=>q g3 e _ (fun c o n1 _ n3 _ x=>m3.extBut _ _ n1 (m2 _ _ n3 (m1.extBut _ _ n1 x))) ⟨oe,m3.extBut _ _ ez he1,he2⟩
 .refine U0 (U0 (U6c (show wpAny _ _ (U2a (.ref i1) >>= _) _ _ _ from U0 (D1.item k ⟨g1,g,d,tk0,os⟩ _ _ k1 t1 fun x g2 tk1 px t2 m2=>U0d ?_))))
  replace m2:U07 i1 g1 g2:=m2
  have o2:IsPair g2 TO a b:=m2.extBut _ _ (U2g D.c1.2.1) (m1.extBut _ _ D.a2 hO)
  refine U0 (U3b o2 rfl (U0 (U6k o2 fun g3 o3 m3=>?_)))
  replace m3:U07 TO g2 g3:=m3
  have u3:S2 k g3:=D2.frame _ _ _ u1 fun c hc o e=>m3.extBut _ _ (D.b2 c hc).2.1 (m2.extBut _ _ (D.b2 c hc).2.2 e)
  rw[ke] at u3
  refine U0 (wpAny_letGo (U0d ?_))
  refine U0 (U0 (U6c (show wpAny _ _ (U2a (.ref i2) >>= _) _ _ _ from U0 (D2.done ⟨g3,g,d,tk1,os⟩ _ _ u3 fun g4 e m4 he=>?_))))
  obtain⟨oe,he1,he2⟩:=he
  replace m4:U6q i2 g3 g4:=m4
  have z4:IsZip g4 z TI TO .ellipsis:=m4 _ _ (U2g D.c2.1) (m3.extBut _ _ (U2g D.a2) (m2.extBut _ _ (U2g D.c1.1) z1))
  have ez:e≠z:=fun x=>by subst x;rw[z4] at he1;cases he1;simp at he2
  exact U4a z4 (by simp) fun g5 _ m5=>q g5 e _ (fun c o n1 n2 n3 n4 x=>m5.extBut _ _ n1 (m4 _ _ n4 (m3.extBut _ _ n2 (m2.extBut _ _ n3 (m1.extBut _ _ n1 x))))) ⟨oe,m5.extBut _ _ ez he1,he2⟩
theorem gR{Q:Option Value->Shared->Prop}(D1:Draws prog w A.in1 i1 fp1 n1 P1 S1)(D2:Draws prog w A.in1 i2 fp2 n2 P2 S2)(D:Apart z TI TO i1 i2 fp1 fp2)(hZ:IsZip s.heap z TI TO .none)(hI:IsPair s.heap TI (.ref i1) (.ref i2))(hO:IsPair s.heap TO a b)
  (s1:S1 k s.heap) (s2:S2 k s.heap) (k1:k<n1) (k2:k<n2)
  (q:∀x y h' tk,P1 k x->P2 k y->IsZip h' z TI TO (rawInt s.heap.objs.size)->IsPair h' TO x y->S1 (k+1) h'->S2 (k+1) h'->IsPair h' s.heap.objs.size x y->h'.objs.size=s.heap.objs.size+1 ->
   (∀c o,c≠z->c≠TO->c≠i1->c≠i2->s.heap.get? c=some o->h'.get? c=some o)->Q (some (.ref s.heap.objs.size)) { s with heap:=h',toks:=tk }) :
  wpAny (model prog w) A (pyNext (.ref z)) Q E s:=by
 have T:s.TypeIs (.ref z) "zip":=⟨_,hZ,rfl⟩
 unfold pyNext
 exact U0 (U6b (wpAny_callSpecial?_slot (name:=U3x "__next__") T U48 (U2i U48 T PySem.F.entry_zip_next (rY D1 D2 D hZ hI hO s1 s2 k1 k2 fun x y h' tk c1 c2 c3 c4 c5 c6 c7 c8 c9=>U0d (q x y h' tk c1 c2 c3 c4 c5 c6 c7 c8 c9)) (PySem.F.args_zip_next_1 _))))
theorem gQ{Q:Option Value->Shared->Prop}(D1:Draws prog w A.in1 i1 fp1 n1 P1 S1)(D2:Draws prog w A.in1 i2 fp2 n2 P2 S2)(D:Apart z TI TO i1 i2 fp1 fp2)(hZ:IsZip s.heap z TI TO .none)(hI:IsPair s.heap TI (.ref i1) (.ref i2))(hO:IsPair s.heap TO a b)
  (s1:S1 k s.heap) (s2:S2 k s.heap) (ke:k=n1∨(k<n1/\k=n2))
  (q:∀h' tk,(∀c o,c≠z->c≠TO->c≠i1->c≠i2->s.heap.get? c=some o->h'.get? c=some o)->Q none { s with heap:=h',toks:=tk }):wpAny (model prog w) A (pyNext (.ref z)) Q E s:=by
 have T:s.TypeIs (.ref z) "zip":=⟨_,hZ,rfl⟩
 unfold pyNext
 refine U0 (U6b (wpAny_callSpecial?_slot (name:=U3x "__next__") T U48 (U2i U48 T PySem.F.entry_zip_next (rZ D1 D2 D hZ hI hO s1 s2 ke fun h' e tk kk he=>?_) (PySem.F.args_zip_next_1 _))))
 obtain⟨o,e1,e2⟩:=he
 exact U0 (U6d (T:="StopIteration") (b:=true) ⟨o,e1,e2⟩ isSubtype_stop (U0d (q h' tk kk)))
end
abbrev itO(c:String)(l:Addr):Obj:={ cls:=.type c,data:=.fields #[.ref l,.int 0 0] }
abbrev zt1(c1:String)(h:Heap)(l1:Addr):Heap:=h.push (itO c1 l1)
abbrev zt2(c1 c2:String)(h:Heap)(l1 l2:Addr):Heap:=(zt1 c1 h l1).push (itO c2 l2)
abbrev zt3(c1 c2:String)(h:Heap)(l1 l2:Addr):Heap:=(zt2 c1 c2 h l1 l2).push { cls:=.type "tuple",data:=.seq #[.ref h.objs.size,.ref (zt1 c1 h l1).objs.size] }
abbrev zt4(c1 c2:String)(h:Heap)(l1 l2:Addr):Heap:=(zt3 c1 c2 h l1 l2).push { cls:=.type "tuple",data:=.seq #[.none,.none] }
abbrev zt5(c1 c2:String)(h:Heap)(l1 l2:Addr):Heap:=(zt4 c1 c2 h l1 l2).push { cls:=.type "zip",data:=.fields #[.none,.bool false,.bool false,.ref (zt2 c1 c2 h l1 l2).objs.size,.ref (zt3 c1 c2 h l1 l2).objs.size] }
theorem gU(l1 l2:Addr)(xs ys:Array Value):Meets (Builtin.«zip.__new__» ⟨[.type "zip",.ref l1,.ref l2],[]⟩) (fun _ R s=>s.heap.IsTuple l1 xs/\s.heap.IsTuple l2 ys/\R (.ok (.ret (.ref (zt4 "tuple_iterator" "tuple_iterator" s.heap l1 l2).objs.size))) { s with heap:=zt5 "tuple_iterator" "tuple_iterator" s.heap l1 l2 }) :=
 .of_wp fun prog w A R s h=>by
  obtain⟨hp,g,d,tk,os⟩:=s
  obtain⟨e1,e2,h⟩:=h
  have sub:=sub_zip
  have T1:U6l (U7n ⟨hp,g,d,tk,os⟩) l1 xs:=e1
  have T2:U6l (U7n ⟨hp.push { cls:=.type "tuple_iterator",data:=.fields #[.ref l1,.int 0 0] },g,d,tk,os⟩) l2 ys:=U6l.push e2 _
  wp_walk using U5v T1,U5v T2
  exact⟨_,rfl,h⟩
theorem gW(l1 l2:Addr)(xs ys:Array Value):Meets (Builtin.«zip.__new__» ⟨[.type "zip",.ref l1,.ref l2],[]⟩) (fun _ R s=>s.heap.IsList l1 xs/\s.heap.IsTuple l2 ys/\R (.ok (.ret (.ref (zt4 "list_iterator" "tuple_iterator" s.heap l1 l2).objs.size))) { s with heap:=zt5 "list_iterator" "tuple_iterator" s.heap l1 l2 }) :=
 .of_wp fun prog w A R s h=>by
  obtain⟨hp,g,d,tk,os⟩:=s
  obtain⟨e1,e2,h⟩:=h
  have sub:=sub_zip
  have T1:Heap.IsList (U7n ⟨hp,g,d,tk,os⟩) l1 xs:=e1
  have T2:U6l (U7n ⟨hp.push { cls:=.type "list_iterator",data:=.fields #[.ref l1,.int 0 0] },g,d,tk,os⟩) l2 ys:=U6l.push e2 _
  wp_walk using U56 T1,U5v T2
  exact⟨_,rfl,h⟩
theorem X4{c1 c2:String}{l1 l2:Addr}{P1 P2:Heap->Prop}{Q:Value->Shared->Prop}(m:Meets (Builtin.«zip.__new__» ⟨[.type "zip",.ref l1,.ref l2],[]⟩) (fun _ R s=>P1 s.heap/\P2 s.heap/\R (.ok (.ret (.ref (zt4 c1 c2 s.heap l1 l2).objs.size))) { s with heap:=zt5 c1 c2 s.heap l1 l2 }))(e1:P1 s.heap)(e2:P2 s.heap)
  (q:∀h',IsZip h' (s.heap.objs.size+4) (s.heap.objs.size+2) (s.heap.objs.size+3) .none->IsPair h' (s.heap.objs.size+2) (.ref s.heap.objs.size) (.ref (s.heap.objs.size+1))->IsPair h' (s.heap.objs.size+3) .none .none ->
   h'.get? s.heap.objs.size=some (itO c1 l1)->h'.get? (s.heap.objs.size+1)=some (itO c2 l2)->(∀c o,s.heap.get? c=some o->h'.get? c=some o)->Q (.ref (s.heap.objs.size+4)) { s with heap:=h' }) :
  wpAny (model prog w) A (call (.type "zip") [.ref l1,.ref l2]) Q E s:=by
 refine callType_new PySem.F.called_zip (by decide) (PySem.F.typeCall_zip_2 _ _) (PySem.F.newCall_zip_2 _ _) (fun obj=>PySem.F.args_object_init_3 obj _ _) PySem.F.entry_zip_new m ⟨e1,e2,?_⟩
 have z1:(zt1 c1 s.heap l1).objs.size=s.heap.objs.size+1:=U2h ..
 have z2:(zt2 c1 c2 s.heap l1 l2).objs.size=s.heap.objs.size+2:=by rw[U2h,z1]
 have z3:(zt3 c1 c2 s.heap l1 l2).objs.size=s.heap.objs.size+3:=by rw[U2h,z2]
 have z4:(zt4 c1 c2 s.heap l1 l2).objs.size=s.heap.objs.size+4:=by rw[U2h,z3]
 have g5:(zt5 c1 c2 s.heap l1 l2).get? (zt4 c1 c2 s.heap l1 l2).objs.size=some _:=U0r _ rfl
 have g4:(zt5 c1 c2 s.heap l1 l2).get? (zt3 c1 c2 s.heap l1 l2).objs.size=some _:=U0c _ (U0r _ rfl)
 have g3:(zt5 c1 c2 s.heap l1 l2).get? (zt2 c1 c2 s.heap l1 l2).objs.size=some _:=U0c _ (U0c _ (U0r _ rfl))
 have g2:(zt5 c1 c2 s.heap l1 l2).get? (zt1 c1 s.heap l1).objs.size=some _:=U0c _ (U0c _ (U0c _ (U0r _ rfl)))
 have g1:(zt5 c1 c2 s.heap l1 l2).get? s.heap.objs.size=some _:=U0c _ (U0c _ (U0c _ (U0c _ (U0r _ rfl))))
 have kk:∀c o,s.heap.get? c=some o->(zt5 c1 c2 s.heap l1 l2).get? c=some o:=fun c o e=>U0c _ (U0c _ (U0c _ (U0c _ (U0c _ e))))
 show _/\_
 rw[z2,z3,z4] at g5
 rw[z1,z2] at g3
 rw[z3] at g4
 rw[z1] at g2
 have Z:IsZip (zt5 c1 c2 s.heap l1 l2) (s.heap.objs.size+4) (s.heap.objs.size+2) (s.heap.objs.size+3) .none:=g5
 rw[z4]
 exact⟨⟨_,Z,rfl⟩,q _ Z g3 g4 g1 g2 kk⟩
theorem fQ{l1 l2:Addr}{xs ys:Array Value}{Q:Value->Shared->Prop}(e1:s.heap.IsTuple l1 xs)(e2:s.heap.IsTuple l2 ys)
  (q:∀h',IsZip h' (s.heap.objs.size+4) (s.heap.objs.size+2) (s.heap.objs.size+3) .none->IsPair h' (s.heap.objs.size+2) (.ref s.heap.objs.size) (.ref (s.heap.objs.size+1))->IsPair h' (s.heap.objs.size+3) .none .none ->
   h'.IsTupleIter s.heap.objs.size l1 0->h'.IsTupleIter (s.heap.objs.size+1) l2 0->(∀c o,s.heap.get? c=some o->h'.get? c=some o)->Q (.ref (s.heap.objs.size+4)) { s with heap:=h' }) :
  wpAny (model prog w) A (call (.type "zip") [.ref l1,.ref l2]) Q E s :=
 X4 (P1:=fun h=>h.IsTuple l1 xs) (P2:=fun h=>h.IsTuple l2 ys) (gU l1 l2 xs ys) e1 e2 fun h' c1 c2 c3 c4 c5 k=>q h' c1 c2 c3 ⟨_,c4,rfl,rfl⟩ ⟨_,c5,rfl,rfl⟩ k
theorem fU{l1 l2:Addr}{xs ys:Array Value}{Q:Value->Shared->Prop}(e1:s.heap.IsList l1 xs)(e2:s.heap.IsTuple l2 ys)
  (q:∀h',IsZip h' (s.heap.objs.size+4) (s.heap.objs.size+2) (s.heap.objs.size+3) .none->IsPair h' (s.heap.objs.size+2) (.ref s.heap.objs.size) (.ref (s.heap.objs.size+1))->IsPair h' (s.heap.objs.size+3) .none .none ->
   h'.IsListIter s.heap.objs.size l1 0->h'.IsTupleIter (s.heap.objs.size+1) l2 0->(∀c o,s.heap.get? c=some o->h'.get? c=some o)->Q (.ref (s.heap.objs.size+4)) { s with heap:=h' }) :
  wpAny (model prog w) A (call (.type "zip") [.ref l1,.ref l2]) Q E s :=
 X4 (P1:=fun h=>h.IsList l1 xs) (P2:=fun h=>h.IsTuple l2 ys) (gW l1 l2 xs ys) e1 e2 fun h' c1 c2 c3 c4 c5 k=>q h' c1 c2 c3 ⟨_,c4,rfl,rfl⟩ ⟨_,c5,rfl,rfl⟩ k
end
end HT
end
section
namespace L2
open PySem PySem.Spec PyProof.Rows
def HB(L:Bool)(xs:List V):HO:=if L=true then .lst xs else .tup xs
theorem HB.inj{L:Bool}{xs ys:List V}(h:HB L xs=HB L ys):xs=ys:=by cases L<;>cases h<;>rfl
def Itz(L M:Bool)(a b:Addr):It :=
 ⟨fun i H=>∃xs ys x y,H a=some (HB L xs)/\H b=some (HB M ys)/\xs[i]?=some x/\ys[i]?=some y,
  fun i H v H'=>∃p x y,H p=none/\v=.ref p/\H'=upd H p (.tup [x,y])/\(∀xs,H a=some (HB L xs)->xs[i]?=some x)/\∀ys,H b=some (HB M ys)->ys[i]?=some y,
  fun i H=>∃xs ys,H a=some (HB L xs)/\H b=some (HB M ys)/\(i=xs.length∨(i<xs.length/\i=ys.length))⟩
def KQ(L:Bool)(h:Heap)(it a:Addr)(i:Nat):Prop:=if L=true then h.IsListIter it a i else h.IsTupleIter it a i
def mU(L:Bool)(h:Heap)(a:Addr)(ws:Array Value):Prop:=if L=true then h.IsList a ws else h.IsTuple a ws
theorem Rz{prog:Program}{w:World}{A:Around}(L:Bool)(ha:A.handled=none)(it t:Addr)(ne:t≠it)(ws:Array Value):Draws prog w A it [it,t] ws.size (fun i v=>ws[i]?=some v) (fun i h=>KQ L h it t i/\mU L h t ws):=by
 cases L with
 |true=>exact Draws.list ha it t ne ws
 |false=>exact HT.pA ha it t ne ws
theorem KQ.at{L:Bool}{h h':Heap}{it a:Addr}{i:Nat}(x:KQ L h it a i)(k:∀o,h.get? it=some o->h'.get? it=some o):KQ L h' it a i:=by
 cases L with
 |true=>exact Heap.IsListIter.at x k
 |false=>exact Heap.IsTupleIter.at x k
theorem KQ.obj{L:Bool}{h:Heap}{it a:Addr}{i:Nat}(x:KQ L h it a i):∃o vs,h.get? it=some o/\o.data=.fields vs:=by
 cases L with
 |true=>obtain⟨o,e,_,d⟩:=(show h.IsListIter it a i from x);exact⟨o,_,e,d⟩
 |false=>obtain⟨o,e,_,d⟩:=(show h.IsTupleIter it a i from x);exact⟨o,_,e,d⟩
theorem Inv.Tc{X:Cx}{pins:List (Addr×Obj)}{σ:St}{H:Hp}{s:Shared}{L:Bool}{a:Addr}{xs:List V}(I:Inv X pins σ H s)(h:H a=some (HB L xs)):∃its:List Value,Vals xs its/\mU L s.heap a its.toArray:=by
 cases L with
 |true=>obtain⟨its,rv,p,_⟩:=I.list (SqL.of h);exact⟨its,rv,p.isList⟩
 |false=>obtain⟨its,rv,p,_⟩:=I.tuple (SqT.of h);exact⟨its,rv,p⟩
def rF(L M:Bool)(a b z TI TO i1 i2:Addr)(i:Nat)(h:Heap):Prop:=IsZip h z TI TO .none/\IsPair h TI (.ref i1) (.ref i2)/\(∃c d,IsPair h TO c d)/\KQ L h i1 a i/\KQ M h i2 b i
theorem X5{z TI TO i1 i2 a b:Addr}(d1:TI≠z)(d2:TO≠z)(d3:TI≠TO)(d4:i1≠z/\i1≠TO/\i1≠TI)(d5:i2≠z/\i2≠TO/\i2≠TI)(d6:i1≠i2)(na:a ∉ [z,TI,TO,i1,i2])(nb:b ∉ [z,TI,TO,i1,i2]):HT.Apart z TI TO i1 i2 [i1,a] [i2,b] where
 a1:=d1
 a2:=d2
 a3:=d3
 b1:=fun c hc=>by
  simp only[U0k,U1m,or_false,not_or] at hc na
  rcases hc with rfl|rfl
  .exact⟨d4.1,d4.2.1,d6⟩
  .exact⟨na.1,na.2.2.1,na.2.2.2.2⟩
 b2:=fun c hc=>by
  simp only[U0k,U1m,or_false,not_or] at hc nb
  rcases hc with rfl|rfl
  .exact⟨d5.1,d5.2.1,U2g d6⟩
  .exact⟨nb.1,nb.2.2.1,nb.2.2.2.1⟩
 c1:=d4
 c2:=d5
 c3:=d6
theorem cj{P:Program}{w:World}{K:U0b}{elts:List Expr}{x1:Nat}{pos:Pos}(L M:Bool)(a b z TI TO i1 i2:Addr)(d1:TI≠z)(d2:TO≠z)(d3:TI≠TO)(d4:i1≠z/\i1≠TO/\i1≠TI)(d5:i2≠z/\i2≠TO/\i2≠TI)(d6:i1≠i2) :
  Turn P w K (.Tuple elts x1 pos) (Itz L M a b) [z,TI,TO,i1,i2] z (rF L M a b z TI TO i1 i2) where
 mem:=by simp
 obj:=fun i h st c hc=>by
  obtain⟨h1,h2,⟨c',d',h3⟩,h4,h5⟩:=st
  simp only[U0k,U1m,or_false] at hc
  rcases hc with rfl|rfl|rfl|rfl|rfl
  .exact⟨_,h1,fun v q=>by cases q⟩
  .exact⟨_,h2,fun v q=>by cases q⟩
  .exact⟨_,h3,fun v q=>by cases q⟩
  .obtain⟨o,vs,e,d⟩:=h4.obj
   exact⟨o,e,fun v q=>by rw[d] at q;cases q⟩
  .obtain⟨o,vs,e,d⟩:=h5.obj
   exact⟨o,e,fun v q=>by rw[d] at q;cases q⟩
 keep:=fun i h h' st k=>by
  obtain⟨h1,h2,⟨c',d',h3⟩,h4,h5⟩:=st
  exact⟨k z (by simp) _ h1,k TI (by simp) _ h2,⟨c',d',k TO (by simp) _ h3⟩,h4.at fun o q=>k i1 (by simp) o q,h5.at fun o q=>k i2 (by simp) o q⟩
 item:=by
  intro X hP hw hK hc i pins s σ H E I hf st hg
  subst hP hw hK
  obtain⟨xs,ys,x,y,hq1,hq2,hx,hy⟩:=hg
  obtain⟨its1,rv1,p1⟩:=I.Tc hq1
  obtain⟨its2,rv2,p2⟩:=I.Tc hq2
  obtain⟨u,hu,ru⟩:=rv1.get hx
  obtain⟨v,hv,rv⟩:=rv2.get hy
  obtain⟨h1,h2,⟨c',d',h3⟩,h4,h5⟩:=st
  have lt:∀c∈[z,TI,TO,i1,i2],c<s.heap.objs.size:=fun c hc=>by
   simp only[U0k,U1m,or_false] at hc
   rcases hc with rfl|rfl|rfl|rfl|rfl
   .exact U0i h1
   .exact U0i h2
   .exact U0i h3
   .obtain⟨o,vs,e,_⟩:=h4.obj;exact U0i e
   .obtain⟨o,vs,e,_⟩:=h5.obj;exact U0i e
  have na:a ∉ [z,TI,TO,i1,i2]:=fun q=>by rw[(hf a q).1] at hq1;cases hq1
  have nb:b ∉ [z,TI,TO,i1,i2]:=fun q=>by rw[(hf b q).1] at hq2;cases hq2
  have ap:=X5 d1 d2 d3 d4 d5 d6 na nb
  have hh:X.A.in1.handled=none:=I.ok.hd hc
  refine HT.gR (Rz L hh i1 a (fun q=>na (by simp[q])) its1.toArray) (Rz M hh i2 b (fun q=>nb (by simp[q])) its2.toArray) ap h1 h2 h3 ⟨h4,p1⟩ ⟨h5,p2⟩ (by rw[U0l];exact(U0n.mp hu).1) (by rw[U0l];exact(U0n.mp hv).1)
   fun x' y' h' tk q1 q2 z' o' s1' s2' tp sz k=>⟨_,rfl,?_⟩
  have q1':its1[i]?=some x':=by simpa using q1
  have q2':its2[i]?=some y':=by simpa using q2
  rw[hu] at q1'
  rw[hv] at q2'
  cases q1'
  cases q2'
  refine wpAny_letOwnedTupleGo_zip z' fun h3' z2 sb=>?_
  have sb':U07 z h' h3':=sb
  have nz:s.heap.objs.size≠z:=U3k (lt z (by simp))
  have J:=I.qj (h':=h3') (t':=tk) (fp:=[z,TI,TO,i1,i2]) (x:=x) (y:=y) ru rv (sb'.extBut _ _ nz tp) (fun c o hc q=>by
   simp only[U0k,U1m,or_false,not_or] at hc
   exact sb'.extBut _ _ hc.1 (k c o hc.1 hc.2.2.1 hc.2.2.2.1 hc.2.2.2.2 q)) hf lt
  refine⟨.ref s.heap.objs.size,_,J,rfl,⟨_,x,y,I.hok.fresh (U0h _),rfl,rfl,fun zs hz=>?_,fun zs hz=>?_⟩,⟨z2,?_,⟨_,_,sb'.extBut _ _ d2 o'⟩,s1'.1.at fun o q=>sb'.extBut _ _ d4.1 q,s2'.1.at fun o q=>sb'.extBut _ _ d5.1 q⟩,fun c hc=>?_⟩
  .rw[hq1] at hz
   rw[←HB.inj (U0u hz)]
   exact hx
  .rw[hq2] at hz
   rw[←HB.inj (U0u hz)]
   exact hy
  .exact sb'.extBut _ _ d1 (k TI _ d1 d3 (U2g d4.2.2) (U2g d5.2.2) h2)
  .rw[Bo (U05 (lt c hc))]
   exact(hf c hc).1
 done:=by
  intro X hP hw hK hc i pins s σ H E I hf st hg
  subst hP hw hK
  obtain⟨xs,ys,hq1,hq2,ke⟩:=hg
  obtain⟨its1,rv1,p1⟩:=I.Tc hq1
  obtain⟨its2,rv2,p2⟩:=I.Tc hq2
  obtain⟨h1,h2,⟨c',d',h3⟩,h4,h5⟩:=st
  have na:a ∉ [z,TI,TO,i1,i2]:=fun q=>by rw[(hf a q).1] at hq1;cases hq1
  have nb:b ∉ [z,TI,TO,i1,i2]:=fun q=>by rw[(hf b q).1] at hq2;cases hq2
  have hh:X.A.in1.handled=none:=I.ok.hd hc
  refine HT.gQ (Rz L hh i1 a (fun q=>na (by simp[q])) its1.toArray) (Rz M hh i2 b (fun q=>nb (by simp[q])) its2.toArray) (X5 d1 d2 d3 d4 d5 d6 na nb) h1 h2 h3 ⟨h4,p1⟩ ⟨h5,p2⟩ (by rw[U0l,U0l,←rv1.length,←rv2.length];exact ke)
   fun h' tk k=>⟨rfl,I.YG (t':=tk) (fp:=[z,TI,TO,i1,i2]) (fun c o hc q=>?_) hf⟩
  simp only[U0k,U1m,or_false,not_or] at hc
  exact k c o hc.1 hc.2.2.1 hc.2.2.2.1 hc.2.2.2.2 q
 self:=fun _ _ _ _ _ st h=>wpAny_pyIter_zip st.1 h
abbrev tG(L M:Bool)(ta:TA):TI:=fun σ H R=>ta σ H fun vs H1=>∃a b xs ys,vs=[.ref a,.ref b]/\H1 a=some (HB L xs)/\H1 b=some (HB M ys)/\R (Itz L M a b) H1
section
variable{X:Cx}
theorem Vq(L M:Bool)(hLM:L=M∨(L=true/\M=false)){a b:Expr}{ta:TA}{p pos:Pos}{elts:List Expr}{x1:Nat}{tpos:Pos}(hg:Gl X "zip")(hm:X.mg "zip"=none)(ha:PA X [a,b] ta)(hs:starEach [a,b] X.env=[(false,eval a X.env),(false,eval b X.env)]:=by rfl)(hs2:starEach [b] X.env=[(false,eval b X.env)]:=by rfl) :
  PI X (.Tuple elts x1 tpos) (.Call (.Name "zip" p) [a,b] [] pos) (tG L M ta):=by
 intro pins s σ H R I h
 refine Call_ (PB I hg hm (by decide +kernel:bootBuiltins "zip"=some (.type "zip")) (U5a (thn (ha pos pins s σ H _ I h) fun us s1 ⟨vs,H1,I1,r1,q1⟩=>?_) (by rw[hs,hs2]) (by rw[hs2];rfl)))
 obtain⟨l,m,xs,ys,e,e1,e2,q⟩:=q1
 subst e
 obtain⟨us1,us2⟩:us=[.ref l,.ref m]/\True:=by
  cases r1 with
  |cons r rr =>
   cases rr with
   |cons r' rr =>
    cases rr
    cases r
    cases r'
    exact⟨rfl,trivial⟩
 subst us1
 obtain⟨its1,rv1,p1⟩:=I1.Tc e1
 obtain⟨its2,rv2,p2⟩:=I1.Tc e2
 have fin:∀h',IsZip h' (s1.heap.objs.size+4) (s1.heap.objs.size+2) (s1.heap.objs.size+3) .none->IsPair h' (s1.heap.objs.size+2) (.ref s1.heap.objs.size) (.ref (s1.heap.objs.size+1))->IsPair h' (s1.heap.objs.size+3) .none .none ->
   KQ L h' s1.heap.objs.size l 0->KQ M h' (s1.heap.objs.size+1) m 0->(∀c o,s1.heap.get? c=some o->h'.get? c=some o)->wpAny (model X.prog X.w) X.A (pyIter (.ref (s1.heap.objs.size+4))) (PIE X pins σ (.Tuple elts x1 tpos) R) X.xe { s1 with heap:=h' }:=fun h' c1 c2 c3 c4 c5 k=>by
  refine wpAny_pyIter_zip c1 ?_
  refine⟨s1.heap.objs.size+4,[s1.heap.objs.size+4,s1.heap.objs.size+2,s1.heap.objs.size+3,s1.heap.objs.size,s1.heap.objs.size+1],_,_,H1,rfl,I1.kept (t':=s1.toks) k,
   cj L M l m _ _ _ _ _ (by simp) (by simp) (by simp) ⟨by simp,by simp,by simp⟩ ⟨by simp,by simp,by simp⟩ (by simp),⟨c1,c2,⟨_,_,c3⟩,c4,c5⟩,fun c hc=>?_,q⟩
  have hc':s1.heap.objs.size<=c:=by
   simp only[U0k,U1m,or_false] at hc
   rcases hc with rfl|rfl|rfl|rfl|rfl<;>first|exact U5c _ _|exact U0h _
  exact I1.Z6 hc' (I1.hok.fresh hc')
 cases L with
 |true =>
  cases M with
  |true=>exact call_zip_2 p1 p2 fun h' c1 c2 c3 c4 c5 _ k=>fin h' c1 c2 c3 c4 c5 k
  |false=>exact HT.fU p1 p2 fun h' c1 c2 c3 c4 c5 k=>fin h' c1 c2 c3 c4 c5 k
 |false =>
  cases M with
  |true=>rcases hLM with z|⟨z,_⟩<;>cases z
  |false=>exact HT.fQ p1 p2 fun h' c1 c2 c3 c4 c5 k=>fin h' c1 c2 c3 c4 c5 k
end
end L2
end
section
namespace L2
open PySem PySem.Spec PyProof.Rows
section
variable{k:Nat}{caps:List Nat}{σ:St}{g:TG}{tt:TT}{te:TE}{Q:VK}{H:Hp}
end
end L2
end
section
set_option maxRecDepth 100000
namespace HT
open PySem PySem.Spec PyProof.Rows
section
variable{prog:Program}{w:World}{A:Around}{E:Value->Shared->Prop}{s:Shared}
theorem ji{x:Value}{Tx:String}{tp:Addr}{cs:List Value}{vs:List Bool}{dd:Option Addr}{n:Nat}{sl:Array (Option Value)}(ha:AnswersAll (fun s=>s.TypeIs x Tx) x cs vs) :
  Meets (Builtin.«isinstance» ⟨[x,.ref tp],[]⟩) (fun _ R s=>s.TypeIs x Tx/\s.heap.get? tp=some { cls:=.type "tuple",dict:=dd,data:=.seq cs.toArray n,slots:=sl }/\∀tk,R (.ok (.ret (.bool (vs.any id)))) { s with toks:=tk }) :=
 fun prog w A R s hs=>isinstance_outer (by
  obtain⟨h,g,d,t,os⟩:=s
  obtain⟨hx,htp,hq⟩:=hs
  have T2:(⟨h,g,d,t,os⟩:Shared).TypeIs (.ref tp) "tuple":=⟨_,htp,rfl⟩
  have f1:=PySem.F.isi_sub_tuple
  repeat (any_goals first|assumption|wp_step)
  refine wpAny_arrayLoop ?_
  simp only[List.toList_toArray,Option.getD_some]
  refine isinstance_items (dep:=0) (fun _ tk q=>q.toks tk) cs vs _ _ ha hx fun tk'=>?_
  cases hv:vs.any id with
  |true =>
   simp only[if_true]
   repeat (any_goals first|assumption|wp_step)
   exact hv ▸ hq tk'
  |false =>
   simp only[if_false,U0w]
   repeat (any_goals first|assumption|wp_step)
   exact hv ▸ hq tk') (U5g.not_mainsLoader hs.1)
end
end HT
namespace L2
open PySem PySem.Spec PyProof.Rows
def isSeq:PyData->Bool
 |.list _=>true
 |.tuple _=>true
 |_=>false
def noDict:PyData->Bool
 |.dict _=>false
 |_=>true
theorem fY(T:String)(h:T="tuple"∨T="list"):typeOf (.type T)=pure (.type "type"):=by rcases h with rfl|rfl<;>first|rfl|kernel_rfl
theorem Iw{a b:String}(h:(a,b)∈[("int","tuple"),("int","list"),("bool","tuple"),("bool","list"),("str","tuple"),("str","list"),("NoneType","tuple"),("NoneType","list"),("list","tuple"),("tuple","list")]):isSubtype (.type a) (.type b)=pure false:=by
 simp only[U0k,U1m,or_false,Prod.mk.injEq] at h
 rcases h with ⟨rfl,rfl⟩|⟨rfl,rfl⟩|⟨rfl,rfl⟩|⟨rfl,rfl⟩|⟨rfl,rfl⟩|⟨rfl,rfl⟩|⟨rfl,rfl⟩|⟨rfl,rfl⟩|⟨rfl,rfl⟩|⟨rfl,rfl⟩<;>(rw[isSubtype_type];kernel_rfl)
theorem YK{a:String}(h:a="tuple"∨a="list"):isSubtype (.type a) (.type a)=pure true:=by rcases h with rfl|rfl<;>(rw[isSubtype_type];kernel_rfl)
section
variable{X:Cx}
theorem VH:Dd X (.builtin "isinstance") (fun xs H Q=>∃(N:Addr->Prop)(x:V)(d:PyData)(p:Addr),xs=[x,.ref p]/\H p=some (.tup [.ty "tuple",.ty "list"])/\Tr N H x d/\noDict d=true/\Q (.bl (isSeq d)) H):=by
 intro pins s σ H xs us Q I r h
 obtain⟨N,x,d,p,rfl,hp,t,nd,q⟩:=h
 obtain⟨u,v,rfl,rx,rv⟩:=vals2 r
 cases (show v=U26 p from rv)
 obtain⟨its,rt,pt,_⟩:=I.tuple (SqT.of hp)
 have ei:its=[.type "tuple",.type "list"]:=by
  cases rt with
  |cons r1 rr =>
   cases rr with
   |cons r2 rn =>
    cases rn
    cases (show _=U2r "tuple" from r1)
    cases (show _=U2r "list" from r2)
    rfl
 subst ei
 obtain⟨⟨c1,d1,x1,sl1⟩,ho,hc,n,hd⟩:=id pt
 simp only at hc hd
 subst hc hd
 have fin:∀(Tx:String)(vs:List Bool),AnswersAll (fun s=>s.TypeIs u Tx) u [.type "tuple",.type "list"] vs->s.TypeIs u Tx->vs.any id=isSeq d->wpAny (model X.prog X.w) X.A (call (.builtin "isinstance") [u,.ref p]) (EP X pins σ Q) X.xe s:=fun Tx vs ha hx e =>
  call_isinstance (HT.ji (cs:=[.type "tuple",.type "list"]) (dd:=d1) (n:=n) (sl:=sl1) ha) ⟨hx,ho,fun tk=>⟨.bl (isSeq d),H,I.tok tk,(by rw[e];rfl),q⟩⟩
 have y1:=fY "tuple" (.inl rfl)
 have y2:=fY "list" (.inr rfl)
 cases t with
 |non =>
  cases (show u=U2f from rx)
  exact fin "NoneType" [false,false] (.cons (Answers.of_false_none (by decide) y1 (Iw (by decide))) (.cons (Answers.of_false_none (by decide) y2 (Iw (by decide))) .nil)) rfl rfl
 |bl b =>
  cases (show u=U3l b from rx)
  exact fin "bool" [false,false] (.cons (Answers.of_false_bool (by decide) y1 (Iw (by decide))) (.cons (Answers.of_false_bool (by decide) y2 (Iw (by decide))) .nil)) rfl rfl
 |int i =>
  obtain⟨t,rfl⟩:=rx
  exact fin "int" [false,false] (.cons (Answers.of_false_int (by decide) y1 (Iw (by decide))) (.cons (Answers.of_false_int (by decide) y2 (Iw (by decide))) .nil)) rfl rfl
 |str z =>
  obtain⟨t,rfl⟩:=rx
  exact fin "str" [false,false] (.cons (Answers.of_false_str (by decide) y1 (Iw (by decide))) (.cons (Answers.of_false_str (by decide) y2 (Iw (by decide))) .nil)) rfl rfl
 |lst n1 h1 t1 =>
  cases rx
  obtain⟨its,_,pl,_⟩:=I.list (SqL.of h1)
  exact fin "list" [false,true] (.cons (Answers.of_false_list (by decide) y1 (Iw (by decide))) (.cons (Answers.of_true y2 (YK (.inr rfl))) .nil)) pl.isList.typeIs rfl
 |tup n1 h1 t1 =>
  cases rx
  obtain⟨its,_,pl,_⟩:=I.tuple (SqT.of h1)
  exact fin "tuple" [true,false] (.cons (Answers.of_true y1 (YK (.inl rfl))) (.cons (Answers.of_false_tuple (by decide) y2 (Iw (by decide))) .nil)) pl.typeIs rfl
 |dct _ _=>cases nd
end
end L2
end
section
namespace L2
open PySem PySem.Spec PyProof.Rows
end L2
namespace Bc
open PySem PySem.Spec PyProof.Rows L2
structure Good(n:Nat)(ds:List PyData):Prop where
 n1:1<=n
 n3:n<=3
 le:ds.length<=oK (.int n)
 all:ds.all (tK n)=true
end Bc
end
section
namespace L2
open PySem PySem.Spec PyProof.Rows
section
variable{X:Cx}{K:U0b}
end
end L2
namespace Bc
open PySem PySem.Spec PyProof.Rows L2
def mx(i j:Int):Int:=if j>i then j else i
def pairD(p:Int×Int):PyData:=.tuple [.int p.1,.int p.2]
end Bc
end
section
namespace VS
open PySem PySem.Spec L2
inductive D where
 |non|bl (b:Bool)|int (i:Int)|str (x:Str)|ty (n:String)
 |tup (ds:List D)|lst (m:Bool) (ds:List D)|ref (i:Nat)|scr (ns:List Int)|emp
 |dref (i:Nat)|dcf (kvs:List (Key×V))|dcm (kvs:List (Key×V))
abbrev Mu:=List (Option Addr)
def CV(μ:Mu)(a:Addr):Prop:=some a∈μ
structure Fr where
 K:U0b
 H0:Hp
 N:Addr->Prop
 m0:List Addr
def Fr.Ok(Γ:Fr)(m:Bool)(a:Addr):Prop:=(m=true->Γ.H0 a=none)/\(Γ.N a∨Γ.H0 a=none)
def IsL(H:Hp)(a:Addr):Prop:=∃xs,H a=some (.lst xs)
def IsK(H:Hp)(a:Addr):Prop:=∃kvs,H a=some (.dK kvs)
mutual
inductive VR (Γ:Fr) (μ:Mu) (H:Hp):V->D->Prop
 |non:VR Γ μ H .non .non
 |bl (b:Bool):VR Γ μ H (.bl b) (.bl b)
 |int (i:Int):VR Γ μ H (.int i) (.int i)
 |str (x:Str):VR Γ μ H (.str x) (.str x)
 |ty (n:String):VR Γ μ H (.ty n) (.ty n)
 |tup {a:Addr} {xs:List V} {ds:List D}:H a=some (.tup xs)->VRs Γ μ H xs ds->VR Γ μ H (.ref a) (.tup ds)
 |lst {m:Bool} {a:Addr} {xs:List V} {ds:List D}:Γ.Ok m a->¬CV μ a->H a=some (.lst xs)->VRs Γ μ H xs ds->VR Γ μ H (.ref a) (.lst m ds)
 |ref {i:Nat} {v:V}:i<μ.length->(∀a,μ[i]?=some (some a)->v=.ref a/\IsL H a)->VR Γ μ H v (.ref i)
 |dref {i:Nat} {v:V}:i<μ.length->(∀a,μ[i]?=some (some a)->v=.ref a/\IsK H a)->VR Γ μ H v (.dref i)
 |dcf {a:Addr} {kvs:List (Key×V)}:Γ.Ok false a->¬CV μ a->H a=some (.dK kvs)->VR Γ μ H (.ref a) (.dcf kvs)
 |scrK {a:Addr} {ns:List Int}:(∀H',SqL Γ.K H' a (ns.map V.int))->VR Γ μ H (.ref a) (.scr ns)
 |scrR {a:Addr} {ns:List Int} {o:Obj}:¬CV μ a->H a=some (.frz o (.lst (ns.map V.int)))->VR Γ μ H (.ref a) (.scr ns)
 |emp {a:Addr}:Γ.Ok false a->¬CV μ a->H a=some (.dK [])->VR Γ μ H (.ref a) .emp
inductive VRs (Γ:Fr) (μ:Mu) (H:Hp):List V->List D->Prop
 |nil:VRs Γ μ H [] []
 |cons {x:V} {d:D} {xs:List V} {ds:List D}:VR Γ μ H x d->VRs Γ μ H xs ds->VRs Γ μ H (x::xs) (d::ds)
end
structure Ext(μ:Mu)(H:Hp)(μ':Mu)(H':Hp):Prop where
 keep:∀a o,H a=some o->¬CV μ a->H' a=some o/\¬CV μ' a
 tups:∀a xs,H a=some (.tup xs)->H' a=some (.tup xs)
 none:∀a,H' a=none->H a=none
 ids:∀(i:Nat)(a:Addr),i<μ.length->μ'[i]?=some (some a)->μ[i]?=some (some a)
 len:μ.length<=μ'.length
 isl:∀a,CV μ a->IsL H a->IsL H' a
 isk:∀a,CV μ a->IsK H a->IsK H' a
theorem Ext.refl(μ:Mu)(H:Hp):Ext μ H μ H:=⟨fun _ _ h n=>⟨h,n⟩,fun _ _ h=>h,fun _ h=>h,fun _ _ _ h=>h,U0h _,fun _ _ h=>h,fun _ _ h=>h⟩
theorem Ext.trans{μ μ1 μ2:Mu}{H H1 H2:Hp}(a:Ext μ H μ1 H1)(b:Ext μ1 H1 μ2 H2):Ext μ H μ2 H2 :=
 ⟨fun c o h n=>let ⟨x,y⟩:=a.keep c o h n;b.keep c o x y,fun c xs h=>b.tups c xs (a.tups c xs h),fun c h=>a.none c (b.none c h),fun i c hi h=>a.ids i c hi (b.ids i c (U03 hi a.len) h),U00 a.len b.len,
  fun c l h=>by
  by_cases z:CV μ1 c
  .exact b.isl c z (a.isl c l h)
  .obtain⟨xs,e⟩:=a.isl c l h
   exact⟨xs,(b.keep c _ e z).1⟩,
  fun c l h=>by
  by_cases z:CV μ1 c
  .exact b.isk c z (a.isk c l h)
  .obtain⟨xs,e⟩:=a.isk c l h
   exact⟨xs,(b.keep c _ e z).1⟩⟩
section
variable{Γ:Fr}{μ μ':Mu}{H H':Hp}
mutual
theorem VR.ext(e:Ext μ H μ' H'):∀{v:V} {d:D},VR Γ μ H v d->VR Γ μ' H' v d
 |_,_,.non=>.non
 |_,_,.bl b=>.bl b
 |_,_,.int i=>.int i
 |_,_,.str x=>.str x
 |_,_,.ty n=>.ty n
 |_,_,.tup h t=>.tup (e.tups _ _ h) (VRs.ext e t)
 |_,_,.lst o n h t=>.lst o (e.keep _ _ h n).2 (e.keep _ _ h n).1 (VRs.ext e t)
 |_,_,.ref hi f=>.ref (U03 hi e.len) fun a q=>have z:=e.ids _ _ hi q;⟨(f a z).1,e.isl a (U2c z) (f a z).2⟩
 |_,_,.dref hi f=>.dref (U03 hi e.len) fun a q=>have z:=e.ids _ _ hi q;⟨(f a z).1,e.isk a (U2c z) (f a z).2⟩
 |_,_,.dcf o n h=>.dcf o (e.keep _ _ h n).2 (e.keep _ _ h n).1
 |_,_,.scrK h=>.scrK h
 |_,_,.scrR n h=>.scrR (e.keep _ _ h n).2 (e.keep _ _ h n).1
 |_,_,.emp o n h=>.emp o (e.keep _ _ h n).2 (e.keep _ _ h n).1
theorem VRs.ext(e:Ext μ H μ' H'):∀{vs:List V} {ds:List D},VRs Γ μ H vs ds->VRs Γ μ' H' vs ds
 |_,_,.nil=>.nil
 |_,_,.cons r t=>.cons (VR.ext e r) (VRs.ext e t)
end
theorem VRs.length:∀{xs:List V} {ds:List D},VRs Γ μ H xs ds->xs.length=ds.length
 |_,_,.nil=>rfl
 |_,_,.cons _ t=>by rw[U0g,U0g,VRs.length t]
theorem VRs.append:∀{xs ys:List V} {ds es:List D},VRs Γ μ H xs ds->VRs Γ μ H ys es->VRs Γ μ H (xs++ys) (ds++es)
 |_,_,_,_,.nil,t=>t
 |_,_,_,_,.cons r s,t=>.cons r (VRs.append s t)
theorem VRs.take:∀{xs:List V} {ds:List D} (n:Nat),VRs Γ μ H xs ds->VRs Γ μ H (xs.take n) (ds.take n)
 |_,_,0,_=>.nil
 |_,_,_+1,.nil=>.nil
 |_,_,n+1,.cons r t=>.cons r (VRs.take n t)
theorem VRs.drop:∀{xs:List V} {ds:List D} (n:Nat),VRs Γ μ H xs ds->VRs Γ μ H (xs.drop n) (ds.drop n)
 |_,_,0,r=>r
 |_,_,_+1,.nil=>.nil
 |_,_,n+1,.cons _ t=>VRs.drop n t
theorem VRs.get:∀{xs:List V} {ds:List D} {i:Nat} {d:D},VRs Γ μ H xs ds->ds[i]?=some d->∃x,xs[i]?=some x/\VR Γ μ H x d
 |_,_,_,_,.nil,h=>by simp at h
 |_,_,0,_,.cons r _,h=>by simp at h;subst h;exact⟨_,rfl,r⟩
 |_,_,i+1,d,.cons _ t,h=>by
  obtain⟨x,h1,h2⟩:=VRs.get (i:=i) (d:=d) t (by simpa using h)
  exact⟨x,by simpa using h1,h2⟩
theorem VRs.set{x:V}{d:D}(r:VR Γ μ H x d):∀{xs:List V} {ds:List D} (i:Nat),VRs Γ μ H xs ds->VRs Γ μ H (xs.set i x) (ds.set i d)
 |_,_,_,.nil=>.nil
 |_,_,0,.cons _ t=>.cons r t
 |_,_,i+1,.cons q t=>.cons q (VRs.set r i t)
theorem VRs.reverse:∀{xs:List V} {ds:List D},VRs Γ μ H xs ds->VRs Γ μ H xs.reverse ds.reverse
 |_,_,.nil=>.nil
 |_,_,.cons r t=>by rw[U54,U54];exact(VRs.reverse t).append (.cons r .nil)
theorem VRs.rep{xs:List V}{ds:List D}(h:VRs Γ μ H xs ds):∀n:Nat,VRs Γ μ H (U0q n xs).flatten (U0q n ds).flatten
 |0=>.nil
 |n+1=>by rw[U0t,U0t,U2s,U2s];exact h.append (VRs.rep h n)
theorem VRs.ints:∀(ns:List Int),VRs Γ μ H (ns.map V.int) (ns.map D.int)
 |[]=>.nil
 |n::r=>.cons (.int n) (VRs.ints r)
theorem VRs.Q8:∀{xs:List V} {ns:List Int},VRs Γ μ H xs (ns.map D.int)->xs=ns.map V.int
 |_,[],.nil=>rfl
 |_,n::r,.cons q t=>by cases q;rw[U0o,VRs.Q8 t]
end
abbrev Env:=List (Option D)
abbrev Store:=List (Option (List D))
def Cell(Γ:Fr)(μ:Mu)(H:Hp)(a:Addr)(ds:List D):Prop:=(∃xs,H a=some (.lst xs)/\VRs Γ μ H xs ds)∨∃kvs,ds=[.dcm kvs]/\H a=some (.dK kvs)
structure Rep(Γ:Fr)(μ:Mu)(σ:St)(H:Hp)(env:Env)(S:Store):Prop where
 vals:∀(i:Nat)(d:D),env[i]?=some (some d)->∃v,σ[i]?=some (some v)/\VR Γ μ H v d
 len:σ.length=env.length
 sto:∀(i:Nat)(ds:List D),S[i]?=some (some ds)->∃a,μ[i]?=some (some a)/\Cell Γ μ H a ds
 liv:∀(i:Nat)(a:Addr),μ[i]?=some (some a)->∃ds,S[i]?=some (some ds)
 inj:∀(i j:Nat)(a:Addr),μ[i]?=some (some a)->μ[j]?=some (some a)->i=j
 slen:S.length=μ.length
 ent:Ext (Γ.m0.map some) Γ.H0 μ H
 new:∀(i:Nat)(a:Addr),Γ.m0.length<=i->μ[i]?=some (some a)->Γ.H0 a=none
section
variable{Γ:Fr}{μ μ':Mu}{σ σ2:St}{H H':Hp}{env env2:Env}{S S':Store}
theorem Cell.kind{a:Addr}{ds:List D}(c:Cell Γ μ H a ds):IsL H a∨IsK H a:=by
 rcases c with ⟨xs,h,_⟩|⟨kvs,_,h⟩
 .exact .inl ⟨xs,h⟩
 .exact .inr ⟨kvs,h⟩
theorem Cell.list{a:Addr}{ds:List D}(c:Cell Γ μ H a ds)(l:IsL H a):∃xs,H a=some (.lst xs)/\VRs Γ μ H xs ds:=by
 rcases c with z|⟨kvs,_,h⟩
 .exact z
 .obtain⟨xs,q⟩:=l
  rw[h] at q;cases q
theorem Cell.dict{a:Addr}{ds:List D}(c:Cell Γ μ H a ds)(l:IsK H a):∃kvs,ds=[.dcm kvs]/\H a=some (.dK kvs):=by
 rcases c with ⟨xs,h,_⟩|z
 .obtain⟨xs,q⟩:=l
  rw[h] at q;cases q
 .exact z
theorem Cell.to{μ':Mu}{H':Hp}{a:Addr}{ds:List D}(c:Cell Γ μ H a ds)(x:Ext μ H μ' H')(e:∀o,H a=some o->H' a=some o):Cell Γ μ' H' a ds:=by
 rcases c with ⟨xs,h,r⟩|⟨kvs,q,h⟩
 .exact .inl ⟨xs,e _ h,r.ext x⟩
 .exact .inr ⟨kvs,q,e _ h⟩
theorem Rep.live(R:Rep Γ μ σ H env S){a:Addr}(h:CV μ a):IsL H a∨IsK H a:=by
 obtain⟨i,hi⟩:=U4d.mp h
 obtain⟨ds,hs⟩:=R.liv i a hi
 obtain⟨b,h1,h2⟩:=R.sto i ds hs
 rw[hi] at h1;cases h1
 exact h2.kind
theorem Rep.dead(R:Rep Γ μ σ H env S){p:Addr}(h:H p=none):¬CV μ p:=fun z=>by
 rcases R.live z with ⟨xs,e⟩|⟨xs,e⟩<;>(rw[h] at e;cases e)
theorem Rep.fresh(R:Rep Γ μ σ H env S){p:Addr}(h:H p=none):Γ.H0 p=none:=R.ent.none p h
theorem Rep.ok(R:Rep Γ μ σ H env S){p:Addr}(h:H p=none)(m:Bool):Γ.Ok m p:=⟨fun _=>R.fresh h,.inr (R.fresh h)⟩
theorem Rep.grow(R:Rep Γ μ σ H env S)(e:Same H H'):Rep Γ μ σ H' env S/\Ext μ H μ H':=by
 have x:Ext μ H μ H':=⟨fun a o h n=>⟨e a o h,n⟩,fun a xs h=>e a _ h,fun a h=>e.free h,fun _ _ _ h=>h,U0h _,fun a _ ⟨xs,h⟩=>⟨xs,e a _ h⟩,fun a _ ⟨xs,h⟩=>⟨xs,e a _ h⟩⟩
 refine⟨⟨fun i d h=>?_,R.len,fun i ds h=>?_,R.liv,R.inj,R.slen,R.ent.trans x,R.new⟩,x⟩
 .obtain⟨v,h1,h2⟩:=R.vals i d h
  exact⟨v,h1,h2.ext x⟩
 .obtain⟨a,h1,h2⟩:=R.sto i ds h
  exact⟨a,h1,h2.to x fun o q=>e _ _ q⟩
theorem Rep.back(R:Rep Γ μ σ H env S)(x:Ext μ H μ' H')(R2:Rep Γ μ' σ2 H' env2 S'):Rep Γ μ' σ H' env S' :=
 ⟨fun i d h=>let ⟨v,h1,h2⟩:=R.vals i d h;⟨v,h1,h2.ext x⟩,R.len,R2.sto,R2.liv,R2.inj,R2.slen,R2.ent,R2.new⟩
theorem Rep.cF(R:Rep Γ μ σ H env S)(i:Nat){v:V}{d:D}(r:VR Γ μ H v d):Rep Γ μ (σ.set i (some v)) H (env.set i (some d)) S:=by
 refine⟨fun j e h=>?_,by rw[U4w,U4w];exact R.len,R.sto,R.liv,R.inj,R.slen,R.ent,R.new⟩
 by_cases hj:i=j
 .subst hj
  have hl:i<env.length:=by
   have:=(U0n.mp h).1
   rw[U4w] at this;exact this
  rw[U20 hl] at h
  cases h
  exact⟨v,U20 (by rw[R.len];exact hl),r⟩
 .rw[U28 hj] at h ⊢
  exact R.vals j e h
theorem Rep.qx(R:Rep Γ μ σ H env S){p:Addr}{o:HO}{ds:List D}(hp:H p=none)(r:∀μ' H',Ext μ H μ' H'->H' p=some o->Cell Γ μ' H' p ds) :
  Rep Γ (μ++[some p]) σ (upd H p o) env (S++[some ds])/\Ext μ H (μ++[some p]) (upd H p o):=by
 have ne:∀a o,H a=some o->a≠p:=fun a o h z=>by rw[z,hp] at h;cases h
 have x:Ext μ H (μ++[some p]) (upd H p o):=by
  refine⟨fun a o h n=>⟨by rw[Bo (ne a o h)];exact h,fun z=>?_⟩,fun a ys h=>by rw[Bo (ne a _ h)];exact h,fun a h=>?_,fun i a hi h=>?_,by rw[U0j];omega,fun a _ ⟨ys,h⟩=>⟨ys,by rw[Bo (ne a _ h)];exact h⟩,fun a _ ⟨ys,h⟩=>⟨ys,by rw[Bo (ne a _ h)];exact h⟩⟩
  .rcases U1h.mp z with z|z
   .exact n z
   .have z':a=p:=by simpa using z
    exact ne a o h z'
  .by_cases ha:a=p
   .rw[ha,Bv] at h;cases h
   .rw[Bo ha] at h;exact h
  .rw[U0z hi] at h;exact h
 have idx:∀i a,(μ++[some p])[i]?=some (some a)->(i<μ.length/\μ[i]?=some (some a))∨(i=μ.length/\a=p):=fun i a h=>by
  by_cases hi:i<μ.length
  .rw[U0z hi] at h;exact .inl ⟨hi,h⟩
  .rw[U1i (by omega)] at h
   have hl:=(U0n.mp h).1
   have hi':i=μ.length:=by simp at hl;omega
   subst hi'
   simp at h
   exact .inr ⟨rfl,h.symm⟩
 have no:∀a,μ[a]?=some (some p)->False:=fun i h=>R.dead hp (U2c h)
 refine⟨⟨fun i d h=>?_,R.len,fun i es h=>?_,fun i a h=>?_,fun i j a h1 h2=>?_,by rw[U0j,U0j,R.slen];rfl,R.ent.trans x,fun i a hi h=>?_⟩,x⟩
 .obtain⟨v,h1,h2⟩:=R.vals i d h
  exact⟨v,h1,h2.ext x⟩
 .by_cases hi:i<S.length
  .rw[U0z hi] at h
   obtain⟨a,h1,h2⟩:=R.sto i es h
   exact⟨a,by rw[U0z (by rw[←R.slen];exact hi)];exact h1,h2.to x fun o q=>by rw[Bo (ne a _ q)];exact q⟩
  .rw[U1i (by omega)] at h
   have hl:=(U0n.mp h).1
   have hi':i=S.length:=by simp at hl;omega
   subst hi'
   simp at h
   subst h
   exact⟨p,by rw[R.slen];simp,r _ _ x Bv⟩
 .rcases idx i a h with ⟨hi,h⟩|⟨rfl,rfl⟩
  .obtain⟨ds',q⟩:=R.liv i a h
   exact⟨ds',by rw[U0z (by rw[R.slen];exact hi)];exact q⟩
  .exact⟨ds,by rw[←R.slen];simp⟩
 .rcases idx i a h1 with ⟨_,g1⟩|⟨e1,e2⟩
  .rcases idx j a h2 with ⟨_,g2⟩|⟨e3,e4⟩
   .exact R.inj i j a g1 g2
   .exact(no i (e4 ▸ g1)).elim
  .rcases idx j a h2 with ⟨_,g2⟩|⟨e3,_⟩
   .exact(no j (e2 ▸ g2)).elim
   .rw[e1,e3]
 .rcases idx i a h with ⟨_,h⟩|⟨rfl,rfl⟩
  .exact R.new i a hi h
  .exact R.fresh hp
theorem Rep.laid(R:Rep Γ μ σ H env S){p:Addr}{xs:List V}{ds:List D}(hp:H p=none)(r:VRs Γ μ H xs ds) :
  Rep Γ (μ++[some p]) σ (upd H p (.lst xs)) env (S++[some ds])/\Ext μ H (μ++[some p]) (upd H p (.lst xs)):=R.qx hp fun _ _ x q=>.inl ⟨xs,q,r.ext x⟩
theorem Rep.sY(R:Rep Γ μ σ H env S){i:Nat}{a:Addr}{o:HO}{ds:List D}(hi:μ[i]?=some (some a))(k1:IsL H a->IsL (upd H a o) a)(k2:IsK H a->IsK (upd H a o) a)(r:∀H',Ext μ H μ H'->H' a=some o->Cell Γ μ H' a ds) :
  Rep Γ μ σ (upd H a o) env (S.set i (some ds))/\Ext μ H μ (upd H a o):=by
 have hl:CV μ a:=U2c hi
 have hy:=R.live hl
 have x:Ext μ H μ (upd H a o):=by
  refine⟨fun b o h n=>⟨?_,n⟩,fun b zs h=>?_,fun b h=>?_,fun _ _ _ h=>h,U0h _,fun b _ h=>?_,fun b _ h=>?_⟩
  .rw[Bo (fun z=>n (by rw[z];exact hl))];exact h
  .rw[Bo (fun z=>by
    rw[z] at h
    rcases hy with ⟨_,q⟩|⟨_,q⟩<;>(rw[q] at h;cases h))];exact h
  .by_cases hb:b=a
   .rw[hb,Bv] at h;cases h
   .rw[Bo hb] at h;exact h
  .by_cases hb:b=a
   .subst hb;exact k1 h
   .obtain⟨ys,h⟩:=h
    exact⟨ys,by rw[Bo hb];exact h⟩
  .by_cases hb:b=a
   .subst hb;exact k2 h
   .obtain⟨ys,h⟩:=h
    exact⟨ys,by rw[Bo hb];exact h⟩
 have hiS:i<S.length:=by rw[R.slen];exact(U0n.mp hi).1
 refine⟨⟨fun j d h=>?_,R.len,fun j es h=>?_,fun j b h=>?_,R.inj,by rw[U4w];exact R.slen,R.ent.trans x,R.new⟩,x⟩
 .obtain⟨v,h1,h2⟩:=R.vals j d h
  exact⟨v,h1,h2.ext x⟩
 .by_cases hj:i=j
  .subst hj
   rw[U20 hiS] at h
   cases h
   exact⟨a,hi,r _ x Bv⟩
  .rw[U28 hj] at h
   obtain⟨b,h1,h2⟩:=R.sto j es h
   refine⟨b,h1,h2.to x fun o q=>?_⟩
   rw[Bo (fun z=>hj (R.inj i j a hi (by rw[←z];exact h1)))]
   exact q
 .by_cases hj:i=j
  .subst hj;exact⟨ds,U20 hiS⟩
  .rw[U28 hj];exact R.liv j b h
theorem Rep.put(R:Rep Γ μ σ H env S){i:Nat}{a:Addr}{xs:List V}{ds:List D}(hi:μ[i]?=some (some a))(hx:IsL H a)(r:VRs Γ μ H xs ds) :
  Rep Γ μ σ (upd H a (.lst xs)) env (S.set i (some ds))/\Ext μ H μ (upd H a (.lst xs)) :=
 R.sY hi (fun _=>⟨xs,Bv⟩) (fun⟨_,q⟩=>by obtain⟨_,p⟩:=hx;rw[q] at p;cases p) fun _ x q=>.inl ⟨xs,q,r.ext x⟩
end
end VS
end
section
namespace VS
open PySem PySem.Spec L2
abbrev Az:=Env->Store->Option (D×Store)
abbrev Bs:=Env->Store->Option (List D×Store)
abbrev Ek:=Env->Store->Option (Bool×Store)
abbrev Np:=Env->Store->Option (Option Int×Store)
inductive Fl where|nx|brk|cnt|ret (d:D)
abbrev Bm:=Env->Store->Option (Fl×Env×Store)
abbrev Ko:=Env->Store->Option ((List D×List (Nat×List D))×Store)
abbrev Jx:=D->Env->Option Env
def Ab(i:Nat):Az:=fun env S=>(env[i]?.join).map fun d=>(d,S)
def eC(d:D):Az:=fun _ S=>some (d,S)
def eOp(g:Store->D->D->Option D)(a b:Az):Az:=fun env S=>(a env S).bind fun p=>(b env p.2).bind fun q=>(g q.2 p.1 q.1).map fun d=>(d,q.2)
def eUn(g:Store->D->Option D)(a:Az):Az:=fun env S=>(a env S).bind fun p=>(g p.2 p.1).map fun d=>(d,p.2)
def Ad:Bs:=fun _ S=>some ([],S)
def Aa(a:Az)(r:Bs):Bs:=fun env S=>(a env S).bind fun p=>(r env p.2).bind fun q=>some (p.1::q.1,q.2)
def eCB(g:Store->List D->Option D)(a:Bs):Az:=fun env S=>(a env S).bind fun p=>(g p.2 p.1).map fun d=>(d,p.2)
def JQ(a b:Az):Az:=fun env S=>(a env S).bind fun p=>match p.1 with|.bl true=>b env p.2|.bl false=>some (.bl false,p.2)|_=>none
def Te(a:Az):Az:=fun env S=>(a env S).bind fun p=>match p.1 with|.bl c=>some (.bl (!c),p.2)|_=>none
def Bd(a:Az):Ek:=fun env S=>(a env S).bind fun p=>match p.1 with|.bl c=>some (c,p.2)|_=>none
def Og(a b:Ek):Ek:=fun env S=>(a env S).bind fun p=>if p.1=true then b env p.2 else some (false,p.2)
def tOr(a b:Ek):Ek:=fun env S=>(a env S).bind fun p=>if p.1=true then some (true,p.2) else b env p.2
def Ga(a:Ek):Ek:=fun env S=>(a env S).bind fun p=>some (!p.1,p.2)
def CP:Np:=fun _ S=>some (none,S)
def Bq(a:Az):Np:=fun env S=>(a env S).bind fun p=>match p.1 with|.int i=>some (some i,p.2)|_=>none
def eSl(g:Store->D->Option Int->Option Int->Option D)(a:Az)(l h:Np):Az:=fun env S=>(a env S).bind fun p=>(l env p.2).bind fun q=>(h env q.2).bind fun r=>(g r.2 p.1 q.1 r.1).map fun d=>(d,r.2)
def Bh(a b:Bm):Bm:=fun env S=>(a env S).bind fun p=>match p.1 with|.nx=>b p.2.1 p.2.2|f=>some (f,p.2.1,p.2.2)
def FQ:Bm:=fun env S=>some (.nx,env,S)
def BR(i:Nat)(a:Az):Bm:=fun env S=>(a env S).bind fun p=>some (.nx,env.set i (some p.1),p.2)
def Z0(a:Az)(g:Jx):Bm:=fun env S=>(a env S).bind fun p=>(g p.1 env).bind fun e=>some (.nx,e,p.2)
def Lh(a:Az):Bm:=fun env S=>(a env S).bind fun p=>some (.nx,env,p.2)
def DK(a:Az):Bm:=fun env S=>(a env S).bind fun p=>some (.ret p.1,env,p.2)
def sIf(c:Ek)(a b:Bm):Bm:=fun env S=>(c env S).bind fun p=>if p.1=true then a env p.2 else b env p.2
inductive Pat where
 |nm (i:Nat)|tp (ps:List Pat)
mutual
def Pat.sem:Pat->D->Env->Option Env
 |.nm i,d,env=>some (env.set i (some d))
 |.tp ps,.tup ds,env=>HD ps ds env
 |.tp _,_,_=>none
def HD:List Pat->List D->Env->Option Env
 |[],[],env=>some env
 |p::ps,d::ds,env=>(Pat.sem p d env).bind fun e=>HD ps ds e
 |_,_,_=>none
end
mutual
def Pat.raw(K:U0b):Pat->TG
 |.nm i=>Vb i
 |.tp ps=>cM K ps.length (JN K ps)
def JN(K:U0b):List Pat->TGs
 |[]=>cO
 |p::ps=>ZK (Pat.raw K p) (JN K ps)
end
mutual
def Pat.low(k:Nat):Pat->Bool
 |.nm i=>decide (i<k)
 |.tp ps=>Z5 k ps
def Z5(k:Nat):List Pat->Bool
 |[]=>true
 |p::ps=>Pat.low k p&&Z5 k ps
end
mutual
theorem Pat.mono(K:U0b):∀(p:Pat)(x:V)(σ:St)(H:Hp)(Q Q':St->Hp->Prop),(∀σ' H',Q σ' H'->Q' σ' H')->p.raw K x σ H Q->p.raw K x σ H Q'
 |.nm i,x,σ,H,Q,Q',f,h=>by rw[Pat.raw] at h ⊢;exact f _ _ h
 |.tp ps,x,σ,H,Q,Q',f,h=>by rw[Pat.raw] at h ⊢;obtain⟨a,xs,e,hs,hl,q⟩:=h;exact⟨a,xs,e,hs,hl,ZF K ps xs σ H Q Q' f q⟩
theorem ZF(K:U0b):∀(ps:List Pat)(x:List V)(σ:St)(H:Hp)(Q Q':St->Hp->Prop),(∀σ' H',Q σ' H'->Q' σ' H')->JN K ps x σ H Q->JN K ps x σ H Q'
 |[],x,σ,H,Q,Q',f,h=>by rw[JN] at h ⊢;exact⟨h.1,f _ _ h.2⟩
 |p::ps,x,σ,H,Q,Q',f,h=>by rw[JN] at h ⊢;obtain⟨v,r,e,q⟩:=h;exact⟨v,r,e,Pat.mono K p v σ H _ _ (fun σ1 H1 z=>ZF K ps r σ1 H1 Q Q' f z) q⟩
end
mutual
theorem Pat.ZG(K:U0b){k:Nat}:∀(p:Pat),p.low k=true->Low k (p.raw K)
 |.nm i,h=>by rw[Pat.raw];rw[Pat.low] at h;exact eH (of_decide_eq_true h)
 |.tp ps,h=>by rw[Pat.raw];rw[Pat.low] at h;exact jO (aQ K ps h)
theorem aQ(K:U0b){k:Nat}:∀(ps:List Pat),Z5 k ps=true->Vk k (JN K ps)
 |[],_=>by rw[JN];exact jP
 |p::ps,h=>by
  rw[JN]
  rw[Z5,U0m] at h
  exact eN (Pat.ZG K p h.1) (aQ K ps h.2) (Pat.mono K p) (ZF K ps)
end
theorem Wb:∀{ps:List Pat} {ds:List D} {env env':Env},HD ps ds env=some env'->ds.length=ps.length
 |[],[],_,_,_=>rfl
 |[],_::_,_,_,h=>by simp[HD] at h
 |_::_,[],_,_,h=>by simp[HD] at h
 |p::ps,d::ds,env,env',h=>by
  rw[HD] at h
  cases e1:p.sem d env with
  |none=>rw[e1] at h;cases h
  |some env1 =>
   rw[e1] at h
   rw[U0g,U0g,Wb (show HD ps ds env1=some env' from h)]
mutual
theorem Pat.run{Γ:Fr}{μ:Mu}{H:Hp}{S:Store}(K:U0b):∀(p:Pat){v:V}{d:D}{σ:St}{env env':Env}{Q:St->Hp->Prop},Rep Γ μ σ H env S->VR Γ μ H v d->p.sem d env=some env'->(∀σ',Rep Γ μ σ' H env' S->Q σ' H)->p.raw K v σ H Q
 |.nm i,v,d,σ,env,env',Q,R,r,e,q=>by
  rw[Pat.raw]
  rw[Pat.sem] at e
  cases e
  exact q _ (R.cF i r)
 |.tp ps,v,d,σ,env,env',Q,R,r,e,q=>by
  rw[Pat.raw]
  cases r with
  |@tup b xs ds hb rs =>
   rw[Pat.sem] at e
   obtain⟨hl,w⟩:=lY K ps R rs e q
   exact⟨b,xs,rfl,SqT.of hb,hl,w⟩
  |_=>simp[Pat.sem] at e
theorem lY{Γ:Fr}{μ:Mu}{H:Hp}{S:Store}(K:U0b):∀(ps:List Pat){vs:List V}{ds:List D}{σ:St}{env env':Env}{Q:St->Hp->Prop},Rep Γ μ σ H env S->VRs Γ μ H vs ds->HD ps ds env=some env'->(∀σ',Rep Γ μ σ' H env' S->Q σ' H)->vs.length=ps.length/\JN K ps vs σ H Q
 |[],vs,ds,σ,env,env',Q,R,r,e,q=>by
  rw[JN]
  cases r with
  |nil=>rw[HD] at e;cases e;exact⟨rfl,rfl,q σ R⟩
  |cons _ _=>simp[HD] at e
 |p::ps,vs,ds,σ,env,env',Q,R,r,e,q=>by
  rw[JN]
  cases r with
  |nil=>simp[HD] at e
  |@cons y d ys ds' r1 r2 =>
   rw[HD] at e
   cases e1:p.sem d env with
   |none=>rw[e1] at e;cases e
   |some env1 =>
    rw[e1] at e
    have e':HD ps ds' env1=some env':=e
    have hl:ys.length=ps.length:=by rw[r2.length];exact Wb e'
    exact⟨by rw[U0g,U0g,hl],y,ys,rfl,Pat.run K p R r1 e1 fun σ1 R1=>(lY K ps R1 r2 e' q).2⟩
end
def calm(w:List (Nat×List D))(S:Store):Prop:=∀p∈w,S[p.1]?=some (some p.2)
open Classical in
def loop(w:List (Nat×List D))(g:Jx)(b:Bm):List D->Bm
 |[],env,S=>if calm w S then some (.nx,env,S) else none
 |d::r,env,S=>if calm w S then (g d env).bind fun e=>(b e S).bind fun p=>match p.1 with
   |.nx=>loop w g b r p.2.1 p.2.2
   |.cnt=>loop w g b r p.2.1 p.2.2
   |.brk=>some (.nx,p.2.1,p.2.2)
   |.ret d=>some (.ret d,p.2.1,p.2.2)
  else none
def Lg(it:Ko)(g:Jx)(b:Bm):Bm:=fun env S=>(it env S).bind fun p=>loop p.1.2 g b p.1.1 env p.2
def Qz(k:Nat)(caps:List Nat)(env:Env):Env:=U0q k none++caps.map fun j=>(env[j]?).join
open Classical in
def Hr(w:List (Nat×List D))(e0:Env)(g:Jx)(t:Ek)(e:Az):List D->List D->Store->Option (List D×Store)
 |[],ys,S=>if calm w S/\ys.length<=1000000 then some (ys,S) else none
 |d::r,ys,S=>if calm w S/\ys.length<=1000000 then (g d e0).bind fun e1=>(t e1 S).bind fun p =>
   if p.1=true then (e e1 p.2).bind fun q=>Hr w e0 g t e r (ys++[q.1]) q.2 else Hr w e0 g t e r ys p.2
  else none
def Ea(k:Nat)(caps:List Nat)(it:Ko)(g:Jx)(t:Ek)(e:Az):Bs:=fun env S=>(it env S).bind fun p=>Hr p.1.2 (Qz k caps env) g t e p.1.1 [] p.2
def Jj:Ek:=fun _ S=>some (true,S)
def Am(a:Bs):Az:=fun env S=>(a env S).bind fun p=>some (.lst true p.1,p.2)
def Mr(a:Bs):Az:=fun env S=>(a env S).bind fun p=>some (.ref p.2.length,p.2++[some p.1])
def Ay(a:Bs):Az:=fun env S=>(a env S).bind fun p=>some (.tup p.1,p.2)
def wpE(K:U0b)(f:Az):TE:=fun σ H Q=>∃Γ μ env S d S',Γ.K=K/\Rep Γ μ σ H env S/\f env S=some (d,S')/\∀v μ' H',Ext μ H μ' H'->Rep Γ μ' σ H' env S'->VR Γ μ' H' v d->Q v H'
def wpA(K:U0b)(f:Bs):TA:=fun σ H Q=>∃Γ μ env S d S',Γ.K=K/\Rep Γ μ σ H env S/\f env S=some (d,S')/\∀v μ' H',Ext μ H μ' H'->Rep Γ μ' σ H' env S'->VRs Γ μ' H' v d->Q v H'
def wpT(K:U0b)(f:Ek):TT:=fun σ H Q=>∃Γ μ env S b S',Γ.K=K/\Rep Γ μ σ H env S/\f env S=some (b,S')/\∀μ' H',Ext μ H μ' H'->Rep Γ μ' σ H' env S'->Q b H'
def wpO(K:U0b)(f:Np):TO:=fun σ H Q=>∃Γ μ env S b S',Γ.K=K/\Rep Γ μ σ H env S/\f env S=some (b,S')/\∀μ' H',Ext μ H μ' H'->Rep Γ μ' σ H' env S'->Q b H'
def FlQ(Γ:Fr)(μ:Mu)(E:Ends)(σ:St)(H:Hp):Fl->Prop
 |.nx=>E.nx σ H
 |.brk=>E.bk σ H
 |.cnt=>E.ct σ H
 |.ret d=>∀v,VR Γ μ H v d->E.rt v H
def wpS(K:U0b)(f:Bm):TS:=fun E σ H=>∃Γ μ env S fl env' S',Γ.K=K/\Rep Γ μ σ H env S/\f env S=some (fl,env',S')/\∀μ' σ' H',Ext μ H μ' H'->Rep Γ μ' σ' H' env' S'->FlQ Γ μ' E σ' H' fl
structure Vl(Γ:Fr)(μ:Mu)(H:Hp)(J:It)(ds:List D)(w:List (Nat×List D)):Prop where
 step:∀(i:Nat)(d:D)(μ':Mu)(H':Hp)(σ':St)(env':Env)(S':Store),ds[i]?=some d->Ext μ H μ' H'->Rep Γ μ' σ' H' env' S'->calm w S'->J.go i H'/\∀x H'',J.yld i H' x H''->Same H' H''/\VR Γ μ' H'' x d
 stop:∀(μ':Mu)(H':Hp)(σ':St)(env':Env)(S':Store),Ext μ H μ' H'->Rep Γ μ' σ' H' env' S'->calm w S'->J.stop ds.length H'
def wpI(K:U0b)(f:Ko):TI:=fun σ H R=>∃Γ μ env S ds w S',Γ.K=K/\Rep Γ μ σ H env S/\f env S=some ((ds,w),S')/\∀J μ' H',Ext μ H μ' H'->Rep Γ μ' σ H' env S'->Vl Γ μ' H' J ds w->R J H'
structure JE(X:Cx)(e:Expr)(f:Az):Prop where
 pe:PE X e (wpE X.K f)
structure JA(X:Cx)(es:List Expr)(f:Bs):Prop where
 pa:PA X es (wpA X.K f)
structure JT(X:Cx)(e:Expr)(f:Ek):Prop where
 pt:PT X e (wpT X.K f)
structure JW(X:Cx)(e:Expr)(f:Ek):Prop where
 pw:PW X e (wpT X.K f)
structure JO(X:Cx)(e:Option Expr)(f:Np):Prop where
 po:PO X e (wpO X.K f)
structure JS(X:Cx)(st:Stmt)(f:Bm):Prop where
 ps:PS X st (wpS X.K f)
structure JSs(X:Cx)(sts:List Stmt)(f:Bm):Prop where
 ps:PSs X sts (wpS X.K f)
structure JI(X:Cx)(tg e:Expr)(f:Ko):Prop where
 pi:PI X tg e (wpI X.K f)
structure JG(X:Cx)(tg:Expr)(p:Pat):Prop where
 pg:PG X tg (p.raw X.K)
structure JGs(X:Cx)(tgs:List Expr)(ps:List Pat):Prop where
 pg:PGs X tgs (JN X.K ps)
structure JTs(X:Cx)(es:List Expr)(f:Ek):Prop where
 pt:PTs X es (wpT X.K f)
section
variable{X:Cx}
theorem PE.imp{e:Expr}{t t':TE}(h:PE X e t)(k:∀σ H Q,t' σ H Q->t σ H Q):PE X e t':=fun pins s σ H Q I q=>h pins s σ H Q I (k σ H Q q)
theorem PT.imp{e:Expr}{t t':TT}(h:PT X e t)(k:∀σ H Q,t' σ H Q->t σ H Q):PT X e t':=fun pins s σ H Q I q=>h pins s σ H Q I (k σ H Q q)
theorem PW.imp{e:Expr}{t t':TT}(h:PW X e t)(k:∀σ H Q,t' σ H Q->t σ H Q):PW X e t':=fun w pins s σ H Q I q=>h w pins s σ H Q I (k σ H Q q)
theorem PTs.imp{e:List Expr}{t t':TT}(h:PTs X e t)(k:∀σ H Q,t' σ H Q->t σ H Q):PTs X e t':=fun pins s σ H Q I q=>h pins s σ H Q I (k σ H Q q)
theorem PA.imp{e:List Expr}{t t':TA}(h:PA X e t)(k:∀σ H Q,t' σ H Q->t σ H Q):PA X e t':=fun p pins s σ H Q I q=>h p pins s σ H Q I (k σ H Q q)
theorem PO.imp{e:Option Expr}{t t':TO}(h:PO X e t)(k:∀σ H Q,t' σ H Q->t σ H Q):PO X e t':=fun pins s σ H Q I q=>h pins s σ H Q I (k σ H Q q)
theorem PS.imp{e:Stmt}{t t':TS}(h:PS X e t)(k:∀E σ H,t' E σ H->t E σ H):PS X e t':=fun pins s σ H E I q=>h pins s σ H E I (k E σ H q)
theorem PSs.imp{e:List Stmt}{t t':TS}(h:PSs X e t)(k:∀E σ H,t' E σ H->t E σ H):PSs X e t':=fun pins s σ H E I q=>h pins s σ H E I (k E σ H q)
theorem PI.imp{tg e:Expr}{t t':TI}(h:PI X tg e t)(k:∀σ H R,t' σ H R->t σ H R):PI X tg e t':=fun pins s σ H R I q=>h pins s σ H R I (k σ H R q)
theorem bind_some{α β:Type}{a:Option α}{f:α->Option β}{b:β}(h:a.bind f=some b):∃x,a=some x/\f x=some b:=by
 cases a with
 |none=>cases h
 |some x=>exact⟨x,rfl,h⟩
theorem map_some{α β:Type}{a:Option α}{f:α->β}{b:β}(h:a.map f=some b):∃x,a=some x/\f x=b:=by
 cases a with
 |none=>cases h
 |some x=>exact⟨x,rfl,U0u h⟩
def Fg(K:U0b)(r:R2)(g:Store->D->D->Option D):Prop:=∀(Γ:Fr)(μ:Mu)(σ:St)(H:Hp)(env:Env)(S:Store)(x y:V)(dx dy d:D),Γ.K=K->Rep Γ μ σ H env S->VR Γ μ H x dx->VR Γ μ H y dy->g S dx dy=some d ->
 ∀Q:VK,(∀v H',Same H H'->VR Γ μ H' v d->Q v H')->r x y H Q
def mV(K:U0b)(r:V->Hp->VK->Prop)(g:Store->D->Option D):Prop:=∀(Γ:Fr)(μ:Mu)(σ:St)(H:Hp)(env:Env)(S:Store)(x:V)(dx d:D),Γ.K=K->Rep Γ μ σ H env S->VR Γ μ H x dx->g S dx=some d ->
 ∀Q:VK,(∀v H',Same H H'->VR Γ μ H' v d->Q v H')->r x H Q
def Km(K:U0b)(r:List V->Hp->VK->Prop)(g:Store->List D->Option D):Prop:=∀(Γ:Fr)(μ:Mu)(σ:St)(H:Hp)(env:Env)(S:Store)(xs:List V)(ds:List D)(d:D),Γ.K=K->Rep Γ μ σ H env S->VRs Γ μ H xs ds->g S ds=some d ->
 ∀Q:VK,(∀v H',Same H H'->VR Γ μ H' v d->Q v H')->r xs H Q
def gO(K:U0b)(r:V->Option Int->Option Int->Hp->VK->Prop)(g:Store->D->Option Int->Option Int->Option D):Prop:=∀(Γ:Fr)(μ:Mu)(σ:St)(H:Hp)(env:Env)(S:Store)(x:V)(dx d:D)(l h:Option Int),Γ.K=K->Rep Γ μ σ H env S->VR Γ μ H x dx->g S dx l h=some d ->
 ∀Q:VK,(∀v H',Same H H'->VR Γ μ H' v d->Q v H')->r x l h H Q
theorem VN{K:U0b}{r:R2}{g:Store->D->D->Option D}{fa fb:Az}(hs:Fg K r g){σ:St}{H:Hp}{Q:VK}(h:wpE K (eOp g fa fb) σ H Q):tOp r (wpE K fa) (wpE K fb) σ H Q:=by
 obtain⟨Γ,μ,env,S,d,S',hK,R,e,q⟩:=h
 obtain⟨⟨x,S1⟩,e1,e⟩:=bind_some e
 obtain⟨⟨y,S2⟩,e2,e⟩:=bind_some e
 obtain⟨z,e3,e⟩:=map_some e
 cases e
 refine⟨Γ,μ,env,S,x,S1,hK,R,e1,fun v1 μ1 H1 x1 R1 r1=>?_⟩
 refine⟨Γ,μ1,env,S1,y,S2,hK,R1,e2,fun v2 μ2 H2 x2 R2 r2=>?_⟩
 refine hs Γ μ2 σ H2 env S2 v1 v2 x y _ hK R2 (r1.ext x2) r2 e3 Q fun v H' sm rv=>?_
 obtain⟨R3,x3⟩:=R2.grow sm
 exact q v μ2 H' (x1.trans (x2.trans x3)) R3 rv
theorem BW{op:Operator}{r:R2}{g:Store->D->D->Option D}{a b:Expr}{fa fb:Az}{pos:Pos}(ho:OpR X (binaryOp op) r)(hs:Fg X.K r g)(ha:JE X a fa)(hb:JE X b fb):JE X (.BinOp a op b pos) (eOp g fa fb) :=
 ⟨PE.imp (ZD ho ha.pe hb.pe) fun _ _ _ h=>VN hs h⟩
theorem Hv{op:CmpOp}{r:R2}{g:Store->D->D->Option D}{a b:Expr}{fa fb:Az}{pos:Pos}(ho:OpR X (compareOp op) r)(hs:Fg X.K r g)(ha:JE X a fa)(hb:JE X b fb)(hm:behindInMarks op b=false):JE X (.Compare a [op] [b] pos) (eOp g fa fb) :=
 ⟨PE.imp (jC ho ha.pe hb.pe hm) fun _ _ _ h=>VN hs h⟩
theorem Bg{r:R2}{g:Store->D->D->Option D}{a b:Expr}{fa fb:Az}{pos:Pos}(ho:IxR X r)(hs:Fg X.K r g)(ha:JE X a fa)(hb:JE X b fb)(hp:Yz b):JE X (.Subscript a b pos) (eOp g fa fb) :=
 ⟨PE.imp (qb ho ha.pe hb.pe hp) fun _ _ _ h=>VN hs h⟩
theorem J6{op:UnaryOp}{r:V->Hp->VK->Prop}{g:Store->D->Option D}{a:Expr}{fa:Az}{pos:Pos}(ho:UnR X (unaryOp op) r)(hs:mV X.K r g)(ha:JE X a fa):JE X (.UnaryOp op a pos) (eUn g fa) :=
 ⟨PE.imp (gF ho ha.pe) fun σ H Q h=>by
  obtain⟨Γ,μ,env,S,d,S',hK,R,e,q⟩:=h
  obtain⟨⟨x,S1⟩,e1,e⟩:=bind_some e
  obtain⟨z,e3,e⟩:=map_some e
  cases e
  refine⟨Γ,μ,env,S,x,S1,hK,R,e1,fun v1 μ1 H1 x1 R1 r1=>?_⟩
  refine hs Γ μ1 σ H1 env S1 v1 x _ hK R1 r1 e3 Q fun v H' sm rv=>?_
  obtain⟨R3,x3⟩:=R1.grow sm
  exact q v μ1 H' (x1.trans x3) R3 rv⟩
theorem Af(i:Nat){x:Str}{pos:Pos}(hN:X.N[i]?=some x:=by rfl)(hv:Vis X.env.scope x:=by first|exact U73 rfl|exact U7 (U73 rfl)|exact U7 (U7 rfl))(hd:(x==("__debug__":Str))=false:=by decide)
  (hcd:(x==("__classdict__":Str))=false:=by decide):JE X (.Name x pos) (Ab i) :=
 ⟨PE.imp (Zy hN hv hd hcd) fun σ H Q h=>by
  obtain⟨Γ,μ,env,S,d,S',hK,R,e,q⟩:=h
  obtain⟨d',e1,e⟩:=map_some e
  cases e
  have e1':env[i]?=some (some d):=by
   cases h:env[i]? with
   |none=>rw[h] at e1;cases e1
   |some o=>rw[h] at e1;exact congrArg some e1
  obtain⟨v,h1,h2⟩:=R.vals i d e1'
  exact⟨v,h1,q v μ H (Ext.refl _ _) R h2⟩⟩
theorem Vd{K:U0b}{v:V}{d:D}(h:∀Γ μ H,VR Γ μ H v d){σ:St}{H:Hp}{Q:VK}(w:wpE K (eC d) σ H Q):tC v σ H Q:=by
 obtain⟨Γ,μ,env,S,d',S',hK,R,e,q⟩:=w
 cases e
 exact q v μ H (Ext.refl _ _) R (h Γ μ H)
theorem Ag{i j pos}:JE X (.Constant (.int i) j pos) (eC (.int i)):=⟨PE.imp aA fun _ _ _=>Vd fun _ _ _=>.int i⟩
theorem Fx{b j pos}:JE X (.Constant (.bool b) j pos) (eC (.bl b)):=⟨PE.imp qe fun _ _ _=>Vd fun _ _ _=>.bl b⟩
theorem aN{j pos}:JE X (.Constant .none j pos) (eC .non):=⟨PE.imp nu fun _ _ _=>Vd fun _ _ _=>.non⟩
theorem aL{x j pos}:JE X (.Constant (.str x) j pos) (eC (.str x)):=⟨PE.imp ni fun _ _ _=>Vd fun _ _ _=>.str x⟩
theorem KD{n:String}{x:Str}{pos:Pos}(hg:Gl X x)(hm:X.mg x=none)(hv:bootBuiltins x=some (.type n))(hn:x≠"__name__":=by decide)(hd:(x==("__debug__":Str))=false:=by decide):JE X (.Name x pos) (eC (.ty n)) :=
 ⟨PE.imp (jE (v:=.ty n) hg hm hv rfl hn hd) fun _ _ _=>Vd fun _ _ _=>.ty n⟩
theorem Ah:JA X [] Ad:=⟨PA.imp Ox fun σ H Q h=>by
 obtain⟨Γ,μ,env,S,d,S',hK,R,e,q⟩:=h
 cases e
 exact q [] μ H (Ext.refl _ _) R .nil⟩
theorem Ac{e:Expr}{es:List Expr}{f:Az}{r:Bs}(ha:JE X e f)(hr:JA X es r)(hs:starEach (e::es) X.env=(false,eval e X.env)::starEach es X.env:=by rfl):JA X (e::es) (Aa f r) :=
 ⟨PA.imp (Nb ha.pe hr.pa hs) fun σ H Q h=>by
  obtain⟨Γ,μ,env,S,d,S',hK,R,e,q⟩:=h
  obtain⟨⟨x,S1⟩,e1,e⟩:=bind_some e
  obtain⟨⟨y,S2⟩,e2,e⟩:=bind_some e
  cases e
  refine⟨Γ,μ,env,S,x,S1,hK,R,e1,fun v1 μ1 H1 x1 R1 r1=>?_⟩
  refine⟨Γ,μ1,env,S1,y,S2,hK,R1,e2,fun v2 μ2 H2 x2 R2 r2=>?_⟩
  exact q _ μ2 H2 (x1.trans x2) R2 (.cons (r1.ext x2) r2)⟩
theorem big{n:Nat}(h:n<=1000000):n<sizeLine:=U4x h (by decide)
theorem mY{K:U0b}{f:Bs}{σ:St}{H:Hp}{Q:VK}(hl:∀env S p,f env S=some p->p.1.length<=1000000)(h:wpE K (Ay f) σ H Q):lV (wpA K f) σ H Q:=by
 obtain⟨Γ,μ,env,S,d,S',hK,R,e,q⟩:=h
 obtain⟨⟨x,S1⟩,e1,e⟩:=bind_some e
 cases e
 refine⟨Γ,μ,env,S,x,S1,hK,R,e1,fun vs μ1 H1 x1 R1 r1=>⟨by rw[r1.length];exact U2d (big (hl _ _ _ e1)),fun p hp=>?_⟩⟩
 have sm:=Cd hp (.tup vs)
 obtain⟨R2,x2⟩:=R1.grow sm
 exact q _ μ1 _ (x1.trans x2) R2 (.tup Bv (r1.ext x2))
def Few(n:Nat)(f:Bs):Prop:=∀env S p,f env S=some p->p.1.length<=n
theorem Al:Few 0 Ad:=fun env S p h=>by cases h;exact U0h _
theorem Ae{n:Nat}{f:Az}{r:Bs}(h:Few n r):Few (n+1) (Aa f r):=fun env S p e=>by
 obtain⟨⟨x,S1⟩,e1,e⟩:=bind_some e
 obtain⟨⟨y,S2⟩,e2,e⟩:=bind_some e
 cases e
 have:=h _ _ _ e2
 show(x::y).length<=n+1
 rw[U0g]
 exact Nat.succ_le_succ this
theorem Bu{es:List Expr}{f:Bs}{x1:Nat}{pos:Pos}{n:Nat}(h:JA X es f)(hf:Few n f)(hn:n<=1000000:=by decide):JE X (.Tuple es x1 pos) (Ay f):=⟨PE.imp (nZ h.pa) fun _ _ _ w=>mY (fun env S p e=>U00 (hf env S p e) hn) w⟩
theorem Bf{es:List Expr}{f:Bs}{pos:Pos}{n:Nat}(h:JA X es f)(hf:Few n f)(hn:n<=1000000:=by decide):JE X (.List es pos) (Am f):=⟨PE.imp (Zz h.pa) fun σ H Q w=>by
 obtain⟨Γ,μ,env,S,d,S',hK,R,e,q⟩:=w
 obtain⟨⟨x,S1⟩,e1,e⟩:=bind_some e
 cases e
 refine⟨Γ,μ,env,S,x,S1,hK,R,e1,fun vs μ1 H1 x1 R1 r1=>⟨by rw[r1.length];exact U2d (big (U00 (hf _ _ _ e1) hn)),fun p hp=>?_⟩⟩
 obtain⟨R2,x2⟩:=R1.grow (Cd hp (.lst vs))
 exact q _ μ1 _ (x1.trans x2) R2 (.lst (R1.ok hp true) (R1.dead hp) Bv (r1.ext x2))⟩
theorem QK{es:List Expr}{f:Bs}{pos:Pos}{n:Nat}(h:JA X es f)(hf:Few n f)(hn:n<=1000000:=by decide):JE X (.List es pos) (Mr f):=⟨PE.imp (Zz h.pa) fun σ H Q w=>by
 obtain⟨Γ,μ,env,S,d,S',hK,R,e,q⟩:=w
 obtain⟨⟨x,S1⟩,e1,e⟩:=bind_some e
 cases e
 refine⟨Γ,μ,env,S,x,S1,hK,R,e1,fun vs μ1 H1 x1 R1 r1=>⟨by rw[r1.length];exact U2d (big (U00 (hf _ _ _ e1) hn)),fun p hp=>?_⟩⟩
 obtain⟨R2,x2⟩:=R1.laid hp r1
 exact q _ _ _ (x1.trans x2) R2 (.ref (by rw[U0j,R1.slen];simp) fun a h=>by
  rw[R1.slen] at h
  simp at h
  rw[←h]
  exact⟨rfl,⟨_,Bv⟩⟩)⟩
end
end VS
end
section
namespace VS
open PySem PySem.Spec L2
section
variable{X:Cx}{a b c:Expr}{fa fb fc:Az}{pos:Pos}{rest:List Expr}
theorem Lp{op}(h:JE X a fa):JE X (.BoolOp op [a] pos) fa:=⟨nj h.pe⟩
theorem Jt(ha:JE X a fa)(hb:JE X (.BoolOp .And (b::rest) pos) fb):JE X (.BoolOp .And (a::b::rest) pos) (JQ fa fb):=⟨PE.imp (o7 ha.pe hb.pe) fun σ H Q h=>by
 obtain⟨Γ,μ,env,S,d,S',hK,R,e,q⟩:=h
 obtain⟨⟨x,S1⟩,e1,e⟩:=bind_some e
 refine⟨Γ,μ,env,S,x,S1,hK,R,e1,fun v1 μ1 H1 x1 R1 r1=>?_⟩
 dsimp only at e
 split at e
 .cases r1
  exact⟨true,rfl,by rw[if_pos rfl];exact⟨Γ,μ1,env,S1,d,S',hK,R1,e,fun v μ' H' x' R' r'=>q v μ' H' (x1.trans x') R' r'⟩⟩
 .cases r1
  cases e
  exact⟨false,rfl,by rw[if_neg U08];exact q _ μ1 H1 x1 R1 (.bl false)⟩
 .cases e⟩
theorem aM(ha:JE X a fa):JE X (.UnaryOp .Not a pos) (Te fa):=⟨PE.imp (nq ha.pe) fun σ H Q h=>by
 obtain⟨Γ,μ,env,S,d,S',hK,R,e,q⟩:=h
 obtain⟨⟨x,S1⟩,e1,e⟩:=bind_some e
 refine⟨Γ,μ,env,S,x,S1,hK,R,e1,fun v1 μ1 H1 x1 R1 r1=>?_⟩
 dsimp only at e
 split at e
 .rename_i c
  cases r1
  cases e
  exact⟨c,rfl,q _ μ1 H1 x1 R1 (.bl _)⟩
 .cases e⟩
theorem J3{e:Expr}(h:JE X e fa)(he:∀whole,isTrue e X.env whole=(do let v ←whole;standAt e.pos;holding [v] (truthy v)):=by intro _;rfl):JT X e (Bd fa):=⟨PT.imp (nO h.pe he) fun σ H Q h=>by
 obtain⟨Γ,μ,env,S,d,S',hK,R,e,q⟩:=h
 obtain⟨⟨x,S1⟩,e1,e⟩:=bind_some e
 refine⟨Γ,μ,env,S,x,S1,hK,R,e1,fun v1 μ1 H1 x1 R1 r1=>?_⟩
 dsimp only at e
 split at e
 .rename_i c
  cases r1
  cases e
  exact⟨_,rfl,q μ1 H1 x1 R1⟩
 .cases e⟩
theorem gY{K:U0b}{f:Az}{t:TE}(ht:∀σ H Q,wpE K f σ H Q->t σ H Q){σ:St}{H:Hp}{Q:Bool->Hp->Prop}(h:wpT K (Bd f) σ H Q):fZ t σ H Q:=by
 obtain⟨Γ,μ,env,S,d,S',hK,R,e,q⟩:=h
 obtain⟨⟨x,S1⟩,e1,e⟩:=bind_some e
 refine ht σ H _ ⟨Γ,μ,env,S,x,S1,hK,R,e1,fun v1 μ1 H1 x1 R1 r1=>?_⟩
 dsimp only at e
 split at e
 .cases r1
  cases e
  exact⟨_,rfl,q μ1 H1 x1 R1⟩
 .cases e
theorem Dk{op:CmpOp}{r:R2}{g:Store->D->D->Option D}(ho:OpR X (compareOp op) r)(hs:Fg X.K r g)(ha:JE X a fa)(hb:JE X b fb)(hm:behindInMarks op b=false):JT X (.Compare a [op] [b] pos) (Bd (eOp g fa fb)) :=
 ⟨PT.imp (iw ho ha.pe hb.pe hm) fun σ H Q h=>gY (fun _ _ _=>VN hs) h⟩
variable{ta tb:Ek}
theorem KC(h:JW X a ta):JT X a ta:=⟨h.pw.pt⟩
theorem jd(ha:JT X a ta):JW X (.BoolOp .And [a] pos) ta:=⟨iZ ha.pt⟩
theorem Jr(ha:JT X a ta):JW X (.BoolOp .Or [a] pos) ta:=⟨nH ha.pt⟩
theorem aJ(ha:JT X a ta)(hb:JW X (.BoolOp .And (b::rest) pos) tb):JW X (.BoolOp .And (a::b::rest) pos) (Og ta tb):=⟨PW.imp (nJ ha.pt hb.pw) fun σ H Q h=>by
 obtain⟨Γ,μ,env,S,d,S',hK,R,e,q⟩:=h
 obtain⟨⟨x,S1⟩,e1,e⟩:=bind_some e
 refine⟨Γ,μ,env,S,x,S1,hK,R,e1,fun μ1 H1 x1 R1=>?_⟩
 dsimp only at e
 by_cases hx:x=true
 .rw[if_pos hx] at e ⊢
  exact⟨Γ,μ1,env,S1,d,S',hK,R1,e,fun μ' H' x' R'=>q μ' H' (x1.trans x') R'⟩
 .rw[if_neg hx] at e ⊢
  cases e
  exact q μ1 H1 x1 R1⟩
theorem K9(ha:JT X a ta)(hb:JW X (.BoolOp .Or (b::rest) pos) tb):JW X (.BoolOp .Or (a::b::rest) pos) (tOr ta tb):=⟨PW.imp (qY ha.pt hb.pw) fun σ H Q h=>by
 obtain⟨Γ,μ,env,S,d,S',hK,R,e,q⟩:=h
 obtain⟨⟨x,S1⟩,e1,e⟩:=bind_some e
 refine⟨Γ,μ,env,S,x,S1,hK,R,e1,fun μ1 H1 x1 R1=>?_⟩
 dsimp only at e
 by_cases hx:x=true
 .rw[if_pos hx] at e ⊢
  cases e
  exact q μ1 H1 x1 R1
 .rw[if_neg hx] at e ⊢
  exact⟨Γ,μ1,env,S1,d,S',hK,R1,e,fun μ' H' x' R'=>q μ' H' (x1.trans x') R'⟩⟩
theorem J4(ha:JT X a ta):JT X (.UnaryOp .Not a pos) (Ga ta):=⟨PT.imp (nP ha.pt) fun σ H Q h=>by
 obtain⟨Γ,μ,env,S,d,S',hK,R,e,q⟩:=h
 obtain⟨⟨x,S1⟩,e1,e⟩:=bind_some e
 cases e
 exact⟨Γ,μ,env,S,x,S1,hK,R,e1,fun μ1 H1 x1 R1=>q μ1 H1 x1 R1⟩⟩
theorem Jc:JTs X [] Jj:=⟨PTs.imp iu fun σ H Q h=>by
 obtain⟨Γ,μ,env,S,d,S',hK,R,e,q⟩:=h
 cases e
 exact q μ H (Ext.refl _ _) R⟩
theorem U8(h:JT X c ta):JTs X [c] ta:=⟨ig h.pt⟩
variable{lo hi:Option Expr}{ol oh:Np}{p2:Pos}
theorem Ey:JO X none CP:=⟨PO.imp j7 fun σ H Q h=>by
 obtain⟨Γ,μ,env,S,d,S',hK,R,e,q⟩:=h
 cases e
 exact q μ H (Ext.refl _ _) R⟩
theorem Ef(h:JE X a fa):JO X (some a) (Bq fa):=⟨PO.imp (j6 h.pe) fun σ H Q h=>by
 obtain⟨Γ,μ,env,S,d,S',hK,R,e,q⟩:=h
 obtain⟨⟨x,S1⟩,e1,e⟩:=bind_some e
 refine⟨Γ,μ,env,S,x,S1,hK,R,e1,fun v1 μ1 H1 x1 R1 r1=>?_⟩
 dsimp only at e
 split at e
 .cases r1
  cases e
  exact⟨_,rfl,q μ1 H1 x1 R1⟩
 .cases e⟩
theorem Du{r:V->Option Int->Option Int->Hp->VK->Prop}{g:Store->D->Option Int->Option Int->Option D}(hr:SlR X r)(hs:gO X.K r g)(ha:JE X a fa)(hl:JO X lo ol)(hh:JO X hi oh) :
  JE X (.Subscript a (.Slice lo hi none p2) pos) (eSl g fa ol oh):=⟨PE.imp (dw hr ha.pe hl.po hh.po) fun σ H Q h=>by
 obtain⟨Γ,μ,env,S,d,S',hK,R,e,q⟩:=h
 obtain⟨⟨x,S1⟩,e1,e⟩:=bind_some e
 obtain⟨⟨l,S2⟩,e2,e⟩:=bind_some e
 obtain⟨⟨u,S3⟩,e3,e⟩:=bind_some e
 obtain⟨z,e4,e⟩:=map_some e
 cases e
 refine⟨Γ,μ,env,S,x,S1,hK,R,e1,fun v1 μ1 H1 x1 R1 r1=>?_⟩
 refine⟨Γ,μ1,env,S1,l,S2,hK,R1,e2,fun μ2 H2 x2 R2=>?_⟩
 refine⟨Γ,μ2,env,S2,u,S3,hK,R2,e3,fun μ3 H3 x3 R3=>?_⟩
 refine hs Γ μ3 σ H3 env S3 v1 x _ l u hK R3 (r1.ext (x2.trans x3)) e4 Q fun v H' sm rv=>?_
 obtain⟨R4,x4⟩:=R3.grow sm
 exact q v μ3 H' (x1.trans (x2.trans (x3.trans x4))) R4 rv⟩
theorem fX{K:U0b}{r:List V->Hp->VK->Prop}{g:Store->List D->Option D}{f:Bs}(hs:Km K r g){σ:St}{H:Hp}{Q:VK}(h:wpE K (eCB g f) σ H Q):tCB r (wpA K f) σ H Q:=by
 obtain⟨Γ,μ,env,S,d,S',hK,R,e,q⟩:=h
 obtain⟨⟨x,S1⟩,e1,e⟩:=bind_some e
 obtain⟨z,e4,e⟩:=map_some e
 cases e
 refine⟨Γ,μ,env,S,x,S1,hK,R,e1,fun v1 μ1 H1 x1 R1 r1=>?_⟩
 refine hs Γ μ1 σ H1 env S1 v1 x _ hK R1 r1 e4 Q fun v H' sm rv=>?_
 obtain⟨R4,x4⟩:=R1.grow sm
 exact q v μ1 H' (x1.trans x4) R4 rv
variable{x:Str}{p:Pos}{e:Expr}{es:List Expr}{id T:String}{f:Bs}
theorem Bx{r:List V->Hp->VK->Prop}{g:Store->List D->Option D}(hc:Dd X (.builtin id) r)(hsm:Km X.K r g)(hg:Gl X x)(hm:X.mg x=none)(hv:bootBuiltins x=some (.builtin id))(ha:JA X (e::es) f)(hn:x≠"__name__":=by decide)(hdb:(x==("__debug__":Str))=false:=by decide)
  (he:starEach (e::es) X.env=(false,eval e X.env)::starEach es X.env:=by rfl) (hpl:(backTo pos (starEach es X.env)).any (·.1)=false:=by rfl):JE X (.Call (.Name x p) (e::es) [] pos) (eCB g f) :=
 ⟨PE.imp (RK hc hg hm hv ha.pa hn hdb he hpl) fun _ _ _ h=>fX hsm h⟩
theorem MP{r:List V->Hp->VK->Prop}{g:Store->List D->Option D}(hc:Dd X (.type T) r)(hsm:Km X.K r g)(hg:Gl X x)(hm:X.mg x=none)(hv:bootBuiltins x=some (.type T))(ha:JA X (e::es) f)(hn:x≠"__name__":=by decide)(hdb:(x==("__debug__":Str))=false:=by decide)
  (he:starEach (e::es) X.env=(false,eval e X.env)::starEach es X.env:=by rfl) (hpl:(backTo pos (starEach es X.env)).any (·.1)=false:=by rfl):JE X (.Call (.Name x p) (e::es) [] pos) (eCB g f) :=
 ⟨PE.imp (MN hc hg hm hv ha.pa hn hdb he hpl) fun _ _ _ h=>fX hsm h⟩
end
section
variable{X:Cx}{st:Stmt}{sts:List Stmt}{f g:Bm}{fa:Az}{a:Expr}{pos:Pos}{K:U0b}
theorem qH{E:Ends}{σ:St}{H:Hp}{fl:Fl}(h:wpS K (fun env S=>some (fl,env,S)) E σ H):∃Γ μ,FlQ Γ μ E σ H fl:=by
 obtain⟨Γ,μ,env,S,fl',env',S',hK,R,e,q⟩:=h
 cases e
 exact⟨Γ,μ,q μ σ H (Ext.refl _ _) R⟩
theorem Ds:JSs X [] FQ:=⟨PSs.imp iz fun E σ H h=>let ⟨_,_,q⟩:=qH (fl:=.nx) h;q⟩
theorem Aq(h1:JS X st f)(h2:JSs X sts g):JSs X (st::sts) (Bh f g):=⟨PSs.imp (dg h1.ps h2.ps) fun E σ H h=>by
 obtain⟨Γ,μ,env,S,fl,env',S',hK,R,e,q⟩:=h
 obtain⟨⟨fl1,env1,S1⟩,e1,e⟩:=bind_some e
 refine⟨Γ,μ,env,S,fl1,env1,S1,hK,R,e1,fun μ1 σ1 H1 x1 R1=>?_⟩
 dsimp only at e
 cases fl1 with
 |nx=>exact⟨Γ,μ1,env1,S1,fl,env',S',hK,R1,e,fun μ' σ' H' x' R'=>q μ' σ' H' (x1.trans x') R'⟩
 |brk=>cases e;exact q μ1 σ1 H1 x1 R1
 |cnt=>cases e;exact q μ1 σ1 H1 x1 R1
 |ret d=>cases e;exact q μ1 σ1 H1 x1 R1⟩
theorem Ba(h1:JS X st f):JSs X [st] f:=⟨iy h1.ps⟩
theorem PK(he:JE X a fa)(hs:swapsWith a none pos.line X.env=pure false:=by rfl):JS X (.Expr a pos) (Lh fa):=⟨PS.imp (j5 he.pe hs) fun E σ H h=>by
 obtain⟨Γ,μ,env,S,fl,env',S',hK,R,e,q⟩:=h
 obtain⟨⟨x,S1⟩,e1,e⟩:=bind_some e
 cases e
 exact⟨Γ,μ,env,S,x,S1,hK,R,e1,fun v1 μ1 H1 x1 R1 r1=>q μ1 σ H1 x1 R1⟩⟩
theorem CT(he:JE X a fa):JS X (.Return (some a) pos) (DK fa):=⟨PS.imp (nR he.pe) fun E σ H h=>by
 obtain⟨Γ,μ,env,S,fl,env',S',hK,R,e,q⟩:=h
 obtain⟨⟨x,S1⟩,e1,e⟩:=bind_some e
 cases e
 exact⟨Γ,μ,env,S,x,S1,hK,R,e1,fun v1 μ1 H1 x1 R1 r1=>q μ1 σ H1 x1 R1 v1 r1⟩⟩
theorem Fw{c:Expr}{A B:List Stmt}{tc:Ek}(hc:JT X c tc)(ha:JSs X A f)(hb:JSs X B g):JS X (.If c A B pos) (sIf tc f g):=⟨PS.imp (qZ hc.pt ha.ps hb.ps) fun E σ H h=>by
 obtain⟨Γ,μ,env,S,fl,env',S',hK,R,e,q⟩:=h
 obtain⟨⟨x,S1⟩,e1,e⟩:=bind_some e
 refine⟨Γ,μ,env,S,x,S1,hK,R,e1,fun μ1 H1 x1 R1=>?_⟩
 dsimp only at e
 by_cases hx:x=true
 .rw[if_pos hx] at e ⊢
  exact⟨Γ,μ1,env,S1,fl,env',S',hK,R1,e,fun μ' σ' H' x' R'=>q μ' σ' H' (x1.trans x') R'⟩
 .rw[if_neg hx] at e ⊢
  exact⟨Γ,μ1,env,S1,fl,env',S',hK,R1,e,fun μ' σ' H' x' R'=>q μ' σ' H' (x1.trans x') R'⟩⟩
theorem Bt{i:Nat}{x:Str}{pos':Pos}(hN:X.N.Nodup)(he:JE X a fa)(hi:X.N[i]?=some x:=by rfl)(hx:Loc X.env.scope x:=by first|exact U73 rfl|exact U7 rfl)(hs:swapsWith a (some (.Name x pos')) pos.line X.env=pure false:=by rfl)
  (hf:X.fn x=true∨X.env.scope.names.lookup x=some .local:=by first|exact .inl rfl|exact .inr rfl|assumption):JS X (.Assign [.Name x pos'] a pos) (BR i fa):=⟨PS.imp (nQ hN hi hx he.pe hs hf) fun E σ H h=>by
 obtain⟨Γ,μ,env,S,fl,env',S',hK,R,e,q⟩:=h
 obtain⟨⟨y,S1⟩,e1,e⟩:=bind_some e
 cases e
 exact⟨Γ,μ,env,S,y,S1,hK,R,e1,fun v1 μ1 H1 x1 R1 r1=>q μ1 _ H1 x1 (R1.cF i r1)⟩⟩
theorem DG{i:Nat}{x:Str}(hN:X.N.Nodup)(hi:X.N[i]?=some x:=by rfl)(hx:Loc X.env.scope x:=by first|exact U73 rfl|exact U7 rfl)
  (hf:X.fn x=true∨X.env.scope.names.lookup x=some .local:=by first|exact .inl rfl|exact .inr rfl|assumption):JG X (.Name x pos) (.nm i):=⟨by rw[Pat.raw];exact j9 hN hi hx hf⟩
theorem U9:JGs X [] []:=⟨by rw[JN];exact j8⟩
theorem K4{e:Expr}{es:List Expr}{t:Pat}{u:List Pat}(h1:JG X e t)(h2:JGs X es u)
  (hs:(assignEach (e::es) X.env).map (·.2)=assign e X.env::(assignEach es X.env).map (·.2):=by rfl):JGs X (e::es) (t::u):=⟨by rw[JN];exact dj h1.pg h2.pg hs⟩
theorem Vz{es:List Expr}{k:Nat}{gs:List Pat}(hc:X.calm=true)(h:JGs X es gs)(hn:(assignEach es X.env).length=gs.length:=by rfl)(hst:(assignEach es X.env).findIdx? (·.1)=none:=by rfl):JG X (.Tuple es k pos) (.tp gs) :=
 ⟨by rw[Pat.raw];exact nW hc h.pg hn hst⟩
theorem oW{tg:Expr}{gg:Pat}(he:JE X a fa)(hg:JG X tg gg)(hs:swapsWithSole [tg] a pos.line X.env=pure false:=by rfl)(hw:swappedStores [tg] a X.env=pure none:=by rfl)
  (h1:(assignEach [tg] X.env).map (·.2)=[assign tg X.env]:=by rfl):JS X (.Assign [tg] a pos) (Z0 fa gg.sem):=⟨PS.imp (Zx he.pe hg.pg hs hw h1) fun E σ H h=>by
 obtain⟨Γ,μ,env,S,fl,env',S',hK,R,e,q⟩:=h
 obtain⟨⟨y,S1⟩,e1,e⟩:=bind_some e
 obtain⟨env1,e2,e⟩:=bind_some e
 cases e
 exact⟨Γ,μ,env,S,y,S1,hK,R,e1,fun v1 μ1 H1 x1 R1 r1=>gg.run X.K R1 r1 e2 fun σ' R'=>q μ1 σ' H1 x1 R'⟩⟩
theorem Js{tg iter:Expr}{body:List Stmt}{it:Ko}{gg:Pat}(hc:X.calm=true)(hi:JI X tg iter it)(hg:JG X tg gg)(hb:JSs X body f)(hp:PassesOwn (model X.prog X.w) X.A X.env X.xe)
  (hs:∀x,foldedSetIterable iter X.env x=pure x:=by intro _;rfl):JS X (.For tg iter body [] pos) (Lg it gg.sem f):=⟨PS.imp (nT hp hc hi.pi hg.pg hb.ps hs) fun E σ H h=>by
 obtain⟨Γ,μ,env,S,fl,env',S',hK,R,e,q⟩:=h
 obtain⟨⟨⟨ds,w⟩,S1⟩,e1,e⟩:=bind_some e
 refine⟨Γ,μ,env,S,ds,w,S1,hK,R,e1,fun J μ1 H1 x1 R1 ok=>?_⟩
 refine⟨fun i m σ2 H2=>∃μ2 env2 S2,m=ds.length-i/\i<=ds.length/\Ext μ1 H1 μ2 H2/\Rep Γ μ2 σ2 H2 env2 S2/\loop w gg.sem f (ds.drop i) env2 S2=some (fl,env',S'),⟨ds.length,μ1,env,S1,rfl,U2w _,Ext.refl _ _,R1,by rw[U5z];exact e⟩,?_⟩
 rintro i m σ2 H2 ⟨μ2,env2,S2,rfl,hi,x2,R2,el⟩
 by_cases hlt:i<ds.length
 .rw[U24 hlt] at el
  unfold loop at el
  by_cases hcm:calm w S2
  .rw[if_pos hcm] at el
   obtain⟨env3,e3,el⟩:=bind_some el
   obtain⟨⟨fl4,env4,S4⟩,e4,el⟩:=bind_some el
   obtain⟨go,yl⟩:=ok.step i ds[i] μ2 H2 σ2 env2 S2 (U02 hlt) x2 R2 hcm
   refine .inr ⟨go,fun σ5 H5=>∃μ5 env5 S5,Ext μ1 H1 μ5 H5/\Rep Γ μ5 σ5 H5 env5 S5/\loop w gg.sem f (ds.drop (i+1)) env5 S5=some (fl,env',S'),fun σ5 H5 ⟨μ5,env5,S5,x5,R5,e5⟩=>⟨ds.length-(i+1),by omega,μ5,env5,S5,rfl,hlt,x5,R5,e5⟩,fun x H3 y=>?_⟩
   obtain⟨sm,rx⟩:=yl x H3 y
   obtain⟨R3,x3⟩:=R2.grow sm
   refine gg.run X.K R3 rx e3 fun σ3 R3'=>?_
   refine⟨Γ,μ2,env3,S2,fl4,env4,S4,hK,R3',e4,fun μ4 σ4 H4 x4 R4=>?_⟩
   have x14:=x2.trans (x3.trans x4)
   dsimp only at el
   cases fl4 with
   |nx=>exact⟨μ4,env4,S4,x14,R4,el⟩
   |cnt=>exact⟨μ4,env4,S4,x14,R4,el⟩
   |brk=>cases el;exact q μ4 σ4 H4 (x1.trans x14) R4
   |ret d=>cases el;exact q μ4 σ4 H4 (x1.trans x14) R4
  .rw[if_neg hcm] at el;cases el
 .have hi':i=ds.length:=by omega
  subst hi'
  rw[List.drop_length] at el
  unfold loop at el
  by_cases hcm:calm w S2
  .rw[if_pos hcm] at el
   cases el
   exact .inl ⟨ok.stop μ2 H2 σ2 _ _ x2 R2 hcm,q μ2 σ2 H2 (x1.trans x2) R2⟩
  .rw[if_neg hcm] at el;cases el⟩
end
end VS
end
section
namespace VS
open PySem PySem.Spec L2
theorem Rep.cap{Γ:Fr}{μ:Mu}{σ:St}{H:Hp}{env:Env}{S:Store}(R:Rep Γ μ σ H env S)(k:Nat)(caps:List Nat):Rep Γ μ (Io k caps σ) H (Qz k caps env) S:=by
 refine⟨fun i d h=>?_,?_,R.sto,R.liv,R.inj,R.slen,R.ent,R.new⟩
 .unfold Qz at h
  by_cases hi:i<k
  .rw[U0z (by simpa using hi),U4v,if_pos hi] at h
   cases h
  .rw[U1i (by simpa using hi),U11,U01] at h
   cases e:caps[i-k]? with
   |none=>rw[e] at h;cases h
   |some a =>
    rw[e] at h
    have h':(env[a]?).join=some d:=U0u h
    have h2:env[a]?=some (some d):=by
     cases q:env[a]? with
     |none=>rw[q] at h';cases h'
     |some o=>rw[q] at h';exact congrArg some h'
    obtain⟨v,h3,h4⟩:=R.vals a d h2
    refine⟨v,?_,h4⟩
    unfold Io
    rw[U1i (by simpa using hi),U11,U01,e]
    show some (σ[a]?).join=some (some v)
    rw[h3];rfl
 .unfold Io Qz
  rw[U0j,U0j,U0e,U0e,U11,U11]
section
variable{X:Cx}
theorem YB{K:U0b}{k:Nat}{caps:List Nat}{it:Ko}{p:Pat}{t:Ek}{f:Az}{σ:St}{H:Hp}{Q:VK} (h:∃Γ μ env S ys S',Γ.K=K/\Rep Γ μ σ H env S/\Ea k caps it p.sem t f env S=some (ys,S') /\
  ∀xs μ' H',Ext μ H μ' H'->Rep Γ μ' σ H' env S'->VRs Γ μ' H' xs ys->∀q,H' q=none->Q (.ref q) (upd H' q (.lst xs))):Z8 k caps (wpI K it) (p.raw K) (wpT K t) (wpE K f) σ H Q:=by
 obtain⟨Γ,μ,env,S,ys,S',hK,R,e,q⟩:=h
 obtain⟨⟨⟨ds,w⟩,S1⟩,e1,e⟩:=bind_some e
 refine⟨Γ,μ,env,S,ds,w,S1,hK,R,e1,fun J μ1 H1 x1 R1 ok=>?_⟩
 refine⟨fun i m zs H2=>∃μ2 S2 dzs,m=ds.length-i/\i<=ds.length/\Ext μ1 H1 μ2 H2/\Rep Γ μ2 σ H2 env S2/\VRs Γ μ2 H2 zs dzs/\Hr w (Qz k caps env) p.sem t f (ds.drop i) dzs S2=some (ys,S'),
  ⟨ds.length,μ1,S1,[],rfl,U2w _,Ext.refl _ _,R1,.nil,by rw[U5z];exact e⟩,?_⟩
 rintro i m zs H2 ⟨μ2,S2,dzs,rfl,hi,x2,R2,rz,el⟩
 by_cases hlt:i<ds.length
 .rw[U24 hlt] at el
  unfold Hr at el
  by_cases hcm:calm w S2/\dzs.length<=1000000
  .rw[if_pos hcm] at el
   obtain⟨env3,e3,el⟩:=bind_some el
   obtain⟨⟨b,S4⟩,e4,el⟩:=bind_some el
   have R2c:=R2.cap k caps
   obtain⟨go,yl⟩:=ok.step i ds[i] μ2 H2 _ _ S2 (U02 hlt) x2 R2c hcm.1
   refine .inr ⟨go,by rw[rz.length];exact big hcm.2,fun x H3 y=>?_⟩
   obtain⟨sm,rx⟩:=yl x H3 y
   obtain⟨R3,x3⟩:=R2c.grow sm
   obtain⟨R3o,_⟩:=R2.grow sm
   refine p.run K R3 rx e3 fun σ3 R3'=>?_
   refine⟨Γ,μ2,env3,S2,b,S4,hK,R3',e4,fun μ4 H4 x4 R4=>?_⟩
   dsimp only at el
   by_cases hb:b=true
   .rw[if_pos hb] at el ⊢
    obtain⟨⟨d5,S5⟩,e5,el⟩:=bind_some el
    refine⟨Γ,μ4,env3,S4,d5,S5,hK,R4,e5,fun v μ5 H5 x5 R5 r5=>?_⟩
    exact⟨ds.length-(i+1),by omega,μ5,S5,dzs++[d5],rfl,hlt,x2.trans (x3.trans (x4.trans x5)),R3o.back (x4.trans x5) R5,((rz.ext (x3.trans (x4.trans x5)))).append (.cons r5 .nil),el⟩
   .rw[if_neg hb] at el ⊢
    exact⟨ds.length-(i+1),by omega,μ4,S4,dzs,rfl,hlt,x2.trans (x3.trans x4),R3o.back x4 R4,rz.ext (x3.trans x4),el⟩
  .rw[if_neg hcm] at el;cases el
 .have hi':i=ds.length:=by omega
  subst hi'
  rw[List.drop_length] at el
  unfold Hr at el
  by_cases hcm:calm w S2/\dzs.length<=1000000
  .rw[if_pos hcm] at el
   cases el
   exact .inl ⟨ok.stop μ2 H2 σ env _ x2 R2 hcm.1,fun p hp=>q zs μ2 H2 (x1.trans x2) R2 rz p hp⟩
  .rw[if_neg hcm] at el;cases el
structure JC(X:Cx)(N2:List Str)(scope:Scope)(tg:Expr)(ifs:List Expr)(elt:Expr)(p:Pat)(t:Ek)(f:Az):Prop where
 all:∀(cl:List (Str×Addr))(C:Addr)(s:Shared)(H:Hp)(ex:List Addr),JG (DP X N2 scope cl C s H ex) tg p/\JTs (DP X N2 scope cl C s H ex) ifs t/\JE (DP X N2 scope cl C s H ex) elt f
theorem Ge{elt tg iter:Expr}{ifs:List Expr}{scope:Scope}{pos:Pos}{N2:List Str}{k:Nat}{caps:List Nat}{it:Ko}{p:Pat}{t:Ek}{f:Az}
  (hc:X.calm=true) (hS:Eu X.env.scope X.N N2 k caps scope) (hlow:p.low k=true) (hi:JI X tg iter it) (hb:JC X N2 scope tg ifs elt p t f)
  (hs:∀x,foldedSetIterable iter X.env x=pure x:=by intro _;rfl):JE X (.ListComp elt [⟨tg,iter,ifs,0⟩] scope pos) (Am (Ea k caps it p.sem t f)) :=
 ⟨PE.imp (jB hc hS (p.ZG X.K hlow) hi.pi (fun cl C s H ex=>let ⟨a,b,c⟩:=hb.all cl C s H ex;⟨a.pg,b.pt,c.pe⟩) hs) fun σ H Q h=>by
  obtain⟨Γ,μ,env,S,d,S',hK,R,e,q⟩:=h
  obtain⟨⟨ys,S1⟩,e1,e⟩:=bind_some e
  cases e
  refine YB ⟨Γ,μ,env,S,ys,S1,hK,R,e1,fun xs μ1 H1 x1 R1 r1 z hz=>?_⟩
  obtain⟨R2,x2⟩:=R1.grow (Cd hz (.lst xs))
  exact q _ μ1 _ (x1.trans x2) R2 (.lst (R1.ok hz true) (R1.dead hz) Bv (r1.ext x2))⟩
theorem Yb{Γ:Fr}{μ:Mu}{H:Hp}{p:Addr}{n:Nat}(h:n=μ.length)(hl:IsL H p:=by exact⟨_,Bv⟩):VR Γ (μ++[some p]) H (.ref p) (.ref n):=by
 subst h
 refine .ref (by rw[U0j];simp) fun a h=>?_
 simp at h
 rw[←h]
 exact⟨rfl,hl⟩
theorem Xx{elt tg iter:Expr}{ifs:List Expr}{scope:Scope}{pos py spos:Pos}{N2:List Str}{k i:Nat}{y:Str}{caps:List Nat}{it:Ko}{p:Pat}{t:Ek}{f:Az}
  (hc:X.calm=true) (hN:X.N.Nodup) (hS:Eu X.env.scope X.N N2 k caps scope) (hlow:p.low k=true) (hi:JI X tg iter it) (hb:JC X N2 scope tg ifs elt p t f) (hi':X.N[i]?=some y:=by rfl)
  (hx:X.env.scope.names.lookup y=some .local:=by rfl) (hsw:swapsWith (.ListComp elt [⟨tg,iter,ifs,0⟩] scope pos) (some (.Name y py)) spos.line X.env=pure true:=by rfl)
  (hs:∀x,foldedSetIterable iter X.env x=pure x:=by intro _;rfl):JS X (.Assign [.Name y py] (.ListComp elt [⟨tg,iter,ifs,0⟩] scope pos) spos) (BR i (Am (Ea k caps it p.sem t f))) :=
 ⟨PS.imp (j4 hc hN hi' hS (p.ZG X.K hlow) hi.pi (fun cl C s H ex=>let ⟨a,b,c⟩:=hb.all cl C s H ex;⟨a.pg,b.pt,c.pe⟩) hx hsw hs) fun E σ H h=>by
  obtain⟨Γ,μ,env,S,fl,env',S',hK,R,e,q⟩:=h
  obtain⟨⟨d,S1⟩,e1,e⟩:=bind_some e
  cases e
  obtain⟨⟨ys,S2⟩,e2,e1⟩:=bind_some e1
  cases e1
  refine YB ⟨Γ,μ,env,S,ys,_,hK,R,e2,fun xs μ1 H1 x1 R1 r1 z hz=>?_⟩
  obtain⟨R2,x2⟩:=R1.grow (Cd hz (.lst xs))
  exact q μ1 _ _ (x1.trans x2) (R2.cF i (.lst (R1.ok hz true) (R1.dead hz) Bv (r1.ext x2)))⟩
end
def listOf(S:Store):D->Option (List D)
 |.lst _ ds=>some ds
 |.ref i=>(S[i]?).join
 |_=>none
def Fv(S:Store):D->Option (List D)
 |.tup ds=>some ds
 |.scr ns=>some (ns.map .int)
 |d=>listOf S d
def idOf(ds:List D):D->List (Nat×List D)
 |.ref i=>[(i,ds)]
 |_=>[]
section
variable{Γ:Fr}{μ:Mu}{σ:St}{H:Hp}{env:Env}{S:Store}{v:V}{d:D}{ds:List D}
theorem join_some{α:Type}{a:Option (Option α)}{b:α}(h:a.join=some b):a=some (some b):=by
 cases a with
 |none=>cases h
 |some o=>exact congrArg some h
theorem VR.list(R:Rep Γ μ σ H env S)(r:VR Γ μ H v d)(h:listOf S d=some ds):∃a xs,v=.ref a/\H a=some (.lst xs)/\VRs Γ μ H xs ds:=by
 cases r with
 |lst o n hb rs=>cases h;exact⟨_,_,rfl,hb,rs⟩
 |@ref i v hi f =>
  obtain⟨a,h1,hc⟩:=R.sto i ds (join_some h)
  obtain⟨f1,f2⟩:=f a h1
  obtain⟨xs,h2,h3⟩:=hc.list f2
  exact⟨a,xs,f1,h2,h3⟩
 |_=>cases h
theorem VR.seq(hK:Γ.K=K)(R:Rep Γ μ σ H env S)(r:VR Γ μ H v d)(h:Fv S d=some ds):∃a xs,v=.ref a/\(SqL K H a xs∨SqT K H a xs)/\VRs Γ μ H xs ds:=by
 subst hK
 cases d with
 |tup es=>cases r with|tup hb rs=>cases h;exact⟨_,_,rfl,.inr (SqT.of hb),rs⟩
 |scr ns =>
  cases h
  cases r with
  |scrK hk=>exact⟨_,_,rfl,.inl (hk H),VRs.ints ns⟩
  |scrR n hb=>exact⟨_,_,rfl,.inl (.inl (.inr ⟨_,hb⟩)),VRs.ints ns⟩
 |lst m es=>obtain⟨a,xs,e1,e2,e3⟩:=VR.list R r h;exact⟨a,xs,e1,.inl (SqL.of e2),e3⟩
 |ref i=>obtain⟨a,xs,e1,e2,e3⟩:=VR.list R r h;exact⟨a,xs,e1,.inl (SqL.of e2),e3⟩
 |_=>cases h
end
def Ei(a:Az):Ko:=fun env S=>(a env S).bind fun p=>(Fv p.2 p.1).map fun ds=>((ds,idOf ds p.1),p.2)
section
variable{X:Cx}{tg:Expr}
def qK(K:U0b)(tl:TE):TI:=fun σ H R=>tl σ H fun x H1=>∃a,x=.ref a/\(((∃xs,SqL K H1 a xs)/\R (Itl K a) H1)∨((∃xs,SqT K H1 a xs)/\R (Itt K a) H1))
theorem nU{l:Expr}{tl:TE}(hl:PE X l tl):PI X tg l (qK X.K tl):=by
 intro pins s σ H R I h
 refine thn (hl pins s σ H _ I h) fun v s1 ⟨x,H1,I1,r1,q1⟩=>?_
 obtain⟨a,e,⟨⟨xs,hq⟩,q⟩|⟨⟨xs,hq⟩,q⟩⟩:=q1
 .subst e
  cases r1
  obtain⟨its,rv,p,hz⟩:=I1.list hq
  refine U56 p.isList ?_
  refine⟨s1.heap.objs.size,[s1.heap.objs.size],_,_,H1,rfl,I1.kept (t':=s1.toks) fun b o e=>U0c _ e,aj a _,⟨_,U0r _ rfl,rfl,rfl⟩,fun b hb=>?_,q⟩
  have e:b=s1.heap.objs.size:=by simpa using hb
  subst e
  exact I1.Z6 (U0h _) (I1.hok.fresh (U0h _))
 .subst e
  cases r1
  obtain⟨its,rv,p,hz⟩:=I1.tuple hq
  refine U5v (show s1.heap.IsTuple a its.toArray from p) ?_
  refine⟨s1.heap.objs.size,[s1.heap.objs.size],_,_,H1,rfl,I1.kept (t':=s1.toks) fun b o e=>U0c _ e,ZP a _,⟨_,U0r _ rfl,rfl,rfl⟩,fun b hb=>?_,q⟩
  have e:b=s1.heap.objs.size:=by simpa using hb
  subst e
  exact I1.Z6 (U0h _) (I1.hok.fresh (U0h _))
theorem bA{d:D}{ds:List D}{S S':Store}(h:Fv S d=some ds)(c:calm (idOf ds d) S'):Fv S' d=some ds:=by
 cases d with
 |ref i =>
  have c':S'[i]?=some (some ds):=c (i,ds) (U1k.mpr rfl)
  show(S'[i]?).join=some ds
  rw[c'];rfl
 |_=>exact h
theorem VR.Ve{K:U0b}{Γ:Fr}{μ:Mu}{σ:St}{H:Hp}{env:Env}{S:Store}{v:V}{d:D}{ds:List D}(hK:Γ.K=K)(R:Rep Γ μ σ H env S)(r:VR Γ μ H v d)(h:Fv S d=some ds):(∃es,d=.tup es)∨∃a xs,v=.ref a/\SqL K H a xs/\VRs Γ μ H xs ds:=by
 subst hK
 cases d with
 |tup es=>exact .inl ⟨es,rfl⟩
 |scr ns =>
  cases h
  cases r with
  |scrK hk=>exact .inr ⟨_,_,rfl,hk H,VRs.ints ns⟩
  |scrR n hb=>exact .inr ⟨_,_,rfl,.inl (.inr ⟨_,hb⟩),VRs.ints ns⟩
 |lst m es=>obtain⟨a,xs,e1,e2,e3⟩:=VR.list R r h;exact .inr ⟨a,xs,e1,SqL.of e2,e3⟩
 |ref i=>obtain⟨a,xs,e1,e2,e3⟩:=VR.list R r h;exact .inr ⟨a,xs,e1,SqL.of e2,e3⟩
 |_=>cases h
theorem jh{Γ:Fr}{μ:Mu}{H:Hp}{a:Addr}{ds:List D}{K:U0b}{w:List (Nat×List D)}(hr:∀μ' H' σ' env' S',Ext μ H μ' H'->Rep Γ μ' σ' H' env' S'->calm w S'->∃xs,SqL K H' a xs/\VRs Γ μ' H' xs ds):Vl Γ μ H (Itl K a) ds w:=by
 refine⟨fun i d μ' H' σ' env' S' hi x R c=>?_,fun μ' H' σ' env' S' x R c=>?_⟩
 .obtain⟨xs,h1,h2⟩:=hr μ' H' σ' env' S' x R c
  obtain⟨y,e1,e2⟩:=h2.get hi
  refine⟨⟨xs,y,h1,e1⟩,fun z H'' yl=>?_⟩
  obtain⟨e,f⟩:=yl
  subst e
  have:=f xs h1
  rw[e1] at this;cases this
  exact⟨Same.refl _,e2⟩
 .obtain⟨xs,h1,h2⟩:=hr μ' H' σ' env' S' x R c
  exact⟨xs,h1,by rw[h2.length];exact U0h _⟩
theorem aP{Γ:Fr}{μ:Mu}{H:Hp}{a:Addr}{ds:List D}{K:U0b}{w:List (Nat×List D)}(hr:∀μ' H' σ' env' S',Ext μ H μ' H'->Rep Γ μ' σ' H' env' S'->calm w S'->∃xs,SqT K H' a xs/\VRs Γ μ' H' xs ds):Vl Γ μ H (Itt K a) ds w:=by
 refine⟨fun i d μ' H' σ' env' S' hi x R c=>?_,fun μ' H' σ' env' S' x R c=>?_⟩
 .obtain⟨xs,h1,h2⟩:=hr μ' H' σ' env' S' x R c
  obtain⟨y,e1,e2⟩:=h2.get hi
  refine⟨⟨xs,y,h1,e1⟩,fun z H'' yl=>?_⟩
  obtain⟨e,f⟩:=yl
  subst e
  have:=f xs h1
  rw[e1] at this;cases this
  exact⟨Same.refl _,e2⟩
 .obtain⟨xs,h1,h2⟩:=hr μ' H' σ' env' S' x R c
  exact⟨xs,h1,by rw[h2.length];exact U0h _⟩
theorem G5{l:Expr}{f:Az}(hl:JE X l f):JI X tg l (Ei f):=⟨PI.imp (nU hl.pe) fun σ H Q h=>by
 obtain⟨Γ,μ,env,S,ds,w,S',hK,R,e,q⟩:=h
 obtain⟨⟨d,S1⟩,e1,e⟩:=bind_some e
 obtain⟨ds',e2,e⟩:=map_some e
 cases e
 refine⟨Γ,μ,env,S,d,S1,hK,R,e1,fun v μ1 H1 x1 R1 r1=>?_⟩
 rcases VR.Ve hK R1 r1 e2 with ⟨es,rfl⟩|⟨a,xs,rfl,hq,rs⟩
 .cases r1 with
  |@tup a xs _ hb rs =>
   refine⟨a,rfl,.inr ⟨⟨xs,SqT.of hb⟩,q _ μ1 H1 x1 R1 (aP fun μ' H' σ' env' S' x' R' c=>?_)⟩⟩
   have e2':es=ds:=U0u e2
   subst e2'
   exact⟨xs,SqT.of (x'.tups _ _ hb),rs.ext x'⟩
 .by_cases ht:∃es,d=.tup es
  .obtain⟨es,rfl⟩:=ht
   cases r1 with
   |@tup b ys _ hb rs' =>
    refine⟨a,rfl,.inr ⟨⟨ys,SqT.of hb⟩,q _ μ1 H1 x1 R1 (aP fun μ' H' σ' env' S' x' R' c=>?_)⟩⟩
    have e2':es=ds:=U0u e2
    subst e2'
    exact⟨ys,SqT.of (x'.tups _ _ hb),rs'.ext x'⟩
  .refine⟨a,rfl,.inl ⟨⟨xs,hq⟩,q _ μ1 H1 x1 R1 (jh fun μ' H' σ' env' S' x' R' c=>?_)⟩⟩
   rcases VR.Ve hK R' (r1.ext x') (bA e2 c) with z|⟨b,ys,e,h1,h2⟩
   .exact absurd z ht
   .cases e
    exact⟨ys,h1,h2⟩⟩
def upD(lo:Int)(n:Nat):List D:=(U22 n).map fun(i:Nat)=>.int (lo+i)
theorem fB{Γ:Fr}{μ:Mu}{H:Hp}(lo:Int)(n:Nat):Vl Γ μ H (Itr lo n) (upD lo n) []:=by
 have len:(upD lo n).length=n:=by unfold upD;rw[U0e,U66]
 refine⟨fun i d μ' H' σ' env' S' hi x R c=>?_,fun μ' H' σ' env' S' x R c=>?_⟩
 .have hi':i<n:=by rw[←len];exact(U0n.mp hi).1
  refine⟨hi',fun y H'' yl=>?_⟩
  obtain⟨e1,e2⟩:=yl
  subst e1 e2
  unfold upD at hi
  rw[U01,List.getElem?_range hi'] at hi
  cases hi
  exact⟨Same.refl _,.int _⟩
 .show n<=(upD lo n).length
  rw[len];exact U0h _
def r62(j:Int):Prop:=-(2^62)<=j/\j<2^62
instance(j:Int):Decidable (r62 j):=by unfold r62;infer_instance
def Ie(a:Bs):Ko:=fun env S=>(a env S).bind fun p=>match p.1 with|[.int j]=>if r62 j then some ((upD 0 j.toNat,[]),p.2) else none|_=>none
theorem VRs.one{Γ:Fr}{μ:Mu}{H:Hp}{vs:List V}{d:D}(h:VRs Γ μ H vs [d]):∃v,vs=[v]/\VR Γ μ H v d:=by
 cases h with|cons r t=>cases t;exact⟨_,rfl,r⟩
theorem VRs.two{Γ:Fr}{μ:Mu}{H:Hp}{vs:List V}{d e:D}(h:VRs Γ μ H vs [d,e]):∃v u,vs=[v,u]/\VR Γ μ H v d/\VR Γ μ H u e:=by
 cases h with|cons r t=>cases t with|cons r' t=>cases t;exact⟨_,_,rfl,r,r'⟩
theorem Pk{a:Expr}{f:Bs}{p pos:Pos}(hg:Gl X "range")(hm:X.mg "range"=none)(ha:JA X [a] f)(hs:starEach [a] X.env=[(false,eval a X.env)]:=by rfl):JI X tg (.Call (.Name "range" p) [a] [] pos) (Ie f) :=
 ⟨PI.imp (bI hg hm ha.pa hs) fun σ H Q h=>by
  obtain⟨Γ,μ,env,S,ds,w,S',hK,R,e,q⟩:=h
  obtain⟨⟨d,S1⟩,e1,e⟩:=bind_some e
  refine⟨Γ,μ,env,S,d,S1,hK,R,e1,fun v μ1 H1 x1 R1 r1=>?_⟩
  dsimp only at e
  split at e
  .rename_i j
   by_cases hj:r62 j
   .rw[if_pos hj] at e
    cases e
    obtain⟨v,rfl,r⟩:=r1.one
    cases r
    exact⟨j,rfl,hj.1,hj.2,q _ μ1 H1 x1 R1 (fB 0 _)⟩
   .rw[if_neg hj] at e;cases e
  .cases e⟩
end
end VS
end
section
namespace VS
open PySem PySem.Spec L2
section
variable{X:Cx}{tg:Expr}
def Ft:List D->List D->List D
 |x::xs,y::ys=>.tup [x,y]::Ft xs ys
 |_,_=>[]
theorem WL:∀{xs ys:List D} {i:Nat} {d:D},(Ft xs ys)[i]?=some d->∃x y,xs[i]?=some x/\ys[i]?=some y/\d=.tup [x,y]
 |[],_,_,_,h=>by simp[Ft] at h
 |_::_,[],_,_,h=>by simp[Ft] at h
 |x::xs,y::ys,0,d,h=>by simp[Ft] at h;exact⟨x,y,rfl,rfl,h.symm⟩
 |x::xs,y::ys,i+1,d,h=>by
  simp[Ft] at h
  obtain⟨a,b,h1,h2,h3⟩:=WL h
  exact⟨a,b,by simpa using h1,by simpa using h2,h3⟩
theorem WK:∀(xs ys:List D),((Ft xs ys).length=xs.length/\xs.length<=ys.length)∨((Ft xs ys).length<xs.length/\(Ft xs ys).length=ys.length)
 |[],_=>.inl ⟨rfl,U2w _⟩
 |_::_,[]=>.inr ⟨by simp[Ft],rfl⟩
 |x::xs,y::ys=>by
  rcases WK xs ys with ⟨h1,h2⟩|⟨h1,h2⟩
  .left;simp[Ft];omega
  .right;simp[Ft];omega
def Rm(a:Bs):Ko:=fun env S=>(a env S).bind fun p=>match p.1 with
 |[.tup xs,.tup ys]=>some ((Ft xs ys,[]),p.2)
 |[x,.tup ys]=>(listOf p.2 x).bind fun xs=>some ((Ft xs ys,idOf xs x),p.2)
 |[x,y]=>(listOf p.2 x).bind fun xs=>(listOf p.2 y).bind fun ys=>some ((Ft xs ys,idOf xs x++idOf ys y),p.2)
 |_=>none
theorem O5{d:D}{ds:List D}{S S':Store}(h:listOf S d=some ds)(c:calm (idOf ds d) S'):listOf S' d=some ds:=by
 cases d with
 |ref i =>
  have c':S'[i]?=some (some ds):=c (i,ds) (U1k.mpr rfl)
  show(S'[i]?).join=some ds
  rw[c'];rfl
 |_=>exact h
theorem W0{Γ:Fr}{μ:Mu}{H:Hp}{L M:Bool}{a b:Addr}{xs ys:List D}{w:List (Nat×List D)}(hr:∀μ' H' σ' env' S',Ext μ H μ' H'->Rep Γ μ' σ' H' env' S'->calm w S'->∃us vs,H' a=some (HB L us)/\VRs Γ μ' H' us xs/\H' b=some (HB M vs)/\VRs Γ μ' H' vs ys) :
  Vl Γ μ H (Itz L M a b) (Ft xs ys) w:=by
 refine⟨fun i d μ' H' σ' env' S' hi x R c=>?_,fun μ' H' σ' env' S' x R c=>?_⟩
 .obtain⟨us,vs,h1,h2,h3,h4⟩:=hr μ' H' σ' env' S' x R c
  obtain⟨p,q,e1,e2,e3⟩:=WL hi
  obtain⟨u,f1,f2⟩:=h2.get e1
  obtain⟨v,g1,g2⟩:=h4.get e2
  refine⟨⟨us,vs,u,v,h1,h3,f1,g1⟩,fun z H'' yl=>?_⟩
  obtain⟨t,u',v',ht,rfl,rfl,k1,k2⟩:=yl
  have k1':=k1 us h1
  have k2':=k2 vs h3
  rw[f1] at k1';cases k1'
  rw[g1] at k2';cases k2'
  subst e3
  have sm:=Cd ht (.tup [u,v])
  obtain⟨_,x2⟩:=R.grow sm
  exact⟨sm,.tup Bv (.cons (f2.ext x2) (.cons (g2.ext x2) .nil))⟩
 .obtain⟨us,vs,h1,h2,h3,h4⟩:=hr μ' H' σ' env' S' x R c
  refine⟨us,vs,h1,h3,?_⟩
  rw[h2.length,h4.length]
  rcases WK xs ys with z|z
  .exact .inl z.1
  .exact .inr z
theorem PI.or{e:Expr}{t u:TI}(h:PI X tg e t)(k:PI X tg e u):PI X tg e (fun σ H R=>t σ H R∨u σ H R):=fun pins s σ H R I q=>q.elim (fun z=>h pins s σ H R I z) fun z=>k pins s σ H R I z
theorem aK{a b:Expr}{f:Bs}{p pos:Pos}{elts:List Expr}{x1:Nat}{tpos:Pos}(hg:Gl X "zip")(hm:X.mg "zip"=none)(ha:JA X [a,b] f)(hs:starEach [a,b] X.env=[(false,eval a X.env),(false,eval b X.env)]:=by rfl)(hs2:starEach [b] X.env=[(false,eval b X.env)]:=by rfl) :
  JI X (.Tuple elts x1 tpos) (.Call (.Name "zip" p) [a,b] [] pos) (Rm f) :=
 ⟨PI.imp (PI.or (Vq true true (.inl rfl) hg hm ha.pa hs hs2) (PI.or (Vq false false (.inl rfl) hg hm ha.pa hs hs2) (Vq true false (.inr ⟨rfl,rfl⟩) hg hm ha.pa hs hs2))) fun σ H Q h=>by
  obtain⟨Γ,μ,env,S,ds,w,S',hK,R,e,q⟩:=h
  obtain⟨⟨d,S1⟩,e1,e⟩:=bind_some e
  dsimp only at e
  split at e
  .rename_i xs ys
   cases e
   refine .inr (.inl ⟨Γ,μ,env,S,_,_,hK,R,e1,fun v μ1 H1 x1 R1 r1=>?_⟩)
   obtain⟨u,v,rfl,r,r'⟩:=r1.two
   cases r with
   |@tup a us _ ha ra =>
    cases r' with
    |@tup b vs _ hb rb =>
     exact⟨a,b,us,vs,rfl,ha,hb,q _ μ1 H1 x1 R1 (W0 fun μ' H' σ' env' S' x' R' c=>⟨us,vs,x'.tups _ _ ha,ra.ext x',x'.tups _ _ hb,rb.ext x'⟩)⟩
  .rename_i x ys _
   obtain⟨xs,e2,e⟩:=bind_some e
   cases e
   refine .inr (.inr ⟨Γ,μ,env,S,_,_,hK,R,e1,fun v μ1 H1 x1 R1 r1=>?_⟩)
   obtain⟨u,v,rfl,r,r'⟩:=r1.two
   obtain⟨a,us,rfl,ha,ra⟩:=VR.list R1 r e2
   cases r' with
   |@tup b vs _ hb rb =>
    refine⟨a,b,us,vs,rfl,ha,hb,q _ μ1 H1 x1 R1 (W0 fun μ' H' σ' env' S' x' R' c=>?_)⟩
    obtain⟨a',us',e4,ha',ra'⟩:=VR.list R' (r.ext x') (O5 e2 c)
    cases e4
    exact⟨us',vs,ha',ra',x'.tups _ _ hb,rb.ext x'⟩
  .rename_i x y _ _
   obtain⟨xs,e2,e⟩:=bind_some e
   obtain⟨ys,e3,e⟩:=bind_some e
   cases e
   refine .inl ⟨Γ,μ,env,S,_,_,hK,R,e1,fun v μ1 H1 x1 R1 r1=>?_⟩
   obtain⟨u,v,rfl,r,r'⟩:=r1.two
   obtain⟨a,us,rfl,ha,ra⟩:=VR.list R1 r e2
   obtain⟨b,vs,rfl,hb,rb⟩:=VR.list R1 r' e3
   refine⟨a,b,us,vs,rfl,ha,hb,q _ μ1 H1 x1 R1 (W0 fun μ' H' σ' env' S' x' R' c=>?_)⟩
   obtain⟨a',us',e4,ha',ra'⟩:=VR.list R' (r.ext x') (O5 e2 fun p hp=>c p (U2y _ hp))
   obtain⟨b',vs',e5,hb',rb'⟩:=VR.list R' (r'.ext x') (O5 e3 fun p hp=>c p (U0y _ hp))
   cases e4
   cases e5
   exact⟨us',vs',ha',ra',hb',rb'⟩
  .cases e⟩
def cU(K:U0b)(r:V->List V->Hp->VK->Prop)(g:Store->D->List D->Option (D×Store)):Prop:=∀(Γ:Fr)(μ:Mu)(σ:St)(H:Hp)(env:Env)(S:Store)(x:V)(xs:List V)(dx:D)(ds:List D)(d:D)(S':Store),Γ.K=K->Rep Γ μ σ H env S->VR Γ μ H x dx->VRs Γ μ H xs ds->g S dx ds=some (d,S') ->
 ∀Q:VK,(∀v μ' H',Ext μ H μ' H'->Rep Γ μ' σ H' env S'->VR Γ μ' H' v d->Q v H')->r x xs H Q
def Hz(g:Store->D->List D->Option (D×Store))(o:Az)(a:Bs):Az:=fun env S=>(o env S).bind fun p=>if (listOf p.2 p.1).isSome then (a env p.2).bind fun q=>g q.2 p.1 q.1 else none
theorem gj{K:U0b}{r:V->List V->Hp->VK->Prop}{g:Store->D->List D->Option (D×Store)}{o:Az}{a:Bs}(hs:cU K r g){σ:St}{H:Hp}{Q:VK}(h:wpE K (Hz g o a) σ H Q):tBM K "list" r (wpE K o) (wpA K a) σ H Q:=by
 obtain⟨Γ,μ,env,S,d,S',hK,R,e,q⟩:=h
 obtain⟨⟨x,S1⟩,e1,e⟩:=bind_some e
 refine⟨Γ,μ,env,S,x,S1,hK,R,e1,fun v1 μ1 H1 x1 R1 r1=>?_⟩
 dsimp only at e
 by_cases hl:(listOf S1 x).isSome=true
 .rw[if_pos hl] at e
  obtain⟨⟨ds,S2⟩,e2,e⟩:=bind_some e
  obtain⟨xs,hx⟩:=U5s.mp hl
  obtain⟨b,us,rfl,hb,rb⟩:=VR.list R1 r1 hx
  refine⟨.inl ⟨rfl,us,SqL.of hb⟩,Γ,μ1,env,S1,ds,S2,hK,R1,e2,fun vs μ2 H2 x2 R2 r2=>?_⟩
  exact hs Γ μ2 σ H2 env S2 _ vs x ds d S' hK R2 (r1.ext x2) r2 e Q fun v μ' H' x' R' rv=>q v μ' H' (x1.trans (x2.trans x')) R' rv
 .rw[if_neg hl] at e;cases e
variable{o e:Expr}{es:List Expr}{fo:Az}{fa:Bs}{name:Str}{apos cpos:Pos}{id:String}{r:V->List V->Hp->VK->Prop}{g:Store->D->List D->Option (D×Store)}
theorem Ng(pa:PlainAttrs "list")(slot:Slot "list" name id)(hty:typeOf (.builtin id)=pure (.type "method_descriptor"))(hm:MtR X id r)(hsm:cU X.K r g)(ho:JE X o fo)(ha:JA X (e::es) fa)
  (hbase:attributeBase o name X.env (eval o X.env)=eval o X.env:=by rfl)
  (hfew:((backTo cpos (starEach (e::es) X.env)).all (fun x=>!x.1)&&(backToKw cpos (keywordEach [] X.env)).all (fun x=>x.1.isSome)
   && decide ((e::es).length+([]:List Keyword).length+(if ([]:List Keyword).isEmpty then 0 else 1)<30))=true:=by rfl)
  (hline:(apos.endLine==cpos.line)=true:=by rfl) (hs:starEach (e::es) X.env=(false,eval e X.env)::starEach es X.env:=by rfl) (hplain:(backTo cpos (starEach es X.env)).any (·.1)=false:=by rfl) :
  JE X (.Call (.Attribute o name apos) (e::es) [] cpos) (Hz g fo fa) :=
 ⟨PE.imp (qd pa slot hty hm ho.pe ha.pa hbase hfew hline hs hplain) fun _ _ _ h=>gj hsm h⟩
theorem VR.Z1{Γ:Fr}{μ:Mu}{σ:St}{H:Hp}{env:Env}{S:Store}{v:V}{i:Nat}{ds:List D}(R:Rep Γ μ σ H env S)(r:VR Γ μ H v (.ref i))(h:S[i]?=some (some ds)):∃a xs,v=.ref a/\μ[i]?=some (some a)/\H a=some (.lst xs)/\VRs Γ μ H xs ds:=by
 cases r with
 |ref hi f =>
  obtain⟨a,h1,hc⟩:=R.sto i ds h
  obtain⟨f1,f2⟩:=f a h1
  obtain⟨xs,h2,h3⟩:=hc.list f2
  exact⟨a,xs,f1,h1,h2,h3⟩
def Fz(S:Store):D->List D->Option (D×Store)
 |.ref i,[d]=>match S[i]? with
  |some (some ds)=>if ds.length<1000000 then some (.non,S.set i (some (ds++[d]))) else none
  |_=>none
 |_,_=>none
theorem Ke{K:U0b}:cU K Yc Fz:=by
 intro Γ μ σ H env S x xs dx ds d S' hK R rx rs e Q q
 unfold Fz at e
 split at e
 .rename_i i d1
  split at e
  .rename_i es he
   by_cases hl:es.length<1000000
   .rw[if_pos hl] at e
    cases e
    obtain⟨a,us,rfl,h1,h2,h3⟩:=VR.Z1 R rx he
    obtain⟨y,rfl,ry⟩:=rs.one
    obtain⟨R2,x2⟩:=R.put h1 ⟨_,h2⟩ (h3.append (.cons ry .nil))
    exact⟨a,us,y,rfl,rfl,h2,by rw[h3.length];exact big (U2d hl),q _ μ _ x2 R2 .non⟩
   .rw[if_neg hl] at e;cases e
  .cases e
 .cases e
def uI(S:Store):D->List D->Option (D×Store)
 |.ref i,[.int k]=>match S[i]? with
  |some (some ds)=>if -(2^63)<=k/\k<2^63 then (PySem.seqIndex? k ds.length).bind fun j=>(ds[j]?).bind fun d=>some (d,S.set i (some (ds.eraseIdx j))) else none
  |_=>none
 |_,_=>none
def Ru(v o i:Az):Bm:=fun env S=>(v env S).bind fun p=>(o env p.2).bind fun q=>(i env q.2).bind fun r=>match q.1,r.1 with
 |.ref j,.int k=>(match r.2[j]? with
  |some (some ds)=>(ixN ds.length k).bind fun n=>some (.nx,env,r.2.set j (some (ds.set n p.1)))
  |_=>none)
 |_,_=>none
theorem Wt{a i:Expr}{fv fi:Az}{pos tpos:Pos}(he:JE X a fv)(ho:JE X o fo)(hi:JE X i fi)
  (ha:∀v,assign (.Subscript o i tpos) X.env v=(do
   let ov ←holding [v] (eval o X.env)
   let iv ←holding [v,ov] (eval i X.env)
   standAt tpos
   holding [v,ov,iv] (setItem ov iv v)
   release [v,ov,iv] []):=by intro _;rfl)
  (hs:swapsWithSole [.Subscript o i tpos] a pos.line X.env=pure false:=by rfl) (hw:swappedStores [.Subscript o i tpos] a X.env=pure none:=by rfl)
  (h1:(assignEach [.Subscript o i tpos] X.env).map (·.2)=[assign (.Subscript o i tpos) X.env]:=by rfl):JS X (.Assign [.Subscript o i tpos] a pos) (Ru fv fo fi) :=
 ⟨PS.imp (Zx he.pe (nY ho.pe hi.pe set_list ha) hs hw h1) fun E σ H h=>by
  obtain⟨Γ,μ,env,S,fl,env',S',hK,R,e,q⟩:=h
  obtain⟨⟨x,S1⟩,e1,e⟩:=bind_some e
  obtain⟨⟨y,S2⟩,e2,e⟩:=bind_some e
  obtain⟨⟨z,S3⟩,e3,e⟩:=bind_some e
  refine⟨Γ,μ,env,S,x,S1,hK,R,e1,fun v1 μ1 H1 x1 R1 r1=>?_⟩
  refine⟨Γ,μ1,env,S1,y,S2,hK,R1,e2,fun v2 μ2 H2 x2 R2 r2=>?_⟩
  refine⟨Γ,μ2,env,S2,z,S3,hK,R2,e3,fun v3 μ3 H3 x3 R3 r3=>?_⟩
  dsimp only at e
  split at e
  .rename_i j k
   split at e
   .rename_i ds hd
    obtain⟨n,e4,e⟩:=bind_some e
    cases e
    obtain⟨b,us,rfl,g1,g2,g3⟩:=VR.Z1 R3 (r2.ext x3) hd
    cases r3
    have r1':=r1.ext (x2.trans x3)
    obtain⟨R4,x4⟩:=R3.put g1 ⟨_,g2⟩ (g3.set r1' n)
    exact⟨b,us,_,n,rfl,rfl,g2,by rw[g3.length];exact e4,q μ3 σ _ (x1.trans (x2.trans (x3.trans x4))) R4⟩
   .cases e
  .cases e⟩
end
end VS
end
section
namespace VS
open PySem PySem.Spec L2
mutual
def BK:D->Bool
 |.ref _=>false
 |.dref _=>false
 |.dcm _=>false
 |.tup ds=>BZ ds
 |.lst _ ds=>BZ ds
 |_=>true
def BZ:List D->Bool
 |[]=>true
 |d::r=>BK d&&BZ r
end
mutual
def CK:D->Bool
 |.ref _=>false
 |.dref _=>false
 |.dcf _=>false
 |.dcm _=>false
 |.lst _ _=>false
 |.scr _=>false
 |.emp=>false
 |.tup ds=>Dj ds
 |_=>true
def Dj:List D->Bool
 |[]=>true
 |d::r=>CK d&&Dj r
end
mutual
def newD:D->Bool
 |.ref _=>false
 |.dref _=>false
 |.dcf _=>false
 |.dcm _=>false
 |.lst m ds=>m&&newL ds
 |.scr _=>false
 |.emp=>false
 |.tup ds=>newL ds
 |_=>true
def newL:List D->Bool
 |[]=>true
 |d::r=>newD d&&newL r
end
mutual
def den(k:Nat)(S:Store):D->Option D
 |.tup ds=>(Dl k S ds).map .tup
 |.lst m ds=>(Dl k S ds).map (.lst m)
 |.ref i=>if i<k then none else match S[i]? with|some (some ds)=>if BZ ds=true then some (.lst true ds) else none|_=>none
 |.non=>some .non
 |.bl b=>some (.bl b)
 |.int i=>some (.int i)
 |.str x=>some (.str x)
 |.ty n=>some (.ty n)
 |.scr ns=>some (.scr ns)
 |.emp=>some .emp
 |.dref i=>if i<k then none else match S[i]? with|some (some [.dcm kvs])=>some (.dcf kvs)|_=>none
 |.dcf kvs=>some (.dcf kvs)
 |.dcm _=>none
def Dl(k:Nat)(S:Store):List D->Option (List D)
 |[]=>some []
 |d::r=>(den k S d).bind fun x=>(Dl k S r).bind fun xs=>some (x::xs)
end
mutual
def age:D->D
 |.tup ds=>.tup (Bj ds)
 |.lst _ ds=>.lst false (Bj ds)
 |.ref i=>.ref i
 |.non=>.non
 |.bl b=>.bl b
 |.int i=>.int i
 |.str x=>.str x
 |.ty n=>.ty n
 |.scr ns=>.scr ns
 |.emp=>.emp
 |.dref i=>.dref i
 |.dcf kvs=>.dcf kvs
 |.dcm kvs=>.dcm kvs
def Bj:List D->List D
 |[]=>[]
 |d::r=>age d::Bj r
end
mutual
theorem Hx:∀{d:D},CK d=true->BK d=true
 |.ref _,h=>by simp[CK] at h
 |.lst _ _,h=>by simp[CK] at h
 |.scr _,h=>by simp[CK] at h
 |.emp,h=>by simp[CK] at h
 |.dref _,h=>by simp[CK] at h
 |.dcf _,h=>by simp[CK] at h
 |.dcm _,h=>by simp[CK] at h
 |.tup ds,h=>by rw[CK] at h;rw[BK];exact DX h
 |.non,_=>rfl
 |.bl _,_=>rfl
 |.int _,_=>rfl
 |.str _,_=>rfl
 |.ty _,_=>rfl
theorem DX:∀{ds:List D},Dj ds=true->BZ ds=true
 |[],_=>rfl
 |d::r,h=>by
  rw[Dj,U0m] at h
  rw[BZ,Hx h.1,DX h.2];rfl
end
mutual
theorem Ny:∀{d:D},CK d=true->newD d=true
 |.ref _,h=>by simp[CK] at h
 |.lst _ _,h=>by simp[CK] at h
 |.scr _,h=>by simp[CK] at h
 |.emp,h=>by simp[CK] at h
 |.dref _,h=>by simp[CK] at h
 |.dcf _,h=>by simp[CK] at h
 |.dcm _,h=>by simp[CK] at h
 |.tup ds,h=>by rw[CK] at h;rw[newD];exact Mf h
 |.non,_=>rfl
 |.bl _,_=>rfl
 |.int _,_=>rfl
 |.str _,_=>rfl
 |.ty _,_=>rfl
theorem Mf:∀{ds:List D},Dj ds=true->newL ds=true
 |[],_=>rfl
 |d::r,h=>by
  rw[Dj,U0m] at h
  rw[newL,Ny h.1,Mf h.2];rfl
end
mutual
theorem Gd(k:Nat)(S:Store):∀{d:D},BK d=true->den k S d=some d
 |.ref _,h=>by simp[BK] at h
 |.lst m ds,h=>by rw[BK] at h;rw[den,FW k S h];rfl
 |.tup ds,h=>by rw[BK] at h;rw[den,FW k S h];rfl
 |.non,_=>by rw[den]
 |.bl _,_=>by rw[den]
 |.int _,_=>by rw[den]
 |.str _,_=>by rw[den]
 |.ty _,_=>by rw[den]
 |.scr _,_=>by rw[den]
 |.emp,_=>by rw[den]
 |.dref _,h=>by simp[BK] at h
 |.dcf _,_=>by rw[den]
 |.dcm _,h=>by simp[BK] at h
theorem FW(k:Nat)(S:Store):∀{ds:List D},BZ ds=true->Dl k S ds=some ds
 |[],_=>by rw[Dl]
 |d::r,h=>by
  rw[BZ,U0m] at h
  rw[Dl,Gd k S h.1,FW k S h.2];rfl
end
mutual
theorem RV:∀{d:D},CK d=true->age d=d
 |.ref _,h=>by simp[CK] at h
 |.lst _ _,h=>by simp[CK] at h
 |.scr _,h=>by simp[CK] at h
 |.emp,h=>by simp[CK] at h
 |.dref _,h=>by simp[CK] at h
 |.dcf _,h=>by simp[CK] at h
 |.dcm _,h=>by simp[CK] at h
 |.tup ds,h=>by rw[CK] at h;rw[age,Gz h]
 |.non,_=>by rw[age]
 |.bl _,_=>by rw[age]
 |.int _,_=>by rw[age]
 |.str _,_=>by rw[age]
 |.ty _,_=>by rw[age]
theorem Gz:∀{ds:List D},Dj ds=true->Bj ds=ds
 |[],_=>by rw[Bj]
 |d::r,h=>by
  rw[Dj,U0m] at h
  rw[Bj,RV h.1,Gz h.2]
end
section
variable{Γ Γ':Fr}{μ μ':Mu}{H:Hp}
mutual
theorem VR.age(hK:Γ'.K=Γ.K)(hN:∀a,¬CV μ a->Γ.N a∨Γ.H0 a=none->Γ'.N a)(hl:∀a o,H a=some o->¬CV μ a->¬CV μ' a):∀{v:V} {d:D},BK d=true->VR Γ μ H v d->VR Γ' μ' H v (VS.age d)
 |_,_,_,.non=>by rw[VS.age];exact .non
 |_,_,_,.bl b=>by rw[VS.age];exact .bl b
 |_,_,_,.int i=>by rw[VS.age];exact .int i
 |_,_,_,.str x=>by rw[VS.age];exact .str x
 |_,_,_,.ty n=>by rw[VS.age];exact .ty n
 |_,_,h,.tup hb t=>by rw[BK] at h;rw[VS.age];exact .tup hb (VRs.age hK hN hl h t)
 |_,_,h,.lst o n hb t=>by rw[BK] at h;rw[VS.age];exact .lst ⟨fun z=>(by cases z),.inl (hN _ n o.2)⟩ (hl _ _ hb n) hb (VRs.age hK hN hl h t)
 |_,_,h,.ref _ _=>by simp[BK] at h
 |_,_,_,.scrK k=>by rw[VS.age];exact .scrK (by rw[hK];exact k)
 |_,_,_,.scrR n hb=>by rw[VS.age];exact .scrR (hl _ _ hb n) hb
 |_,_,_,.emp o n hb=>by rw[VS.age];exact .emp ⟨fun z=>(by cases z),.inl (hN _ n o.2)⟩ (hl _ _ hb n) hb
 |_,_,h,.dref _ _=>by simp[BK] at h
 |_,_,_,.dcf o n hb=>by rw[VS.age];exact .dcf ⟨fun z=>(by cases z),.inl (hN _ n o.2)⟩ (hl _ _ hb n) hb
theorem VRs.age(hK:Γ'.K=Γ.K)(hN:∀a,¬CV μ a->Γ.N a∨Γ.H0 a=none->Γ'.N a)(hl:∀a o,H a=some o->¬CV μ a->¬CV μ' a):∀{v:List V} {d:List D},BZ d=true->VRs Γ μ H v d->VRs Γ' μ' H v (Bj d)
 |_,_,_,.nil=>by rw[Bj];exact .nil
 |_,_,h,.cons r t=>by
  rw[BZ,U0m] at h
  rw[Bj];exact .cons (VR.age hK hN hl h.1 r) (VRs.age hK hN hl h.2 t)
end
mutual
theorem VR.pure(hK:Γ'.K=Γ.K)(hN:∀m a xs,¬CV μ a->Γ.Ok m a->H a=some xs->Γ'.Ok m a/\¬CV μ' a)(ho:∀a o,H a=some o->¬CV μ a->(∀xs,o≠.lst xs)->(∀xs,o≠.dK xs)->¬CV μ' a):∀{v:V} {d:D},BK d=true->VR Γ μ H v d->VR Γ' μ' H v d
 |_,_,_,.non=>.non
 |_,_,_,.bl b=>.bl b
 |_,_,_,.int i=>.int i
 |_,_,_,.str x=>.str x
 |_,_,_,.ty n=>.ty n
 |_,_,h,.tup hb t=>by rw[BK] at h;exact .tup hb (VRs.pure hK hN ho h t)
 |_,_,h,.lst o n hb t=>by rw[BK] at h;exact .lst (hN _ _ _ n o hb).1 (hN _ _ _ n o hb).2 hb (VRs.pure hK hN ho h t)
 |_,_,h,.ref _ _=>by simp[BK] at h
 |_,_,_,.scrK k=>.scrK (by rw[hK];exact k)
 |_,_,_,.scrR n hb=>.scrR (ho _ _ hb n (fun _ z=>by cases z) fun _ z=>by cases z) hb
 |_,_,_,.emp o n hb=>.emp (hN _ _ _ n o hb).1 (hN _ _ _ n o hb).2 hb
 |_,_,h,.dref _ _=>by simp[BK] at h
 |_,_,_,.dcf o n hb=>.dcf (hN _ _ _ n o hb).1 (hN _ _ _ n o hb).2 hb
theorem VRs.pure(hK:Γ'.K=Γ.K)(hN:∀m a xs,¬CV μ a->Γ.Ok m a->H a=some xs->Γ'.Ok m a/\¬CV μ' a)(ho:∀a o,H a=some o->¬CV μ a->(∀xs,o≠.lst xs)->(∀xs,o≠.dK xs)->¬CV μ' a):∀{v:List V} {d:List D},BZ d=true->VRs Γ μ H v d->VRs Γ' μ' H v d
 |_,_,_,.nil=>.nil
 |_,_,h,.cons r t=>by
  rw[BZ,U0m] at h
  exact .cons (VR.pure hK hN ho h.1 r) (VRs.pure hK hN ho h.2 t)
end
mutual
theorem VR.den{σ:St}{env:Env}{S S0:Store}{k:Nat}(R:Rep Γ μ σ H env S)(hK:Γ'.K=Γ.K)(h0:∀(i:Nat)(ds:List D)(a:Addr),k<=i->S0[i]?=some (some ds)->S[i]?=some (some ds)/\(μ[i]?=some (some a)->¬CV μ' a/\Γ'.Ok true a))
  (hN:∀m a,¬CV μ a->Γ.Ok m a->Γ'.Ok m a) (hl:∀a o,H a=some o->¬CV μ a->¬CV μ' a):∀{v:V} {d e:D},VR Γ μ H v d->VS.den k S0 d=some e->VR Γ' μ' H v e
 |_,_,_,.non,h=>by rw[VS.den] at h;cases h;exact .non
 |_,_,_,.bl b,h=>by rw[VS.den] at h;cases h;exact .bl b
 |_,_,_,.int i,h=>by rw[VS.den] at h;cases h;exact .int i
 |_,_,_,.str x,h=>by rw[VS.den] at h;cases h;exact .str x
 |_,_,_,.ty n,h=>by rw[VS.den] at h;cases h;exact .ty n
 |_,_,_,.tup hb t,h=>by
  rw[VS.den] at h
  obtain⟨es,e1,e2⟩:=map_some h
  subst e2
  exact .tup hb (VRs.den R hK h0 hN hl t e1)
 |_,_,_,.lst o n hb t,h=>by
  rw[VS.den] at h
  obtain⟨es,e1,e2⟩:=map_some h
  subst e2
  exact .lst (hN _ _ n o) (hl _ _ hb n) hb (VRs.den R hK h0 hN hl t e1)
 |_,.ref i,_,.ref hi f,h=>by
  rw[VS.den] at h
  by_cases hk:i<k
  .rw[if_pos hk] at h;cases h
  .rw[if_neg hk] at h
   split at h
   .rename_i ds hd
    by_cases hp:BZ ds=true
    .rw[if_pos hp] at h
     cases h
     have hS:=(h0 i ds 0 (by omega) hd).1
     obtain⟨a,h1,hc⟩:=R.sto i ds hS
     obtain⟨hv,f2⟩:=f a h1
     obtain⟨xs,h2,h3⟩:=hc.list f2
     subst hv
     obtain⟨z1,z2⟩:=(h0 i ds a (by omega) hd).2 h1
     exact .lst z2 z1 h2 (VRs.pure hK (fun m b ys n o hb=>⟨hN m b n o,hl b _ hb n⟩) (fun b o hb n _ _=>hl b o hb n) hp h3)
    .rw[if_neg hp] at h;cases h
   .cases h
 |_,_,_,.scrK k,h=>by rw[VS.den] at h;cases h;exact .scrK (by rw[hK];exact k)
 |_,_,_,.scrR n hb,h=>by rw[VS.den] at h;cases h;exact .scrR (hl _ _ hb n) hb
 |_,_,_,.emp o n hb,h=>by rw[VS.den] at h;cases h;exact .emp (hN _ _ n o) (hl _ _ hb n) hb
 |_,.dref i,_,.dref hi f,h=>by
  rw[VS.den] at h
  by_cases hk:i<k
  .rw[if_pos hk] at h;cases h
  .rw[if_neg hk] at h
   split at h
   .rename_i kvs hd
    cases h
    have hS:=(h0 i _ 0 (by omega) hd).1
    obtain⟨a,h1,hc⟩:=R.sto i _ hS
    obtain⟨hv,f2⟩:=f a h1
    obtain⟨kvs',q1,h2⟩:=hc.dict f2
    cases q1
    subst hv
    have z:=(h0 i _ a (by omega) hd).2 h1
    exact .dcf ⟨fun z=>(by cases z),z.2.2⟩ z.1 h2
   .cases h
 |_,_,_,.dcf o n hb,h=>by rw[VS.den] at h;cases h;exact .dcf (hN _ _ n o) (hl _ _ hb n) hb
theorem VRs.den{σ:St}{env:Env}{S S0:Store}{k:Nat}(R:Rep Γ μ σ H env S)(hK:Γ'.K=Γ.K)(h0:∀(i:Nat)(ds:List D)(a:Addr),k<=i->S0[i]?=some (some ds)->S[i]?=some (some ds)/\(μ[i]?=some (some a)->¬CV μ' a/\Γ'.Ok true a))
  (hN:∀m a,¬CV μ a->Γ.Ok m a->Γ'.Ok m a) (hl:∀a o,H a=some o->¬CV μ a->¬CV μ' a):∀{v:List V} {d e:List D},VRs Γ μ H v d->VS.Dl k S0 d=some e->VRs Γ' μ' H v e
 |_,_,_,.nil,h=>by rw[Dl] at h;cases h;exact .nil
 |_,_,_,.cons r t,h=>by
  rw[Dl] at h
  obtain⟨x,e1,h⟩:=bind_some h
  obtain⟨xs,e2,h⟩:=bind_some h
  cases h
  exact .cons (VR.den R hK h0 hN hl r e1) (VRs.den R hK h0 hN hl t e2)
end
mutual
theorem VR.new(hN:∀a xs,¬CV μ a->Γ.Ok true a->H a=some (.lst xs)->Γ'.Ok true a/\¬CV μ' a):∀{v:V} {d:D},newD d=true->VR Γ μ H v d->VR Γ' μ' H v d
 |_,_,_,.non=>.non
 |_,_,_,.bl b=>.bl b
 |_,_,_,.int i=>.int i
 |_,_,_,.str x=>.str x
 |_,_,_,.ty n=>.ty n
 |_,_,h,.tup hb t=>by rw[newD] at h;exact .tup hb (VRs.new hN h t)
 |_,.lst m ds,h,.lst o n hb t=>by
  rw[newD,U0m] at h
  obtain⟨rfl,h⟩:=h
  exact .lst (hN _ _ n o hb).1 (hN _ _ n o hb).2 hb (VRs.new hN h t)
 |_,_,h,.ref _ _=>by simp[newD] at h
 |_,_,h,.scrK _=>by simp[newD] at h
 |_,_,h,.scrR _ _=>by simp[newD] at h
 |_,_,h,.emp _ _ _=>by simp[newD] at h
 |_,_,h,.dref _ _=>by simp[newD] at h
 |_,_,h,.dcf _ _ _=>by simp[newD] at h
theorem VRs.new(hN:∀a xs,¬CV μ a->Γ.Ok true a->H a=some (.lst xs)->Γ'.Ok true a/\¬CV μ' a):∀{v:List V} {d:List D},newL d=true->VRs Γ μ H v d->VRs Γ' μ' H v d
 |_,_,_,.nil=>.nil
 |_,_,h,.cons r t=>by
  rw[newL,U0m] at h
  exact .cons (VR.new hN h.1 r) (VRs.new hN h.2 t)
end
mutual
theorem VR.flat:∀{v:V} {d:D},CK d=true->VR Γ μ H v d->VR Γ' μ' H v d
 |_,_,_,.non=>.non
 |_,_,_,.bl b=>.bl b
 |_,_,_,.int i=>.int i
 |_,_,_,.str x=>.str x
 |_,_,_,.ty n=>.ty n
 |_,_,h,.tup hb t=>by rw[CK] at h;exact .tup hb (VRs.flat h t)
 |_,_,h,.lst _ _ _ _=>by simp[CK] at h
 |_,_,h,.ref _ _=>by simp[CK] at h
 |_,_,h,.scrK _=>by simp[CK] at h
 |_,_,h,.scrR _ _=>by simp[CK] at h
 |_,_,h,.emp _ _ _=>by simp[CK] at h
 |_,_,h,.dref _ _=>by simp[CK] at h
 |_,_,h,.dcf _ _ _=>by simp[CK] at h
theorem VRs.flat:∀{v:List V} {d:List D},Dj d=true->VRs Γ μ H v d->VRs Γ' μ' H v d
 |_,_,_,.nil=>.nil
 |_,_,h,.cons r t=>by
  rw[Dj,U0m] at h
  exact .cons (VR.flat h.1 r) (VRs.flat h.2 t)
end
mutual
theorem RZ{k:Nat}{S:Store}:∀{d e:D},den k S d=some e->BK e=true
 |.tup ds,e,h=>by
  rw[den] at h
  obtain⟨es,e1,e2⟩:=map_some h
  subst e2
  rw[BK];exact Mh e1
 |.lst m ds,e,h=>by
  rw[den] at h
  obtain⟨es,e1,e2⟩:=map_some h
  subst e2
  rw[BK];exact Mh e1
 |.ref i,e,h=>by
  rw[den] at h
  by_cases hk:i<k
  .rw[if_pos hk] at h;cases h
  .rw[if_neg hk] at h
   split at h
   .rename_i ds hd
    by_cases hp:BZ ds=true
    .rw[if_pos hp] at h;cases h;rw[BK];exact hp
    .rw[if_neg hp] at h;cases h
   .cases h
 |.non,e,h=>by rw[den] at h;cases h;rfl
 |.bl _,e,h=>by rw[den] at h;cases h;rfl
 |.int _,e,h=>by rw[den] at h;cases h;rfl
 |.str _,e,h=>by rw[den] at h;cases h;rfl
 |.ty _,e,h=>by rw[den] at h;cases h;rfl
 |.scr _,e,h=>by rw[den] at h;cases h;rfl
 |.emp,e,h=>by rw[den] at h;cases h;rfl
 |.dref i,e,h=>by
  rw[den] at h
  by_cases hk:i<k
  .rw[if_pos hk] at h;cases h
  .rw[if_neg hk] at h
   split at h
   .cases h;rfl
   .cases h
 |.dcf _,e,h=>by rw[den] at h;cases h;rfl
 |.dcm _,e,h=>by rw[den] at h;cases h
theorem Mh{k:Nat}{S:Store}:∀{d e:List D},Dl k S d=some e->BZ e=true
 |[],e,h=>by rw[Dl] at h;cases h;rfl
 |d::r,e,h=>by
  rw[Dl] at h
  obtain⟨x,e1,h⟩:=bind_some h
  obtain⟨xs,e2,h⟩:=bind_some h
  cases h
  rw[BZ,RZ e1,Mh e2];rfl
end
end
end VS
end
section
namespace VS
open PySem PySem.Spec L2
abbrev FT:=List D->Option D
abbrev Jm:=List Int->List D->Option (D×List Int)
def intsOf:List D->Option (List Int)
 |[]=>some []
 |.int i::r=>(intsOf r).map (i::·)
 |_=>none
theorem Ho:∀{ds:List D} {ns:List Int},intsOf ds=some ns->ds=ns.map D.int
 |[],_,h=>by cases h;rfl
 |.int i::r,ns,h=>by
  obtain⟨ms,e1,e2⟩:=map_some h
  subst e2
  rw[U0o,Ho e1]
 |.non::_,_,h=>by cases h
 |.bl _::_,_,h=>by cases h
 |.str _::_,_,h=>by cases h
 |.ty _::_,_,h=>by cases h
 |.tup _::_,_,h=>by cases h
 |.lst _ _::_,_,h=>by cases h
 |.ref _::_,_,h=>by cases h
 |.scr _::_,_,h=>by cases h
 |.emp::_,_,h=>by cases h
 |.dref _::_,_,h=>by cases h
 |.dcf _::_,_,h=>by cases h
 |.dcm _::_,_,h=>by cases h
@[simp] theorem O7(ns:List Int):intsOf (ns.map D.int)=some ns:=by
 induction ns with
 |nil=>rfl
 |cons n r ih=>rw[U0o,intsOf,ih];rfl
def HF(np n:Nat)(f:Bm):FT:=fun ds=>if ds.length=np then (f (ds.map some++U0q (n-ds.length) none) []).bind fun p=>match p.1 with|.ret d=>den 0 p.2.2 d|.nx=>some .non|_=>none else none
def runM(np n:Nat)(f:Bm):Jm:=fun ns ds=>if ds.length+1=np then (f (some (.ref 0)::(ds.map some++U0q (n-1-ds.length) none)) [some (ns.map D.int)]).bind fun p=>match p.2.2[0]? with
 |some (some cs)=>(intsOf cs).bind fun ms=>(match p.1 with|.ret d=>(den 1 p.2.2 d).map fun r=>(r,ms)|.nx=>some (.non,ms)|_=>none)
 |_=>none
 else none
def spP(K:U0b)(sem:FT)(n:Nat):Sp:=fun vs H Q _=>∃(N:Addr->Prop)(ds:List D)(r:D),vs.length=n/\VRs ⟨K,H,N,[]⟩ [] H vs ds/\sem ds=some r/\∀v H',Same H H'->VR ⟨K,H,N,[]⟩ [] H' v r->Q v H'
def spM(K:U0b)(sem:Jm)(n:Nat):Sp:=fun vs H Q _=>∃(N:Addr->Prop)(a:Addr)(us:List V)(ns:List Int)(ds:List D)(r:D)(ms:List Int),vs=.ref a::us/\vs.length=n/\H a=some (.lst (ns.map V.int))/\VRs ⟨K,H,N,[a]⟩ [some a] H us ds/\sem ns ds=some (r,ms) /\
 ∀v H',(∀b o,b≠a->H b=some o->H' b=some o)->H' a=some (.lst (ms.map V.int))->VR ⟨K,H,N,[a]⟩ [some a] H' v r->Q v H'
section
variable{P:Program}{w:World}{K:U0b}{mg:Str->Option Value}{base:Heap}
theorem Uj{N:List Str}{vs:List V}{ds:List D}{Γ:Fr}{μ:Mu}{H:Hp}(r:VRs Γ μ H vs ds){i:Nat}{d:D}{n:Nat}(h:(ds.map some++U0q n none:Env)[i]?=some (some d)):∃v,(vs.map some++U0q (N.length-vs.length) none:St)[i]?=some (some v)/\VR Γ μ H v d:=by
 have hi:i<ds.length:=by
  by_cases hi:i<ds.length
  .exact hi
  .rw[U1i (by simpa using hi),U4v] at h
   split at h<;>cases h
 rw[U0z (by simpa using hi),U01] at h
 have h2:ds[i]?=some d:=by
  cases q:ds[i]? with
  |none=>rw[q] at h;cases h
  |some e=>rw[q] at h;cases h;rfl
 obtain⟨v,e1,e2⟩:=r.get h2
 refine⟨v,?_,e2⟩
 rw[U0z (by rw[U0e,r.length];exact hi),U01,e1]
 rfl
theorem Hw{a:Addr}:¬CV [] a:=fun z=>by simp[CV] at z
theorem Nv{a b:Addr}:CV [some b] a↔a=b:=by simp[CV]
theorem fnP{x qual:Str}{st:Stmt}{f:Addr}{fd:FuncData}{N ps:List Str}{k:Nat}{fs:Bm}(F:Fun K x qual st f fd)(Sc:Cu N ps (Av st))
  (hb:∀(cdv:Value)(A:Around)(outer:List PySem.Env)(s:Shared)(H:Hp)(E:XK),Dy k (A.deeper (PyProof.Rows.envOfC qual (Av st) s.heap.objs.size f cdv))->JSs (Oo CX0 P w K mg base N qual (Av st) f cdv A outer s H E).nox (Ca st) fs) :
  DW P w K mg base CX0 (k+1) f fd ps (spP K (HF ps.length N.length fs) ps.length):=by
 refine F.ok Sc (fun vs H Q E h=>?_) (fun cdv A outer s H vs Q E hr h=>?_)
 .obtain⟨_,_,_,hl,_⟩:=h;exact hl
 obtain⟨Nn,ds,r,hl,rs,e,q⟩:=h
 refine⟨_,(hb cdv A outer s H E hr).ps,?_⟩
 have hdl:=rs.length
 unfold HF at e
 rw[if_pos (by omega)] at e
 obtain⟨⟨fl,env',S'⟩,e1,e⟩:=bind_some e
 have hpl:ps.length<=N.length:=by have:=congrArg U3u Sc.pre;rw[U1l] at this;omega
 refine⟨⟨K,H,Nn,[]⟩,[],_,[],fl,env',S',rfl,⟨fun i d h=>Uj rs h,?_,fun i ds h=>by simp at h,fun i a h=>by simp at h,fun i j a h=>by simp at h,rfl,Ext.refl _ _,fun i a _ h=>by simp at h⟩,e1,fun μ' σ' H' x' R'=>?_⟩
 .unfold L2.start
  rw[U0j,U0e,U11,U0j,U0e,U11,hdl]
 have sm:Same H H':=fun b o hb=>(x'.keep b o hb Hw).1
 dsimp only at e
 cases fl with
 |nx=>cases e;exact q _ H' sm .non
 |brk=>cases e
 |cnt=>cases e
 |ret d =>
  intro v rv
  refine q v H' sm (VR.den R' rfl (fun i ds a _ hs=>⟨hs,fun hm=>⟨Hw,?_⟩⟩) (fun m a _ o=>o) (fun a o _ _=>Hw) rv e)
  have hn:=R'.new i a (U2w _) hm
  exact⟨fun _=>hn,.inr hn⟩
theorem fnM{x qual:Str}{st:Stmt}{f:Addr}{fd:FuncData}{N ps:List Str}{k:Nat}{fs:Bm}(F:Fun K x qual st f fd)(Sc:Cu N ps (Av st))
  (hb:∀(cdv:Value)(A:Around)(outer:List PySem.Env)(s:Shared)(H:Hp)(E:XK),Dy k (A.deeper (PyProof.Rows.envOfC qual (Av st) s.heap.objs.size f cdv))->JSs (Oo CX0 P w K mg base N qual (Av st) f cdv A outer s H E).nox (Ca st) fs) :
  DW P w K mg base CX0 (k+1) f fd ps (spM K (runM ps.length N.length fs) ps.length):=by
 refine F.ok Sc (fun vs H Q E h=>?_) (fun cdv A outer s H vs Q E hr h=>?_)
 .obtain⟨_,_,_,_,_,_,_,_,hl,_⟩:=h;exact hl
 obtain⟨Nn,a,us,ns,ds,r,ms,rfl,hl,ha,rs,e,q⟩:=h
 refine⟨_,(hb cdv A outer s H E hr).ps,?_⟩
 have hdl:=rs.length
 rw[U0g] at hl
 unfold runM at e
 rw[if_pos (by omega)] at e
 obtain⟨⟨fl,env',S'⟩,e1,e⟩:=bind_some e
 have hpl:ps.length<=N.length:=by have:=congrArg U3u Sc.pre;rw[U1l] at this;omega
 refine⟨⟨K,H,Nn,[a]⟩,[some a],_,[some (ns.map D.int)],fl,env',S',rfl,⟨fun i d h=>?_,?_,fun i es h=>?_,fun i b h=>?_,fun i j b h1 h2=>?_,rfl,Ext.refl _ _,fun i b hi h=>?_⟩,e1,fun μ' σ' H' x' R'=>?_⟩
 .cases i with
  |zero =>
   simp at h
   subst h
   refine⟨.ref a,by simp[L2.start],.ref (by simp) fun b hb=>?_⟩
   simp at hb;rw[←hb];exact⟨rfl,⟨_,ha⟩⟩
  |succ i =>
   rw[List.getElem?_cons_succ] at h
   obtain⟨v,e1,e2⟩:=Uj (N:=U0q (N.length-1) "") rs h
   refine⟨v,?_,e2⟩
   unfold L2.start
   rw[U0o,U1y,List.getElem?_cons_succ,U0g]
   rw[U11] at e1
   rw[show N.length-(us.length+1)=N.length-1-us.length by omega]
   exact e1
 .unfold L2.start
  rw[U0j,U0e,U11,U0g,U0g,U0j,U0e,U11,hdl]
  omega
 .cases i with
  |zero=>simp at h;subst h;exact⟨a,by simp,.inl ⟨_,ha,VRs.ints ns⟩⟩
  |succ i=>simp at h
 .cases i with
  |zero=>exact⟨_,rfl⟩
  |succ i=>simp at h
 .cases i with
  |zero=>cases j with
   |zero=>rfl
   |succ j=>simp at h2
  |succ i=>simp at h1
 .cases i with
  |zero=>simp at hi
  |succ i=>simp at h
 have sm:∀b o,b≠a->H b=some o->H' b=some o:=fun b o hb h=>(x'.keep b o h fun z=>hb (Nv.mp z)).1
 dsimp only at e
 split at e
 .rename_i cs hc
  obtain⟨ms',e3,e5⟩:=bind_some e
  clear e
  obtain⟨a',g1,gc⟩:=R'.sto 0 cs hc
  obtain⟨xs',g2,g3⟩:∃xs,H' a'=some (.lst xs)/\VRs _ μ' H' xs cs:=by
   rcases gc with z|⟨kvs,q,_⟩
   .exact z
   .rw[q] at e3;cases e3
  have ea:a'=a:=by
   have:=x'.ids 0 a' (by simp) g1
   simp at this;exact this.symm
  subst ea
  have ec:=Ho e3
  subst ec
  have ex:=g3.Q8
  subst ex
  cases fl with
  |nx=>cases e5;exact q _ H' sm g2 .non
  |brk=>cases e5
  |cnt=>cases e5
  |ret d =>
   intro v rv
   dsimp only at e5
   obtain⟨r',e4,e6⟩:=map_some e5
   cases e6
   refine q v H' sm g2 (VR.den R' rfl (fun i es b hi hs=>⟨hs,fun hm=>⟨fun z=>?_,?_⟩⟩) (fun m b _ o=>o) (fun b o _ n z=>n ?_) rv e4)
   .have:b=a':=Nv.mp z
    subst this
    have:=R'.inj 0 i b g1 hm
    omega
   .have hn:=R'.new i b hi hm
    exact⟨fun _=>hn,.inr hn⟩
   .have:b=a':=Nv.mp z
    subst this
    exact U2c g1
 .cases e
end
theorem Fy{np n:Nat}{f:Bm}{ds:List D}{r:D}(h:HF np n f ds=some r):ds.length=np/\BK r=true:=by
 unfold HF at h
 by_cases hl:ds.length=np
 .rw[if_pos hl] at h
  obtain⟨⟨fl,env',S'⟩,e1,e⟩:=bind_some h
  refine⟨hl,?_⟩
  dsimp only at e
  cases fl with
  |nx=>cases e;rfl
  |brk=>cases e
  |cnt=>cases e
  |ret d=>exact RZ e
 .rw[if_neg hl] at h;cases h
theorem Jz{np n:Nat}{f:Bm}{ns:List Int}{ds:List D}{r:D×List Int}(h:runM np n f ns ds=some r):ds.length+1=np/\BK r.1=true:=by
 unfold runM at h
 by_cases hl:ds.length+1=np
 .rw[if_pos hl] at h
  obtain⟨⟨fl,env',S'⟩,e1,e⟩:=bind_some h
  refine⟨hl,?_⟩
  dsimp only at e
  split at e
  .rename_i cs hc
   obtain⟨ms',e3,e⟩:=bind_some e
   cases fl with
   |nx=>cases e;rfl
   |brk=>cases e
   |cnt=>cases e
   |ret d =>
    dsimp only at e
    obtain⟨r',e4,e⟩:=map_some e
    cases e
    exact RZ e4
  .cases e
 .rw[if_neg hl] at h;cases h
end VS
end
section
namespace VS
open PySem PySem.Spec L2
structure Dz(P:Program)(w:World)(K:U0b)(mg:Str->Option Value)(base:Heap)(x:Str)(k:Nat)(sem:FT):Prop where
 cal:∃ps,Cal P w K mg base x k ps (spP K sem ps.length)/\∀ds r,sem ds=some r->ds.length=ps.length/\BK r=true
structure Gb(P:Program)(w:World)(K:U0b)(mg:Str->Option Value)(base:Heap)(x:Str)(k:Nat)(sem:Jm):Prop where
 cal:∃ps,Cal P w K mg base x k ps (spM K sem ps.length)/\∀ns ds r,sem ns ds=some r->ds.length+1=ps.length/\BK r.1=true
def Bp(sem:FT)(a:Bs):Az:=fun env S=>(a env S).bind fun p=>(Dl 0 p.2 p.1).bind fun ds=>(sem (Bj ds)).bind fun r=>if (BZ p.1||newD r)=true then some (r,p.2) else none
def Ak(sem:Jm)(a:Bs):Az:=fun env S=>(a env S).bind fun p=>match p.1 with
 |.ref i::rest=>(match p.2[i]? with
  |some (some cs)=>(intsOf cs).bind fun ns=>(Dl 0 (p.2.set i none) rest).bind fun ds=>(sem ns (Bj ds)).bind fun r=>if (BZ rest||newD r.1)=true then some (r.1,p.2.set i (some (r.2.map D.int))) else none
  |_=>none)
 |_=>none
def VP(n:Nat):List D->Option (List D×List D)
 |[]=>none
 |d::r=>if CK d=true then (VP n r).map fun p=>(d::p.1,p.2) else match d with
  |.lst true ds=>if (Dj ds&&Dj r)=true then some (.ref n::r,ds) else none
  |_=>none
def Qx(n:Nat):D->Option (D×List D)
 |.lst true ds=>if Dj ds=true then some (.ref n,ds) else none
 |.tup es=>(VP n es).map fun p=>(.tup p.1,p.2)
 |_=>none
def PL(sem:FT)(a:Bs):Az:=fun env S=>(Bp sem a env S).bind fun p=>(Qx p.2.length p.1).bind fun q=>some (q.1,p.2++[some q.2])
section
variable{Γ:Fr}{μ:Mu}{σ:St}{H H':Hp}{env:Env}{S:Store}
theorem lend{K:U0b}(hK:Γ.K=K)(R:Rep Γ μ σ H env S){S0:Store}{m0:List Addr}{vs:List V}{ds es:List D}(r:VRs Γ μ H vs ds)(e:Dl 0 S0 ds=some es)(h0:∀(i:Nat)(ds:List D)(a:Addr),S0[i]?=some (some ds)->S[i]?=some (some ds)/\(μ[i]?=some (some a)->¬CV (m0.map some) a))(hm:∀a∈m0,CV μ a)
  (c:Bool) (hc:(BZ ds||c)=true):∃N:Addr->Prop,VRs ⟨K,H,N,m0⟩ (m0.map some) H vs (Bj es)/\(c=true∨∀a,N a->¬CV μ a/\(Γ.N a∨Γ.H0 a=none)):=by
 subst hK
 have hl:∀a o,H a=some o->¬CV μ a->¬CV (m0.map some) a:=fun a o _ n z=>n (hm a (by simpa [CV] using z))
 by_cases hp:BZ ds=true
 .rw[FW 0 S0 hp] at e
  cases e
  exact⟨fun a=>¬CV μ a/\(Γ.N a∨Γ.H0 a=none),VRs.age (Γ:=Γ) (Γ':=⟨Γ.K,H,fun a=>¬CV μ a/\(Γ.N a∨Γ.H0 a=none),m0⟩) rfl (fun a n o=>⟨n,o⟩) hl hp r,.inr fun a z=>z⟩
 .have hc':c=true:=by simpa [hp] using hc
  refine⟨fun _=>True,?_,.inl hc'⟩
  have r1:VRs ⟨Γ.K,fun _=>none,fun _=>True,m0⟩ (m0.map some) H vs es:=VRs.den (Γ':=⟨Γ.K,fun _=>none,fun _=>True,m0⟩) R rfl (fun i ds a _ hs=>⟨(h0 i ds a hs).1,fun z=>⟨(h0 i ds a hs).2 z,⟨fun _=>rfl,.inl trivial⟩⟩⟩) (fun m a _ _=>⟨fun _=>rfl,.inl trivial⟩) hl r e
  exact VRs.age (Γ:=⟨Γ.K,fun _=>none,fun _=>True,m0⟩) (Γ':=⟨Γ.K,H,fun _=>True,m0⟩) (μ:=m0.map some) rfl (fun a _ _=>trivial) (fun a o _ n=>n) (Mh e) r1
theorem home{K:U0b}(hK:Γ.K=K)(R:Rep Γ μ σ H env S){N:Addr->Prop}{m0:List Addr}{v:V}{r:D}(lv:∀a,CV μ a->IsL H' a∨IsK H' a)(hp:BK r=true)(c:newD r=true∨∀a,N a->¬CV μ a/\(Γ.N a∨Γ.H0 a=none))
  (rv:VR ⟨K,H,N,m0⟩ (m0.map some) H' v r):VR Γ μ H' v r:=by
 subst hK
 rcases c with c|c
 .exact VR.new (fun a xs n o hb=>⟨R.ok (o.1 rfl) true,R.dead (o.1 rfl)⟩) c rv
 .refine VR.pure (Γ:=⟨Γ.K,H,N,m0⟩) (Γ':=Γ) rfl (fun m a xs n o hb=>?_) (fun a o hb n hx hy z=>?_) hp rv
  .rcases o.2 with z|z
   .refine⟨⟨fun hm=>R.fresh (o.1 hm),(c a z).2⟩,(c a z).1⟩
   .exact⟨R.ok z m,R.dead z⟩
  .rcases lv a z with ⟨xs,q⟩|⟨xs,q⟩
   .rw[q] at hb
    exact hx xs (U0u hb).symm
   .rw[q] at hb
    exact hy xs (U0u hb).symm
theorem Rep.adopt(R:Rep Γ μ σ H env S)(sm:Same H H'){a:Addr}{xs:List V}{ds:List D}(hn:H a=none)(ha:H' a=some (.lst xs))(hf:Dj ds=true){Γ':Fr}{μ':Mu}(rs:VRs Γ' μ' H' xs ds) :
  Rep Γ (μ++[some a]) σ H' env (S++[some ds])/\Ext μ H (μ++[some a]) H':=by
 have ne:∀b o,H b=some o->b≠a:=fun b o h z=>by rw[z,hn] at h;cases h
 have x:Ext μ H (μ++[some a]) H':=by
  refine⟨fun b o h n=>⟨sm b o h,fun z=>?_⟩,fun b ys h=>sm b _ h,fun b h=>sm.free h,fun i b hi h=>?_,by rw[U0j];omega,fun b _ ⟨ys,h⟩=>⟨ys,sm b _ h⟩,fun b _ ⟨ys,h⟩=>⟨ys,sm b _ h⟩⟩
  .rcases U1h.mp z with z|z
   .exact n z
   .have z':b=a:=by simpa using z
    exact ne b o h z'
  .rw[U0z hi] at h;exact h
 have idx:∀i b,(μ++[some a])[i]?=some (some b)->(i<μ.length/\μ[i]?=some (some b))∨(i=μ.length/\b=a):=fun i b h=>by
  by_cases hi:i<μ.length
  .rw[U0z hi] at h;exact .inl ⟨hi,h⟩
  .rw[U1i (by omega)] at h
   have hl:=(U0n.mp h).1
   have hi':i=μ.length:=by simp at hl;omega
   subst hi'
   simp at h
   exact .inr ⟨rfl,h.symm⟩
 have no:∀i,μ[i]?=some (some a)->False:=fun i h=>R.dead hn (U2c h)
 refine⟨⟨fun i d h=>?_,R.len,fun i es h=>?_,fun i b h=>?_,fun i j b h1 h2=>?_,by rw[U0j,U0j,R.slen];rfl,R.ent.trans x,fun i b hi h=>?_⟩,x⟩
 .obtain⟨v,h1,h2⟩:=R.vals i d h
  exact⟨v,h1,h2.ext x⟩
 .by_cases hi:i<S.length
  .rw[U0z hi] at h
   obtain⟨b,h1,h2⟩:=R.sto i es h
   exact⟨b,by rw[U0z (by rw[←R.slen];exact hi)];exact h1,h2.to x fun o q=>sm _ _ q⟩
  .rw[U1i (by omega)] at h
   have hl:=(U0n.mp h).1
   have hi':i=S.length:=by simp at hl;omega
   subst hi'
   simp at h
   subst h
   exact⟨a,by rw[R.slen];simp,.inl ⟨xs,ha,VRs.flat hf rs⟩⟩
 .rcases idx i b h with ⟨hi,h⟩|⟨rfl,rfl⟩
  .obtain⟨ds',q⟩:=R.liv i b h
   exact⟨ds',by rw[U0z (by rw[R.slen];exact hi)];exact q⟩
  .exact⟨ds,by rw[←R.slen];simp⟩
 .rcases idx i b h1 with ⟨_,g1⟩|⟨e1,e2⟩
  .rcases idx j b h2 with ⟨_,g2⟩|⟨e3,e4⟩
   .exact R.inj i j b g1 g2
   .exact(no i (e4 ▸ g1)).elim
  .rcases idx j b h2 with ⟨_,g2⟩|⟨e3,_⟩
   .exact(no j (e2 ▸ g2)).elim
   .rw[e1,e3]
 .rcases idx i b h with ⟨_,h⟩|⟨rfl,rfl⟩
  .exact R.new i b hi h
  .exact R.fresh hn
end
theorem WW{Γ:Fr}{μ:Mu}{H:Hp}{n:Nat}:∀{vs:List V} {ds:List D} {p:List D×List D},VP n ds=some p->VRs Γ μ H vs ds ->
  ∃a xs,Γ.Ok true a/\H a=some (.lst xs)/\VRs Γ μ H xs p.2/\Dj p.2=true/\∀(Γ':Fr)(μ':Mu),μ'[n]?=some (some a)->VRs Γ' μ' H vs p.1
 |_,[],_,h,_=>by cases h
 |_,d::r,p,h,.cons (xs:=vr) rd rr=>by
  unfold VP at h
  by_cases hf:CK d=true
  .rw[if_pos hf] at h
   obtain⟨q,e1,e2⟩:=map_some h
   subst e2
   obtain⟨a,xs,h1,h2,h3,h4,h5⟩:=WW e1 rr
   exact⟨a,xs,h1,h2,h3,h4,fun Γ' μ' z=>.cons (VR.flat hf rd) (h5 Γ' μ' z)⟩
  .rw[if_neg hf] at h
   split at h
   .rename_i ds
    by_cases hg:(Dj ds&&Dj r)=true
    .rw[if_pos hg] at h
     cases h
     rw[U0m] at hg
     cases rd with
     |@lst _ a xs _ o nl hb t =>
      refine⟨a,xs,o,hb,t,hg.1,fun Γ' μ' z=>.cons (.ref (U0n.mp z).1 fun b hb'=>?_) (VRs.flat hg.2 rr)⟩
      rw[z] at hb';cases hb';exact⟨rfl,⟨_,hb⟩⟩
    .rw[if_neg hg] at h;cases h
   .cases h
theorem iH{Γ:Fr}{μ:Mu}{H:Hp}{n:Nat}{v:V}{d:D}{p:D×List D}(h:Qx n d=some p)(r:VR Γ μ H v d) :
  ∃a xs,Γ.Ok true a/\H a=some (.lst xs)/\VRs Γ μ H xs p.2/\Dj p.2=true/\∀(Γ':Fr)(μ':Mu),μ'[n]?=some (some a)->VR Γ' μ' H v p.1:=by
 unfold Qx at h
 split at h
 .rename_i ds
  by_cases hg:Dj ds=true
  .rw[if_pos hg] at h
   cases h
   cases r with
   |@lst _ a xs _ o nl hb t =>
    refine⟨a,xs,o,hb,t,hg,fun Γ' μ' z=>.ref (U0n.mp z).1 fun b hb'=>?_⟩
    rw[z] at hb';cases hb';exact⟨rfl,⟨_,hb⟩⟩
  .rw[if_neg hg] at h;cases h
 .rename_i es
  obtain⟨q,e1,e2⟩:=map_some h
  subst e2
  cases r with
  |@tup b xs _ hb t =>
   obtain⟨a,ys,h1,h2,h3,h4,h5⟩:=WW e1 t
   exact⟨a,ys,h1,h2,h3,h4,fun Γ' μ' z=>.tup hb (h5 Γ' μ' z)⟩
 .cases h
section
variable{X:Cx}{x:Str}{k k':Nat}{e:Expr}{es:List Expr}{f:Bs}{p pos:Pos}
theorem Dm{sem:FT}(c:Dz X.prog X.w X.K X.mg X.base x k sem)(hr:Dy k' X.A)(hk:k<=k')(hg:Gl X x)(ha:JA X (e::es) f)
  (hdb:(x==("__debug__":Str))=false:=by decide) (he:starEach (e::es) X.env=(false,eval e X.env)::starEach es X.env:=by rfl) (hpl:(backTo pos (starEach es X.env)).any (·.1)=false:=by rfl) :
  JE X (.Call (.Name x p) (e::es) [] pos) (Bp sem f):=by
 obtain⟨ps,c,hok⟩:=c.cal
 refine⟨PE.imp (RJ c hr hk hg ha.pa hdb he hpl) fun σ H Q h=>?_⟩
 obtain⟨Γ,μ,env,S,d,S',hK,R,e,q⟩:=h
 obtain⟨⟨as,S1⟩,e1,e⟩:=bind_some e
 obtain⟨ds,e2,e⟩:=bind_some e
 obtain⟨r,e3,e⟩:=bind_some e
 refine⟨Γ,μ,env,S,as,S1,hK,R,e1,fun vs μ1 H1 x1 R1 r1=>?_⟩
 show spP X.K sem ps.length (vs++[]) H1 Q E0
 rw[U1n]
 dsimp only at e e2
 by_cases hc:(BZ as||newD r)=true
 .rw[if_pos hc] at e
  cases e
  obtain⟨hl,hp⟩:=hok _ _ e3
  obtain⟨N,rs,cN⟩:=lend hK R1 (m0:=[]) r1 e2 (fun i ds a hs=>⟨hs,fun _=>Hw⟩) (fun a z=>by simp at z) (newD d) hc
  refine⟨N,_,d,?_,rs,e3,fun v H' sm rv=>?_⟩
  .rw[rs.length,hl]
  obtain⟨R2,x2⟩:=R1.grow sm
  exact q v μ1 H' (x1.trans x2) R2 (home hK R1 (fun a z=>R2.live z) hp cN rv)
 .rw[if_neg hc] at e;cases e
theorem eZ{sem:FT}(c:Dz X.prog X.w X.K X.mg X.base x k sem)(hr:Dy k' X.A)(hk:k<=k')(hg:Gl X x)(ha:JA X (e::es) f)
  (hdb:(x==("__debug__":Str))=false:=by decide) (he:starEach (e::es) X.env=(false,eval e X.env)::starEach es X.env:=by rfl) (hpl:(backTo pos (starEach es X.env)).any (·.1)=false:=by rfl) :
  JE X (.Call (.Name x p) (e::es) [] pos) (PL sem f):=by
 obtain⟨ps,c,hok⟩:=c.cal
 refine⟨PE.imp (RJ c hr hk hg ha.pa hdb he hpl) fun σ H Q h=>?_⟩
 obtain⟨Γ,μ,env,S,d,S',hK,R,e,q⟩:=h
 obtain⟨⟨d0,S0⟩,e0,e⟩:=bind_some e
 obtain⟨t,et,e⟩:=bind_some e
 cases e
 obtain⟨⟨as,S1⟩,e1,e⟩:=bind_some e0
 obtain⟨ds,e2,e⟩:=bind_some e
 obtain⟨r,e3,e⟩:=bind_some e
 refine⟨Γ,μ,env,S,as,S1,hK,R,e1,fun vs μ1 H1 x1 R1 r1=>?_⟩
 show spP X.K sem ps.length (vs++[]) H1 Q E0
 rw[U1n]
 dsimp only at e e2
 by_cases hc:(BZ as||newD r)=true
 .rw[if_pos hc] at e
  cases e
  obtain⟨hl,hp⟩:=hok _ _ e3
  obtain⟨N,rs,cN⟩:=lend hK R1 (m0:=[]) r1 e2 (fun i ds a hs=>⟨hs,fun _=>Hw⟩) (fun a z=>by simp at z) (newD d0) hc
  refine⟨N,_,d0,?_,rs,e3,fun v H' sm rv=>?_⟩
  .rw[rs.length,hl]
  obtain⟨a,xs,h1,h2,h3,h4,h5⟩:=iH et rv
  obtain⟨R2,x2⟩:=R1.adopt sm (h1.1 rfl) h2 h4 h3
  exact q v _ H' (x1.trans x2) R2 (h5 _ _ (by rw[R1.slen];simp))
 .rw[if_neg hc] at e;cases e
theorem Bw{sem:Jm}(c:Gb X.prog X.w X.K X.mg X.base x k sem)(hr:Dy k' X.A)(hk:k<=k')(hg:Gl X x)(ha:JA X (e::es) f)
  (hdb:(x==("__debug__":Str))=false:=by decide) (he:starEach (e::es) X.env=(false,eval e X.env)::starEach es X.env:=by rfl) (hpl:(backTo pos (starEach es X.env)).any (·.1)=false:=by rfl) :
  JE X (.Call (.Name x p) (e::es) [] pos) (Ak sem f):=by
 obtain⟨ps,c,hok⟩:=c.cal
 refine⟨PE.imp (RJ c hr hk hg ha.pa hdb he hpl) fun σ H Q h=>?_⟩
 obtain⟨Γ,μ,env,S,d,S',hK,R,e,q⟩:=h
 obtain⟨⟨as,S1⟩,e1,e⟩:=bind_some e
 refine⟨Γ,μ,env,S,as,S1,hK,R,e1,fun vs μ1 H1 x1 R1 r1=>?_⟩
 show spM X.K sem ps.length (vs++[]) H1 Q E0
 rw[U1n]
 dsimp only at e
 split at e
 .rename_i i rest
  split at e
  .rename_i cs hcs
   obtain⟨ns,e4,e⟩:=bind_some e
   obtain⟨ds,e2,e⟩:=bind_some e
   obtain⟨⟨r,ms⟩,e3,e⟩:=bind_some e
   dsimp only at e
   by_cases hc:(BZ rest||newD r)=true
   .rw[if_pos hc] at e
    cases e
    obtain⟨hl,hp⟩:=hok _ _ _ e3
    have ecs:=Ho e4
    subst ecs
    cases r1 with
    |@cons v0 _ us _ r0 rr =>
     obtain⟨a,xs,rfl,h1,h2,h3⟩:=VR.Z1 R1 r0 hcs
     have ex:=h3.Q8
     subst ex
     have hi:i<S1.length:=(U0n.mp hcs).1
     obtain⟨N,rs,cN⟩:=lend hK R1 (S0:=S1.set i none) (m0:=[a]) rr e2 (fun j es b hs=>by
      have hj:i≠j:=fun z=>by
       subst z
       rw[U20 hi] at hs;cases hs
      rw[U28 hj] at hs
      exact⟨hs,fun hm z=>hj (R1.inj i j a h1 (by rw[show a=b from (Nv.mp z).symm];exact hm))⟩) (fun b z=>by
       have:b=a:=by simpa using z
       rw[this];exact U2c h1) (newD d) hc
     refine⟨N,a,us,ns,_,d,ms,rfl,?_,h2,rs,e3,fun v H' sm ha' rv=>?_⟩
     .rw[U0g,rs.length,hl]
     obtain⟨R2,x2⟩:=R1.put h1 ⟨_,h2⟩ (VRs.ints ms)
     have sm2:Same (upd H1 a (.lst (ms.map V.int))) H':=fun b o hb=>by
      by_cases z:b=a
      .rw[z,Bv] at hb;cases hb;rw[z];exact ha'
      .rw[Bo z] at hb;exact sm b o z hb
     obtain⟨R3,x3⟩:=R2.grow sm2
     exact q v μ1 H' (x1.trans (x2.trans x3)) R3 (home hK R1 (fun a z=>R3.live z) hp cN rv)
   .rw[if_neg hc] at e;cases e
  .cases e
 .cases e
end
end VS
end
section
namespace VS
open PySem PySem.Spec L2
theorem OpR.or{X:Cx}{f:Value->Value->Sem Value}{r r':R2}(h:OpR X f r)(h':OpR X f r'):OpR X f (fun x y H Q=>r x y H Q∨r' x y H Q):=fun pins s σ H x y v u Q I rx ry q=>q.elim (fun z=>h pins s σ H x y v u Q I rx ry z) fun z=>h' pins s σ H x y v u Q I rx ry z
theorem Dd.or{X:Cx}{f:Value}{r r':List V->Hp->VK->Prop}(h:Dd X f r)(h':Dd X f r'):Dd X f (fun xs H Q=>r xs H Q∨r' xs H Q):=fun pins s σ H xs us Q I rs q=>q.elim (fun z=>h pins s σ H xs us Q I rs z) fun z=>h' pins s σ H xs us Q I rs z
def oI(c:Int->Int->Bool)(g:Int->Int->D)(_:Store):D->D->Option D
 |.int i,.int j=>if c i j=true then some (g i j) else none
 |_,_=>none
def JM(_ _:Int):Bool:=true
theorem Z9{K:U0b}{C:Int->Int->Prop}{c:Int->Int->Bool}(g:Int->Int->Int)(hc:∀i j,c i j=true->C i j):Fg K (rI C fun i j=>.int (g i j)) (oI c fun i j=>.int (g i j)):=by
 intro Γ μ σ H env S x y dx dy d hK R rx ry e Q q
 unfold oI at e
 split at e
 .rename_i i j
  by_cases h:c i j=true
  .rw[if_pos h] at e;cases e;cases rx;cases ry
   exact⟨i,j,rfl,rfl,hc i j h,q _ H (Same.refl H) (.int _)⟩
  .rw[if_neg h] at e;cases e
 .cases e
theorem nA{K:U0b}(g:Int->Int->Int):Fg K (rI0 fun i j=>.int (g i j)) (oI JM fun i j=>.int (g i j)):=by
 intro Γ μ σ H env S x y dx dy d hK R rx ry e Q q
 unfold oI at e
 split at e
 .rename_i i j
  rw[if_pos (show JM i j=true from rfl)] at e;cases e;cases rx;cases ry
  exact⟨i,j,rfl,rfl,q _ H (Same.refl H) (.int _)⟩
 .cases e
theorem Rt{K:U0b}(g:Int->Int->Bool):Fg K (rI0 fun i j=>.bl (g i j)) (oI JM fun i j=>.bl (g i j)):=by
 intro Γ μ σ H env S x y dx dy d hK R rx ry e Q q
 unfold oI at e
 split at e
 .rename_i i j
  rw[if_pos (show JM i j=true from rfl)] at e;cases e;cases rx;cases ry
  exact⟨i,j,rfl,rfl,q _ H (Same.refl H) (.bl _)⟩
 .cases e
def Jk:=oI JM fun i j=>.int (i-j)
def Ms(i j:Int):Bool:=(decide (-(2^64)<i)&&decide (i<2^64))||(decide (-(2^64)<j)&&decide (j<2^64))
def Tg(_ j:Int):Bool:=decide (0<j)&&decide (j<2^64)
def Tf(_ j:Int):Bool:=decide (0<j)
def Kl(i j:Int):Bool:=decide (0<=j)&&decide (j<=1000000)&&decide (i.natAbs<2^64)
def oDiv:=oI Tg fun i j=>.int (i/j)
def oMod:=oI Tf fun i j=>.int (i%j)
def Cm:=oI Kl fun i j=>.int (i^j.toNat)
def oLt:=oI JM fun i j=>.bl (decide (i<j))
def oLe:=oI JM fun i j=>.bl (decide (i<=j))
def oGt:=oI JM fun i j=>.bl (decide (j<i))
def oGe:=oI JM fun i j=>.bl (decide (j<=i))
theorem Tn{K:U0b}:Fg K (rI0 fun i j=>.int (i-j)) Jk:=nA _
theorem YW{K:U0b}:Fg K (rI (fun _ j=>0<j/\j<2^64) fun i j=>.int (i/j)) oDiv:=Z9 _ fun i j h=>by simpa [Tg] using h
theorem La{K:U0b}:Fg K (rI (fun _ j=>0<j) fun i j=>.int (i%j)) oMod:=Z9 _ fun i j h=>by simpa [Tf] using h
theorem GD{K:U0b}:Fg K (rI cX fun i j=>.int (i^j.toNat)) Cm:=Z9 _ fun i j h=>by simpa [Kl,cX,and_assoc] using h
theorem Ov{K:U0b}:Fg K (rI0 fun i j=>.bl (decide (i<j))) oLt:=Rt _
theorem n8{K:U0b}:Fg K (rI0 fun i j=>.bl (decide (i<=j))) oLe:=Rt _
theorem Rq{K:U0b}:Fg K (rI0 fun i j=>.bl (decide (j<i))) oGt:=Rt _
theorem Ow{K:U0b}:Fg K (rI0 fun i j=>.bl (decide (j<=i))) oGe:=Rt _
def Cw(_:Store):D->Option D
 |.int i=>some (.int (-i))
 |_=>none
theorem GF{K:U0b}:mV K (rU fun i=>.int (-i)) Cw:=by
 intro Γ μ σ H env S x dx d hK R rx e Q q
 unfold Cw at e
 split at e
 .cases e;cases rx;exact⟨_,rfl,q _ H (Same.refl H) (.int _)⟩
 .cases e
def Aw(S:Store):D->D->Option D
 |.int i,.int j=>some (.int (i+j))
 |.tup a,.tup b=>if a.length+b.length<=1000000 then some (.tup (a++b)) else none
 |.str x,.str y=>if x.length+y.length<=1000000 then some (.str (x++y)) else none
 |x,y=>(listOf S x).bind fun a=>(listOf S y).bind fun b=>if a.length+b.length<=1000000 then some (.lst true (a++b)) else none
def gB:R2:=fun x y H Q=>∃(a b:Addr)(xs ys:List V),x=.ref a/\y=.ref b/\H a=some (.tup xs)/\H b=some (.tup ys)/\xs.length+ys.length<=sizeLine/\∀p H',Same H H'->H' p=some (.tup (xs++ys))->Q (.ref p) H'
def qX:R2:=fun x y H Q=>∃i j,x=.str i/\y=.str j/\i.length+j.length<=sizeLine/\Q (.str (i++j)) H
def gC:R2:=fun x y H Q=>(rI0 fun i j=>.int (i+j)) x y H Q∨gB x y H Q∨qX x y H Q∨mK x y H Q
theorem Bl{X:Cx}:OpR X (binaryOp .Add) gC:=OpR.or oF (OpR.or jK (OpR.or Zb aF))
theorem Bk{K:U0b}:Fg K gC Aw:=by
 intro Γ μ σ H env S x y dx dy d hK R rx ry e Q q
 unfold Aw at e
 split at e
 .cases e;cases rx;cases ry;exact .inl ⟨_,_,rfl,rfl,q _ H (Same.refl H) (.int _)⟩
 .rename_i a b
  by_cases h:a.length+b.length<=1000000
  .rw[if_pos h] at e;cases e
   cases rx with
   |@tup p xs _ hp rp =>
    cases ry with
    |@tup p2 ys _ hp2 rp2 =>
     refine .inr (.inl ⟨p,p2,xs,ys,rfl,rfl,hp,hp2,by rw[rp.length,rp2.length];exact U2d (big h),fun t H' sm ht=>?_⟩)
     obtain⟨R2,x2⟩:=R.grow sm
     exact q _ H' sm (.tup ht ((rp.append rp2).ext x2))
  .rw[if_neg h] at e;cases e
 .rename_i a b
  by_cases h:a.length+b.length<=1000000
  .rw[if_pos h] at e;cases e;cases rx;cases ry
   exact .inr (.inr (.inl ⟨_,_,rfl,rfl,U2d (big h),q _ H (Same.refl H) (.str _)⟩))
  .rw[if_neg h] at e;cases e
 .obtain⟨a,e1,e⟩:=bind_some e
  obtain⟨b,e2,e⟩:=bind_some e
  by_cases h:a.length+b.length<=1000000
  .rw[if_pos h] at e;cases e
   obtain⟨p,xs,rfl,hp,rp⟩:=VR.list R rx e1
   obtain⟨p2,ys,rfl,hp2,rp2⟩:=VR.list R ry e2
   refine .inr (.inr (.inr ⟨p,p2,xs,ys,rfl,rfl,hp,hp2,by rw[rp.length,rp2.length];exact U2d (big h),fun t ht=>?_⟩))
   obtain⟨R2,x2⟩:=R.grow (Cd ht (.lst (xs++ys)))
   exact q _ _ (Cd ht _) (.lst (R.ok ht true) (R.dead ht) Bv ((rp.append rp2).ext x2))
  .rw[if_neg h] at e;cases e
def Hq(S:Store):D->D->Option D
 |.int i,.int j=>if Ms i j=true then some (.int (i*j)) else none
 |.tup a,.int k=>if a≠[]/\1<=k/\k<2^60/\a.length*k.toNat<=1000000 then some (.tup (U0q k.toNat a).flatten) else none
 |x,.int k=>(listOf S x).bind fun a=>if -(2^63)<=k/\k<2^63/\a.length*k.toNat<=1000000 then some (.lst true (U0q k.toNat a).flatten) else none
 |_,_=>none
def gA:R2:=fun x y H Q=>(rI Vm fun i j=>.int (i*j)) x y H Q∨fu x y H Q∨m9 x y H Q
theorem Jb{X:Cx}:OpR X (binaryOp .Mult) gA:=OpR.or o9 (OpR.or jG aC)
theorem Ja{K:U0b}:Fg K gA Hq:=by
 intro Γ μ σ H env S x y dx dy d hK R rx ry e Q q
 unfold Hq at e
 split at e
 .rename_i i j
  by_cases h:Ms i j=true
  .rw[if_pos h] at e;cases e;cases rx;cases ry
   exact .inl ⟨_,_,rfl,rfl,by simpa [Ms,Vm] using h,q _ H (Same.refl H) (.int _)⟩
  .rw[if_neg h] at e;cases e
 .rename_i a k
  by_cases h:a≠[]/\1<=k/\k<2^60/\a.length*k.toNat<=1000000
  .rw[if_pos h] at e;cases e
   cases ry
   cases rx with
   |@tup p xs _ hp rp =>
    have hl:=rp.length
    refine .inr (.inl ⟨p,k,xs,rfl,rfl,hp,fun z=>h.1 (U3e.mp (by rw[←hl,z];rfl)),h.2.1,h.2.2.1,by rw[hl];exact U2d (big h.2.2.2),fun t H' sm ht=>?_⟩)
    obtain⟨R2,x2⟩:=R.grow sm
    exact q _ H' sm (.tup ht ((rp.rep _).ext x2))
  .rw[if_neg h] at e;cases e
 .rename_i k _ _
  obtain⟨a,e1,e⟩:=bind_some e
  by_cases h:-(2^63)<=k/\k<2^63/\a.length*k.toNat<=1000000
  .rw[if_pos h] at e;cases e
   cases ry
   obtain⟨p,xs,rfl,hp,rp⟩:=VR.list R rx e1
   refine .inr (.inr ⟨p,k,xs,rfl,rfl,hp,h.1,h.2.1,by rw[rp.length];exact U2d (big h.2.2),fun t ht=>?_⟩)
   obtain⟨R2,x2⟩:=R.grow (Cd ht (.lst (U0q k.toNat xs).flatten))
   exact q _ _ (Cd ht _) (.lst (R.ok ht true) (R.dead ht) Bv ((rp.rep _).ext x2))
  .rw[if_neg h] at e;cases e
 .cases e
def oIx(S:Store):D->D->Option D
 |x,.int i=>(Fv S x).bind fun ds=>atI ds i
 |_,_=>none
theorem jx{Γ:Fr}{μ:Mu}{H:Hp}{xs:List V}{ds:List D}{i:Int}{d:D}(r:VRs Γ μ H xs ds)(h:atI ds i=some d):∃x,atI xs i=some x/\VR Γ μ H x d:=by
 unfold atI at h ⊢
 obtain⟨j,e1,e2⟩:=bind_some h
 obtain⟨x,f1,f2⟩:=r.get e2
 exact⟨x,by rw[r.length,e1];exact f1,f2⟩
theorem BL{K:U0b}:Fg K (rIx K) oIx:=by
 intro Γ μ σ H env S x y dx dy d hK R rx ry e Q q
 unfold oIx at e
 split at e
 .rename_i i
  obtain⟨ds,e1,e⟩:=bind_some e
  cases ry
  obtain⟨a,xs,rfl,hq,rs⟩:=VR.seq hK R rx e1
  obtain⟨v,f1,f2⟩:=jx rs e
  rcases hq with hq|hq
  .exact .inl ⟨a,xs,i,v,rfl,rfl,hq,f1,q _ H (Same.refl H) f2⟩
  .exact .inr (.inl ⟨a,xs,i,v,rfl,rfl,hq,f1,q _ H (Same.refl H) f2⟩)
 .cases e
def cut(xs:List D)(lo hi:Option Int):List D:=(xs.drop (HT.sIx xs.length 0 lo)).take (HT.sIx xs.length xs.length hi-HT.sIx xs.length 0 lo)
def oSl(S:Store)(x:D)(lo hi:Option Int):Option D:=match x with
 |.tup ds=>some (.tup (cut ds lo hi))
 |x=>(Fv S x).map fun ds=>.lst true (cut ds lo hi)
def lq:V->Option Int->Option Int->Hp->VK->Prop:=fun x lo hi H Q=>∃(a:Addr)(xs:List V),x=.ref a/\H a=some (.tup xs)/\∀p H',Same H H'->H' p=some (.tup (Jl xs lo hi))->Q (.ref p) H'
def lu(K:U0b):V->Option Int->Option Int->Hp->VK->Prop:=fun x lo hi H Q=>lq x lo hi H Q∨lg K x lo hi H Q
theorem Fj{X:Cx}:SlR X (lu X.K):=SlR.or iJ iK
theorem Fo{K:U0b}:gO K (lu K) oSl:=by
 intro Γ μ σ H env S x dx d l h hK R rx e Q q
 have key:∀{xs:List V} {ds:List D} {H':Hp},VRs Γ μ H' xs ds->VRs Γ μ H' (Jl xs l h) (cut ds l h):=fun r=>by
  unfold Jl cut
  rw[r.length]
  exact(r.drop _).take _
 unfold oSl at e
 split at e
 .cases e
  cases rx with
  |@tup p xs _ hp rp =>
   refine .inl ⟨p,xs,rfl,hp,fun t H' sm ht=>?_⟩
   obtain⟨R2,x2⟩:=R.grow sm
   exact q _ H' sm (.tup ht (key (rp.ext x2)))
 .rename_i ht
  obtain⟨ds,e1,e2⟩:=map_some e
  subst e2
  rcases VR.Ve hK R rx e1 with ⟨es,z⟩|⟨a,xs,rfl,hq,rs⟩
  .exact absurd z (ht es)
  .refine .inr ⟨a,xs,rfl,hq,fun t htt=>?_⟩
   obtain⟨R2,x2⟩:=R.grow (Cd htt (.lst (Jl xs l h)))
   exact q _ _ (Cd htt _) (.lst (R.ok htt true) (R.dead htt) Bv (key (rs.ext x2)))
def Ej(S:Store):List D->Option D
 |[x]=>(Fv S x).map fun ds=>.int ds.length
 |_=>none
theorem Jy{K:U0b}:Km K (sU K) Ej:=by
 intro Γ μ σ H env S xs ds d hK R rs e Q q
 unfold Ej at e
 split at e
 .obtain⟨es,e1,e2⟩:=map_some e
  subst e2
  obtain⟨v,rfl,r⟩:=rs.one
  obtain⟨a,xs,rfl,hq,rx⟩:=VR.seq hK R r e1
  refine⟨a,xs,rfl,hq,?_⟩
  rw[rx.length]
  exact q _ H (Same.refl H) (.int _)
 .cases e
def Vj(S:Store):List D->Option D
 |[x]=>(Fv S x).map fun ds=>.tup ds
 |_=>none
theorem bB{K:U0b}:Km K (dZ K) Vj:=by
 intro Γ μ σ H env S xs ds d hK R rs e Q q
 unfold Vj at e
 split at e
 .rename_i x
  obtain⟨es,e1,e2⟩:=map_some e
  subst e2
  obtain⟨v,rfl,r⟩:=rs.one
  rcases VR.Ve hK R r e1 with ⟨fs,rfl⟩|⟨a,xs,rfl,hq,rx⟩
  .cases r with
   |@tup p xs _ hp rp=>cases e1;exact⟨p,xs,rfl,.inr ⟨SqT.of hp,q _ H (Same.refl H) (.tup hp rp)⟩⟩
  .refine⟨a,xs,rfl,.inl ⟨hq,fun l hl=>?_⟩⟩
   obtain⟨R2,x2⟩:=R.grow (Cd hl (.tup xs))
   exact q _ _ (Cd hl _) (.tup Bv (rx.ext x2))
 .cases e
def GC(S:Store):List D->Option D
 |[x]=>(listOf S x).bind fun ds=>(boolsOf ds).map fun bs=>.bl (bs.all id)
 |_=>none
where boolsOf:List D->Option (List Bool)
 |[]=>some []
 |.bl b::r=>(boolsOf r).map (b::·)
 |_=>none
@[simp] theorem Qw(bs:List Bool):GC.boolsOf (bs.map D.bl)=some bs:=by
 induction bs with
 |nil=>rfl
 |cons b r ih=>rw[U0o,GC.boolsOf,ih];rfl
theorem Qv{Γ:Fr}{μ:Mu}{H:Hp}:∀{xs:List V} {ds:List D} {bs:List Bool},VRs Γ μ H xs ds->GC.boolsOf ds=some bs->xs=bs.map V.bl
 |_,[],_,.nil,h=>by cases h;rfl
 |_,.bl b::r,bs,.cons q t,h=>by
  rw[GC.boolsOf] at h
  obtain⟨cs,e1,e2⟩:=map_some h
  subst e2
  cases q
  rw[U0o,Qv t e1]
 |_,.non::_,_,_,h=>by cases h
 |_,.int _::_,_,_,h=>by cases h
 |_,.str _::_,_,_,h=>by cases h
 |_,.ty _::_,_,_,h=>by cases h
 |_,.tup _::_,_,_,h=>by cases h
 |_,.lst _ _::_,_,_,h=>by cases h
 |_,.ref _::_,_,_,h=>by cases h
 |_,.scr _::_,_,_,h=>by cases h
 |_,.emp::_,_,_,h=>by cases h
def sX(K:U0b):List V->Hp->VK->Prop:=fun xs H Q=>∃(p:Addr)(bs:List Bool),xs=[.ref p]/\SqL K H p (bs.map V.bl)/\Q (.bl (bs.all id)) H
theorem QG{K:U0b}:Km K (sX K) GC:=by
 intro Γ μ σ H env S xs ds d hK R rs e Q q
 unfold GC at e
 split at e
 .obtain⟨es,e1,e⟩:=bind_some e
  obtain⟨bs,e2,e3⟩:=map_some e
  subst e3
  obtain⟨v,rfl,r⟩:=rs.one
  obtain⟨a,xs,rfl,ha,rx⟩:=VR.list R r e1
  have:=Qv rx e2
  subst this
  exact⟨a,bs,rfl,SqL.of ha,q _ H (Same.refl H) (.bl _)⟩
 .cases e
def JB(_:Store):List D->Option D
 |[.int i,.int j]=>some (.int (if j>i then j else i))
 |_=>none
def J9(_:Store):List D->Option D
 |[.int i,.int j]=>some (.int (if j<i then j else i))
 |_=>none
def Nk(_:Store):List D->Option D
 |[.int i]=>some (.int i)
 |[.bl k]=>some (.int (if k then 1 else 0))
 |_=>none
theorem R9{K:U0b}:Km K (fun xs H Q=>∃i j,xs=[.int i,.int j]/\Q (.int (if j>i then j else i)) H) JB:=by
 intro Γ μ σ H env S xs ds d hK R rs e Q q
 unfold JB at e
 split at e
 .cases e
  obtain⟨v,u,rfl,r1,r2⟩:=rs.two
  cases r1;cases r2
  exact⟨_,_,rfl,q _ H (Same.refl H) (.int _)⟩
 .cases e
theorem R8{K:U0b}:Km K (fun xs H Q=>∃i j,xs=[.int i,.int j]/\Q (.int (if j<i then j else i)) H) J9:=by
 intro Γ μ σ H env S xs ds d hK R rs e Q q
 unfold J9 at e
 split at e
 .cases e
  obtain⟨v,u,rfl,r1,r2⟩:=rs.two
  cases r1;cases r2
  exact⟨_,_,rfl,q _ H (Same.refl H) (.int _)⟩
 .cases e
theorem YS{K:U0b}:Km K (fun xs H Q=>(∃i,xs=[.int i]/\Q (.int i) H)∨∃k,xs=[.bl k]/\Q (.int (if k then 1 else 0)) H) Nk:=by
 intro Γ μ σ H env S xs ds d hK R rs e Q q
 unfold Nk at e
 split at e
 .cases e
  obtain⟨v,rfl,r1⟩:=rs.one
  cases r1
  exact .inl ⟨_,rfl,q _ H (Same.refl H) (.int _)⟩
 .cases e
  obtain⟨v,rfl,r1⟩:=rs.one
  cases r1
  exact .inr ⟨_,rfl,q _ H (Same.refl H) (.int _)⟩
 .cases e
def Vh:List Int->Option Int
 |[]=>none
 |n::r=>some (r.foldl (fun a b=>if a<b then b else a) n)
theorem jl(r:List Int):∀n:Int,(r.foldl (fun a b=>if a<b then b else a) n=n∨r.foldl (fun a b=>if a<b then b else a) n∈r)/\n<=r.foldl (fun a b=>if a<b then b else a) n/\∀m∈r,m<=r.foldl (fun a b=>if a<b then b else a) n:=by
 induction r with
 |nil=>intro n;exact⟨.inl rfl,U3v _,fun m h=>by simp at h⟩
 |cons x r ih =>
  intro n
  rw[U3g]
  by_cases h:n<x
  .rw[if_pos h]
   obtain⟨h1,h2,h3⟩:=ih x
   refine⟨.inr (by rcases h1 with z|z;(rw[z];exact U0s);exact U0p _ z),by omega,fun m hm=>?_⟩
   rcases U0k.mp hm with z|z
   .rw[z];exact h2
   .exact h3 m z
  .rw[if_neg h]
   obtain⟨h1,h2,h3⟩:=ih n
   refine⟨by rcases h1 with z|z;exact .inl z;exact .inr (U0p _ z),h2,fun m hm=>?_⟩
   rcases U0k.mp hm with z|z
   .rw[z];omega
   .exact h3 m z
theorem Yi{ns:List Int}{m:Int}(h:Vh ns=some m):m∈ns/\∀n∈ns,n<=m:=by
 cases ns with
 |nil=>cases h
 |cons x r =>
  cases h
  obtain⟨h1,h2,h3⟩:=jl r x
  refine⟨by rcases h1 with z|z;(rw[z];exact U0s);exact U0p _ z,fun n hn=>?_⟩
  rcases U0k.mp hn with z|z
  .rw[z];exact h2
  .exact h3 n z
def cT(K:U0b)(r:List V->Hp->VK->Prop)(g:Store->List D->Option (List D)):Prop:=∀(Γ:Fr)(μ:Mu)(σ:St)(H:Hp)(env:Env)(S:Store)(xs:List V)(ds es:List D),Γ.K=K->Rep Γ μ σ H env S->VRs Γ μ H xs ds->g S ds=some es ->
 ∀Q:VK,(∀l ys,H l=none->VRs Γ μ H ys es->Q (.ref l) (upd H l (.lst ys)))->r xs H Q
def Rn(g:Store->List D->Option (List D))(a:Bs):Az:=fun env S=>(a env S).bind fun p=>(g p.2 p.1).map fun es=>(.lst true es,p.2)
theorem gZ{K:U0b}{r:List V->Hp->VK->Prop}{g:Store->List D->Option (List D)}{f:Bs}(hs:cT K r g){σ:St}{H:Hp}{Q:VK}(h:wpE K (Rn g f) σ H Q):tCB r (wpA K f) σ H Q:=by
 obtain⟨Γ,μ,env,S,d,S',hK,R,e,q⟩:=h
 obtain⟨⟨x,S1⟩,e1,e⟩:=bind_some e
 obtain⟨z,e4,e⟩:=map_some e
 cases e
 refine⟨Γ,μ,env,S,x,S1,hK,R,e1,fun v1 μ1 H1 x1 R1 r1=>?_⟩
 refine hs Γ μ1 σ H1 env S1 v1 x _ hK R1 r1 e4 Q fun l ys hl ry=>?_
 obtain⟨R4,x4⟩:=R1.grow (Cd hl (.lst ys))
 exact q _ μ1 _ (x1.trans x4) R4 (.lst (R1.ok hl true) (R1.dead hl) Bv (ry.ext x4))
section
variable{X:Cx}{x:Str}{p pos:Pos}{e:Expr}{es:List Expr}{T:String}{f:Bs}{r:List V->Hp->VK->Prop}{g:Store->List D->Option (List D)}
theorem jf(hc:Dd X (.type T) r)(hsm:cT X.K r g)(hg:Gl X x)(hm:X.mg x=none)(hv:bootBuiltins x=some (.type T))(ha:JA X (e::es) f)(hn:x≠"__name__":=by decide)(hdb:(x==("__debug__":Str))=false:=by decide)
  (he:starEach (e::es) X.env=(false,eval e X.env)::starEach es X.env:=by rfl) (hpl:(backTo pos (starEach es X.env)).any (·.1)=false:=by rfl):JE X (.Call (.Name x p) (e::es) [] pos) (Rn g f) :=
 ⟨PE.imp (MN hc hg hm hv ha.pa hn hdb he hpl) fun _ _ _ h=>gZ hsm h⟩
end
def nList(S:Store):List D->Option (List D)
 |[x]=>Fv S x
 |_=>none
theorem dN{K:U0b}:cT K (iY K) nList:=by
 intro Γ μ σ H env S xs ds es hK R rs e Q q
 unfold nList at e
 split at e
 .obtain⟨v,rfl,r⟩:=rs.one
  obtain⟨a,ys,rfl,hq,ry⟩:=VR.seq hK R r e
  exact⟨a,ys,rfl,hq,fun l hl=>q l ys hl ry⟩
 .cases e
end VS
end
section
namespace VS
open PySem PySem.Spec L2
mutual
def toP:D->Option PyData
 |.non=>some .none
 |.bl b=>some (.bool b)
 |.int i=>some (.int i)
 |.str x=>some (.str x)
 |.tup ds=>(Dt ds).map .tuple
 |.lst _ ds=>(Dt ds).map .list
 |.emp=>some (.dict [])
 |.ref _=>none
 |.scr _=>none
 |.ty _=>none
 |.dref _=>none
 |.dcf _=>none
 |.dcm _=>none
def Dt:List D->Option (List PyData)
 |[]=>some []
 |d::r=>(toP d).bind fun x=>(Dt r).bind fun xs=>some (x::xs)
end
mutual
theorem VR.tr{Γ:Fr}{μ:Mu}{H:Hp}:∀{v:V} {d:D} {p:PyData},VR Γ μ H v d->toP d=some p->Tr (fun _=>True) H v p
 |_,_,_,.non,h=>by rw[toP] at h;cases h;exact .non
 |_,_,_,.bl b,h=>by rw[toP] at h;cases h;exact .bl b
 |_,_,_,.int i,h=>by rw[toP] at h;cases h;exact .int i
 |_,_,_,.str x,h=>by rw[toP] at h;cases h;exact .str x
 |_,_,_,.ty _,h=>by rw[toP] at h;cases h
 |_,_,_,.tup hb t,h=>by
  rw[toP] at h
  obtain⟨ps,e1,e2⟩:=map_some h
  subst e2
  exact .tup trivial hb (VRs.tr t e1)
 |_,_,_,.lst _ _ hb t,h=>by
  rw[toP] at h
  obtain⟨ps,e1,e2⟩:=map_some h
  subst e2
  exact .lst trivial hb (VRs.tr t e1)
 |_,_,_,.ref _ _,h=>by rw[toP] at h;cases h
 |_,_,_,.scrK _,h=>by rw[toP] at h;cases h
 |_,_,_,.scrR _ _,h=>by rw[toP] at h;cases h
 |_,_,_,.emp _ _ hb,h=>by rw[toP] at h;cases h;exact .dct trivial hb
 |_,_,_,.dref _ _,h=>by rw[toP] at h;cases h
 |_,_,_,.dcf _ _ _,h=>by rw[toP] at h;cases h
theorem VRs.tr{Γ:Fr}{μ:Mu}{H:Hp}:∀{v:List V} {d:List D} {p:List PyData},VRs Γ μ H v d->Dt d=some p->Jo (fun _=>True) H v p
 |_,_,_,.nil,h=>by rw[Dt] at h;cases h;exact .nil
 |_,_,_,.cons r t,h=>by
  rw[Dt] at h
  obtain⟨x,e1,h⟩:=bind_some h
  obtain⟨xs,e2,h⟩:=bind_some h
  cases h
  exact .cons (VR.tr r e1) (VRs.tr t e2)
end
def Cv(S:Store)(d:D):Option PyData:=(den 0 S d).bind toP
theorem VR.see{Γ:Fr}{μ:Mu}{σ:St}{H:Hp}{env:Env}{S:Store}{v:V}{d:D}{p:PyData}(R:Rep Γ μ σ H env S)(r:VR Γ μ H v d)(h:Cv S d=some p):Tr (fun _=>True) H v p:=by
 obtain⟨e,e1,e2⟩:=bind_some h
 have r1:VR ⟨Γ.K,fun _=>none,fun _=>True,[]⟩ [] H v e:=VR.den (Γ':=⟨Γ.K,fun _=>none,fun _=>True,[]⟩) R rfl (fun i ds a _ hs=>⟨hs,fun z=>⟨Hw,⟨fun _=>rfl,.inl trivial⟩⟩⟩) (fun m a _ _=>⟨fun _=>rfl,.inl trivial⟩) (fun a o _ _=>Hw) r e1
 exact r1.tr e2
def eqP(neg:Bool)(S:Store)(x y:D):Option D:=(Cv S x).bind fun p=>(Cv S y).bind fun q=>if (U2e p&&U2e q)=true then some (.bl (neg ^^ U3c p q)) else none
def oEq(neg:Bool)(S:Store):D->D->Option D
 |.int i,.int j=>some (.bl (neg ^^ decide (i=j)))
 |x,y=>eqP neg S x y
def sW:R2:=fun x y H Q=>∃(N N':Addr->Prop)(d e:PyData),Tr N H x d/\Tr N' H y e/\U2e d=true/\U2e e=true/\Q (.bl (U3c d e)) H
def sS:R2:=fun x y H Q=>∃(N N':Addr->Prop)(d e:PyData),Tr N H x d/\Tr N' H y e/\U2e d=true/\U2e e=true/\Q (.bl (!PyData.eqv d e)) H
def mJ:R2:=fun x y H Q=>rEq x y H Q∨sW x y H Q
def cI:R2:=fun x y H Q=>rNe x y H Q∨sS x y H Q
theorem Ln{X:Cx}{k:Nat}(hr:Dy k X.A):OpR X (compareOp .Eq) mJ:=OpR.or qt (oE hr)
theorem Kd{X:Cx}{k:Nat}(hr:Dy k X.A):OpR X (compareOp .NotEq) cI:=OpR.or qm (o8 hr)
theorem Lk{K:U0b}:Fg K mJ (oEq false):=by
 intro Γ μ σ H env S x y dx dy d hK R rx ry e Q q
 unfold oEq at e
 split at e
 .rename_i i j
  cases e;cases rx;cases ry
  refine .inl ⟨rfl,?_⟩
  have:decide (V.int i=V.int j)=decide (i=j):=by simp
  rw[this]
  exact q _ H (Same.refl H) (by simpa using VR.bl (decide (i=j)))
 .unfold eqP at e
  obtain⟨p,e1,e⟩:=bind_some e
  obtain⟨p2,e2,e⟩:=bind_some e
  by_cases h:(U2e p&&U2e p2)=true
  .rw[if_pos h] at e
   cases e
   rw[U0m] at h
   exact .inr ⟨_,_,p,p2,rx.see R e1,ry.see R e2,h.1,h.2,q _ H (Same.refl H) (by simpa using VR.bl (U3c p p2))⟩
  .rw[if_neg h] at e;cases e
theorem N6{K:U0b}:Fg K cI (oEq true):=by
 intro Γ μ σ H env S x y dx dy d hK R rx ry e Q q
 unfold oEq at e
 split at e
 .rename_i i j
  cases e;cases rx;cases ry
  refine .inl ⟨rfl,?_⟩
  have:decide (V.int i=V.int j)=decide (i=j):=by simp
  rw[this]
  exact q _ H (Same.refl H) (by simpa using VR.bl (!decide (i=j)))
 .unfold eqP at e
  obtain⟨p,e1,e⟩:=bind_some e
  obtain⟨p2,e2,e⟩:=bind_some e
  by_cases h:(U2e p&&U2e p2)=true
  .rw[if_pos h] at e
   cases e
   rw[U0m] at h
   exact .inr ⟨_,_,p,p2,rx.see R e1,ry.see R e2,h.1,h.2,q _ H (Same.refl H) (by simpa using VR.bl (!PyData.eqv p p2))⟩
  .rw[if_neg h] at e;cases e
def Oj(neg:Bool)(S:Store):D->D->Option D
 |.non,.non=>some (.bl (!neg))
 |.ref i,.non=>((S[i]?).join).map fun _=>.bl neg
 |.bl a,.bl b=>some (.bl (neg ^^ decide (a=b)))
 |.int _,.non=>some (.bl neg)
 |.bl _,.non=>some (.bl neg)
 |.str _,.non=>some (.bl neg)
 |.tup _,.non=>some (.bl neg)
 |.lst _ _,.non=>some (.bl neg)
 |_,_=>none
def Zw:R2:=fun x y H Q=>(y=.non/\Q (.bl (!decide (x=.non))) H)∨∃(c d:Bool),x=.bl c/\y=.bl d/\Q (.bl (!decide (c=d))) H
theorem Wi{X:Cx}:OpR X (compareOp .IsNot) Zw:=OpR.or jH Xn
theorem Wa{K:U0b}:Fg K Zw (Oj true):=by
 intro Γ μ σ H env S x y dx dy d hK R rx ry e Q q
 unfold Oj at e
 split at e
 .cases e;cases rx;cases ry;exact .inl ⟨rfl,by simpa using q _ H (Same.refl H) (.bl false)⟩
 .obtain⟨ds,e1,e2⟩:=map_some e
  subst e2
  obtain⟨a,xs,rfl,_⟩:=VR.Z1 R rx (join_some e1)
  cases ry;exact .inl ⟨rfl,by simpa using q _ H (Same.refl H) (.bl true)⟩
 .rename_i a b
  cases e;cases rx;cases ry;exact .inr ⟨a,b,rfl,rfl,by simpa using q _ H (Same.refl H) (by simpa using VR.bl (!decide (a=b)))⟩
 .cases e;cases rx;cases ry;exact .inl ⟨rfl,by simpa using q _ H (Same.refl H) (.bl true)⟩
 .cases e;cases rx;cases ry;exact .inl ⟨rfl,by simpa using q _ H (Same.refl H) (.bl true)⟩
 .cases e;cases rx;cases ry;exact .inl ⟨rfl,by simpa using q _ H (Same.refl H) (.bl true)⟩
 .cases e;cases rx;cases ry;exact .inl ⟨rfl,by simpa using q _ H (Same.refl H) (.bl true)⟩
 .cases e;cases rx;cases ry;exact .inl ⟨rfl,by simpa using q _ H (Same.refl H) (.bl true)⟩
 .cases e
section
variable{X:Cx}{a:Expr}{fa:Az}{x:Str}{p pos:Pos}{dM:Addr}{D:List (PyData×PyData)}
end
def isT(T:String)(d:PyData):Bool:=match T with
 |"str"=>(match d with|.str _=>true|_=>false)
 |T=>Vi T d
theorem jY{K:U0b}(d:PyData):U29 K (.type (tyName d)) (.type "str")=some (isT "str" d):=by
 cases d with
 |none=>exact CW (a:="NoneType") (r:=false) (by decide +kernel)
 |bool _=>exact CW (a:="bool") (r:=false) (by decide +kernel)
 |int _=>exact CW (a:="int") (r:=false) (by decide +kernel)
 |str _=>exact CW (a:="str") (r:=true) (by decide +kernel)
 |list _=>exact CW (a:="list") (r:=false) (by decide +kernel)
 |tuple _=>exact CW (a:="tuple") (r:=false) (by decide +kernel)
 |dict _=>exact CW (a:="dict") (r:=false) (by decide +kernel)
def Eb(S:Store):List D->Option D
 |[x,.ty "int"]=>(Cv S x).map fun p=>.bl (isT "int" p)
 |[x,.ty "bool"]=>(Cv S x).map fun p=>.bl (isT "bool" p)
 |[x,.ty "tuple"]=>(Cv S x).map fun p=>.bl (isT "tuple" p)
 |[x,.ty "list"]=>(Cv S x).map fun p=>.bl (isT "list" p)
 |[x,.ty "str"]=>(Cv S x).map fun p=>.bl (isT "str" p)
 |[x,.tup [.ty "tuple",.ty "list"]]=>(Cv S x).bind fun p=>if noDict p=true then some (.bl (isSeq p)) else none
 |_=>none
def sV(K:U0b):List V->Hp->VK->Prop:=fun xs H Q=>∃(x:V)(T:String)(t:Value)(b:Bool),xs=[x,.ty T]/\JR K H x t/\U29 K t (.type T)=some b/\Q (.bl b) H
def qU:List V->Hp->VK->Prop:=fun xs H Q=>∃(N:Addr->Prop)(x:V)(d:PyData)(p:Addr),xs=[x,.ref p]/\H p=some (.tup [.ty "tuple",.ty "list"])/\Tr N H x d/\noDict d=true/\Q (.bl (isSeq d)) H
def ZC(K:U0b):List V->Hp->VK->Prop:=fun xs H Q=>sV K xs H Q∨qU xs H Q
theorem Gf{X:Cx}:Dd X (.builtin "isinstance") (ZC X.K):=Dd.or Y6 VH
theorem HX{K:U0b}:Km K (ZC K) Eb:=by
 intro Γ μ σ H env S xs ds d hK R rs e Q q
 have go:∀(T:String)(x:D),(∀p:PyData,U29 K (.type (tyName p)) (.type T)=some (isT T p))->ds=[x,.ty T]->((Cv S x).map fun p=>D.bl (isT T p))=some d->ZC K xs H Q:=fun T x hk hd e'=>by
  subst hd
  obtain⟨p,e1,e2⟩:=map_some e'
  subst e2
  obtain⟨v,u,rfl,r1,r2⟩:=rs.two
  cases r2
  exact .inl ⟨v,T,_,_,rfl,(r1.see R e1).ty,hk p,q _ H (Same.refl H) (.bl _)⟩
 unfold Eb at e
 split at e
 .exact go "int" _ jZ rfl e
 .exact go "bool" _ eY rfl e
 .exact go "tuple" _ kit_tuple rfl e
 .exact go "list" _ eX rfl e
 .exact go "str" _ jY rfl e
 .obtain⟨p,e1,e⟩:=bind_some e
  by_cases h:noDict p=true
  .rw[if_pos h] at e
   cases e
   obtain⟨v,u,rfl,r1,r2⟩:=rs.two
   cases r2 with
   |@tup a ys _ ha ry =>
    cases ry with
    |cons q1 t1 =>
     cases t1 with
     |cons q2 t2 =>
      cases t2;cases q1;cases q2
      exact .inr ⟨_,v,p,a,rfl,ha,r1.see R e1,h,q _ H (Same.refl H) (.bl _)⟩
  .rw[if_neg h] at e;cases e
 .cases e
def FN(S:Store):List D->Option D
 |[x]=>(Cv S x).bind fun p=>if (p.showable&&decide (p.depth<=60)&&decide (p.shown.length<=1000000))=true then some (.str p.shown) else none
 |_=>none
def qT:List V->Hp->VK->Prop:=fun xs H Q=>∃(N:Addr->Prop)(v:V)(d:PyData),xs=[v]/\Tr N H v d/\d.showable=true/\d.depth<=60/\d.shown.length<=sizeLine/\Q (.str d.shown) H
theorem Nt{K:U0b}:Km K qT FN:=by
 intro Γ μ σ H env S xs ds d hK R rs e Q q
 unfold FN at e
 split at e
 .obtain⟨p,e1,e⟩:=bind_some e
  by_cases h:(p.showable&&decide (p.depth<=60)&&decide (p.shown.length<=1000000))=true
  .rw[if_pos h] at e
   cases e
   simp only[U0m,decide_eq_true_eq] at h
   obtain⟨v,rfl,r1⟩:=rs.one
   exact⟨_,v,p,rfl,r1.see R e1,h.1.1,h.1.2,U2d (big h.2),q _ H (Same.refl H) (.str _)⟩
  .rw[if_neg h] at e;cases e
 .cases e
def Dr(ns:List Int):List Int:=(SetP.once ns).mergeSort fun a b=>decide (a<=b)
theorem S9{ns ms:List Int}(h:ms.Perm (SetP.once ns))(s:ms.Pairwise (·<=·)):ms=Dr ns:=by
 have h2:(Dr ns).Perm (SetP.once ns):=U3j _ _
 have s2:(Dr ns).Pairwise (·<=·):=by
  have:=List.pairwise_mergeSort (le:=fun a b:Int=>decide (a<=b)) (by intro a b c h1 h2;simp at *;omega) (by intro a b;simp;omega) (SetP.once ns)
  exact this.imp fun h=>by simpa using h
 exact U2j.eq_of_pairwise (fun a b _ _ h1 h2=>Int.le_antisymm h1 h2) s s2 (h.trans h2.symm)
def K6(a:Az):Az:=fun env S=>(a env S).bind fun p=>(listOf p.2 p.1).bind fun ds=>(intsOf ds).bind fun ns=>if ns.length<1000/\(SetP.once ns).length<64 then some (.lst true ((Dr ns).map .int),p.2) else none
theorem Zj{X:Cx}{a:Expr}{f:Az}{p p2 pos pos2:Pos}(hc:X.calm=true)(ha:JE X a f)(hg:Gl X "sorted")(hm:X.mg "sorted"=none)(hg2:Gl X "set")(hm2:X.mg "set"=none) 
  (he:starEach [a] X.env=[(false,eval a X.env)]:=by rfl) (he2:starEach [.Call (.Name "set" p2) [a] [] pos2] X.env=[(false,eval (.Call (.Name "set" p2) [a] [] pos2) X.env)]:=by rfl):JE X (.Call (.Name "sorted" p) [.Call (.Name "set" p2) [a] [] pos2] [] pos) (K6 f) :=
 ⟨PE.imp (RK (Ug hc) hg hm Ux (Nb (MN (X3 hc) hg2 hm2 aX (Nb ha.pe Ox he) (he:=he) (hpl:=rfl)) Ox he2) (he:=he2) (hpl:=rfl)) fun σ H Q h=>by
  obtain⟨Γ,μ,env,S,d,S',hK,R,e,q⟩:=h
  obtain⟨⟨y,S1⟩,e1,e⟩:=bind_some e
  obtain⟨ds,e2,e⟩:=bind_some e
  obtain⟨ns,e3,e⟩:=bind_some e
  by_cases hl:ns.length<1000/\(SetP.once ns).length<64
  .rw[if_pos hl] at e
   cases e
   refine⟨Γ,μ,env,S,y,_,hK,R,e1,fun v1 μ1 H1 x1 R1 r1=>?_⟩
   obtain⟨b,xs,rfl,hb,rb⟩:=VR.list R1 r1 e2
   have:=Ho e3
   subst this
   have:=rb.Q8
   subst this
   refine⟨b,ns,rfl,SqL.of hb,hl.1,fun s hs=>?_⟩
   obtain⟨R2,x2⟩:=R1.grow (Cd hs (Oi X.prog X.w s (SetP.once ns)))
   refine⟨s,_,rfl,Bv,hl.2,fun l ms hl' hp hsrt=>?_⟩
   have:=S9 hp hsrt
   subst this
   obtain⟨R3,x3⟩:=R2.grow (Cd hl' (.lst ((Dr ns).map V.int)))
   exact q _ μ1 _ (x1.trans (x2.trans x3)) R3 (.lst (R2.ok hl' true) (R2.dead hl') Bv (VRs.ints _))
  .rw[if_neg hl] at e;cases e⟩
def Zm(a:Bs):Az:=fun env S=>(a env S).bind fun p=>match p.1 with
 |[.int j]=>if r62 j/\j.toNat<=1000 then some (.lst true (upD 0 j.toNat),p.2) else none
 |[.int i,.int j]=>if r62 i/\r62 j/\(j-i).toNat<=1000 then some (.lst true (upD i (j-i).toNat),p.2) else none
 |_=>none
section
variable{X:Cx}{a:Expr}{as:List Expr}{f:Bs}{p p2 pos pos2:Pos}
end
end VS
end
section
namespace VS
open PySem PySem.Spec L2
def Ro(K:U0b):Sp:=fun vs H Q _=>∃(l:Addr)(ns:List Int),vs=[.ref l]/\Only H/\ns.length<=63/\SqL K H l (ns.map V.int)/\∀H',Q (.bl true) H'
theorem oN{K:U0b}{sem:FT}(h:∀ns:List Int,ns.length<=63->sem [.scr ns]=some (.bl true)):∀vs H Q E,Ro K vs H Q E->spP K sem 1 vs H Q E:=by
 intro vs H Q E ⟨l,ns,e,hO,hl,hq,q⟩
 subst e
 refine⟨fun _=>False,[.scr ns],.bl true,rfl,.cons ?_ .nil,h ns hl,fun v H' sm rv=>?_⟩
 .rcases hq with hq|hq
  .rcases hq with hq|⟨o,hq⟩
   .rcases hO l with z|⟨o,xs,z⟩
    .rw[z] at hq;cases hq
    .rw[z] at hq;cases hq
   .exact .scrR Hw hq
  .exact .scrK fun H'=>.inr hq
 .cases rv;exact q H'
end VS
end
section
namespace VS
open PySem L2
theorem IK(a b:Bm)(env:VS.Env)(S:Store):VS.Bh a b env S=(a env S).bind fun p=>match p.1 with|.nx=>b p.2.1 p.2.2|f=>some (f,p.2.1,p.2.2):=rfl
theorem Br(i:Nat)(a:Az)(env:VS.Env)(S:Store):VS.BR i a env S=(a env S).bind fun p=>some (.nx,env.set i (some p.1),p.2):=rfl
theorem DQ(a:Az)(env:VS.Env)(S:Store):VS.DK a env S=(a env S).bind fun p=>some (.ret p.1,env,p.2):=rfl
theorem N7(c:Ek)(a b:Bm)(env:VS.Env)(S:Store):VS.sIf c a b env S=(c env S).bind fun p=>if p.1=true then a env p.2 else b env p.2:=rfl
theorem iW(a:Az)(g:Jx)(env:VS.Env)(S:Store):VS.Z0 a g env S=(a env S).bind fun p=>(g p.1 env).bind fun e=>some (.nx,e,p.2):=rfl
theorem Tq(a:Az)(env:VS.Env)(S:Store):VS.Lh a env S=(a env S).bind fun p=>some (.nx,env,p.2):=rfl
theorem NZ(env:VS.Env)(S:Store):VS.FQ  env S=some (.nx,env,S):=rfl
theorem IV(it:Ko)(g:Jx)(b:Bm)(env:VS.Env)(S:Store):VS.Lg it g b env S=(it env S).bind fun p=>loop p.1.2 g b p.1.1 env p.2:=rfl
theorem PX(v o i:Az)(env:VS.Env)(S:Store):VS.Ru v o i env S=(v env S).bind fun p=>(o env p.2).bind fun q=>(i env q.2).bind fun r=>match q.1,r.1 with
 |.ref j,.int k=>(match r.2[j]? with
  |some (some ds)=>(ixN ds.length k).bind fun n=>some (.nx,env,r.2.set j (some (ds.set n p.1)))
  |_=>none)
 |_,_=>none:=rfl
theorem Ez(i:Nat)(env:VS.Env)(S:Store):VS.Ab i env S=(env[i]?.join).map fun d=>(d,S):=rfl
theorem J8(d:D)(env:VS.Env)(S:Store):VS.eC d env S=some (d,S):=rfl
theorem Bb(g:Store->D->D->Option D)(a b:Az)(env:VS.Env)(S:Store):VS.eOp g a b env S=(a env S).bind fun p=>(b env p.2).bind fun q=>(g q.2 p.1 q.1).map fun d=>(d,q.2):=rfl
theorem W2(g:Store->D->Option D)(a:Az)(env:VS.Env)(S:Store):VS.eUn g a env S=(a env S).bind fun p=>(g p.2 p.1).map fun d=>(d,p.2):=rfl
theorem G4(env:VS.Env)(S:Store):VS.Ad  env S=some ([],S):=rfl
theorem BJ(a:Az)(r:Bs)(env:VS.Env)(S:Store):VS.Aa a r env S=(a env S).bind fun p=>(r env p.2).bind fun q=>some (p.1::q.1,q.2):=rfl
theorem Fp(g:Store->List D->Option D)(a:Bs)(env:VS.Env)(S:Store):VS.eCB g a env S=(a env S).bind fun p=>(g p.2 p.1).map fun d=>(d,p.2):=rfl
theorem Jd(a b:Az)(env:VS.Env)(S:Store):VS.JQ a b env S=(a env S).bind fun p=>match p.1 with|.bl true=>b env p.2|.bl false=>some (.bl false,p.2)|_=>none:=rfl
theorem jr(a:Az)(env:VS.Env)(S:Store):VS.Te a env S=(a env S).bind fun p=>match p.1 with|.bl c=>some (.bl (!c),p.2)|_=>none:=rfl
theorem CJ(a:Az)(env:VS.Env)(S:Store):VS.Bd a env S=(a env S).bind fun p=>match p.1 with|.bl c=>some (c,p.2)|_=>none:=rfl
theorem YJ(a b:Ek)(env:VS.Env)(S:Store):VS.Og a b env S=(a env S).bind fun p=>if p.1=true then b env p.2 else some (false,p.2):=rfl
theorem GQ(a b:Ek)(env:VS.Env)(S:Store):VS.tOr a b env S=(a env S).bind fun p=>if p.1=true then some (true,p.2) else b env p.2:=rfl
theorem Eo(a:Ek)(env:VS.Env)(S:Store):VS.Ga a env S=(a env S).bind fun p=>some (!p.1,p.2):=rfl
theorem W4(g:Store->D->Option Int->Option Int->Option D)(a:Az)(l h:Np)(env:VS.Env)(S:Store):VS.eSl g a l h env S=(a env S).bind fun p=>(l env p.2).bind fun q=>(h env q.2).bind fun r=>(g r.2 p.1 q.1 r.1).map fun d=>(d,r.2):=rfl
theorem Cg(a:Bs)(env:VS.Env)(S:Store):VS.Am a env S=(a env S).bind fun p=>some (.lst true p.1,p.2):=rfl
theorem jq(a:Bs)(env:VS.Env)(S:Store):VS.Mr a env S=(a env S).bind fun p=>some (.ref p.2.length,p.2++[some p.1]):=rfl
theorem QS(a:Bs)(env:VS.Env)(S:Store):VS.Ay a env S=(a env S).bind fun p=>some (.tup p.1,p.2):=rfl
theorem Mg(sem:FT)(a:Bs)(env:VS.Env)(S:Store):VS.Bp sem a env S=(a env S).bind fun p=>(Dl 0 p.2 p.1).bind fun ds=>(sem (Bj ds)).bind fun r=>if (BZ p.1||newD r)=true then some (r,p.2) else none:=rfl
theorem Pq(sem:Jm)(a:Bs)(env:VS.Env)(S:Store):VS.Ak sem a env S=(a env S).bind fun p=>match p.1 with
 |.ref i::rest=>(match p.2[i]? with
  |some (some cs)=>(intsOf cs).bind fun ns=>(Dl 0 (p.2.set i none) rest).bind fun ds=>(sem ns (Bj ds)).bind fun r=>if (BZ rest||newD r.1)=true then some (r.1,p.2.set i (some (r.2.map D.int))) else none
  |_=>none)
 |_=>none:=rfl
theorem bW(sem:FT)(a:Bs)(env:VS.Env)(S:Store):VS.PL sem a env S=(Bp sem a env S).bind fun p=>(Qx p.2.length p.1).bind fun q=>some (q.1,p.2++[some q.2]):=rfl
theorem Ww(g:Store->D->List D->Option (D×Store))(o:Az)(a:Bs)(env:VS.Env)(S:Store):VS.Hz g o a env S=(o env S).bind fun p=>if (listOf p.2 p.1).isSome then (a env p.2).bind fun q=>g q.2 p.1 q.1 else none:=rfl
theorem lO(a:Bs)(env:VS.Env)(S:Store):VS.Zm a env S=(a env S).bind fun p=>match p.1 with
 |[.int j]=>if r62 j/\j.toNat<=1000 then some (.lst true (upD 0 j.toNat),p.2) else none
 |[.int i,.int j]=>if r62 i/\r62 j/\(j-i).toNat<=1000 then some (.lst true (upD i (j-i).toNat),p.2) else none
 |_=>none:=rfl
theorem Y4(a:Az)(env:VS.Env)(S:Store):VS.K6 a env S=(a env S).bind fun p=>(listOf p.2 p.1).bind fun ds=>(intsOf ds).bind fun ns=>if ns.length<1000/\(SetP.once ns).length<64 then some (.lst true ((Dr ns).map .int),p.2) else none:=rfl
theorem QM(a:Az)(env:VS.Env)(S:Store):VS.Ei a env S=(a env S).bind fun p=>(Fv p.2 p.1).map fun ds=>((ds,idOf ds p.1),p.2):=rfl
theorem fD(a:Bs)(env:VS.Env)(S:Store):VS.Rm a env S=(a env S).bind fun p=>match p.1 with
 |[.tup xs,.tup ys]=>some ((Ft xs ys,[]),p.2)
 |[x,.tup ys]=>(VS.listOf p.2 x).bind fun xs=>some ((Ft xs ys,VS.idOf xs x),p.2)
 |[x,y]=>(listOf p.2 x).bind fun xs=>(listOf p.2 y).bind fun ys=>some ((Ft xs ys,idOf xs x++idOf ys y),p.2)
 |_=>none:=rfl
theorem Ew(np n:Nat)(f:Bm)(ds:List D):VS.HF np n f ds=if ds.length=np then (f (ds.map some++U0q (n-ds.length) none) []).bind fun p=>match p.1 with|.ret d=>den 0 p.2.2 d|.nx=>some .non|_=>none else none:=rfl
theorem IW(np n:Nat)(f:Bm)(ns:List Int)(ds:List D):VS.runM np n f ns ds=if ds.length+1=np then (f (some (.ref 0)::(ds.map some++U0q (n-1-ds.length) none)) [some (ns.map D.int)]).bind fun p=>match p.2.2[0]? with
 |some (some cs)=>(intsOf cs).bind fun ms=>(match p.1 with|.ret d=>(den 1 p.2.2 d).map fun r=>(r,ms)|.nx=>some (.non,ms)|_=>none)
 |_=>none
 else none:=rfl
theorem Ed(i:Nat)(d:D)(env:VS.Env):Pat.sem (.nm i) d env=some (env.set i (some d)):=by rw[Pat.sem]
theorem Vr(ps:List Pat)(ds:List D)(env:VS.Env):Pat.sem (.tp ps) (.tup ds) env=HD ps ds env:=by rw[Pat.sem]
theorem RL(env:VS.Env):HD [] [] env=some env:=by rw[HD]
theorem Pj(p:Pat)(ps:List Pat)(d:D)(ds:List D)(env:VS.Env):HD (p::ps) (d::ds) env=(Pat.sem p d env).bind fun e=>HD ps ds e:=by rw[HD]
@[simp] theorem u0(S:Store):calm [] S=True:=by simp[calm]
@[simp] theorem tu(i:Nat)(ds:List D)(S:Store):calm [(i,ds)] S=(S[i]?=some (some ds)):=by simp[calm]
@[simp] theorem uJ{α:Type}(S:List α)(a:α):(S++[a])[S.length]?=some a:=by simp
@[simp] theorem uF{α:Type}(S:List α)(a b:α):(S++[a]).set S.length b=S++[b]:=by simp
theorem QL{n k:Nat}(h:k<n):ixN n (k:Int)=some k:=by
 unfold ixN
 rw[if_pos (by omega),if_pos (by omega)];simp
@[simp] theorem rB{n:Nat}:ixN (n+1) 0=some 0:=QL (k:=0) (by omega)
@[simp] theorem rA{n:Nat}:ixN (n+2) 1=some 1:=QL (k:=1) (by omega)
@[simp] theorem qz{n:Nat}:ixN (n+3) 2=some 2:=QL (k:=2) (by omega)
@[simp] theorem qy{n:Nat}:ixN (n+4) 3=some 3:=QL (k:=3) (by omega)
@[simp] theorem uP{α:Type}(a:α)(l:List α):atI (a::l) 0=some a:=by unfold atI;rw[U0g,rB];rfl
@[simp] theorem uO{α:Type}(a b:α)(l:List α):atI (a::b::l) 1=some b:=by unfold atI;rw[U0g,U0g,rA];rfl
@[simp] theorem uN{α:Type}(a b c:α)(l:List α):atI (a::b::c::l) 2=some c:=by unfold atI;rw[U0g,U0g,U0g,qz];rfl
@[simp] theorem uM{α:Type}(a b c d:α)(l:List α):atI (a::b::c::d::l) 3=some d:=by unfold atI;rw[U0g,U0g,U0g,U0g,qy];rfl
theorem jQ{w:List (Nat×List D)}{g:Jx}{b:Bm}(I:Nat->Env->Store->Prop)(R:D->Store->Prop){ds:List D}{env:Env}{S:Store}(h0:I 0 env S)(hc:∀i env S,I i env S->calm w S)
  (step:∀i d env S,ds[i]?=some d->I i env S->∃env1,g d env=some env1/\((∃env2 S2,(b env1 S=some (.nx,env2,S2)∨b env1 S=some (.cnt,env2,S2))/\I (i+1) env2 S2)∨∃r env2 S2,b env1 S=some (.ret r,env2,S2)/\R r S2)) :
  (∃env' S',loop w g b ds env S=some (.nx,env',S')/\I ds.length env' S')∨∃r env' S',loop w g b ds env S=some (.ret r,env',S')/\R r S':=by
 have key:∀(l:List D)(i:Nat)(env:Env)(S:Store),ds.drop i=l->i<=ds.length->I i env S->(∃env' S',loop w g b l env S=some (.nx,env',S')/\I ds.length env' S')∨∃r env' S',loop w g b l env S=some (.ret r,env',S')/\R r S':=by
  intro l
  induction l with
  |nil =>
   intro i env S hd hi h
   have:i=ds.length:=by
    have:=congrArg U3u hd
    simp at this;omega
   subst this
   exact .inl ⟨env,S,by unfold loop;rw[if_pos (hc _ _ _ h)],h⟩
  |cons d r ih =>
   intro i env S hd hi h
   have hlt:i<ds.length:=by
    have:=congrArg U3u hd
    simp at this;omega
   have e:ds[i]?=some d:=by
    rw[U24 hlt] at hd
    rw[U02 hlt,(List.cons.inj hd).1]
   have hr:ds.drop (i+1)=r:=by
    rw[U24 hlt] at hd
    exact(List.cons.inj hd).2
   obtain⟨env1,e1,q⟩:=step i d env S e h
   rcases q with ⟨env2,S2,e2,q⟩|⟨v,env2,S2,e2,q⟩
   .have e3:loop w g b (d::r) env S=loop w g b r env2 S2:=by
     rcases e2 with e2|e2<;>(rw[loop,if_pos (hc _ _ _ h),e1];show(b env1 S).bind _=_;rw[e2];rfl)
    rw[e3]
    exact ih (i+1) env2 S2 hr hlt q
   .refine .inr ⟨v,env2,S2,?_,q⟩
    rw[loop,if_pos (hc _ _ _ h),e1]
    show(b env1 S).bind _=_
    rw[e2];rfl
 exact key ds 0 env S (by simp) (U2w _) h0
theorem JZ{w:List (Nat×List D)}{g:Jx}{b:Bm}(I:Nat->Env->Store->Prop){ds:List D}{env:Env}{S:Store}(h0:I 0 env S)(hc:∀i env S,I i env S->calm w S)
  (step:∀i d env S,ds[i]?=some d->I i env S->∃env1,g d env=some env1/\∃env2 S2,b env1 S=some (.nx,env2,S2)/\I (i+1) env2 S2) :
  ∃env' S',loop w g b ds env S=some (.nx,env',S')/\I ds.length env' S':=by
 rcases jQ I (fun _ _=>False) h0 hc (fun i d env S e h=>by
  obtain⟨env1,e1,env2,S2,e2,q⟩:=step i d env S e h
  exact⟨env1,e1,.inl ⟨env2,S2,.inl e2,q⟩⟩) with h|⟨_,_,_,_,h⟩
 .exact h
 .exact h.elim
theorem comp_map{w:List (Nat×List D)}{e0:Env}{g:Jx}{t:Ek}{f:Az}{S:Store}(hc:calm w S)(p:D->Bool)(F:D->D):∀(ds ys:List D),ys.length+ds.length<=1000000 ->
  (∀d∈ds,∃e1,g d e0=some e1/\t e1 S=some (p d,S)/\(p d=true->f e1 S=some (F d,S)))->Hr w e0 g t f ds ys S=some (ys++(ds.filter p).map F,S)
 |[],ys,hl,_=>by unfold Hr;rw[if_pos ⟨hc,by simpa using hl⟩];simp
 |d::r,ys,hl,h=>by
  rw[U0g] at hl
  obtain⟨e1,h1,h2,h3⟩:=h d U0s
  unfold Hr
  rw[if_pos ⟨hc,by omega⟩,h1]
  show(t e1 S).bind _=_
  rw[h2]
  show(if p d=true then _ else _)=_
  have hr:∀x∈r,_:=fun x hx=>h x (U0p _ hx)
  by_cases hp:p d=true
  .rw[if_pos hp,h3 hp]
   show Hr w e0 g t f r (ys++[F d]) S=_
   rw[comp_map hc p F r (ys++[F d]) (by rw[U0j];simp;omega) hr,List.filter_cons_of_pos hp]
   simp
  .rw[if_neg hp,List.filter_cons_of_neg hp]
   exact comp_map hc p F r ys (by omega) hr
theorem QV{α:Type}{w:List (Nat×List D)}{e0:VS.Env}{g:Jx}{t:Ek}{f:Az}{S:Store}(hc:calm w S)(enc:α->D)(p:α->Bool)(F:α->D):∀(l:List α)(ys:List D),ys.length+l.length<=1000000 ->
  (∀a∈l,∃e1,g (enc a) e0=some e1/\t e1 S=some (p a,S)/\(p a=true->f e1 S=some (F a,S)))->Hr w e0 g t f (l.map enc) ys S=some (ys++(l.filter p).map F,S)
 |[],ys,hl,_=>by rw[U1t,Hr,if_pos ⟨hc,by simpa using hl⟩];simp
 |d::r,ys,hl,h=>by
  rw[U0g] at hl
  obtain⟨e1,h1,h2,h3⟩:=h d U0s
  have hr:∀x∈r,_:=fun x hx=>h x (U0p _ hx)
  rw[U0o,Hr,if_pos ⟨hc,by omega⟩,h1]
  simp only[U0a,h2]
  by_cases hp:p d=true
  .simp only[hp,if_true,h3 hp,U0a]
   rw[QV hc enc p F r (ys++[F d]) (by rw[U0j];simp;omega) hr,List.filter_cons_of_pos hp]
   simp
  .rw[if_neg hp,List.filter_cons_of_neg hp]
   exact QV hc enc p F r ys (by omega) hr
theorem QT{α:Type}{w:List (Nat×List D)}{e0:VS.Env}{g:Jx}{f:Az}{S:Store}(hc:calm w S)(enc F:α->D)(l:List α)(hl:l.length<=1000000)(h:∀a∈l,∃e1,g (enc a) e0=some e1/\f e1 S=some (F a,S)):Hr w e0 g VS.Jj f (l.map enc) [] S=some (l.map F,S):=by
 have:=QV (t:=VS.Jj) hc enc (fun _=>true) F l [] (by simpa using hl) (fun d hd=>let ⟨e1,h1,h2⟩:=h d hd;⟨e1,h1,rfl,fun _=>h2⟩)
 rw[this,U1z,U5l.mpr (by simp)]
theorem YD(lo:Int)(n:Nat):(upD lo n).length=n:=by unfold upD;rw[U0e,U66]
theorem YF{lo:Int}{n i:Nat}{d:D}(h:(upD lo n)[i]?=some d):i<n/\d=.int (lo+i):=by
 have hi:i<n:=by rw[←YD lo n];exact(U0n.mp h).1
 unfold upD at h
 rw[U01,List.getElem?_range hi] at h
 cases h
 exact⟨hi,rfl⟩
theorem bF{j:Int}(h0:-1000000<=j)(h1:j<=1000000):r62 j:=⟨U7e (by decide) h0,Int.lt_of_le_of_lt h1 (by decide)⟩
theorem Vp{f:Bs}{env:VS.Env}{S S':Store}{j:Int}(n:Nat)(hf:f env S=some ([.int j],S'))(hn:j.toNat=n)(h0:-1000000<=j)(h1:j<=1000000):Ie f env S=some ((upD 0 n,[]),S'):=by
 unfold Ie
 rw[hf,U0a]
 show(if r62 j then some ((upD 0 j.toNat,([]:List (Nat×List D))),S') else none)=_
 rw[if_pos (bF h0 h1),hn]
theorem Jh{α:Type}{F:α->D}(l:List α)(h:∀a∈l,CK (F a)=true):Dj (l.map F)=true:=by
 induction l with
 |nil=>rfl
 |cons a r ih=>rw[U0o,Dj,h a U0s,ih fun b hb=>h b (U0p _ hb)];rfl
theorem WT{α:Type}{F:α->D}{G:α->PyData}(l:List α)(h:∀a∈l,toP (F a)=some (G a)):Dt (l.map F)=some (l.map G):=by
 induction l with
 |nil=>rw[U1t,Dt];rfl
 |cons a r ih=>rw[U0o,Dt,h a U0s,ih fun b hb=>h b (U0p _ hb)];rfl
abbrev St2:=Int×Int
def Ax(p:St2):D:=.tup [.int p.1,.int p.2]
def Gs(b:List St2):D:=.tup (b.map Ax)
def Om(m:Bool)(n:Nat)(bs:List (List St2)):D:=.tup [.int n,.lst m (bs.map Gs)]
@[simp] theorem Hy(p:St2):CK (Ax p)=true:=rfl
@[simp] theorem Jg(b:List St2):CK (Gs b)=true:=by rw[Gs,CK];exact Jh b fun p _=>Hy p
theorem GZ(bs:List (List St2)):Dj (bs.map Gs)=true:=Jh bs fun b _=>Jg b
def pS(p:St2):PyData:=.tuple [.int p.1,.int p.2]
def pB(b:List St2):PyData:=.tuple (b.map pS)
theorem WR(p:St2):toP (Ax p)=some (pS p):=by simp[Ax,toP,Dt,pS]
theorem dD(b:List St2):toP (Gs b)=some (pB b):=by rw[Gs,toP,WT b fun p _=>WR p];rfl
@[simp] theorem fW(S:Store)(x:D):Eb S [x,.ty "int"]=(Cv S x).map fun p=>.bl (isT "int" p):=rfl
@[simp] theorem pP:isT "int" (.none)=false:=rfl
@[simp] theorem pU(b:Bool):isT "int" (.bool b)=true:=rfl
@[simp] theorem qF(i:Int):isT "int" (.int i)=true:=rfl
@[simp] theorem qC(s:Str):isT "int" (.str s)=false:=rfl
@[simp] theorem pQ(l:List PyData):isT "int" (.list l)=false:=rfl
@[simp] theorem lG(l:List PyData):isT "int" (.tuple l)=false:=rfl
@[simp] theorem pR(l:List (PyData×PyData)):isT "int" (.dict l)=false:=rfl
@[simp] theorem cC(S:Store)(x:D):Eb S [x,.ty "bool"]=(Cv S x).map fun p=>.bl (isT "bool" p):=rfl
@[simp] theorem lH:isT "bool" (.none)=false:=rfl
@[simp] theorem lN(b:Bool):isT "bool" (.bool b)=true:=rfl
@[simp] theorem pX(i:Int):isT "bool" (.int i)=false:=rfl
@[simp] theorem pW(s:Str):isT "bool" (.str s)=false:=rfl
@[simp] theorem lJ(l:List PyData):isT "bool" (.list l)=false:=rfl
@[simp] theorem kW(l:List PyData):isT "bool" (.tuple l)=false:=rfl
@[simp] theorem lK(l:List (PyData×PyData)):isT "bool" (.dict l)=false:=rfl
@[simp] theorem Zt(S:Store)(x:D):Eb S [x,.ty "tuple"]=(Cv S x).map fun p=>.bl (isT "tuple" p):=rfl
@[simp] theorem jz:isT "tuple" (.none)=false:=rfl
@[simp] theorem kJ(b:Bool):isT "tuple" (.bool b)=false:=rfl
@[simp] theorem kZ(i:Int):isT "tuple" (.int i)=false:=rfl
@[simp] theorem kY(s:Str):isT "tuple" (.str s)=false:=rfl
@[simp] theorem kE(l:List PyData):isT "tuple" (.list l)=false:=rfl
@[simp] theorem gP(l:List PyData):isT "tuple" (.tuple l)=true:=rfl
@[simp] theorem kI(l:List (PyData×PyData)):isT "tuple" (.dict l)=false:=rfl
@[simp] theorem bw(S:Store)(x:D):Eb S [x,.ty "list"]=(Cv S x).map fun p=>.bl (isT "list" p):=rfl
@[simp] theorem kj:isT "list" (.none)=false:=rfl
@[simp] theorem lF(b:Bool):isT "list" (.bool b)=false:=rfl
@[simp] theorem pO(i:Int):isT "list" (.int i)=false:=rfl
@[simp] theorem pN(s:Str):isT "list" (.str s)=false:=rfl
@[simp] theorem lC(l:List PyData):isT "list" (.list l)=true:=rfl
@[simp] theorem kO(l:List PyData):isT "list" (.tuple l)=false:=rfl
@[simp] theorem lD(l:List (PyData×PyData)):isT "list" (.dict l)=false:=rfl
@[simp] theorem u5(S:Store)(x:D):Eb S [x,.ty "str"]=(Cv S x).map fun p=>.bl (isT "str" p):=rfl
@[simp] theorem pI:isT "str" (.none)=false:=rfl
@[simp] theorem pL(b:Bool):isT "str" (.bool b)=false:=rfl
@[simp] theorem pq(i:Int):isT "str" (.int i)=false:=rfl
@[simp] theorem pZ(s:Str):isT "str" (.str s)=true:=rfl
@[simp] theorem pJ(l:List PyData):isT "str" (.list l)=false:=rfl
@[simp] theorem kh(l:List PyData):isT "str" (.tuple l)=false:=rfl
@[simp] theorem pK(l:List (PyData×PyData)):isT "str" (.dict l)=false:=rfl
@[simp] theorem u6(S:Store)(x:D):Eb S [x,.tup [.ty "tuple",.ty "list"]]=(Cv S x).bind fun p=>if noDict p=true then some (.bl (isSeq p)) else none:=rfl
@[simp] theorem tR(S:Store)(i:Int):Cv S (.int i)=some (.int i):=by simp[Cv,den,toP]
@[simp] theorem uG(S:Store)(b:Bool):Cv S (.bl b)=some (.bool b):=by simp[Cv,den,toP]
@[simp] theorem tQ(S:Store):Cv S .non=some .none:=by simp[Cv,den,toP]
@[simp] theorem tO(S:Store)(x:Str):Cv S (.str x)=some (.str x):=by simp[Cv,den,toP]
@[simp] theorem rM(S:Store)(p:St2):Cv S (Ax p)=some (pS p):=by rw[Cv,Gd 0 S (Hx (Hy p))];exact WR p
@[simp] theorem rN(S:Store)(b:List St2):Cv S (Gs b)=some (pB b):=by rw[Cv,Gd 0 S (Hx (Jg b))];exact dD b
@[simp] theorem Kz(ns:List Int):Dj (ns.map D.int)=true:=Jh ns fun _ _=>rfl
@[simp] theorem bY(k:Nat)(S:Store)(ns:List Int):Dl k S (ns.map D.int)=some (ns.map D.int):=FW k S (DX (Kz ns))
@[simp] theorem rW(ns:List Int):Bj (ns.map D.int)=ns.map D.int:=Gz (Kz ns)
@[simp] theorem ZX(ns:List Int):BZ (ns.map D.int)=true:=DX (Kz ns)
@[simp] theorem rT(ns:List Int):newL (ns.map D.int)=true:=Mf (Kz ns)
theorem WQ(lo:Int)(n:Nat):upD lo n=((U22 n).map fun(i:Nat)=>lo+(i:Int)).map D.int:=by unfold upD;rw[U09];rfl
@[simp] theorem tZ(k:Nat)(S:Store)(lo:Int)(n:Nat):Dl k S (upD lo n)=some (upD lo n):=by rw[WQ];exact bY ..
@[simp] theorem rR(lo:Int)(n:Nat):BZ (upD lo n)=true:=by rw[WQ];exact ZX _
@[simp] theorem rJ(k:Nat)(S:Store)(bs:List (List St2)):Dl k S (bs.map Gs)=some (bs.map Gs):=FW k S (DX (GZ bs))
@[simp] theorem rK(bs:List (List St2)):Bj (bs.map Gs)=bs.map Gs:=Gz (GZ bs)
@[simp] theorem pY(bs:List (List St2)):BZ (bs.map Gs)=true:=DX (GZ bs)
@[simp] theorem rH(bs:List (List St2)):newL (bs.map Gs)=true:=Mf (GZ bs)
@[simp] theorem qG(bs:List (List St2)):Dj (bs.map Gs)=true:=GZ bs
@[simp] theorem tW(k:Nat)(S:Store)(p:St2):den k S (Ax p)=some (Ax p):=Gd k S (Hx (Hy p))
@[simp] theorem tY(k:Nat)(S:Store)(b:List St2):den k S (Gs b)=some (Gs b):=Gd k S (Hx (Jg b))
@[simp] theorem u9(p:St2):age (Ax p)=Ax p:=RV (Hy p)
@[simp] theorem uE(b:List St2):age (Gs b)=Gs b:=RV (Jg b)
@[simp] theorem rO(p:St2):BK (Ax p)=true:=Hx (Hy p)
@[simp] theorem rQ(b:List St2):BK (Gs b)=true:=Hx (Jg b)
@[simp] theorem tU(p:St2):newD (Ax p)=true:=Ny (Hy p)
@[simp] theorem tV(b:List St2):newD (Gs b)=true:=Ny (Jg b)
@[simp] theorem tX(k:Nat)(S:Store)(m:Bool)(n:Nat)(bs:List (List St2)):den k S (Om m n bs)=some (Om m n bs):=by simp[Om,den,Dl,FW k S (DX (GZ bs))]
@[simp] theorem uD(m:Bool)(n:Nat)(bs:List (List St2)):age (Om m n bs)=Om false n bs:=by simp[Om,age,Bj,Gz (GZ bs)]
@[simp] theorem rP(m:Bool)(n:Nat)(bs:List (List St2)):BK (Om m n bs)=true:=by simp[Om,BK,BZ,DX (GZ bs)]
structure Good(n:Nat)(bs:List (List St2)):Prop where
 ways:n=1∨n=2∨n=3
 most:bs.length<=[0,20,10,6].getD n 0
 box:∀b∈bs,b.length=n/\∀p∈b,p.1<p.2/\-1000000000<=p.1/\p.2<=1000000000
theorem Wd{n d:Nat}{a:Int}(h0:0<=a)(h1:a<=n):HT.sIx n d (some a)=a.toNat:=by
 show(if a<0 then (a+(n:Int)).toNat else min a.toNat n)=a.toNat
 rw[if_neg (by omega)]
 omega
theorem pC{xs:List D}{a:Int}(h0:0<=a)(h1:a<=xs.length):cut xs none (some a)=xs.take a.toNat:=by
 unfold cut
 rw[Wd h0 h1]
 simp[HT.sIx]
theorem Wy{xs:List D}{a:Int}(h0:0<=a)(h1:a<=xs.length):cut xs (some a) none=xs.drop a.toNat:=by
 unfold cut
 rw[Wd h0 h1]
 simp only[HT.sIx]
 rw[U2l]
 simp
def lev:Nat->PyData->Bool
 |_,.none=>true
 |_,.bool _=>true
 |_,.int _=>true
 |k+1,.list xs=>xs.all (lev k)
 |k+1,.tuple xs=>xs.all (lev k)
 |_,_=>false
theorem Tz{k:Nat}(ih:∀d,lev k d=true->U4q d=true/\d.depth<=k):∀xs:List PyData,xs.all (lev k)=true->U59 xs=true/\U4f xs<=k
 |[],_=>⟨by rw[U59],by rw[U4f];omega⟩
 |x::xs,h=>by
  rw[U3p,U0m] at h
  obtain⟨h1,h2⟩:=ih x h.1
  obtain⟨h3,h4⟩:=Tz ih xs h.2
  exact⟨by rw[U59,h1,h3];rfl,by rw[U4f];omega⟩
theorem Vv:∀(k:Nat)(d:PyData),lev k d=true->U4q d=true/\d.depth<=k
 |k,.none,_=>⟨by rw[U4q],by rw[U2z];omega⟩
 |k,.bool _,_=>⟨by rw[U4q],by rw[U2z];omega⟩
 |k,.int _,_=>⟨by rw[U4q],by rw[U2z];omega⟩
 |0,.list _,h=>by simp[lev] at h
 |0,.tuple _,h=>by simp[lev] at h
 |k,.str _,h=>by cases k<;>simp[lev] at h
 |k,.dict _,h=>by cases k<;>simp[lev] at h
 |k+1,.list xs,h=>by
  rw[lev] at h
  obtain⟨h1,h2⟩:=Tz (Vv k) xs h
  exact⟨by rw[U4q];exact h1,by rw[U2z];omega⟩
 |k+1,.tuple xs,h=>by
  rw[lev] at h
  obtain⟨h1,h2⟩:=Tz (Vv k) xs h
  exact⟨by rw[U4q];exact h1,by rw[U2z];omega⟩
theorem O6{k:Nat}{d:PyData}(h:lev k d=true)(hk:k<=60):U2e d=true:=by
 obtain⟨h1,h2⟩:=Vv k d h
 unfold U2e
 rw[h1,U34]
 exact decide_eq_true (by omega)
theorem jm{neg:Bool}{S:Store}{x:D}{m:Bool}{l:List PyData}(k:Nat)(hx:Cv S x=some (.list l))(h:lev k (.list l)=true)(hk:k<=60):eqP neg S x (.lst m [])=some (.bl (neg ^^ l.isEmpty)):=by
 unfold eqP
 have hy:Cv S (.lst m [])=some (.list []):=by simp[Cv,den,Dl,toP,Dt]
 rw[hx,hy]
 simp only[U0a]
 rw[O6 h hk]
 cases l with
 |nil=>rfl
 |cons a r=>rfl
theorem BX{a b:Bm}{env env1:VS.Env}{S S1:Store}(h:a env S=some (.nx,env1,S1)):Bh a b env S=b env1 S1:=by rw[IK,h];rfl
theorem Gv{a b:Bm}{env env1:VS.Env}{S S1:Store}{d:D}(h:a env S=some (.ret d,env1,S1)):Bh a b env S=some (.ret d,env1,S1):=by rw[IK,h];rfl
theorem El{c:Ek}{a b:Bm}{env:VS.Env}{S S1:Store}(h:c env S=some (true,S1)):sIf c a b env S=a env S1:=by rw[N7,h];rfl
theorem G9{c:Ek}{a b:Bm}{env:VS.Env}{S S1:Store}(h:c env S=some (false,S1)):sIf c a b env S=b env S1:=by rw[N7,h];rfl
end VS
end
section
namespace VS
open PySem PySem.Spec L2
end VS
namespace HT
open PySem PySem.Spec PyProof PyProof.Rows
theorem V3(xs:Array Value):slicePick xs none none (some (-1))=xs.toList.reverse.toArray:=by
 have b:sliceBounds none none (some (-1)) xs.size=((xs.size:Int)-1,-1,-1):=by simp[sliceBounds]
 have c:sliceRange ((xs.size:Int)-1) (-1) (-1)=(U22 xs.size).map fun(m:Nat)=>(((xs.size:Int)-1)+(m:Int)*(-1)).toNat:=by
  unfold sliceRange
  simp only[show ¬((-1:Int)>0) by decide,if_false]
  have e:(if (xs.size:Int)-1>-1 then ((xs.size:Int)-1 - -1 - -1-1)/(- -1) else 0).toNat=xs.size:=by
   have e1:(- -1:Int)=1:=rfl
   rw[e1,U70]
   split<;>omega
  rw[e]
  refine List.map_congr_left fun m _=>?_
  congr 1
  omega
 unfold slicePick
 rw[b,c,List.filterMap_map,←Wg]
 rfl
end HT
namespace L2
open PySem PySem.Spec PyProof PyProof.Rows
theorem jA{X:Cx}{e:Expr}{te:TE}{j:Nat}{p0 p1 p2 pos:Pos}(he:PE X e te):PE X (.Subscript e (.Slice none none (some (.UnaryOp .USub (.Constant (.int 1) j p0) p1)) p2) pos)
  (fun σ H Q=>te σ H fun x H1=>∃(a:Addr)(xs:List V),x=.ref a/\((H1 a=some (.tup xs)/\∀p,H1 p=none->Q (.ref p) (upd H1 p (.tup xs.reverse)))∨(SqL X.K H1 a xs/\∀p,H1 p=none->Q (.ref p) (upd H1 p (.lst xs.reverse))))):=by
 intro pins s σ H Q I h
 refine Subscript_ (thn (he pins s σ H _ I h) fun v s1 ⟨x,H1,I1,r1,q1⟩=>?_)
 obtain⟨a,xs,rfl,q⟩:=q1
 cases r1
 refine wpAny_Slice ?_
 rw[evalPart_none]
 refine U0d (U0d ?_)
 rw[evalPart_some]
 refine thn (gF Gu aA pins s1 σ H1 (fun x H2=>x=.int (-1)/\H2=H1) I1 ⟨1,rfl,rfl,rfl⟩) fun u s2 ⟨y,H2,I2,r2,e1,e2⟩=>?_
 subst e1 e2
 obtain⟨t0,rfl⟩:=(show ∃t,u=U6e (-1) t from r2)
 have I4:Inv X pins σ H2 { s2 with heap:=s2.heap.push { cls:=.type "slice",data:=.fields #[.none,.none,.int (-1) t0] } }:=I2.kept (t':=s2.toks) fun b ob q=>U0c _ q
 show wpAny (model X.prog X.w) X.A (subscriptTail e (.Slice none none (some (.UnaryOp .USub (.Constant (.int 1) j p0) p1)) p2) (.ref a) (.ref s2.heap.objs.size)) (EP X pins σ Q) X.xe { s2 with heap:=s2.heap.push { cls:=.type "slice",data:=.fields #[.none,.none,.int (-1) t0] } }
 rcases q with ⟨ha,q⟩|⟨ha,q⟩
 .obtain⟨its,rv,ht,hz⟩:=I4.tuple (SqT.of ha)
  have hlen:=rv.length
  refine tail_any (ops:=[.ref a,.ref s2.heap.objs.size]) ht.typeIs U1s.lookup ?_ (by with_unfolding_all rfl)
  refine HT.au ht (U6s ..) (by rw[U0l,←hlen];exact hz) ?_
  refine⟨.ref _,_,I4.laid (t':=s2.toks) (o:=.tup xs.reverse) (fun b ob q=>U0c _ q) (U0h _) ?_,rfl,q _ (I4.hok.fresh (U0h _))⟩
  exact⟨by rw[U5m];exact hz,its.reverse,rv.reverse,by rw[show its.reverse.toArray=its.toArray.toList.reverse.toArray by simp];exact U6t _ _⟩
 .obtain⟨its,rv,ht,hz⟩:=I4.list ha
  have hlen:=rv.length
  refine tail_any (ops:=[.ref a,.ref s2.heap.objs.size]) ht.isList.typeIs slot_list_getitem.lookup ?_ (by with_unfolding_all rfl)
  refine wpAny_getItem_list_slice ht.isList (U6s ..) .none .none (.int (-1) t0) (by simp) ?_ (by rw[U0l,←hlen];exact hz)
  rw[HT.V3]
  refine⟨.ref _,_,I4.laid (t':=s2.toks) (o:=.lst xs.reverse) (fun b ob q=>U0c _ q) (U0h _) ?_,rfl,q _ (I4.hok.fresh (U0h _))⟩
  exact⟨by rw[U5m];exact hz,its.reverse,0,rv.reverse,by rw[show its.reverse.toArray=its.toArray.toList.reverse.toArray by simp];exact U0r _ rfl⟩
end L2
namespace VS
open PySem PySem.Spec L2
def J5(S:Store):D->Option D
 |.tup ds=>some (.tup ds.reverse)
 |x=>(Fv S x).map fun ds=>.lst true ds.reverse
theorem UG{X:Cx}{e:Expr}{f:Az}{j:Nat}{p0 p1 p2 pos:Pos}(he:JE X e f):JE X (.Subscript e (.Slice none none (some (.UnaryOp .USub (.Constant (.int 1) j p0) p1)) p2) pos) (eUn J5 f) :=
 ⟨PE.imp (jA he.pe) fun σ H Q h=>by
  obtain⟨Γ,μ,env,S,d,S',hK,R,e,q⟩:=h
  obtain⟨⟨x,S1⟩,e1,e⟩:=bind_some e
  obtain⟨z,e3,e⟩:=map_some e
  cases e
  refine⟨Γ,μ,env,S,x,S1,hK,R,e1,fun v1 μ1 H1 x1 R1 r1=>?_⟩
  dsimp only at e3
  unfold J5 at e3
  split at e3
  .cases e3
   cases r1 with
   |@tup p xs _ hp rp =>
    refine⟨p,xs,rfl,.inl ⟨hp,fun t ht=>?_⟩⟩
    obtain⟨R2,x2⟩:=R1.grow (Cd ht (.tup xs.reverse))
    exact q _ μ1 _ (x1.trans x2) R2 (.tup Bv ((rp.reverse).ext x2))
  .rename_i ht
   obtain⟨ds,e4,e5⟩:=map_some e3
   subst e5
   rcases VR.Ve hK R1 r1 e4 with ⟨es,z⟩|⟨a,xs,rfl,hq,rs⟩
   .exact absurd z (ht es)
   .refine⟨a,xs,rfl,.inr ⟨hq,fun t htt=>?_⟩⟩
    obtain⟨R2,x2⟩:=R1.grow (Cd htt (.lst xs.reverse))
    exact q _ μ1 _ (x1.trans x2) R2 (.lst (R1.ok htt true) (R1.dead htt) Bv (rs.reverse.ext x2))⟩
end VS
end
section
set_option maxRecDepth 100000
namespace HT
open PySem PySem.Spec PyProof.Rows
section
variable{prog:Program}{w:World}{A:Around}{E:Value->Shared->Prop}{s:Shared}
variable{z TI TO i1 i2 T:Addr}{fp1 fp2:List Addr}{n1 n2 k:Nat}{P1 P2:Nat->Value->Prop}{S1 S2:Nat->Heap->Prop}{c:Bool}
end
end HT
end
section
namespace L2
open PySem PySem.Spec PyProof.Rows
section
variable{X:Cx}{pins:List (Addr×Obj)}{σ:St}{H:Hp}{s:Shared}
end
section
variable{X:Cx}
end
end L2
end
section
namespace VS
open PySem PySem.Spec L2 PyProof.Rows
def Vc(a b:Az):Az:=fun env S=>(a env S).bind fun p=>(b env p.2).bind fun q=>match q.1 with
 |.int k=>(listOf q.2 p.1).bind fun ds=>if -(2^63)<=k/\k<2^63/\ds.length*k.toNat<=1000000 then some (.ref q.2.length,q.2++[some (U0q k.toNat ds).flatten]) else none
 |_=>none
theorem je{X:Cx}{a b:Expr}{fa fb:Az}{pos:Pos}(ha:JE X a fa)(hb:JE X b fb):JE X (.BinOp a .Mult b pos) (Vc fa fb) :=
 ⟨PE.imp (ZD aC ha.pe hb.pe) fun σ H Q h=>by
  obtain⟨Γ,μ,env,S,d,S',hK,R,e,q⟩:=h
  obtain⟨⟨x,S1⟩,e1,e⟩:=bind_some e
  obtain⟨⟨y,S2⟩,e2,e⟩:=bind_some e
  dsimp only at e
  split at e
  .rename_i k
   obtain⟨ds,e3,e⟩:=bind_some e
   by_cases hl:-(2^63)<=k/\k<2^63/\ds.length*k.toNat<=1000000
   .rw[if_pos hl] at e;cases e
    refine⟨Γ,μ,env,S,x,S1,hK,R,e1,fun v1 μ1 H1 x1 R1 r1=>?_⟩
    refine⟨Γ,μ1,env,S1,.int k,S2,hK,R1,e2,fun v2 μ2 H2 x2 R2 r2=>?_⟩
    cases r2
    obtain⟨p,xs,rfl,hp,rp⟩:=VR.list R2 (r1.ext x2) e3
    refine⟨p,k,xs,rfl,rfl,hp,hl.1,hl.2.1,by rw[rp.length];exact U2d (big hl.2.2),fun t ht=>?_⟩
    obtain⟨R3,x3⟩:=R2.laid ht (rp.rep k.toNat)
    exact q _ _ _ (x1.trans (x2.trans x3)) R3 (Yb R2.slen)
   .rw[if_neg hl] at e;cases e
  .cases e⟩
theorem fM(a b:Az)(env:VS.Env)(S:Store):VS.Vc a b env S=(a env S).bind fun p=>(b env p.2).bind fun q=>match q.1 with
 |.int k=>(listOf q.2 p.1).bind fun ds=>if -(2^63)<=k/\k<2^63/\ds.length*k.toNat<=1000000 then some (.ref q.2.length,q.2++[some (U0q k.toNat ds).flatten]) else none
 |_=>none:=rfl
end VS
end
section
namespace VS
open PySem PySem.Spec L2
end VS
end
section
namespace HT
open PySem PySem.Spec PyProof PyProof.Rows
def half{α:Type}(a:Nat)(l:List α):List α:=(U22 ((l.length+1-a)/2)).filterMap fun k=>l[a+2*k]?
end HT
namespace L2
open PySem PySem.Spec PyProof PyProof.Rows
end L2
end
section
namespace VS
open PySem PySem.Spec L2
def Ol(neg:Bool)(_:Store):D->D->Option D
 |.str a,.str b=>some (.bl (neg ^^ decide (a=b)))
 |_,_=>none
theorem YQ{K:U0b}:Fg K cI (Ol true):=by
 intro Γ μ σ H env S x y dx dy d hK R rx ry e Q q
 unfold Ol at e
 split at e
 .rename_i a b
  cases e;cases rx;cases ry
  refine .inl ⟨rfl,?_⟩
  have:decide (V.str a=V.str b)=decide (a=b):=by simp
  rw[this]
  exact q _ H (Same.refl H) (by simpa using VR.bl (!decide (a=b)))
 .cases e
end VS
end
section
namespace L2
open PySem PySem.Spec PyProof PyProof.Rows
section
variable{X:Cx}
end
end L2
end
section
namespace HT
open PySem PySem.Spec PyProof PyProof.Rows
section
variable{P0:Program}{wd:World}{Ar:Around}{Er:Value->Shared->Prop}{sh:Shared}
variable{J:Addr}{fp wr:List Addr}{n:Nat}{P:Nat->Value->Prop}{St:Nat->Heap->Prop}{Rr:Result->Shared->Prop}{dv:Value}
end
end HT
namespace L2
open PySem PySem.Spec PyProof PyProof.Rows
section
variable{X:Cx}
end
end L2
end
section
namespace VS
open PySem PySem.Spec L2
end VS
end
section
namespace VS
open PySem PySem.Spec L2
end VS
end
section
set_option maxRecDepth 100000
namespace HT
open PySem PySem.Spec PyProof.Rows
section
variable{prog:Program}{w:World}{A:Around}{E:Value->Shared->Prop}{s:Shared}
structure uL(z TI TO i1 i2 i3:Addr)(fp1 fp2 fp3:List Addr):Prop where
 a1:TI≠z
 a2:TO≠z
 a3:TI≠TO
 b1:∀b∈fp1,b≠z/\b≠TO/\b≠i2/\b≠i3
 b2:∀b∈fp2,b≠z/\b≠TO/\b≠i1/\b≠i3
 b3:∀b∈fp3,b≠z/\b≠TO/\b≠i1/\b≠i2
 c1:i1≠z/\i1≠TO/\i1≠TI
 c2:i2≠z/\i2≠TO/\i2≠TI
 c3:i3≠z/\i3≠TO/\i3≠TI
section
variable{z TI TO i1 i2 i3:Addr}{fp1 fp2 fp3:List Addr}{n1 n2 n3 k:Nat}{P1 P2 P3:Nat->Value->Prop}{S1 S2 S3:Nat->Heap->Prop}{a b c:Value}
end
set_option maxHeartbeats 4000000 in
end
end HT
end
section
namespace HT
open PySem PySem.Spec PyProof.Rows
section
variable{prog:Program}{w:World}{A:Around}{E:Value->Shared->Prop}{s:Shared}
end
end HT
namespace L2
open PySem PySem.Spec PyProof.Rows
end L2
end
section
namespace L2
open PySem PySem.Spec PyProof.Rows
section
variable{X:Cx}
end
end L2
end
section
namespace VS
open PySem PySem.Spec L2
section
variable{X:Cx}
end
end VS
end
section
set_option maxRecDepth 100000
namespace L2
open PySem PySem.Spec PyProof.Rows
section
variable{κ:Type}[DecidableEq κ]
end
section
variable{P:Program}{w:World}{H:Hp}{h:Heap}{a:Addr}
end
section
variable{X:Cx}{pins:List (Addr×Obj)}{σ:St}{H:Hp}{s:Shared}{a:Addr}{y v:V}{u r:Value}{o:Option V}{A:Around}{E:Value->Shared->Prop}
end
section
variable{X:Cx}{pins:List (Addr×Obj)}{σ:St}{H:Hp}{s:Shared}{a:Addr}{kvs:List (Key×V)}{k:Key}{u:Value}{A:Around}{E:Value->Shared->Prop}
end
section
variable{X:Cx}{o i e value:Expr}{pos pos' tpos:Pos}{td ty tv:TE}
end
theorem fO{P:Program}{w:World}{H:Hp}(h:Heap)(hb:sysModules<h.objs.size):Dc P w H (h.push { cls:=.type "dict",data:=.dict #[] }) h.objs.size (.dK []) :=
 ⟨U2w _,beq_eq_false_iff_ne.mpr (U2g (U05 hb)),[],.nil,Heap.DictOf.new h⟩
def mz:TE:=fun _ H Q=>∀p,H p=none->Q (.ref p) (upd H p (.dK []))
section
variable{X:Cx}{pos:Pos}
theorem dz:PE X (.Dict [] [] pos) mz:=fun pins s σ H Q I h =>
 wpAny_Dict_empty ⟨.ref s.heap.objs.size,_,I.laid (a:=s.heap.objs.size) (o:=.dK []) (t':=s.toks) (fun _ _ q=>U0c _ q) (U0h _) (fO s.heap I.big),rfl,h _ (I.hok.fresh (U0h _))⟩
end
structure M1(X:Cx)(o:Expr)(m:Str)(apos:Pos)(e:Expr)(cpos:Pos):Prop where
 base:attributeBase o m X.env (eval o X.env)=eval o X.env
 few:((backTo cpos (starEach [e] X.env)).all (fun x=>!x.1)&&(backToKw cpos (keywordEach [] X.env)).all (fun x=>x.1.isSome)
  && decide (([e]:List Expr).length+([]:List Keyword).length+(if ([]:List Keyword).isEmpty then 0 else 1)<30))=true
 line:(apos.endLine==cpos.line)=true
 trees:backTo cpos (starEach [e] X.env)=[(false,eval e X.env)]
structure M2(X:Cx)(o:Expr)(m:Str)(apos:Pos)(e f:Expr)(cpos:Pos):Prop where
 base:attributeBase o m X.env (eval o X.env)=eval o X.env
 few:((backTo cpos (starEach [e,f] X.env)).all (fun x=>!x.1)&&(backToKw cpos (keywordEach [] X.env)).all (fun x=>x.1.isSome)
  && decide (([e,f]:List Expr).length+([]:List Keyword).length+(if ([]:List Keyword).isEmpty then 0 else 1)<30))=true
 line:(apos.endLine==cpos.line)=true
 trees:backTo cpos (starEach [e,f] X.env)=[(false,eval e X.env),(false,eval f X.env)]
section
variable{X:Cx}{pins:List (Addr×Obj)}{σ:St}{H:Hp}{s:Shared}{a:Addr}{y d:V}{u r:Value}{o:Option V}{A:Around}{E:Value->Shared->Prop}
end
section
variable{X:Cx}{o e f:Expr}{apos cpos:Pos}{td ty tx:TE}
end
section
variable{X:Cx}{pins:List (Addr×Obj)}{σ:St}{H:Hp}{s:Shared}{a:Addr}{kvs:List (Key×V)}{A:Around}{E:Value->Shared->Prop}
end
section
variable{X:Cx}{pins:List (Addr×Obj)}{σ:St}{H:Hp}{s:Shared}{a:Addr}{y:V}{u:Value}{A:Around}{E:Value->Shared->Prop}
end
section
variable{X:Cx}
end
section
variable{κ:Type}[DecidableEq κ]
end
end L2
end
section
namespace VS
open PySem PySem.Spec L2
section
variable{Γ:Fr}{μ:Mu}{σ:St}{H:Hp}{env:Env}{S:Store}{v:V}{d:D}
end
section
variable{X:Cx}{o i e f value:Expr}{pos pos' apos cpos:Pos}{fo fi fe fv ft:Az}
theorem oX:JE X (.Dict [] [] pos) (eC .emp):=⟨PE.imp dz fun σ H Q w=>by
 obtain⟨Γ,μ,env,S,d,S',hK,R,e,q⟩:=w
 cases e
 intro p hp
 obtain⟨R2,x2⟩:=R.grow (Cd hp (.dK []))
 exact q _ _ _ x2 R2 (.emp (R.ok hp false) (R.dead hp) Bv)⟩
end
end VS
end
section
namespace SetP
open PySem PySem.Spec PyProof.Rows
section
variable{prog:Program}{w:World}{K:Type}[DecidableEq K]{knd:KeyKind prog w K}{A:Around}{E:Value->Shared->Prop}{s:Shared}
end
end SetP
namespace L2
open PySem PySem.Spec PyProof.Rows
variable{X:Cx}
end L2
end
section
namespace VS
open PySem PySem.Spec L2
end VS
end
section
set_option maxRecDepth 100000
namespace HT
open PySem PySem.Spec PyProof.Rows
section
variable{prog:Program}{w:World}{K:Type}[DecidableEq K]{knd:KeyKind prog w K}{A:Around}{E:Value->Shared->Prop}{s:Shared}
end
end HT
namespace L2
open PySem PySem.Spec PyProof.Rows
section
variable{X:Cx}{o:Expr}{td:TE}{p pos apos cpos:Pos}
end
end L2
end
section
namespace VS
open PySem PySem.Spec L2
end VS
end
section
namespace Tm
open PySem PyProof.Rows
def Yo:Bool->Keyed->Array Keyed->Nat->Nat->Nat->StateT SortSt Sem (Option Nat):=sortPriv% PySem.Builtin.gallop
def kv(p:Keyed):Int:=numOf p.1
def IsI(p:Keyed):Prop:=∃n t q,p=(.int n t,q)
def JX(xs:Array Keyed):Prop:=∀p∈xs.toList,IsI p
theorem JX.get{xs:Array Keyed}(h:JX xs){i:Nat}(hi:i<xs.size):IsI xs[i]/\kv xs[i]=K xs i:=by
 refine⟨h _ (by simp),?_⟩
 unfold K
 rw[getElem?_pos xs i hi];rfl
section
variable{prog:Program}{w:World}{A:Around}{E:Value->Shared->Prop}{s:Shared}
theorem Ot{st:SortSt}{x y:Keyed}{Q:Option Bool->SortSt->Prop}(hx:IsI x)(hy:IsI y)(hk:kindOf st=oneType')(h:Q (some (decide (kv x<kv y))) st) :
  wpS (model prog w) A E s (lt' x y) Q st:=by
 obtain⟨a,t,p,rfl⟩:=hx
 obtain⟨b,u,q,rfl⟩:=hy
 rw[lt'_eq]
 refine wpS_bind (wpS_get ?_)
 rw[hk,keyLt'_oneType]
 refine wpS_bind (wpS_lift (U6b (oneLt_int ⟨rfl,?_⟩)))
 exact wpS_pure h
theorem Cq{xs:Array Keyed}{i:Nat}{Q:Keyed->SortSt->Prop}{st:SortSt}(hi:i<xs.size)(h:Q xs[i] st):wpS (model prog w) A E s (elem' xs i) Q st:=by
 rw[elem'_eq,getElem?_pos xs i hi]
 exact wpS_pure h
def bey(left:Bool)(k x:Int):Bool:=if left then decide (x<k) else !decide (k<x)
theorem NT{left:Bool}{key:Keyed}{arr:Array Keyed}{j:Nat}{Q:Option Bool->SortSt->Prop}{st:SortSt}(hk:kindOf st=oneType')(hkey:IsI key)(hI:JX arr)(hj:j<arr.size)(h:Q (some (bey left (kv key) (K arr j))) st) :
  wpS (model prog w) A E s (elem' arr j >>= fun x=>if left=true then lt' x key else lt' key x >>= fun y=>pure (U06 (fun z=>!z) y)) Q st:=by
 obtain⟨g1,g2⟩:=hI.get hj
 refine wpS_bind (Cq hj ?_)
 cases left with
 |true =>
  rw[if_pos rfl]
  refine Ot g1 hkey hk ?_
  rw[g2];exact h
 |false =>
  rw[if_neg (by decide)]
  refine wpS_bind (Ot hkey g1 hk (wpS_pure ?_))
  rw[g2];exact h
theorem Ig{left:Bool}{key:Keyed}{arr:Array Keyed}{base n hint:Nat}{Q:Option Nat->SortSt->Prop}{st:SortSt}(hk:kindOf st=oneType')(hkey:IsI key)(hI:JX arr)(hb:base+n<=arr.size)(hh:hint<n)
  (hm:∀i j,i<=j->j<n->bey left (kv key) (K arr (base+j))=true->bey left (kv key) (K arr (base+i))=true)
  (h:∀k,k<=n->(∀i,i<k->bey left (kv key) (K arr (base+i))=true)->(∀i,k<=i->i<n->bey left (kv key) (K arr (base+i))=false)->Q (some k) st) :
  wpS (model prog w) A E s (Yo left key arr base n hint) Q st:=by
 have hm':∀i j,i<=j->j<n->bey left (kv key) (K arr (base+i))=false->bey left (kv key) (K arr (base+j))=false:=fun i j h1 h2 h3=>by
  cases e:bey left (kv key) (K arr (base+j)) with
  |false=>rfl
  |true=>rw[hm i j h1 h2 e] at h3;cases h3
 have fin:∀(f:Nat->Option (Option Nat)×Nat×Nat->StateT SortSt Sem (ForInStep (Option (Option Nat)×Nat×Nat)))(R:Option (Option Nat)×Nat×Nat->SortSt->Prop)(lo hi:Nat),lo<=hi->hi<=n->(∀i,i<lo->bey left (kv key) (K arr (base+i))=true)->(∀i,hi<=i->i<n->bey left (kv key) (K arr (base+i))=false) ->
   (∀x lo hi,lo≥hi->f x (none,lo,hi)=pure (ForInStep.done (none,lo,hi))) ->
   (∀x lo hi Q',lo<hi->hi<=n->Q' (U4e (if bey left (kv key) (K arr (base+(lo+(hi-lo)/2)))=true then (none,lo+(hi-lo)/2+1,hi) else (none,lo,lo+(hi-lo)/2))) st->wpS (model prog w) A E s (f x (none,lo,hi)) Q' st) ->
   (∀lo k,Q (some k) st->R (none,lo,k) st)->wpS (model prog w) A E s (forIn [0:n] (none,lo,hi) f) R st:=fun f R lo hi h1 h2 h3 h4 f1 f2 f3=>by
  refine wpS_forRange (I:=fun x c st'=>st'=st/\∃lo hi,c=(none,lo,hi)/\lo<=hi/\hi<=n/\hi-lo<=n-x/\(∀i,i<lo->bey left (kv key) (K arr (base+i))=true)/\(∀i,hi<=i->i<n->bey left (kv key) (K arr (base+i))=false)) ?step ?fin ⟨rfl,lo,hi,rfl,h1,h2,by omega,h3,h4⟩
  case fin =>
   rintro c st' ⟨rfl,lo,hi,rfl,h1,h2,h5,h3,h4⟩
   have:lo=hi:=by omega
   subst this
   exact f3 lo lo (h lo h2 h3 h4)
  case step =>
   rintro x c st' _ hx ⟨rfl,lo,hi,rfl,h1,h2,h5,h3,h4⟩
   by_cases hge:lo≥hi
   .rw[f1 x lo hi hge]
    have:lo=hi:=by omega
    subst this
    exact wpS_pure (f3 lo lo (h lo h2 h3 h4))
   .refine f2 x lo hi _ (by omega) h2 ?_
    cases e:bey left (kv key) (K arr (base+(lo+(hi-lo)/2))) with
    |true=>exact⟨rfl,lo+(hi-lo)/2+1,hi,rfl,by omega,h2,by omega,fun i hi'=>hm i (lo+(hi-lo)/2) (by omega) (by omega) e,h4⟩
    |false=>exact⟨rfl,lo,lo+(hi-lo)/2,rfl,by omega,by omega,by omega,h3,fun i h6 h7=>hm' (lo+(hi-lo)/2) i h6 h7 e⟩
 unfold Yo
 refine wpS_bind (NT hk hkey hI (by omega) ?_)
 cases e:bey left (kv key) (K arr (base+hint)) with
 |true =>
  refine wpS_bind (wpS_mono (wpS_forRange (I:=fun x c st'=>st'=st/\∃l o,c=(none,l,o)/\l<o/\hint+l<n/\x+1<=o/\bey left (kv key) (K arr (base+(hint+l)))=true)
   (Q:=fun c st'=>st'=st/\∃l o,c=(none,l,o)/\l<o/\hint+l<n/\bey left (kv key) (K arr (base+(hint+l)))=true/\(n-hint<=o∨(o<n-hint/\bey left (kv key) (K arr (base+(hint+o)))=false))) ?step ?fin ⟨rfl,0,1,rfl,by omega,by omega,by omega,e⟩) ?post)
  case fin =>
   rintro c st' ⟨rfl,l,o,rfl,h1,h2,h3,h4⟩
   exact⟨rfl,l,o,rfl,h1,h2,h4,.inl (by omega)⟩
  case step =>
   rintro x c st' _ hx ⟨rfl,l,o,rfl,h1,h2,h3,h4⟩
   dsimp only
   by_cases hge:o≥n-hint
   .rw[if_pos hge]
    exact wpS_pure ⟨rfl,l,o,rfl,h1,h2,h4,.inl hge⟩
   .rw[if_neg hge]
    refine wpS_bind (NT hk hkey hI (by omega) ?_)
    cases e2:bey left (kv key) (K arr (base+(hint+o))) with
    |true=>exact wpS_pure ⟨rfl,o,2*o+1,rfl,by omega,by omega,by omega,e2⟩
    |false=>exact wpS_pure ⟨rfl,l,o,rfl,h1,h2,h4,.inr ⟨by omega,e2⟩⟩
  case post =>
   rintro c st' ⟨rfl,l,o,rfl,h1,h2,h4,h5⟩
   refine wpS_bind (fin _ _ (hint+l+1) (hint+min o (n-hint)) (by omega) (by omega) (fun i hi=>hm i (hint+l) (by omega) h2 h4) (fun i h6 h7=>by
    rcases h5 with z|⟨z1,z2⟩
    .omega
    .exact hm' (hint+o) i (by omega) h7 z2) (fun x lo hi hge=>if_pos hge) (fun x lo hi Q' hlt hle hq=>?_) fun lo k hq=>wpS_pure hq)
   dsimp only
   rw[if_neg (by omega)]
   refine wpS_bind (NT hk hkey hI (by omega) ?_)
   cases e2:bey left (kv key) (K arr (base+(lo+(hi-lo)/2)))<;>(rw[e2] at hq;exact wpS_pure hq)
 |false =>
  refine wpS_bind (wpS_mono (wpS_forRange (I:=fun x c st'=>st'=st/\∃l o,c=(none,l,o)/\l<o/\l<=hint/\x+1<=o/\bey left (kv key) (K arr (base+(hint-l)))=false)
   (Q:=fun c st'=>st'=st/\∃l o,c=(none,l,o)/\l<o/\l<=hint/\bey left (kv key) (K arr (base+(hint-l)))=false/\(hint+1<=o∨(o<=hint/\bey left (kv key) (K arr (base+(hint-o)))=true))) ?step ?fin ⟨rfl,0,1,rfl,by omega,by omega,by omega,e⟩) ?post)
  case fin =>
   rintro c st' ⟨rfl,l,o,rfl,h1,h2,h3,h4⟩
   exact⟨rfl,l,o,rfl,h1,h2,h4,.inl (by omega)⟩
  case step =>
   rintro x c st' _ hx ⟨rfl,l,o,rfl,h1,h2,h3,h4⟩
   dsimp only
   by_cases hge:o≥hint+1
   .rw[if_pos hge]
    exact wpS_pure ⟨rfl,l,o,rfl,h1,h2,h4,.inl hge⟩
   .rw[if_neg hge]
    refine wpS_bind (NT hk hkey hI (by omega) ?_)
    cases e2:bey left (kv key) (K arr (base+(hint-o))) with
    |false=>exact wpS_pure ⟨rfl,o,2*o+1,rfl,by omega,by omega,by omega,e2⟩
    |true=>exact wpS_pure ⟨rfl,l,o,rfl,h1,h2,h4,.inr ⟨by omega,e2⟩⟩
  case post =>
   rintro c st' ⟨rfl,l,o,rfl,h1,h2,h4,h5⟩
   refine wpS_bind (fin _ _ (hint+1-min o (hint+1)) (hint-l) (by omega) (by omega) (fun i hi=>by
    rcases h5 with z|⟨z1,z2⟩
    .omega
    .exact hm i (hint-o) (by omega) (by omega) z2) (fun i h6 h7=>hm' (hint-l) i h6 h7 h4) (fun x lo hi hge=>if_pos hge) (fun x lo hi Q' hlt hle hq=>?_) fun lo k hq=>wpS_pure hq)
   dsimp only
   rw[if_neg (by omega)]
   refine wpS_bind (NT hk hkey hI (by omega) ?_)
   cases e2:bey left (kv key) (K arr (base+(lo+(hi-lo)/2)))<;>(rw[e2] at hq;exact wpS_pure hq)
end
end Tm
end
section
namespace Tm
open PySem PyProof.Rows
def Wm:Array Keyed->Array Keyed->StateT SortSt Sem (Array Keyed):=sortPriv% PySem.Builtin.mergeLo
def srt(l:List Keyed):Prop:=l.Pairwise fun p q=>kv p<=kv q
theorem Lq{a:Array Keyed}{i:Nat}(hi:i<a.size):kv a[i]=K a i:=by
 unfold K
 rw[getElem?_pos a i hi];rfl
theorem RP{a:Array Keyed}{n:Nat}{p:Keyed}(h:p∈a.toList.drop n):∃i,n<=i/\i<a.size/\kv p=K a i:=by
 obtain⟨j,hj,rfl⟩:=U5n h
 rw[U1w,U0f] at hj
 refine⟨n+j,by omega,by omega,?_⟩
 rw[List.getElem_drop,U3y]
 exact Lq _
theorem Wo{a:Array Keyed}{n k:Nat}{p:Keyed}(h:p∈(a.toList.drop n).take k):∃i,n<=i/\i<n+k/\i<a.size/\kv p=K a i:=by
 obtain⟨j,hj,rfl⟩:=U5n h
 rw[U1l,U1w,U0f] at hj
 refine⟨n+j,by omega,by omega,by omega,?_⟩
 rw[List.getElem_take,List.getElem_drop,U3y]
 exact Lq _
structure ML(a b out:Array Keyed)(ia ib:Nat):Prop where
 perm:out.toList.Perm (a.toList.take ia++b.toList.take ib)
 sa:srt (out.toList++a.toList.drop ia)
 sb:srt (out.toList++b.toList.drop ib)
theorem chunk{out x r y:List Keyed}(h1:srt (out++(x++r)))(h2:srt (out++y))(h3:∀p∈x,∀q∈y,kv p<=kv q):srt (out++x++r)/\srt (out++x++y):=by
 unfold srt at *
 refine⟨by rw[U0x];exact h1,?_⟩
 obtain⟨o1,o2,o3⟩:=U1d.mp h1
 obtain⟨x1,x2,x3⟩:=U1d.mp o2
 obtain⟨p1,p2,p3⟩:=U1d.mp h2
 refine U1d.mpr ⟨U1d.mpr ⟨o1,x1,fun p hp q hq=>o3 p hp q (U2y _ hq)⟩,p2,fun p hp q hq=>?_⟩
 rcases U1h.mp hp with z|z
 .exact p3 p z q hq
 .exact h3 p z q hq
theorem ML.K7{a b out out':Array Keyed}{ia ib:Nat}(h:ML a b out ia ib)(k:Nat)(ho:out'.toList=out.toList++(a.toList.drop ia).take k)(hle:∀i j,ia<=i->i<ia+k->i<a.size->ib<=j->j<b.size->K a i<=K b j):ML a b out' (ia+k) ib:=by
 have e:(a.toList.drop ia).take k++a.toList.drop (ia+k)=a.toList.drop ia:=by rw[←U49];exact U1u ..
 obtain⟨c1,c2⟩:=chunk (x:=(a.toList.drop ia).take k) (r:=a.toList.drop (ia+k)) (by rw[e];exact h.sa) h.sb fun p hp q hq=>by
  obtain⟨i,i1,i2,i3,i4⟩:=Wo hp
  obtain⟨j,j1,j2,j3⟩:=RP hq
  rw[i4,j3]
  exact hle i j i1 i2 i3 j1 j2
 refine⟨?_,by rw[ho];exact c1,by rw[ho];exact c2⟩
 rw[ho,List.take_add]
 refine(h.perm.append_right _).trans ?_
 rw[U0x,U0x]
 exact U12 _ U13
theorem ML.swap{a b out:Array Keyed}{ia ib:Nat}(h:ML a b out ia ib):ML b a out ib ia:=⟨h.perm.trans U13,h.sb,h.sa⟩
theorem ML.M9{a b out out':Array Keyed}{ia ib:Nat}(h:ML a b out ia ib)(k:Nat)(ho:out'.toList=out.toList++(b.toList.drop ib).take k)(hle:∀i j,ib<=i->i<ib+k->i<b.size->ia<=j->j<a.size->K b i<=K a j):ML a b out' ia (ib+k):=(h.swap.K7 k ho hle).swap
theorem Jf{a out:Array Keyed}{i:Nat}(hi:i<a.size):(out.push a[i]).toList=out.toList++(a.toList.drop i).take 1:=by
 have:(a.toList.drop i).take 1=[a[i]]:=by
  rw[U24 (by rw[U0f];exact hi)];rfl
 rw[this];simp
theorem RW{a out:Array Keyed}{i k:Nat}:(out++a.extract i (i+k)).toList=out.toList++(a.toList.drop i).take k:=by
 rw[U10,U3z,U25,U52]
theorem Wv(a out:Array Keyed)(i:Nat):out++a.extract i (i+0)=out:=Array.toList_inj.mp (by rw[RW,List.take_zero,U1n])
theorem Ld(a:Array Keyed)(i:Nat):(a.extract i a.size).toList=a.toList.drop i:=by
 rw[U3z,U25,U2l (by rw[U1w,U0f];omega)]
theorem Nz(a:Array Keyed):a.toList.drop a.size=[]:=List.drop_eq_nil_of_le (by rw[U0f];exact U0h _)
theorem ML.gK{a b out r:Array Keyed}{ia ib:Nat}(h:ML a b out ia ib)(hb:ib=b.size)(hr:r.toList=out.toList++a.toList.drop ia):r.toList.Perm (a.toList++b.toList)/\srt r.toList:=by
 refine⟨?_,by rw[hr];exact h.sa⟩
 have e:b.toList.take ib=b.toList:=U2l (by rw[U0f];omega)
 have p:=h.perm
 rw[e] at p
 rw[hr]
 refine(p.append_right _).trans ?_
 rw[U0x]
 refine(U12 _ U13).trans ?_
 rw[←U0x,U1u]
theorem ML.qw{a b out r:Array Keyed}{ia ib:Nat}(h:ML a b out ia ib)(ha:ia+1=a.size)(hmax:∀j,j<b.size->K b j<=K a (a.size-1))(hr:r.toList=out.toList++b.toList.drop ib++a.toList.drop ia):r.toList.Perm (a.toList++b.toList)/\srt r.toList:=by
 constructor
 .rw[hr,U0x]
  refine(h.perm.append_right _).trans ?_
  have e1:=U1u ia a.toList
  have e2:=U1u ib b.toList
  generalize a.toList.take ia=x at *
  generalize a.toList.drop ia=x' at *
  generalize b.toList.take ib=y at *
  generalize b.toList.drop ib=y' at *
  rw[←e1,←e2,U0x,U0x]
  refine U12 _ ?_
  rw[←U0x]
  exact U13
 .rw[hr]
  have sa:=h.sa
  unfold srt at *
  obtain⟨_,a2,a3⟩:=U1d.mp sa
  refine U1d.mpr ⟨h.sb,a2,fun p hp q hq=>?_⟩
  obtain⟨i,i1,i2,i3⟩:=RP hq
  have:i=a.size-1:=by omega
  subst this
  rcases U1h.mp hp with z|z
  .exact a3 p z q hq
  .obtain⟨j,j1,j2,j3⟩:=RP z
   rw[i3,j3]
   exact hmax j j2
theorem Kv{a:Array Keyed}(h:SortedTo a a.size):srt a.toList:=by
 unfold srt
 rw[U3t]
 intro i j hi hj hij
 rw[U0f] at hi hj
 rw[U3y,U3y,Lq,Lq]
 exact h i j (by omega) hj
structure EqG(st st':SortSt):Prop where
 kind:kindOf st'=kindOf st
 arr:arrOf st'=arrOf st
 pend:pendingOf st'=pendingOf st
 failed:failedOf st'=failedOf st
theorem EqG.refl(st:SortSt):EqG st st:=⟨rfl,rfl,rfl,rfl⟩
section
variable{prog:Program}{w:World}{A:Around}{E:Value->Shared->Prop}{s:Shared}
theorem CQ{σ α:Type}{M:Model}{c:Prop}[Decidable c]{x y:StateT σ Sem α}{Q:α->σ->Prop}{st:σ}(hx:c->wpS M A E s x Q st)(hy:¬c->wpS M A E s y Q st):wpS M A E s (if c then x else y) Q st:=by
 by_cases h:c
 .rw[if_pos h];exact hx h
 .rw[if_neg h];exact hy h
theorem Xe{a b:Array Keyed}{Q:Array Keyed->SortSt->Prop}{st:SortSt}(hk:kindOf st=oneType')(Ia:JX a)(Ib:JX b)(Sa:SortedTo a a.size)(Sb:SortedTo b b.size)(na:0<a.size)(nb:0<b.size)
  (hmin:∀i,i<a.size->K b 0<=K a i) (hmax:∀j,j<b.size->K b j<=K a (a.size-1))
  (h:∀r st',EqG st st'->r.toList.Perm (a.toList++b.toList)->srt r.toList->Q r st'):wpS (model prog w) A E s (Wm a b) Q st:=by
 have kL:∀out ia ib r,ML a b out ia ib->ib=b.size->r=out++a.extract ia a.size++b.extract ib b.size->r.toList.Perm (a.toList++b.toList)/\srt r.toList:=fun out ia ib r m e hr=>m.gK e (by
  rw[hr,e,U10,U10,Ld,Ld,Nz,U1n])
 have kR:∀out ia ib r,ML a b out ia ib->ia=a.size->r=out++a.extract ia a.size++b.extract ib b.size->r.toList.Perm (a.toList++b.toList)/\srt r.toList:=fun out ia ib r m e hr=>by
  obtain⟨q1,q2⟩:=m.swap.gK (r:=r) e (by rw[hr,e,U10,U10,Ld,Ld,Nz,U1n])
  exact⟨q1.trans U13,q2⟩
 have kM:∀out ia ib r,ML a b out ia ib->ia+1=a.size->r=out++b.extract ib b.size++a.extract ia a.size->r.toList.Perm (a.toList++b.toList)/\srt r.toList:=fun out ia ib r m e hr=>m.qw e hmax (by
  rw[hr,U10,U10,Ld,Ld])
 have m0:ML a b #[b[0]] 0 1:=by
  have:ML a b #[] 0 0:=⟨by simp,by
   show srt a.toList
   exact Kv Sa,by
   show srt b.toList
   exact Kv Sb⟩
  refine this.M9 (out':=#[b[0]]) 1 (Jf (out:=#[]) nb) fun i j h1 h2 h3 h4 h5=>?_
  have:i=0:=by omega
  subst this
  exact hmin j h5
 unfold Wm
 refine wpS_bind (wpS_lift (U3 ⟨rfl,?_⟩))
 refine wpS_bind (Cq nb ?_)
 dsimp only
 by_cases e1:1=b.size
 .rw[if_pos (by simpa using e1)]
  obtain⟨q1,q2⟩:=kL _ _ _ _ m0 e1 rfl
  exact wpS_pure (h _ _ (EqG.refl st) q1 q2)
 rw[if_neg (by simpa using e1)]
 by_cases e2:0+1=a.size
 .rw[if_pos (by simpa using e2)]
  obtain⟨q1,q2⟩:=kM _ _ _ _ m0 e2 rfl
  exact wpS_pure (h _ _ (EqG.refl st) q1 q2)
 rw[if_neg (by simpa using e2)]
 refine wpS_bind (wpS_get ?_)
 refine wpS_bind (wpS_mono (wpS_forRange
  (I:=fun x c st'=>EqG st st'/\∃out ia ib g,c=(none,out,ia,ib,g)/\ML a b out ia ib/\ia+1<a.size/\ib<b.size/\x<=ia+ib)
  (Q:=fun c st'=>EqG st st'/\∃r y,c=(some r,y)/\r.toList.Perm (a.toList++b.toList)/\srt r.toList) ?step ?fin ⟨EqG.refl st,_,0,1,_,rfl,m0,by omega,by omega,by omega⟩) ?post)
 case fin =>
  rintro c st' ⟨_,out,ia,ib,g,rfl,_,h1,h2,h3⟩
  omega
 case post =>
  rintro c st' ⟨hE,r,y,rfl,q1,q2⟩
  exact wpS_pure (h r st' hE q1 q2)
 case step =>
  rintro x c st1 _ hx ⟨hE,out,ia,ib,g,rfl,m,h1,h2,h3⟩
  dsimp only
  refine wpS_bind (wpS_mono (wpS_forRange
   (I:=fun y c st'=>EqG st st'/\∃out ia' ib' ac bc,c=(none,out,ia',ib',ac,bc)/\ML a b out ia' ib'/\ia'+1<a.size/\ib'<b.size/\ia+ib+y<=ia'+ib')
   (Q:=fun c st'=>EqG st st'/\((∃r y,c=(some r,y)/\r.toList.Perm (a.toList++b.toList)/\srt r.toList)∨∃out ia' ib' ac bc,c=(none,out,ia',ib',ac,bc)/\ML a b out ia' ib'/\ia'+1<a.size/\ib'<b.size/\ia+ib+1<=ia'+ib')) ?step1 ?fin1 ⟨hE,out,ia,ib,0,0,rfl,m,h1,h2,by omega⟩) ?post1)
  case fin1 =>
   rintro c st' ⟨_,out,ia',ib',ac,bc,rfl,_,h4,h5,h6⟩
   omega
  case step1 =>
   rintro y c st' _ hy ⟨hE',out',ia',ib',ac,bc,rfl,m',h4,h5,h6⟩
   dsimp only
   have gb:=Ib.get h5
   have ga:=Ia.get (show ia'<a.size by omega)
   refine wpS_bind (Cq h5 (wpS_bind (Cq (show ia'<a.size by omega) (wpS_bind (Ot gb.1 ga.1 (hE'.kind.trans hk) ?_)))))
   rw[gb.2,ga.2]
   by_cases hw:K b ib'<K a ia'
   .simp only[hw,decide_true,if_true]
    refine wpS_bind (Cq h5 ?_)
    have m2:ML a b (out'.push b[ib']) ia' (ib'+1):=m'.M9 1 (Jf h5) fun i j i1 i2 i3 j1 j2=>by
     have:i=ib':=by omega
     subst this
     have:=Sa ia' j j1 j2
     omega
    by_cases e3:ib'+1=b.size
    .rw[if_pos (by simpa using e3)]
     exact wpS_pure ⟨hE',.inl ⟨_,_,rfl,kL _ _ _ _ m2 e3 rfl⟩⟩
    .rw[if_neg (by simpa using e3)]
     by_cases e4:bc+1≥g
     .rw[if_pos e4]
      exact wpS_pure ⟨hE',.inr ⟨_,_,_,_,_,rfl,m2,h4,by omega,by omega⟩⟩
     .rw[if_neg e4]
      exact wpS_pure ⟨hE',_,_,_,_,_,rfl,m2,h4,by omega,by omega⟩
   .simp only[hw,decide_false,U0w,if_false]
    refine wpS_bind (Cq (show ia'<a.size by omega) ?_)
    have m2:ML a b (out'.push a[ia']) (ia'+1) ib':=m'.K7 1 (Jf (show ia'<a.size by omega)) fun i j i1 i2 i3 j1 j2=>by
     have:i=ia':=by omega
     subst this
     have:=Sb ib' j j1 j2
     omega
    by_cases e3:ia'+1+1=a.size
    .rw[if_pos (by simpa using e3)]
     exact wpS_pure ⟨hE',.inl ⟨_,_,rfl,kM _ _ _ _ m2 e3 rfl⟩⟩
    .rw[if_neg (by simpa using e3)]
     by_cases e4:ac+1≥g
     .rw[if_pos e4]
      exact wpS_pure ⟨hE',.inr ⟨_,_,_,_,_,rfl,m2,by omega,h5,by omega⟩⟩
     .rw[if_neg e4]
      exact wpS_pure ⟨hE',_,_,_,_,_,rfl,m2,by omega,h5,by omega⟩
  case post1 =>
   rintro c st' ⟨hE',⟨r,y,rfl,q⟩|⟨out',ia',ib',ac,bc,rfl,m',h4,h5,h6⟩⟩
   .exact wpS_pure ⟨hE',r,_,rfl,q⟩
   .dsimp only
    refine wpS_bind (wpS_lift (U3 ⟨rfl,?_⟩))
    refine wpS_bind (wpS_mono (wpS_forRange
     (I:=fun y c st'=>EqG st st'/\∃out ia ib g ac bc,c=(none,out,ia,ib,g,ac,bc)/\ML a b out ia ib/\ia+1<a.size/\ib<b.size/\ia'+ib'+y<=ia+ib)
     (Q:=fun c st'=>EqG st st'/\((∃r y,c=(some r,y)/\r.toList.Perm (a.toList++b.toList)/\srt r.toList)∨∃out ia ib g ac bc,c=(none,out,ia,ib,g,ac,bc)/\ML a b out ia ib/\ia+1<a.size/\ib<b.size/\ia'+ib'<=ia+ib)) ?step2 ?fin2 ⟨hE',out',ia',ib',_,ac,bc,rfl,m',h4,h5,by omega⟩) ?post2)
    case fin2 =>
     rintro c st' ⟨_,out,ia,ib,g,ac,bc,rfl,_,h7,h8,h9⟩
     omega
    case post2 =>
     rintro c st' ⟨hE2,⟨r,y,rfl,q⟩|⟨out,ia2,ib2,g2,ac,bc,rfl,m2,h7,h8,h9⟩⟩
     .exact wpS_pure ⟨hE2,r,_,rfl,q⟩
     .dsimp only
      refine wpS_bind (wpS_modify (wpS_pure ⟨⟨hE2.kind,hE2.arr,hE2.pend,hE2.failed⟩,_,_,_,_,rfl,m2,h7,h8,by omega⟩))
    case step2 =>
     rintro y c st2 _ hy ⟨hE2,out2,ia2,ib2,g2,ac2,bc2,rfl,m2,h7,h8,h9⟩
     refine CQ (fun _=>?_) (fun _=>?_)
     all_goals
      refine wpS_bind (wpS_modify ?_)
      refine wpS_bind (Cq h8 ?_)
      have gb:=Ib.get h8
      have hE3:∀g,EqG st (SortSt.mk' (kindOf st2) (arrOf st2) (pendingOf st2) g (failedOf st2)):=fun g=>⟨hE2.kind,hE2.arr,hE2.pend,hE2.failed⟩
      refine wpS_bind (Ig (base:=ia2) (n:=a.size-ia2) (hint:=0) (hE2.kind.trans hk) gb.1 Ia (by omega) (by omega) (fun i j i1 i2 i3=>?_) fun k k1 k2 k3=>?_)
      .unfold bey at *
       have:=Sa (ia2+i) (ia2+j) (by omega) (by omega)
       simp at i3 ⊢
       omega
      have k2':∀i,ia2<=i->i<ia2+k->K a i<=K b ib2:=fun i i1 i2=>by
       have:=k2 (i-ia2) (by omega)
       rw[show ia2+(i-ia2)=i by omega,gb.2] at this
       unfold bey at this
       simp at this
       omega
      have k3':∀i,ia2+k<=i->i<a.size->K b ib2<K a i:=fun i i1 i2=>by
       have:=k3 (i-ia2) (by omega) (by omega)
       rw[show ia2+(i-ia2)=i by omega,gb.2] at this
       unfold bey at this
       simp at this
       omega
      have m3:ML a b (out2++a.extract ia2 (ia2+k)) (ia2+k) ib2:=m2.K7 k RW fun i j i1 i2 i3 j1 j2=>U7e (k2' i i1 i2) (Sb ib2 j j1 j2)
      clear k2 k3 k2' m2
      apply CQ
      case' hx =>
       intro hk0
       refine CQ (fun e3=>?_) (fun e3=>?_)
       .exact wpS_pure ⟨hE3 _,.inl ⟨_,_,rfl,kM _ _ _ _ m3 (by simpa using e3) rfl⟩⟩
       have e3:¬ia2+k+1=a.size:=fun z=>e3 (by simpa using z)
       refine CQ (fun e4=>?_) (fun e4=>?_)
       .exact wpS_pure ⟨hE3 _,.inl ⟨_,_,rfl,kR _ _ _ _ m3 (by simpa using e4) rfl⟩⟩
       have e4:¬ia2+k=a.size:=fun z=>e4 (by simpa using z)
       have h10:ia2+k+1<a.size:=by omega
       have h11:ia'+ib'+y<=ia2+k+ib2:=by omega
       have hga:ia2+k<a.size:=by omega
       have ga:=Ia.get hga
       obtain⟨z,hz⟩:∃z,K a (ia2+k)=z:=⟨_,rfl⟩
      case' hy =>
       intro hk0
       have:k=0:=by
        have:¬k>0:=hk0
        omega
       subst this
       have h10:ia2+1<a.size:=by omega
       have h11:ia'+ib'+y<=ia2+ib2:=by omega
       rw[Wv,U5w] at m3
       have hga:ia2<a.size:=by omega
       have ga:=Ia.get hga
       obtain⟨z,hz⟩:∃z,K a ia2=z:=⟨_,rfl⟩
       rw[U5w] at k3'
      all_goals
       refine wpS_bind (Cq h8 ?_)
       have m4:=m3.M9 1 (Jf h8) fun i j i1 i2 i3 j1 j2=>(by
        have:i=ib2:=by omega
        subst this
        have:=k3' j j1 j2
        omega)
       refine CQ (fun e5=>?_) (fun e5=>?_)
       .exact wpS_pure ⟨hE3 _,.inl ⟨_,_,rfl,kL _ _ _ _ m4 (by simpa using e5) rfl⟩⟩
       have e5:¬ib2+1=b.size:=fun z=>e5 (by simpa using z)
       refine wpS_bind (Cq hga ?_)
       refine wpS_bind (Ig (base:=ib2+1) (n:=b.size-(ib2+1)) (hint:=0) (hE2.kind.trans hk) ga.1 Ib (by omega) (by omega) (fun i j i1 i2 i3=>?_) fun k' k1' k2 k3=>?_)
       .unfold bey at *
        have:=Sb (ib2+1+i) (ib2+1+j) (by omega) (by omega)
        simp at i3 ⊢
        omega
       have gk:=ga.2.trans hz
       have k2':∀i,ib2+1<=i->i<ib2+1+k'->K b i<z:=fun i i1 i2=>by
        have:=k2 (i-(ib2+1)) (by omega)
        rw[show ib2+1+(i-(ib2+1))=i by omega,gk] at this
        unfold bey at this
        exact of_decide_eq_true this
       have k3':∀i,ib2+1+k'<=i->i<b.size->z<=K b i:=fun i i1 i2=>by
        have:=k3 (i-(ib2+1)) (by omega) (by omega)
        rw[show ib2+1+(i-(ib2+1))=i by omega,gk] at this
        unfold bey at this
        have:=of_decide_eq_false this
        omega
       have m5:=m4.M9 k' (RW (a:=b)) fun i j i1 i2 i3 j1 j2=>U4 (Int.lt_of_lt_of_le (k2' i i1 i2) (by rw[←hz];exact Sa _ j j1 j2))
       clear k2 k3 k2' m4
       apply CQ
       case' hx =>
        intro hk0
        refine CQ (fun e6=>?_) (fun e6=>?_)
        .exact wpS_pure ⟨hE3 _,.inl ⟨_,_,rfl,kL _ _ _ _ m5 (by simpa using e6) rfl⟩⟩
        have e6:¬ib2+1+k'=b.size:=fun z=>e6 (by simpa using z)
        have h12:ib2+1+k'<b.size:=by omega
       case' hy =>
        intro hk0
        have:k'=0:=by
         have:¬k'>0:=hk0
         omega
        subst this
        have h12:ib2+1<b.size:=by omega
        rw[Wv,U5w] at m5
        rw[U5w] at k3'
       all_goals
        refine wpS_bind (Cq hga ?_)
        have m6:=m5.K7 1 (Jf hga) fun i j i1 i2 i3 j1 j2=>(by
         rw[Nat.le_antisymm (Nat.lt_succ_iff.mp i2) i1,hz]
         exact k3' j j1 j2)
        refine CQ (fun e7=>?_) (fun e7=>?_)
        .exact wpS_pure ⟨hE3 _,.inl ⟨_,_,rfl,kM _ _ _ _ m6 (by simpa using e7) rfl⟩⟩
        have e7:¬_:=fun z=>e7 (beq_iff_eq.mpr z)
        try dsimp only at e7
        refine CQ (fun _=>?_) (fun _=>?_)
        .exact wpS_pure ⟨hE3 _,.inr ⟨_,_,_,_,_,_,rfl,m6,(by first|omega|(dsimp only;omega)),(by first|omega|(dsimp only;omega)),(by first|omega|(dsimp only;omega))⟩⟩
        .exact wpS_pure ⟨hE3 _,_,_,_,_,_,_,rfl,m6,(by first|omega|(dsimp only;omega)),(by first|omega|(dsimp only;omega)),(by first|omega|(dsimp only;omega))⟩
end
end Tm
end
section
namespace Tm
open PySem PyProof.Rows
def Wn:Array Keyed->Array Keyed->StateT SortSt Sem (Array Keyed):=sortPriv% PySem.Builtin.mergeHi
theorem RN{a:Array Keyed}{n:Nat}{p:Keyed}(h:p∈a.toList.take n):∃i,i<n/\i<a.size/\kv p=K a i:=by
 obtain⟨j,hj,rfl⟩:=U5n h
 rw[U1l,U0f] at hj
 refine⟨j,by omega,by omega,?_⟩
 rw[List.getElem_take,U3y]
 exact Lq _
structure MH(a b out:Array Keyed)(na nb:Nat):Prop where
 perm:out.toList.Perm (a.toList.drop na++b.toList.drop nb)
 sa:srt (a.toList.take na++out.toList.reverse)
 sb:srt (b.toList.take nb++out.toList.reverse)
theorem pD{R x r y:List Keyed}(h1:srt (r++x++R))(h2:srt (y++R))(h3:∀q∈y,∀p∈x,kv q<=kv p):srt (r++(x++R))/\srt (y++(x++R)):=by
 unfold srt at *
 refine⟨by rw[←U0x];exact h1,?_⟩
 obtain⟨o1,o2,o3⟩:=U1d.mp h1
 obtain⟨x1,x2,x3⟩:=U1d.mp o1
 obtain⟨p1,p2,p3⟩:=U1d.mp h2
 refine U1d.mpr ⟨p1,U1d.mpr ⟨x2,o2,fun p hp q hq=>o3 p (U0y _ hp) q hq⟩,fun p hp q hq=>?_⟩
 rcases U1h.mp hq with z|z
 .exact h3 p hp q z
 .exact p3 p hp q z
theorem MH.K7{a b out out':Array Keyed}{na nb:Nat}(h:MH a b out na nb)(n':Nat)(hn:n'<=na)(hs:na<=a.size)(ho:out'.toList=out.toList++((a.toList.drop n').take (na-n')).reverse)(hle:∀i j,n'<=i->i<na->j<nb->j<b.size->K b j<=K a i):MH a b out' n' nb:=by
 have e:a.toList.take n'++(a.toList.drop n').take (na-n')=a.toList.take na:=by
  rw[←List.take_add];congr 1;omega
 have e2:(a.toList.drop n').take (na-n')++a.toList.drop na=a.toList.drop n':=by
  have:=U1u (na-n') (a.toList.drop n')
  rw[U49,show n'+(na-n')=na by omega] at this
  exact this
 obtain⟨c1,c2⟩:=pD (x:=(a.toList.drop n').take (na-n')) (r:=a.toList.take n') (by rw[e];exact h.sa) h.sb fun q hq p hp=>by
  obtain⟨i,i1,i2,i3,i4⟩:=Wo hp
  obtain⟨j,j1,j2,j3⟩:=RN hq
  rw[i4,j3]
  exact hle i j i1 (by omega) j1 j2
 refine⟨?_,by rw[ho,List.reverse_append,List.reverse_reverse];exact c1,by rw[ho,List.reverse_append,List.reverse_reverse];exact c2⟩
 generalize (a.toList.drop n').take (na-n')=x at *
 rw[ho,←e2]
 refine(h.perm.append_right _).trans ?_
 refine(U12 _ (U67 _)).trans ?_
 refine U13.trans ?_
 rw[←U0x]
theorem MH.swap{a b out:Array Keyed}{na nb:Nat}(h:MH a b out na nb):MH b a out nb na:=⟨h.perm.trans U13,h.sb,h.sa⟩
theorem MH.M9{a b out out':Array Keyed}{na nb:Nat}(h:MH a b out na nb)(n':Nat)(hn:n'<=nb)(hs:nb<=b.size)(ho:out'.toList=out.toList++((b.toList.drop n').take (nb-n')).reverse)(hle:∀i j,n'<=i->i<nb->j<na->j<a.size->K a j<=K b i):MH a b out' na n':=(h.swap.K7 n' hn hs ho hle).swap
theorem Ju{a out:Array Keyed}{n:Nat}(hn:n-1<a.size)(h0:0<n):(out.push a[n-1]).toList=out.toList++((a.toList.drop (n-1)).take (n-(n-1))).reverse:=by
 rw[Jf hn,show n-(n-1)=1 by omega]
 have:(a.toList.drop (n-1)).take 1=[a[n-1]]:=by
  rw[U24 (by rw[U0f];exact hn)];rfl
 rw[this];rfl
theorem Ut{a out:Array Keyed}{n' n:Nat}:(out++(a.extract n' n).reverse).toList=out.toList++((a.toList.drop n').take (n-n')).reverse:=by
 rw[U10,U5d,U3z,U25]
theorem Ji(a:Array Keyed)(n:Nat):(a.extract 0 n).toList=a.toList.take n:=by
 rw[U3z,U25,U5z,Nat.sub_zero]
theorem MH.gM{a b out r:Array Keyed}{na nb:Nat}(h:MH a b out na nb)(ha:na=0)(hr:r.toList=b.toList.take nb++out.toList.reverse):r.toList.Perm (a.toList++b.toList)/\srt r.toList:=by
 refine⟨?_,by rw[hr];exact h.sb⟩
 have p:=h.perm
 rw[ha,U5z] at p
 rw[hr]
 refine(U12 _ ((U67 _).trans p)).trans ?_
 refine U13.trans ?_
 rw[U0x]
 refine U12 _ (U13.trans ?_)
 rw[U1u]
theorem MH.p7{a b out r:Array Keyed}{na nb:Nat}(h:MH a b out na nb)(hb:nb=1)(hmin:∀i,i<a.size->K b 0<=K a i)(hr:r.toList=b.toList.take nb++a.toList.take na++out.toList.reverse):r.toList.Perm (a.toList++b.toList)/\srt r.toList:=by
 constructor
 .rw[hr]
  refine(U12 _ ((U67 _).trans h.perm)).trans ?_
  have e1:=U1u na a.toList
  have e2:=U1u nb b.toList
  generalize a.toList.take na=x at *
  generalize a.toList.drop na=x' at *
  generalize b.toList.take nb=y at *
  generalize b.toList.drop nb=y' at *
  rw[←e1,←e2,U0x]
  refine U13.trans ?_
  rw[U0x,U0x,U0x]
  refine U12 _ (U12 _ U13)
 .rw[hr,U0x]
  have sb:=h.sb
  unfold srt at *
  obtain⟨b1,b2,b3⟩:=U1d.mp sb
  refine U1d.mpr ⟨b1,h.sa,fun p hp q hq=>?_⟩
  obtain⟨i,i1,i2,i3⟩:=RN hp
  have:i=0:=by omega
  subst this
  rcases U1h.mp hq with z|z
  .obtain⟨j,j1,j2,j3⟩:=RN z
   rw[i3,j3]
   exact hmin j j2
  .exact b3 p hp q z
section
variable{prog:Program}{w:World}{A:Around}{E:Value->Shared->Prop}{s:Shared}
theorem Xf{a b:Array Keyed}{Q:Array Keyed->SortSt->Prop}{st:SortSt}(hk:kindOf st=oneType')(Ia:JX a)(Ib:JX b)(Sa:SortedTo a a.size)(Sb:SortedTo b b.size)(na:0<a.size)(nb:0<b.size)
  (hmin:∀i,i<a.size->K b 0<=K a i) (hmax:∀j,j<b.size->K b j<=K a (a.size-1))
  (h:∀r st',EqG st st'->r.toList.Perm (a.toList++b.toList)->srt r.toList->Q r st'):wpS (model prog w) A E s (Wn a b) Q st:=by
 have kA:∀out na nb r,MH a b out na nb->na=0->r=a.extract 0 na++b.extract 0 nb++out.reverse->r.toList.Perm (a.toList++b.toList)/\srt r.toList:=fun out na nb r m e hr=>m.gM e (by
  rw[hr,e,U10,U10,U5d,Ji,Ji];rfl)
 have kB:∀out na nb r,MH a b out na nb->nb=0->r=a.extract 0 na++b.extract 0 nb++out.reverse->r.toList.Perm (a.toList++b.toList)/\srt r.toList:=fun out na nb r m e hr=>by
  obtain⟨q1,q2⟩:=m.swap.gM (r:=r) e (by
   rw[hr,e,U10,U10,U5d,Ji,Ji,List.take_zero,U1n])
  exact⟨q1.trans U13,q2⟩
 have kF:∀out na nb r,MH a b out na nb->nb=1->r=b.extract 0 nb++a.extract 0 na++out.reverse->r.toList.Perm (a.toList++b.toList)/\srt r.toList:=fun out na nb r m e hr=>m.p7 e hmin (by
  rw[hr,U10,U10,U5d,Ji,Ji])
 have hl:a.size-1<a.size:=by omega
 have m0:MH a b #[a[a.size-1]] (a.size-1) b.size:=by
  have:MH a b #[] a.size b.size:=⟨by rw[Nz,Nz];exact .nil,by
   show srt (a.toList.take a.size++[])
   rw[U1n,U2l (by rw[U0f];exact U0h _)]
   exact Kv Sa,by
   show srt (b.toList.take b.size++[])
   rw[U1n,U2l (by rw[U0f];exact U0h _)]
   exact Kv Sb⟩
  refine this.K7 (out':=#[a[a.size-1]]) (a.size-1) (by omega) (U0h _) (Ju (out:=#[]) hl na) fun i j h1 h2 h3 h4=>?_
  have:i=a.size-1:=by omega
  subst this
  exact hmax j h4
 unfold Wn
 refine wpS_bind (wpS_lift (U3 ⟨rfl,?_⟩))
 refine wpS_bind (Cq hl ?_)
 refine CQ (fun e1=>?_) (fun e1=>?_)
 .obtain⟨q1,q2⟩:=kA _ _ _ _ m0 (by simpa using e1) rfl
  exact wpS_pure (h _ _ (EqG.refl st) q1 q2)
 have e1:¬a.size-1=0:=fun z=>e1 (by simpa using z)
 refine CQ (fun e2=>?_) (fun e2=>?_)
 .obtain⟨q1,q2⟩:=kF _ _ _ _ m0 (by simpa using e2) rfl
  exact wpS_pure (h _ _ (EqG.refl st) q1 q2)
 have e2:¬b.size=1:=fun z=>e2 (by simpa using z)
 refine wpS_bind (wpS_get ?_)
 refine wpS_bind (wpS_mono (wpS_forRange
  (I:=fun x c st'=>EqG st st'/\∃na nb out g,c=(none,na,nb,out,g)/\MH a b out na nb/\0<na/\1<nb/\na<=a.size/\nb<=b.size/\x+na+nb<=a.size+b.size)
  (Q:=fun c st'=>EqG st st'/\∃r y,c=(some r,y)/\r.toList.Perm (a.toList++b.toList)/\srt r.toList) ?step ?fin ⟨EqG.refl st,_,_,_,_,rfl,m0,by omega,by omega,by omega,by omega,by omega⟩) ?post)
 case fin =>
  rintro c st' ⟨_,na,nb,out,g,rfl,_,h1,h2,h3,h4,h5⟩
  omega
 case post =>
  rintro c st' ⟨hE,r,y,rfl,q1,q2⟩
  exact wpS_pure (h r st' hE q1 q2)
 case step =>
  rintro x c st1 _ hx ⟨hE,na0,nb0,out,g,rfl,m,h1,h2,s1,s2,h3⟩
  refine wpS_bind (wpS_mono (wpS_forRange
   (I:=fun y c st'=>EqG st st'/\∃na nb out ac bc,c=(none,na,nb,out,ac,bc)/\MH a b out na nb/\0<na/\1<nb/\na<=a.size/\nb<=b.size/\y+na+nb<=na0+nb0)
   (Q:=fun c st'=>EqG st st'/\((∃r y,c=(some r,y)/\r.toList.Perm (a.toList++b.toList)/\srt r.toList)∨∃na nb out ac bc,c=(none,na,nb,out,ac,bc)/\MH a b out na nb/\0<na/\1<nb/\na<=a.size/\nb<=b.size/\1+na+nb<=na0+nb0)) ?step1 ?fin1 ⟨hE,na0,nb0,out,0,0,rfl,m,h1,h2,s1,s2,by omega⟩) ?post1)
  case fin1 =>
   rintro c st' ⟨_,na,nb,out,ac,bc,rfl,_,h4,h5,s3,s4,h6⟩
   omega
  case step1 =>
   rintro y c st' _ hy ⟨hE',na',nb',out',ac,bc,rfl,m',h4,h5,s3,s4,h6⟩
   have ib:nb'-1<b.size:=by omega
   have ia:na'-1<a.size:=by omega
   have gb:=Ib.get ib
   have ga:=Ia.get ia
   refine wpS_bind (Cq ib (wpS_bind (Cq ia (wpS_bind (Ot gb.1 ga.1 (hE'.kind.trans hk) ?_)))))
   rw[gb.2,ga.2]
   by_cases hw:K b (nb'-1)<K a (na'-1)
   .simp only[hw,decide_true,if_true]
    refine wpS_bind (Cq ia ?_)
    have m2:MH a b (out'.push a[na'-1]) (na'-1) nb':=m'.K7 (na'-1) (by omega) s3 (Ju ia h4) fun i j i1 i2 j1 j2=>by
     have:i=na'-1:=by omega
     subst this
     have:=Sb j (nb'-1) (by omega) (by omega)
     omega
    by_cases e3:na'-1=0
    .rw[if_pos (by simpa using e3)]
     exact wpS_pure ⟨hE',.inl ⟨_,_,rfl,kA _ _ _ _ m2 e3 rfl⟩⟩
    .rw[if_neg (by simpa using e3)]
     by_cases e4:ac+1≥g
     .rw[if_pos e4]
      exact wpS_pure ⟨hE',.inr ⟨_,_,_,_,_,rfl,m2,by omega,h5,by omega,by omega,by omega⟩⟩
     .rw[if_neg e4]
      exact wpS_pure ⟨hE',_,_,_,_,_,rfl,m2,by omega,h5,by omega,by omega,by omega⟩
   .simp only[hw,decide_false,U0w,if_false]
    refine wpS_bind (Cq ib ?_)
    have m2:MH a b (out'.push b[nb'-1]) na' (nb'-1):=m'.M9 (nb'-1) (by omega) s4 (Ju ib (by omega)) fun i j i1 i2 j1 j2=>by
     have:i=nb'-1:=by omega
     subst this
     have:=Sa j (na'-1) (by omega) (by omega)
     omega
    by_cases e3:nb'-1=1
    .rw[if_pos (by simpa using e3)]
     exact wpS_pure ⟨hE',.inl ⟨_,_,rfl,kF _ _ _ _ m2 e3 rfl⟩⟩
    .rw[if_neg (by simpa using e3)]
     by_cases e4:bc+1≥g
     .rw[if_pos e4]
      exact wpS_pure ⟨hE',.inr ⟨_,_,_,_,_,rfl,m2,h4,by omega,by omega,by omega,by omega⟩⟩
     .rw[if_neg e4]
      exact wpS_pure ⟨hE',_,_,_,_,_,rfl,m2,h4,by omega,by omega,by omega,by omega⟩
  case post1 =>
   rintro c st' ⟨hE',⟨r,y,rfl,q⟩|⟨na',nb',out',ac,bc,rfl,m',h4,h5,s3,s4,h6⟩⟩
   .exact wpS_pure ⟨hE',r,_,rfl,q⟩
   .refine wpS_bind (wpS_lift (U3 ⟨rfl,?_⟩))
    refine wpS_bind (wpS_mono (wpS_forRange
     (I:=fun y c st'=>EqG st st'/\∃na nb out g ac bc,c=(none,na,nb,out,g,ac,bc)/\MH a b out na nb/\0<na/\1<nb/\na<=a.size/\nb<=b.size/\y+na+nb<=na'+nb')
     (Q:=fun c st'=>EqG st st'/\((∃r y,c=(some r,y)/\r.toList.Perm (a.toList++b.toList)/\srt r.toList)∨∃na nb out g ac bc,c=(none,na,nb,out,g,ac,bc)/\MH a b out na nb/\0<na/\1<nb/\na<=a.size/\nb<=b.size/\na+nb<=na'+nb')) ?step2 ?fin2 ⟨hE',na',nb',out',_,ac,bc,rfl,m',h4,h5,s3,s4,by omega⟩) ?post2)
    case fin2 =>
     rintro c st' ⟨_,na,nb,out,g,ac,bc,rfl,_,h7,h8,s5,s6,h9⟩
     omega
    case post2 =>
     rintro c st' ⟨hE2,⟨r,y,rfl,q⟩|⟨na2,nb2,out,g2,ac,bc,rfl,m2,h7,h8,s5,s6,h9⟩⟩
     .exact wpS_pure ⟨hE2,r,_,rfl,q⟩
     .refine wpS_bind (wpS_modify (wpS_pure ⟨⟨hE2.kind,hE2.arr,hE2.pend,hE2.failed⟩,na2,nb2,out,_,rfl,m2,h7,h8,s5,s6,by omega⟩))
    case step2 =>
     rintro y c st2 _ hy ⟨hE2,na2,nb2,out2,g2,ac2,bc2,rfl,m2,h7,h8,s5,s6,h9⟩
     refine CQ (fun _=>?_) (fun _=>?_)
     all_goals
      have ib:nb2-1<b.size:=by omega
      refine wpS_bind (wpS_modify ?_)
      refine wpS_bind (Cq ib ?_)
      have gb:=Ib.get ib
      have hE3:∀g,EqG st (SortSt.mk' (kindOf st2) (arrOf st2) (pendingOf st2) g (failedOf st2)):=fun g=>⟨hE2.kind,hE2.arr,hE2.pend,hE2.failed⟩
      refine wpS_bind (Ig (base:=0) (n:=na2) (hint:=na2-1) (hE2.kind.trans hk) gb.1 Ia (by omega) (by omega) (fun i j i1 i2 i3=>?_) fun k k1 k2 k3=>?_)
      .unfold bey at *
       have:=Sa (0+i) (0+j) (by omega) (by omega)
       simp at i3 ⊢
       simp at this
       omega
      have k2':∀i,i<k->K a i<=K b (nb2-1):=fun i i1=>by
       have:=k2 i i1
       rw[U4r,gb.2] at this
       unfold bey at this
       simp at this
       omega
      have k3':∀i,k<=i->i<na2->K b (nb2-1)<K a i:=fun i i1 i2=>by
       have:=k3 i i1 i2
       rw[U4r,gb.2] at this
       unfold bey at this
       simp at this
       omega
      have m3:MH a b (out2++(a.extract k na2).reverse) k nb2:=m2.K7 k k1 s5 Ut fun i j i1 i2 j1 j2=>(by
       have:=Sb j (nb2-1) (by omega) (by omega)
       have:=k3' i i1 i2
       omega)
      clear k2 k3 k3'
      apply CQ
      case' hx =>
       intro hk0
       refine CQ (fun e3=>?_) (fun e3=>?_)
       .exact wpS_pure ⟨hE3 _,.inl ⟨_,_,rfl,kA _ _ _ _ m3 (by simpa using e3) rfl⟩⟩
       have e3:¬k=0:=fun z=>e3 (by simpa using z)
       have hga:k-1<a.size:=by omega
       have h10:0<k:=by omega
       have s7:k<=a.size:=by omega
       have h11:y+k+nb2<=na'+nb':=by omega
       have ga:=Ia.get hga
       obtain⟨z,hz⟩:∃z,K a (k-1)=z:=⟨_,rfl⟩
       have hz2:∀j,j<k->K a j<=z:=fun j hj=>by rw[←hz];exact Sa j (k-1) (by omega) (by omega)
      case' hy =>
       intro hk0
       have:k=na2:=by
        have:¬na2-k>0:=hk0
        omega
       subst this
       have m3:=m2
       have hga:k-1<a.size:=by omega
       have h10:0<k:=by omega
       have s7:k<=a.size:=by omega
       have h11:y+k+nb2<=na'+nb':=by omega
       have ga:=Ia.get hga
       obtain⟨z,hz⟩:∃z,K a (k-1)=z:=⟨_,rfl⟩
       have hz2:∀j,j<k->K a j<=z:=fun j hj=>by rw[←hz];exact Sa j (k-1) (by omega) (by omega)
      all_goals
       refine wpS_bind (Cq ib ?_)
       have m4:=m3.M9 (nb2-1) (by omega) s6 (Ju ib (by omega)) fun i j i1 i2 j1 j2=>(by
        have:i=nb2-1:=by omega
        subst this
        exact k2' j j1)
       refine CQ (fun e5=>?_) (fun e5=>?_)
       .exact wpS_pure ⟨hE3 _,.inl ⟨_,_,rfl,kF _ _ _ _ m4 (by simpa using e5) rfl⟩⟩
       have e5:¬nb2-1=1:=fun z=>e5 (by simpa using z)
       refine wpS_bind (Cq hga ?_)
       refine wpS_bind (Ig (base:=0) (n:=nb2-1) (hint:=nb2-1-1) (hE2.kind.trans hk) ga.1 Ib (by omega) (by omega) (fun i j i1 i2 i3=>?_) fun k' k1' k2 k3=>?_)
       .unfold bey at *
        have:=Sb (0+i) (0+j) (by omega) (by omega)
        simp at i3 ⊢
        simp at this
        omega
       have gk:=ga.2.trans hz
       have q2':∀i,i<k'->K b i<z:=fun i i1=>by
        have:=k2 i i1
        rw[U4r,gk] at this
        unfold bey at this
        exact of_decide_eq_true this
       have q3':∀i,k'<=i->i<nb2-1->z<=K b i:=fun i i1 i2=>by
        have:=k3 i i1 i2
        rw[U4r,gk] at this
        unfold bey at this
        have:=of_decide_eq_false this
        omega
       have m5:=m4.M9 k' k1' (by omega) (Ut (a:=b)) fun i j i1 i2 j1 j2=>U7e (hz2 j j1) (q3' i i1 i2)
       clear k2 k3 q3'
       apply CQ
       case' hx =>
        intro hk0
        refine CQ (fun e6=>?_) (fun e6=>?_)
        .exact wpS_pure ⟨hE3 _,.inl ⟨_,_,rfl,kF _ _ _ _ m5 (by simpa using e6) rfl⟩⟩
        have e6:¬k'=1:=fun z=>e6 (by simpa using z)
        refine CQ (fun e8=>?_) (fun e8=>?_)
        .exact wpS_pure ⟨hE3 _,.inl ⟨_,_,rfl,kB _ _ _ _ m5 (by simpa using e8) rfl⟩⟩
        have e8:¬k'=0:=fun z=>e8 (by simpa using z)
        have h12:1<k':=by omega
       case' hy =>
        intro hk0
        have:k'=nb2-1:=by
         have:¬nb2-1-k'>0:=hk0
         omega
        subst this
        have m5:=m4
        have h12:1<nb2-1:=by omega
       all_goals
        refine wpS_bind (Cq hga ?_)
        have m6:=m5.K7 (k-1) (by omega) s7 (Ju hga h10) fun i j i1 i2 j1 j2=>(by
         have:i=k-1:=by omega
         subst this
         rw[hz]
         exact U4 (q2' j j1))
        refine CQ (fun e7=>?_) (fun e7=>?_)
        .exact wpS_pure ⟨hE3 _,.inl ⟨_,_,rfl,kA _ _ _ _ m6 (by simpa using e7) rfl⟩⟩
        have e7:¬k-1=0:=fun z=>e7 (by simpa using z)
        refine CQ (fun _=>?_) (fun _=>?_)
        .exact wpS_pure ⟨hE3 _,.inr ⟨_,_,_,_,_,_,rfl,m6,(by first|omega|(dsimp only;omega)),(by first|omega|(dsimp only;omega)),(by first|omega|(dsimp only;omega)),(by first|omega|(dsimp only;omega)),(by first|omega|(dsimp only;omega))⟩⟩
        .exact wpS_pure ⟨hE3 _,_,_,_,_,_,_,rfl,m6,(by first|omega|(dsimp only;omega)),(by first|omega|(dsimp only;omega)),(by first|omega|(dsimp only;omega)),(by first|omega|(dsimp only;omega)),(by first|omega|(dsimp only;omega))⟩
end
end Tm
end
section
namespace Tm
open PySem PyProof.Rows
structure RB(a₀:Array Keyed)(st0:SortSt)(lo:Nat)(st:SortSt):Prop where
 perm:(arrOf st).Perm a₀
 pre:∀i,i<lo->(arrOf st)[i]?=(arrOf st0)[i]?
 kind:kindOf st=oneType'
 failed:failedOf st=none
 pend:pendingOf st=pendingOf st0
structure Keys(a₀:Array Keyed):Prop where
 allI:JX a₀
 uniq:(a₀.toList.map kv).Nodup
theorem Wh{a₀ xs:Array Keyed}(h:JX a₀)(hp:xs.Perm a₀):JX xs:=fun p hm=>h p ((U5h.mp hp).mem_iff.mp hm)
theorem mX{a₀ xs:Array Keyed}(h:Keys a₀)(hp:xs.Perm a₀){i j:Nat}(hi:i<a₀.size)(hj:j<a₀.size)(hij:i≠j):K xs i≠K xs j:=by
 have hn:(xs.toList.map kv).Nodup:=((U5h.mp hp).map kv).nodup_iff.mpr h.uniq
 have sz:=hp.size_eq
 have h1:i<xs.size:=by omega
 have h2:j<xs.size:=by omega
 intro z
 rw[←Lq h1,←Lq h2] at z
 have g:∀k (hk:k<xs.size),(xs.toList.map kv)[k]'(by rw[U0e,U0f];exact hk)=kv xs[k]:=fun k hk=>by rw[List.getElem_map,U3y]
 have P:=U3t.mp hn
 rcases Nat.lt_or_gt_of_ne hij with l|l
 .exact P i j (by rw[U0e,U0f];exact h1) (by rw[U0e,U0f];exact h2) l (by rw[g i h1,g j h2];exact z)
 .exact P j i (by rw[U0e,U0f];exact h2) (by rw[U0e,U0f];exact h1) l (by rw[g i h1,g j h2];exact z.symm)
variable{a₀:Array Keyed}{st0:SortSt}{lo:Nat}
theorem RB.size{st:SortSt}(h:RB a₀ st0 lo st):(arrOf st).size=a₀.size:=h.perm.size_eq
theorem RB.mirror{st:SortSt}(h:RB a₀ st0 lo st){j:Nat}(hj:j<=a₀.size):RB a₀ st0 lo (setArr st (mirror (arrOf st) lo j ((j-lo)/2))) :=
 ⟨(mirror_perm _ _ _ _).trans h.perm,fun i hi=>by
  show(PyProof.Rows.mirror (arrOf st) lo j ((j-lo)/2))[i]?=_
  rw[getElem?_mirror_all (by rw[h.size];exact hj),if_neg (by omega)]
  exact h.pre i hi,h.kind,h.failed,h.pend⟩
theorem RB.bubble{st:SortSt}(h:RB a₀ st0 lo st){k d:Nat}(hk:lo+k<a₀.size)(hd:d<=k):RB a₀ st0 lo (setArr st (bubble (arrOf st) (lo+k) d)) :=
 ⟨(bubble_perm _ _ _).trans h.perm,fun i hi=>by
  show(PyProof.Rows.bubble (arrOf st) (lo+k) d)[i]?=_
  rw[getElem?_bubble (by rw[h.size];exact hk) d (by omega),if_neg (by omega),if_neg (by omega)]
  exact h.pre i hi,h.kind,h.failed,h.pend⟩
def KJ(xs:Array Keyed)(lo m:Nat):Prop:=∀i j,i<=j->j<m->K xs (lo+i)<=K xs (lo+j)
section
variable{prog:Program}{w:World}{A:Around}{E:Value->Shared->Prop}{s:Shared}
theorem LR{st:SortSt}{i j:Nat}{Q:Option Bool->SortSt->Prop}(hB:RB a₀ st0 lo st)(h0:Keys a₀)(hi:i<a₀.size)(hj:j<a₀.size)
  (h:Q (some (decide (K (arrOf st) i<K (arrOf st) j))) st):wpS (model prog w) A E s (ltAt' i j) Q st:=by
 have I:=Wh h0.allI hB.perm
 have g1:=I.get (show i<(arrOf st).size by rw[hB.size];exact hi)
 have g2:=I.get (show j<(arrOf st).size by rw[hB.size];exact hj)
 rw[ltAt'_eq]
 refine wpS_bind (wpS_get (wpS_bind (Cq (by rw[hB.size];exact hi) (wpS_bind (Cq (by rw[hB.size];exact hj) (Ot g1.1 g2.1 hB.kind ?_))))))
 rw[g1.2,g2.2]
 exact h
theorem cY{st:SortSt}{n ok:Nat}{Q:Bool->SortSt->Prop}(h0:Keys a₀)(hn:lo+n<=a₀.size)(hok:ok<=n)(hB:RB a₀ st0 lo st)(hs:KJ (arrOf st) lo ok)
  (h:∀st',RB a₀ st0 lo st'->KJ (arrOf st') lo n->Q true st'):wpS (model prog w) A E s (binarySort' lo n ok) Q st:=by
 rw[binarySort'_eq]
 refine wpS_bind (wpS_mono (wpS_forRange (I:=fun k c st'=>c=(none,())/\RB a₀ st0 lo st'/\KJ (arrOf st') lo (min k n))
  (Q:=fun c st'=>c=(none,())/\RB a₀ st0 lo st'/\KJ (arrOf st') lo n) ?step ?fin ?init) ?post)
 case post =>
  rintro c st' ⟨rfl,hB',hs'⟩
  exact wpS_pure (h st' hB' hs')
 case init =>
  refine⟨rfl,hB,fun i j hij hj=>?_⟩
  by_cases h1:ok=0
  .have:i=j:=by omega
   subst this;exact U3v _
  .exact hs i j hij (by omega)
 case fin =>
  rintro c st' ⟨hc,hB',hs'⟩
  refine⟨hc,hB',?_⟩
  rwa [show min (max (max ok 1) n) n=n by omega] at hs'
 case step =>
  rintro k c st' hak hkn ⟨rfl,hB',hs'⟩
  rw[show min k n=k by omega] at hs'
  refine wpS_bind (wpS_mono (wpS_forRange (I:=fun x c st''=>st''=st'/\∃l r,c=(none,l,r)/\l<=r/\r<=k/\r-l<=k-x /\
    (∀i,i<l->K (arrOf st') (lo+i)<=K (arrOf st') (lo+k))/\(∀i,r<=i->i<k->K (arrOf st') (lo+k)<K (arrOf st') (lo+i)))
   (Q:=fun c st''=>st''=st'/\∃l r,c=(none,l,r)/\l<=k /\
    (∀i,i<l->K (arrOf st') (lo+i)<=K (arrOf st') (lo+k))/\(∀i,l<=i->i<k->K (arrOf st') (lo+k)<K (arrOf st') (lo+i))) ?istep ?ifin ?iinit) ?ipost)
  case iinit=>exact⟨rfl,0,k,rfl,by omega,by omega,by omega,fun i hi=>by omega,fun i h1 h2=>by omega⟩
  case ifin =>
   rintro c st'' ⟨rfl,l,r,rfl,hlr,hrk,hm,hlo,hhi⟩
   have:l=r:=by omega
   subst this
   exact⟨rfl,l,l,rfl,hrk,hlo,hhi⟩
  case istep =>
   rintro x c st'' _ hxk ⟨rfl,l,r,rfl,hlr,hrk,hm,hlo,hhi⟩
   dsimp only
   by_cases hge:l≥r
   .rw[if_pos hge]
    have:l=r:=by omega
    subst this
    exact wpS_pure ⟨rfl,l,l,rfl,hrk,hlo,hhi⟩
   .rw[if_neg hge]
    refine wpS_bind (LR hB' h0 (by omega) (by omega) ?_)
    by_cases hless:K (arrOf st'') (lo+k)<K (arrOf st'') (lo+(l+r)/2)
    .simp only[hless,decide_true,if_true]
     refine wpS_pure ⟨rfl,l,(l+r)/2,rfl,by omega,by omega,by omega,hlo,fun i h1 h2=>?_⟩
     exact Int.lt_of_lt_of_le hless (hs' _ _ h1 h2)
    .simp only[hless,decide_false,U0w,if_false]
     refine wpS_pure ⟨rfl,(l+r)/2+1,r,rfl,by omega,by omega,by omega,fun i h1=>?_,hhi⟩
     exact U7e (hs' i ((l+r)/2) (by omega) (by omega)) (Int.not_lt.mp hless)
  case ipost =>
   rintro c st'' ⟨rfl,l,r,rfl,hlk,hlo,hhi⟩
   show wpS _ _ _ _ (do moveDown' (lo+k) (lo+l);pure (U4e (none,()))) _ _
   rw[moveDown'_eq]
   have ed:lo+k-(lo+l)=k-l:=by omega
   rw[ed]
   refine wpS_bind (wpS_modify (wpS_pure ⟨rfl,hB'.bubble (by omega) (by omega),?_⟩))
   rw[show min (k+1) n=k+1 by omega]
   have hks:lo+k<(arrOf st'').size:=by rw[hB'.size];omega
   intro i j hij hj
   show K (bubble (arrOf st'') (lo+k) (k-l)) (lo+i)<=K (bubble (arrOf st'') (lo+k) (k-l)) (lo+j)
   rw[K_bubble hks (by omega),K_bubble hks (by omega),show lo+k-(k-l)=lo+l by omega]
   have e1:∀i,0<i->lo+i-1=lo+(i-1):=fun i h=>by omega
   repeat' split
   all_goals first
    |(exfalso;omega)
    |exact U3v _
    |exact hlo _ (by omega)
    |(rw[e1 _ (by omega)];exact U4 (hhi _ (by omega) (by omega)))
    |(rw[e1 i (by omega),e1 j (by omega)];exact hs' _ _ (by omega) (by omega))
    |(rw[e1 j (by omega)];exact hs' _ _ (by omega) (by omega))
    |(rw[e1 j (by omega)];exact hlo _ (by omega))
    |exact hs' _ _ (by omega) (by omega)
theorem ZM{st:SortSt}{nrem:Nat}{Q:Option Nat->SortSt->Prop}(h0:Keys a₀)(hn:lo+nrem<=a₀.size)(h1:1<=nrem)(hB:RB a₀ st0 lo st)
  (h:∀m st',RB a₀ st0 lo st'->1<=m->m<=nrem->KJ (arrOf st') lo m->Q (some m) st') :
  wpS (model prog w) A E s (countRun' lo nrem) Q st:=by
 have up:∀(f:Nat->Option (Option Nat)×Nat->StateT SortSt Sem (ForInStep (Option (Option Nat)×Nat)))(R:Option (Option Nat)×Nat->SortSt->Prop)(a:Nat)(st:SortSt),1<=a->a<=nrem->RB a₀ st0 lo st->KJ (arrOf st) lo a ->
   (∀x y Q',1<=y->y<nrem->Q' (if K (arrOf st) (lo+y)<K (arrOf st) (lo+y-1) then ForInStep.done (none,y) else U4e (none,y+1)) st->wpS (model prog w) A E s (f x (none,y)) Q' st) ->
   (∀n,a<=n->n<=nrem->KJ (arrOf st) lo n->(n=nrem∨K (arrOf st) (lo+n)<K (arrOf st) (lo+n-1))->R (none,n) st)->wpS (model prog w) A E s (forIn [a:nrem] (none,a) f) R st:=fun f R a st ha han hB hs hf hR=>by
  refine wpS_forRange (I:=fun x c st'=>st'=st/\c=(none,x)/\KJ (arrOf st) lo x) ?step ?fin ⟨rfl,rfl,hs⟩
  case fin =>
   rintro c st' ⟨rfl,rfl,hs'⟩
   rw[show max a nrem=nrem by omega] at hs' ⊢
   exact hR nrem han (U0h _) hs' (.inl rfl)
  case step =>
   rintro x c st' hax hxn ⟨rfl,rfl,hs'⟩
   refine hf x x _ (by omega) hxn ?_
   by_cases hless:K (arrOf st') (lo+x)<K (arrOf st') (lo+x-1)
   .rw[if_pos hless]
    exact hR x hax (by omega) hs' (.inr hless)
   .rw[if_neg hless]
    refine⟨rfl,rfl,fun i j hij hj=>?_⟩
    by_cases hjx:j<x
    .exact hs' i j hij hjx
    .have hj':j=x:=by omega
     subst hj'
     by_cases hi':i=j
     .subst hi';exact U3v _
     .have:=hs' i (j-1) (by omega) (by omega)
      rw[show lo+(j-1)=lo+j-1 by omega] at this
      omega
 unfold countRun'
 refine wpS_bind (up _ _ 1 st (U0h _) h1 hB (fun i j hij hj=>by
  have:i=j:=by omega
  subst this;exact U3v _) (fun x y Q' y1 y2 hq=>?_) fun n n1 n2 hsn hor=>?_)
 .refine wpS_bind (LR hB h0 (by omega) (by omega) ?_)
  by_cases z:K (arrOf st) (lo+y)<K (arrOf st) (lo+y-1)
  .rw[if_pos z] at hq
   simp only[z,decide_true,if_true]
   exact wpS_pure hq
  .rw[if_neg z] at hq
   simp only[z,decide_false,U0w,if_false]
   exact wpS_pure hq
 refine CQ (fun e1=>?_) (fun e1=>?_)
 .exact wpS_pure (h n st hB n1 n2 hsn)
 have e1:¬n=nrem:=fun z=>e1 (by simpa using z)
 have hlt:=hor.resolve_left e1
 refine CQ (fun e2=>?_) (fun e2=>?_)
 .have e2:n>1:=e2
  refine wpS_bind (LR hB h0 (by omega) (by omega) ?_)
  have rose:K (arrOf st) lo<K (arrOf st) (lo+n-1):=by
   have q1:=hsn 0 (n-1) (by omega) (by omega)
   have q2:=mX h0 hB.perm (i:=lo) (j:=lo+n-1) (by omega) (by omega) (by omega)
   rw[U5w,show lo+(n-1)=lo+n-1 by omega] at q1
   omega
  refine CQ (fun _=>?_) (fun e3=>absurd (decide_eq_true rose) e3)
  exact wpS_pure (h n st hB n1 n2 hsn)
 have e2:n=1:=by
  have:¬n>1:=e2
  omega
 subst e2
 have hd0:∀i j,i<j->j<1+1->K (arrOf st) (lo+j)<K (arrOf st) (lo+i):=fun i j h2 h3=>by
  have e3:i=0:=by omega
  have e4:j=1:=by omega
  subst e3 e4
  exact hlt
 refine wpS_bind (wpS_lift (U3 ⟨rfl,?_⟩))
 refine wpS_bind (wpS_mono (wpS_forRange (I:=fun x c st'=>st'=st/\c=(none,x,0)/\∀i j,i<j->j<x->K (arrOf st) (lo+j)<K (arrOf st) (lo+i))
  (Q:=fun c st'=>st'=st/\∃n,c=(none,n,0)/\1<=n/\n<=nrem/\∀i j,i<j->j<n->K (arrOf st) (lo+j)<K (arrOf st) (lo+i)) ?step ?fin ⟨rfl,rfl,hd0⟩) ?post)
 case fin =>
  rintro c st' ⟨rfl,rfl,hd⟩
  rw[show max (1+1) nrem=nrem by omega] at hd
  refine⟨rfl,nrem,?_,by omega,U0h _,hd⟩
  rw[show max (1+1) nrem=nrem by omega]
 case step =>
  rintro x c st' hx1 hx2 ⟨rfl,rfl,hd⟩
  dsimp only
  refine wpS_bind (LR hB h0 (by omega) (by omega) ?_)
  by_cases z:K (arrOf st') (lo+x)<K (arrOf st') (lo+x-1)
  .simp only[z,decide_true,if_true]
   refine CQ (fun e=>by omega) (fun _=>?_)
   refine wpS_pure ⟨rfl,rfl,fun i j h2 h3=>?_⟩
   by_cases hj:j<x
   .exact hd i j h2 hj
   .have:j=x:=by omega
    subst this
    by_cases hi:i=j-1
    .subst hi
     rw[show lo+(j-1)=lo+j-1 by omega];exact z
    .have:=hd i (j-1) (by omega) (by omega)
     rw[show lo+(j-1)=lo+j-1 by omega] at this
     omega
  .simp only[z,decide_false,U0w,if_false]
   refine wpS_bind (LR hB h0 (by omega) (by omega) ?_)
   have larger:K (arrOf st') (lo+x-1)<K (arrOf st') (lo+x):=by
    have:=mX h0 hB.perm (i:=lo+x) (j:=lo+x-1) (by omega) (by omega) (by omega)
    omega
   simp only[larger,decide_true,if_true]
   exact wpS_pure ⟨rfl,x,rfl,by omega,by omega,hd⟩
 case post =>
  rintro c st' ⟨rfl,n,rfl,n1,n2,hd⟩
  refine CQ (fun e=>by simp at e) (fun _=>?_)
  refine wpS_bind ?_
  show wpS _ _ _ _ (reverseSlice' _ _) _ _
  have hB2:=hB.mirror (j:=lo+n) (by omega)
  have hsz:lo+n<=(arrOf st').size:=by rw[hB.size];omega
  refine wpS_reverse (wpS_bind (up _ _ n _ n1 n2 hB2 (fun i j hij hj=>?_) (fun x y Q' y1 y2 hq=>?_) fun m m1 m2 hsm _=>wpS_pure (h m _ hB2 (by omega) m2 hsm)))
  .show K (mirror (arrOf st') lo (lo+n) ((lo+n-lo)/2)) (lo+i)<=K (mirror (arrOf st') lo (lo+n) ((lo+n-lo)/2)) (lo+j)
   rw[K_mirror hsz,K_mirror hsz,if_pos (by omega),if_pos (by omega),show lo+(lo+n)-1-(lo+i)=lo+(n-1-i) by omega,show lo+(lo+n)-1-(lo+j)=lo+(n-1-j) by omega]
   by_cases e:i=j
   .subst e;exact U3v _
   .exact U4 (hd _ _ (by omega) (by omega))
  .refine wpS_bind (LR hB2 h0 (by omega) (by omega) ?_)
   split at hq
   .rename_i z
    simp only[z,decide_true,if_true]
    exact wpS_pure hq
   .rename_i z
    simp only[z,decide_false,U0w,if_false]
    exact wpS_pure hq
end
end Tm
end
section
namespace Tm
open PySem PyProof.Rows
def kx(l:List Keyed)(i:Nat):Int:=match l[i]? with
 |some p=>kv p
 |none=>0
theorem Oq(xs:Array Keyed)(i:Nat):K xs i=kx xs.toList i:=by
 unfold K kx
 rw[U18]
 rfl
theorem RT(a b:List Keyed)(i:Nat):kx (a++b) (a.length+i)=kx b i:=by
 unfold kx
 rw[U1i (by omega),U52]
theorem Yk{a:List Keyed}(b:List Keyed){i:Nat}(h:i<a.length):kx (a++b) i=kx a i:=by
 unfold kx
 rw[U0z h]
theorem PJ{l:List Keyed}{i:Nat}(h:i<l.length):kx l i=kv l[i]:=by
 unfold kx
 rw[U02 h]
theorem K3(l:List Keyed)(k i:Nat):kx (l.drop k) i=kx l (k+i):=by
 unfold kx
 rw[U6u]
theorem Lb{l:List Keyed}{k i:Nat}(h:i<k):kx (l.take k) i=kx l i:=by
 unfold kx
 rw[U6v,if_pos h]
theorem Iz{l:List Keyed}(h:srt l){i j:Nat}(hij:i<=j)(hj:j<l.length):kx l i<=kx l j:=by
 by_cases e:i=j
 .subst e;exact U3v _
 .rw[PJ (by omega),PJ hj]
  exact U3t.mp h i j (by omega) hj (by omega)
theorem O2{a:Array Keyed}(h:srt a.toList):SortedTo a a.size:=fun i j hij hj=>by
 rw[Oq,Oq]
 exact Iz h hij (by rw[U0f];exact hj)
theorem Hu{l:List Keyed}{p:Keyed}(h:p∈l):∃i,i<l.length/\kv p=kx l i:=by
 obtain⟨i,hi,rfl⟩:=U5n h
 exact⟨i,hi,(PJ hi).symm⟩
theorem QD{a b:List Keyed}(ha:srt a)(hb:srt b)(h:∀p∈a,∀q∈b,kv p<=kv q):srt (a++b):=U1d.mpr ⟨ha,hb,h⟩
theorem laid(s:Nat):∀(l:List Keyed)(n:Nat)(arr:Array Keyed),s+n+l.length<=arr.size->((l.zipIdx n).foldl (fun a q=>a.setIfInBounds (s+q.2) q.1) arr).toList=arr.toList.take (s+n)++l++arr.toList.drop (s+n+l.length)
 |[],n,arr,h=>by simp
 |p::l,n,arr,h=>by
  rw[U0g] at h
  rw[U7d,U3g,laid s l (n+1) _ (by rw[Array.size_setIfInBounds];omega),Array.toList_setIfInBounds]
  have hl:s+n<arr.toList.length:=by rw[U0f];omega
  have e1:(arr.toList.set (s+n) p).take (s+(n+1))=arr.toList.take (s+n)++[p]:=by
   rw[List.set_eq_take_append_cons_drop,if_pos hl,List.append_cons]
   rw[U35 (by simp;omega),U2l (by simp;omega)]
  have e2:(arr.toList.set (s+n) p).drop (s+(n+1)+l.length)=arr.toList.drop (s+n+(l.length+1)):=by
   rw[List.drop_set_of_lt (by omega)]
   congr 1
   omega
  rw[e1,e2,U0g]
  simp
section
variable{prog:Program}{w:World}{A:Around}{E:Value->Shared->Prop}{s:Shared}
theorem gn{σ:Type}{M:Model}{st st':σ}{Q:PUnit->σ->Prop}(h:Q ⟨⟩ st'):wpS M A E s (set st':StateT σ Sem PUnit) Q st:=by
 unfold wpS;rw[StateT.run_set];exact U0d ⟨rfl,h⟩
theorem Xg{st:SortSt}{i sa na pw sb nb pw2:Nat}{L1 x y L2:List Keyed}{Q:Bool->SortSt->Prop}(hI:JX (arrOf st))(hk:kindOf st=oneType')(hf:failedOf st=none)(hp1:(pendingOf st)[i]?=some (sa,na,pw))(hp2:(pendingOf st)[i+1]?=some (sb,nb,pw2))
  (hl:(arrOf st).toList=L1++(x++(y++L2))) (e1:sa=L1.length) (e2:na=x.length) (e3:sb=sa+na) (e4:nb=y.length) (x0:0<na) (y0:0<nb) (sx:srt x) (sy:srt y)
  (h:∀st' z,kindOf st'=oneType'->failedOf st'=none->pendingOf st'=((pendingOf st).setIfInBounds i (sa,na+nb,pw)).eraseIdxIfInBounds (i+1)->(arrOf st').toList=L1++(z++L2)->z.Perm (x++y)->srt z->Q true st') :
  wpS (model prog w) A E s (mergeAt' i) Q st:=by
 have hsz:(arrOf st).size=sa+na+nb+L2.length:=by
  have:(arrOf st).toList.length=_:=congrArg U3u hl
  rw[U0f] at this
  simp only[U0j] at this
  omega
 have Kx:∀i,i<na->K (arrOf st) (sa+i)=kx x i:=fun i hi=>by rw[Oq,hl,e1,RT,Yk _ (by omega)]
 have Ky:∀i,i<nb->K (arrOf st) (sb+i)=kx y i:=fun i hi=>by rw[Oq,hl,e3,e1,e2,U7z,RT,RT,Yk _ (by omega)]
 unfold mergeAt'
 refine wpS_bind (wpS_get ?_)
 rw[hp1,hp2]
 refine wpS_bind (gn ?_)
 have hsb:sb<(arrOf st).size:=by omega
 have gk:=hI.get hsb
 have hb1:sa+na<=(arrOf st).size:=by omega
 have hb2:sb+nb<=(arrOf st).size:=by omega
 have ky0:K (arrOf st) sb=kx y 0:=Ky 0 y0
 refine wpS_bind (Cq hsb ?_)
 refine wpS_bind (Ig (base:=sa) (n:=na) (hint:=0) hk gk.1 hI hb1 x0 (fun i j i1 i2 i3=>?_) fun k k1 k2 k3=>?_)
 .rw[Kx j i2] at i3
  rw[Kx i (by omega)]
  have:=Iz sx i1 (by omega)
  unfold bey at *
  simp at i3 ⊢
  omega
 have k2':∀i,i<k->kx x i<=kx y 0:=fun i i1=>by
  have:=k2 i i1
  rw[Kx i (by omega),gk.2,ky0] at this
  unfold bey at this
  simp at this
  omega
 have k3':∀i,k<=i->i<na->kx y 0<kx x i:=fun i i1 i2=>by
  have:=k3 i i1 i2
  rw[Kx i i2,gk.2,ky0] at this
  unfold bey at this
  simp at this
  omega
 clear k2 k3
 refine CQ (fun e5=>?_) (fun e5=>?_)
 .have e5:na-k=0:=by simpa using e5
  refine wpS_pure (h _ (x++y) hk hf rfl (by rw[U0x];exact hl) (U45 _) (QD sx sy fun p hp q hq=>?_))
  obtain⟨i,i1,i2⟩:=Hu hp
  obtain⟨j,j1,j2⟩:=Hu hq
  have:=k2' i (by omega)
  have:=Iz sy (U2w j) j1
  omega
 have e5:¬na-k=0:=fun z=>e5 (by simpa using z)
 have hil:sa+k+(na-k)-1<(arrOf st).size:=by omega
 have gl:=hI.get hil
 have kl:K (arrOf st) (sa+k+(na-k)-1)=kx x (na-1):=by
  rw[show sa+k+(na-k)-1=sa+(na-1) by omega]
  exact Kx _ (by omega)
 refine wpS_bind (Cq hil ?_)
 refine wpS_bind (Ig (base:=sb) (n:=nb) (hint:=nb-1) hk gl.1 hI hb2 (by omega) (fun i j i1 i2 i3=>?_) fun m m1 q2 q3=>?_)
 .rw[Ky j i2] at i3
  rw[Ky i (by omega)]
  have:=Iz sy i1 (by omega)
  unfold bey at *
  simp at i3 ⊢
  omega
 have q2':∀i,i<m->kx y i<kx x (na-1):=fun i i1=>by
  have:=q2 i i1
  rw[Ky i (by omega),gl.2,kl] at this
  unfold bey at this
  simp at this
  omega
 have q3':∀i,m<=i->i<nb->kx x (na-1)<=kx y i:=fun i i1 i2=>by
  have:=q3 i i1 i2
  rw[Ky i i2,gl.2,kl] at this
  unfold bey at this
  simp at this
  omega
 clear q2 q3
 refine CQ (fun e6=>?_) (fun e6=>?_)
 .have e6:m=0:=by simpa using e6
  refine wpS_pure (h _ (x++y) hk hf rfl (by rw[U0x];exact hl) (U45 _) (QD sx sy fun p hp q hq=>?_))
  obtain⟨i,i1,i2⟩:=Hu hp
  obtain⟨j,j1,j2⟩:=Hu hq
  have:=q3' j (by omega) (by omega)
  have:=Iz sx (show i<=na-1 by omega) (by omega)
  omega
 have e6:¬m=0:=fun z=>e6 (by simpa using z)
 have hA:((arrOf st).extract (sa+k) sb).toList=x.drop k:=by
  rw[U3z,U25,hl,←U49,e1,U50,List.drop_append_of_le_length (by omega),U35 (by rw[U1w];omega),U2l (by rw[U1w];omega)]
 have hBl:((arrOf st).extract sb (sb+m)).toList=y.take m:=by
  rw[U3z,U25,hl,e3,←U49,e1,U50,e2,U50,U35 (by omega)]
  congr 1
  omega
 obtain⟨a,ha⟩:∃a,a=(arrOf st).extract (sa+k) sb:=⟨_,rfl⟩
 obtain⟨b,hb⟩:∃b,b=(arrOf st).extract sb (sb+m):=⟨_,rfl⟩
 rw[←ha] at hA
 rw[←hb] at hBl
 have za:a.size=na-k:=by rw[←U0f,hA,U1w];omega
 have zb:b.size=m:=by rw[←U0f,hBl,U1l];omega
 have Ia:JX a:=fun p hp=>hI p (by
  rw[hA] at hp
  rw[hl]
  exact U0y _ (U2y _ (List.mem_of_mem_drop hp)))
 have Ib:JX b:=fun p hp=>hI p (by
  rw[hBl] at hp
  rw[hl]
  exact U0y _ (U0y _ (U2y _ (List.mem_of_mem_take hp))))
 have Sa:SortedTo a a.size:=O2 (by rw[hA];exact sx.sublist (U61 ..))
 have Sb:SortedTo b b.size:=O2 (by rw[hBl];exact sy.sublist (U53 ..))
 have Ka:∀i,K a i=kx x (k+i):=fun i=>by rw[Oq,hA,K3]
 have Kb:∀i,i<m->K b i=kx y i:=fun i hi=>by rw[Oq,hBl,Lb hi]
 have hmin:∀i,i<a.size->K b 0<=K a i:=fun i hi=>by
  rw[Kb 0 (by omega),Ka]
  exact U4 (k3' _ (by omega) (by omega))
 have hmax:∀j,j<b.size->K b j<=K a (a.size-1):=fun j hj=>by
  rw[Kb j (by omega),Ka,show k+(a.size-1)=na-1 by omega]
  exact U4 (q2' j (by omega))
 have fin:∀(r:Array Keyed)(st':SortSt),EqG (SortSt.mk' (kindOf st) (arrOf st) (((pendingOf st).setIfInBounds i (sa,na+nb,pw)).eraseIdxIfInBounds (i+1)) (gallopOf st) (failedOf st)) st'->r.toList.Perm (a.toList++b.toList)->srt r.toList ->
   ∀st2:SortSt,kindOf st2=kindOf st'->failedOf st2=failedOf st'->pendingOf st2=pendingOf st'->(arrOf st2).toList=((r.toList.zipIdx 0).foldl (fun a q=>a.setIfInBounds (sa+k+q.2) q.1) (arrOf st')).toList->Q true st2:=fun r st' hE p1 p2 st2 z1 z2 z3 z4=>by
  have er:(arrOf st')=arrOf st:=hE.arr
  have hlen:r.toList.length=na-k+m:=by
   rw[p1.length_eq,U0j,U0f,U0f,za,zb]
  rw[er,laid (sa+k) r.toList 0 (arrOf st) (by omega),hl,U5w] at z4
  have t1:(L1++(x++(y++L2))).take (sa+k)=L1++x.take k:=by
   rw[e1,List.take_append,U2l (by omega),U52,U35 (by omega)]
  have t2:(L1++(x++(y++L2))).drop (sa+k+r.toList.length)=y.drop m++L2:=by
   rw[hlen,show sa+k+(na-k+m)=L1.length+(x.length+m) by omega,←U49,U50,←U49,U50,List.drop_append_of_le_length (by omega)]
  rw[t1,t2] at z4
  rw[hA,hBl] at p1
  refine h st2 (x.take k++(r.toList++y.drop m)) (z1.trans (hE.kind.trans hk)) (z2.trans (hE.failed.trans hf)) (z3.trans hE.pend) ?_ ?_ ?_
  .rw[z4];simp
  .refine(U12 _ (p1.append_right _)).trans ?_
   rw[U0x,U1u,←U0x,U1u]
  .refine QD (sx.sublist (U53 ..)) (QD p2 (sy.sublist (U61 ..)) fun p hp q hq=>?_) fun p hp q hq=>?_
   .obtain⟨j,j1,j2⟩:=Hu hq
    rw[K3] at j2
    rw[U1w] at j1
    have g1:=q3' (m+j) (by omega) (by omega)
    rcases U1h.mp (p1.mem_iff.mp hp) with w|w
    .obtain⟨i,i1,i2⟩:=Hu w
     rw[K3] at i2
     rw[U1w] at i1
     have:=Iz sx (show k+i<=na-1 by omega) (by omega)
     omega
    .obtain⟨i,i1,i2⟩:=Hu w
     rw[U1l] at i1
     rw[Lb (by omega)] at i2
     have:=Iz sy (show i<=m+j by omega) (by omega)
     omega
   .obtain⟨i,i1,i2⟩:=Hu hp
    rw[U1l] at i1
    rw[Lb (by omega)] at i2
    have g1:=k2' i (by omega)
    rcases U1h.mp hq with w|w
    .rcases U1h.mp (p1.mem_iff.mp w) with w|w
     .obtain⟨j,j1,j2⟩:=Hu w
      rw[K3] at j2
      rw[U1w] at j1
      have:=Iz sx (show i<=k+j by omega) (by omega)
      omega
     .obtain⟨j,j1,j2⟩:=Hu w
      rw[U1l] at j1
      rw[Lb (by omega)] at j2
      have:=Iz sy (U2w j) (by omega)
      omega
    .obtain⟨j,j1,j2⟩:=Hu w
     rw[K3] at j2
     rw[U1w] at j1
     have:=Iz sy (U2w (m+j)) (by omega)
     omega
 refine CQ (fun _=>wpS_bind ?_) (fun _=>wpS_bind ?_)
 .refine Xe hk (ha ▸ Ia) (hb ▸ Ib) (ha ▸ Sa) (hb ▸ Sb) (by rw[←ha];omega) (by rw[←hb];omega) (by rw[←ha,←hb];exact hmin) (by rw[←ha,←hb];exact hmax) fun r st' hE p1 p2=>?_
  rw[←ha,←hb] at p1
  refine wpS_bind (wpS_modify (wpS_bind (wpS_get (wpS_pure ?_))))
  have hn:failedOf st'=none:=hE.failed.trans hf
  show Q (failedOf st').isNone _
  rw[hn]
  exact fin r st' hE p1 p2 _ rfl rfl rfl rfl
 .refine Xf hk (ha ▸ Ia) (hb ▸ Ib) (ha ▸ Sa) (hb ▸ Sb) (by rw[←ha];omega) (by rw[←hb];omega) (by rw[←ha,←hb];exact hmin) (by rw[←ha,←hb];exact hmax) fun r st' hE p1 p2=>?_
  rw[←ha,←hb] at p1
  refine wpS_bind (wpS_modify (wpS_bind (wpS_get (wpS_pure ?_))))
  have hn:failedOf st'=none:=hE.failed.trans hf
  show Q (failedOf st').isNone _
  rw[hn]
  exact fin r st' hE p1 p2 _ rfl rfl rfl rfl
end
end Tm
end
section
namespace Tm
open PySem PyProof.Rows
def offs:Nat->List (List Keyed)->List (Nat×Nat)
 |_,[]=>[]
 |s,x::xs=>(s,x.length)::offs (s+x.length) xs
theorem Nu:∀(s:Nat)(xs ys:List (List Keyed)),offs s (xs++ys)=offs s xs++offs (s+xs.flatten.length) ys
 |s,[],ys=>by simp[offs]
 |s,x::xs,ys=>by
  rw[U1y,offs,Nu,offs,U2s,U0j,←U7z];rfl
theorem Ls:∀(s:Nat)(xs:List (List Keyed)),(offs s xs).length=xs.length
 |_,[]=>rfl
 |s,x::xs=>by rw[offs,U0g,Ls,U0g]
theorem Uq{α β:Type}(f:α->β):∀(l:List α)(i:Nat),(l.eraseIdx i).map f=(l.map f).eraseIdx i
 |[],i=>by simp
 |a::l,0=>rfl
 |a::l,i+1=>by
  show f a::(l.eraseIdx i).map f=f a::(l.map f).eraseIdx i
  rw[Uq f l i]
structure RI(a₀:Array Keyed)(rest:List Keyed)(lo m:Nat)(st:SortSt):Prop where
 perm:(arrOf st).Perm a₀
 kind:kindOf st=oneType'
 failed:failedOf st=none
 many:(pendingOf st).size=m
 runs:∃xs:List (List Keyed),(arrOf st).toList=xs.flatten++rest/\xs.flatten.length=lo/\(pendingOf st).toList.map (fun e=>(e.1,e.2.1))=offs 0 xs/\∀x∈xs,x≠[]/\srt x
theorem Wu:∀xs:List (List Keyed),(∀x∈xs,x≠[]/\srt x)->xs.length<=xs.flatten.length
 |[],_=>by simp
 |x::xs,h=>by
  have:=Wu xs fun y hy=>h y (U0p _ hy)
  have:=U5o.mpr (h x U0s).1
  rw[U2s,U0j,U0g]
  omega
theorem RI.few{a₀:Array Keyed}{rest:List Keyed}{lo m:Nat}{st:SortSt}(h:RI a₀ rest lo m st):m<=lo:=by
 obtain⟨xs,_,h2,h3,h4⟩:=h.runs
 have:=Wu xs h4
 have e:(pendingOf st).toList.length=xs.length:=by
  have:=congrArg U3u h3
  rw[U0e,Ls] at this
  exact this
 rw[U0f,h.many] at e
 omega
section
variable{prog:Program}{w:World}{A:Around}{E:Value->Shared->Prop}{s:Shared}{a₀:Array Keyed}
theorem Qi{rest:List Keyed}{lo m i:Nat}{st:SortSt}{Q:Bool->SortSt->Prop}(h0:JX a₀)(hR:RI a₀ rest lo m st)(hi:i+1<m)(h:∀st',RI a₀ rest lo (m-1) st'->Q true st'):wpS (model prog w) A E s (mergeAt' i) Q st:=by
 obtain⟨xs,h1,h2,h3,h4⟩:=hR.runs
 have hlen:xs.length=m:=by
  have:=congrArg U3u h3
  rw[U0e,Ls,U0f,hR.many] at this
  exact this.symm
 obtain⟨x,y,xs2,hd⟩:∃x y xs2,xs.drop i=x::y::xs2:=by
  have e:=U1w (i:=i) (l:=xs)
  match hx:xs.drop i with
  |[]=>rw[hx] at e;simp at e;omega
  |[_]=>rw[hx] at e;simp at e;omega
  |x::y::r=>exact⟨x,y,r,rfl⟩
 obtain⟨xs1,hx1⟩:∃xs1,xs1=xs.take i:=⟨_,rfl⟩
 have hl1:xs1.length=i:=by rw[hx1,U1l];omega
 have hx:xs=xs1++x::y::xs2:=by rw[hx1,←hd,U1u]
 clear hx1 hd
 subst hx
 have ho:offs 0 (xs1++x::y::xs2)=offs 0 xs1++(xs1.flatten.length,x.length)::(xs1.flatten.length+x.length,y.length)::offs (xs1.flatten.length+x.length+y.length) xs2:=by
  rw[Nu,U4r];rfl
 rw[ho] at h3
 have hol:(offs 0 xs1).length=i:=by rw[Ls];exact hl1
 have g:∀j:Nat,((pendingOf st)[j]?).map (fun e:Nat×Nat×Nat=>(e.1,e.2.1))=(offs 0 xs1++(xs1.flatten.length,x.length)::(xs1.flatten.length+x.length,y.length)::offs (xs1.flatten.length+x.length+y.length) xs2)[j]?:=fun j=>by
  rw[←h3,U01,U18]
 have g1:=g i
 have g2:=g (i+1)
 rw[U1i (by omega),hol,Nat.sub_self] at g1
 rw[U1i (by omega),hol,show i+1-i=1 by omega] at g2
 obtain⟨⟨sa,na,pw⟩,p1,p2⟩:=U2m.mp g1
 obtain⟨⟨sb,nb,pw2⟩,p3,p4⟩:=U2m.mp g2
 obtain⟨rfl,rfl⟩:=Prod.mk.inj p2
 obtain⟨rfl,rfl⟩:=Prod.mk.inj p4
 have mx:=h4 x (by simp)
 have my:=h4 y (by simp)
 refine Xg (L1:=xs1.flatten) (x:=x) (y:=y) (L2:=xs2.flatten++rest) (Wh h0 hR.perm) hR.kind hR.failed p1 p3 (by rw[h1];simp) rfl rfl rfl rfl (U5o.mpr mx.1) (U5o.mpr my.1) mx.2 my.2 fun st' z q1 q2 q3 q4 q5 q6=>h st' ⟨?_,q1,q2,?_,xs1++z::xs2,?_,?_,?_,?_⟩
 .refine Array.Perm.trans (U5h.mpr ?_) hR.perm
  rw[q4,h1]
  have:(xs1++x::y::xs2).flatten++rest=xs1.flatten++((x++y)++(xs2.flatten++rest)):=by simp
  rw[this]
  exact U12 _ (q5.append_right _)
 .rw[q3,←U0f,Array.toList_eraseIdxIfInBounds,List.length_eraseIdx,U0f,Array.size_setIfInBounds,hR.many,if_pos hi]
 .rw[q4];simp
 .have:=q5.length_eq
  simp only[List.flatten_append,U2s,U0j] at *
  omega
 .have hz:=q5.length_eq
  rw[U0j] at hz
  have e5:offs 0 (xs1++z::xs2)=offs 0 xs1++(xs1.flatten.length,x.length+y.length)::offs (xs1.flatten.length+x.length+y.length) xs2:=by
   rw[Nu,U4r,offs,hz,U7z]
  rw[q3,Array.toList_eraseIdxIfInBounds,Array.toList_setIfInBounds,Uq,List.map_set,h3,e5,List.set_append_right _ _ (by omega),hol,Nat.sub_self,List.set_cons_zero,List.eraseIdx_append_of_length_le (by omega),hol,show i+1-i=1 by omega]
  rfl
 .intro u hu
  rcases U1h.mp hu with k|k
  .exact h4 u (U2y _ k)
  .rcases U0k.mp k with k|k
   .subst k
    refine⟨fun e=>mx.1 ?_,q6⟩
    rw[e] at q5
    have:=q5.length_eq
    rw[U0j,U1b] at this
    exact U3e.mp (by omega)
   .exact h4 u (U0y _ (U0p _ (U0p _ k)))
theorem RI.run{rest:List Keyed}{lo m n:Nat}{st st':SortSt}(hR:RI a₀ rest lo m st)(hB:RB a₀ st lo st')(hn:lo+n<=a₀.size)(hs:KJ (arrOf st') lo n) :
  ∃x rest',RI a₀ (x++rest') lo m st'/\x.length=n/\srt x:=by
 obtain⟨xs,h1,h2,h3,h4⟩:=hR.runs
 have sz:=hB.size
 have et:(arrOf st').toList.take lo=xs.flatten:=by
  have:(arrOf st).toList.take lo=xs.flatten:=by rw[h1,←h2,List.take_left]
  rw[←this]
  refine U58 fun j=>?_
  rw[U6v,U6v]
  by_cases hj:j<lo
  .rw[if_pos hj,if_pos hj,U18,U18]
   exact hB.pre j hj
  .rw[if_neg hj,if_neg hj]
 have e2:(arrOf st').toList=xs.flatten++(((arrOf st').toList.drop lo).take n++((arrOf st').toList.drop lo).drop n):=by
  rw[U1u,←et,U1u]
 have hl:(((arrOf st').toList.drop lo).take n).length=n:=by
  rw[U1l,U1w,U0f];omega
 refine⟨((arrOf st').toList.drop lo).take n,((arrOf st').toList.drop lo).drop n,⟨hB.perm,hB.kind,hB.failed,by rw[hB.pend];exact hR.many,xs,e2,h2,by rw[hB.pend];exact h3,h4⟩,hl,?_⟩
 unfold srt
 rw[U3t]
 intro i j hi hj hij
 rw[←PJ hi,←PJ hj,Lb (by omega),Lb (by omega),K3,K3,←Oq,←Oq]
 exact hs i j (by omega) (by omega)
theorem RI.push{x rest:List Keyed}{lo m n:Nat}{st st':SortSt}(hR:RI a₀ (x++rest) lo m st)(hx:x.length=n)(hn:0<n)(hs:srt x)(h1:kindOf st'=kindOf st)(h2:failedOf st'=failedOf st)(h3:arrOf st'=arrOf st)(h4:pendingOf st'=(pendingOf st).push (lo,n,0)):RI a₀ rest (lo+n) (m+1) st':=by
 obtain⟨xs,g1,g2,g3,g4⟩:=hR.runs
 refine⟨by rw[h3];exact hR.perm,h1.trans hR.kind,h2.trans hR.failed,by rw[h4,Array.size_push,hR.many],xs++[x],by rw[h3,g1];simp,by simp[g2,hx],?_,fun u hu=>?_⟩
 .rw[h4,U63,U3h,g3,Nu,U4r,g2,offs,hx];rfl
 .rcases U1h.mp hu with k|k
  .exact g4 u k
  .rw[U1k.mp k]
   exact⟨U5o.mp (by omega),hs⟩
theorem RI.same{rest:List Keyed}{lo m:Nat}{st st':SortSt}(hR:RI a₀ rest lo m st)(h1:kindOf st'=kindOf st)(h2:failedOf st'=failedOf st)(h3:arrOf st'=arrOf st)(h4:(pendingOf st').toList.map (fun e=>(e.1,e.2.1))=(pendingOf st).toList.map (fun e=>(e.1,e.2.1))):RI a₀ rest lo m st':=by
 obtain⟨xs,g1,g2,g3,g4⟩:=hR.runs
 refine⟨by rw[h3];exact hR.perm,h1.trans hR.kind,h2.trans hR.failed,?_,xs,by rw[h3];exact g1,g2,h4.trans g3,g4⟩
 have:=congrArg U3u h4
 rw[U0e,U0e,U0f,U0f,hR.many] at this
 exact this
end
end Tm
end
section
namespace Tm
open PySem PyProof.Rows
theorem jN{α β:Type}(g:α->β)(f:α->α)(hf:∀a,g (f a)=g a)(l:List α)(i:Nat):(l.modify i f).map g=l.map g:=by
 refine U58 fun j=>?_
 rw[U01,U01,List.getElem?_modify]
 cases l[j]? with
 |none=>rfl
 |some a =>
  show some (g (if i=j then f a else a))=some (g a)
  split
  .rw[hf]
  .rfl
theorem ite_le(c:Prop)[Decidable c](a b:Nat):(if c then a else b)<=max a b:=by split<;>omega
section
variable{prog:Program}{w:World}{A:Around}{E:Value->Shared->Prop}{s:Shared}{a₀:Array Keyed}
theorem Xd{st:SortSt}{Q:Unit->SortSt->Prop}(h0:Keys a₀)(hB:SBase a₀ st)(h2:2<=a₀.size)
  (h:∀st',(arrOf st').Perm a₀->failedOf st'=none->SortedTo (arrOf st') a₀.size->Q () st'):wpS (model prog w) A E s sortRuns' Q st:=by
 have base:RI a₀ (arrOf st).toList 0 0 st:=⟨hB.perm,hB.kind,hB.failed,by rw[hB.pend];rfl,[],by simp,rfl,by rw[hB.pend];rfl,fun x hx=>by simp at hx⟩
 rw[sortRuns'_eq]
 refine wpS_bind (wpS_get ?_)
 dsimp only
 rw[hB.size]
 generalize minRun' a₀.size a₀.size 0=mr
 refine wpS_bind (wpS_mono (wpS_forRange
  (I:=fun x c st'=>∃lo rest m,c=(none,lo)/\RI a₀ rest lo m st'/\x<=lo/\lo<=a₀.size)
  (Q:=fun c st'=>∃rest m,c=(none,a₀.size)/\RI a₀ rest a₀.size m st') ?step ?fin ⟨0,_,0,rfl,base,by omega,by omega⟩) ?post)
 case fin =>
  rintro c st' ⟨lo,rest,m,rfl,hR,h3,h4⟩
  have:lo=a₀.size:=by omega
  subst this
  exact⟨rest,m,rfl,hR⟩
 case step =>
  rintro x c st' _ hx ⟨lo,rest,m,rfl,hR,h3,h4⟩
  dsimp only
  by_cases hge:lo≥a₀.size
  .rw[if_pos hge]
   have:lo=a₀.size:=by omega
   subst this
   exact wpS_pure ⟨rest,m,rfl,hR⟩
  rw[if_neg hge]
  have B0:RB a₀ st' lo st':=⟨hR.perm,fun _ _=>rfl,hR.kind,hR.failed,rfl⟩
  have rest_of:∀(st3:SortSt)(n:Nat),RB a₀ st' lo st3->0<n->lo+n<=a₀.size->KJ (arrOf st3) lo n->∃x rest',RI a₀ (x++rest') lo m st3/\x.length=n/\srt x:=fun st3 n b1 b2 b3 b4=>hR.run b1 b3 b4
  refine wpS_bind (ZM h0 (by omega) (by omega) B0 fun k st2 B2 k1 k2 hs2=>?_)
  apply CQ
  case' hx =>
   intro hlt
   refine wpS_bind (wpS_lift (U3 ⟨rfl,?_⟩))
   refine wpS_bind (cY (n:=min (a₀.size-lo) mr) h0 (by omega) (by omega) B2 hs2 fun st3 B3 hs3=>?_)
   rw[if_neg (by decide)]
   have n1:0<min (a₀.size-lo) mr:=by omega
   have n2:lo+min (a₀.size-lo) mr<=a₀.size:=by omega
   generalize min (a₀.size-lo) mr=n at *
  case' hy =>
   intro hlt
   obtain⟨n,rfl⟩:∃n,n=k:=⟨_,rfl⟩
   obtain⟨st3,rfl⟩:∃st3,st3=st2:=⟨_,rfl⟩
   have B3:=B2
   have hs3:=hs2
   have n1:0<n:=by omega
   have n2:lo+n<=a₀.size:=by omega
  all_goals
   obtain⟨u,rest',hR3,hu,su⟩:=rest_of st3 n B3 n1 n2 hs3
   refine wpS_bind (wpS_get ?_)
   cases hb:(pendingOf st3).back? with
   |none=>exact wpS_bind (wpS_modify (wpS_pure ⟨lo+n,rest',_,rfl,hR3.push hu n1 su rfl rfl rfl rfl,by omega,n2⟩))
   |some e =>
    obtain⟨s1,l1,p1⟩:=e
    refine wpS_bind (wpS_mono (wpS_forRange (I:=fun _ c st4=>c=(none,())/\∃m,RI a₀ (u++rest') lo m st4) (Q:=fun c st4=>c=(none,())/\∃m,RI a₀ (u++rest') lo m st4) ?_ (fun _ _ hh=>hh) ⟨rfl,m,hR3⟩) ?_)
    .rintro y c st4 _ _ ⟨rfl,m4,hR4⟩
     refine wpS_bind (wpS_get ?_)
     by_cases hp:(pendingOf st4).size>1
     .rw[if_pos hp,getElem?_pos (pendingOf st4) _ (show(pendingOf st4).size-2<(pendingOf st4).size by omega)]
      obtain⟨t1,t2,t3⟩:=(pendingOf st4)[(pendingOf st4).size-2]'(by omega)
      refine CQ (fun _=>wpS_pure ⟨rfl,m4,hR4⟩) (fun _=>?_)
      refine wpS_bind (Qi h0.allI hR4 (by have:=hR4.many;omega) fun st5 hR5=>?_)
      rw[if_neg (by decide)]
      exact wpS_pure ⟨rfl,_,hR5⟩
     .rw[if_neg hp]
      exact wpS_pure ⟨rfl,m4,hR4⟩
    .rintro c st4 ⟨rfl,m4,hR4⟩
     refine wpS_bind (wpS_modify ?_)
     refine wpS_bind (wpS_modify (wpS_pure ⟨lo+n,rest',m4+1,rfl,RI.push (st:=setPending st4 ((pendingOf st4).modify ((pendingOf st4).size-1) fun q=>(q.1,q.2.1,_))) (hR4.same rfl rfl rfl ?_) hu n1 su rfl rfl rfl rfl,by omega,n2⟩))
     show((pendingOf st4).modify _ _).toList.map _=_
     rw[Array.toList_modify]
     refine jN _ _ ?_ _ _
     intro q
     rfl
 case post =>
  rintro c st' ⟨rest,m,rfl,hR⟩
  have hm:m<=a₀.size:=hR.few
  refine wpS_bind (wpS_mono (wpS_forRange (I:=fun x c st4=>c=(none,())/\∃m,RI a₀ rest a₀.size m st4/\m+x<=a₀.size+1) (Q:=fun c st4=>c=(none,())/\∃m,RI a₀ rest a₀.size m st4/\m<=1) ?_ (fun c st4 hh=>?_) ⟨rfl,m,hR,by omega⟩) ?_)
  .rintro x c st4 _ hx ⟨rfl,m4,hR4,hm4⟩
   refine wpS_bind (wpS_get ?_)
   have mm:=hR4.many
   refine CQ (fun e=>wpS_pure ⟨rfl,m4,hR4,by omega⟩) (fun e=>?_)
   have e:¬(pendingOf st4).size<=1:=e
   refine wpS_bind (Qi h0.allI hR4 ?_ fun st5 hR5=>?_)
   .refine U4x (Nat.succ_le_succ (ite_le _ _ _)) ?_
    omega
   .rw[if_neg (by decide)]
    exact wpS_pure ⟨rfl,_,hR5,by omega⟩
  .obtain⟨rfl,m4,hR4,hm4⟩:=hh
   exact⟨rfl,m4,hR4,by omega⟩
  .rintro c st4 ⟨rfl,m4,hR4,hm4⟩
   obtain⟨xs,g1,g2,g3,g4⟩:=hR4.runs
   have hl:xs.length=m4:=by
    have:=congrArg U3u g3
    rw[U0e,Ls,U0f,hR4.many] at this
    exact this.symm
   have sz:(arrOf st4).size=a₀.size:=hR4.perm.size_eq
   have hr:rest=[]:=by
    have:=congrArg U3u g1
    rw[U0f,U0j] at this
    exact U3e.mp (by omega)
   have hs:srt (arrOf st4).toList:=by
    rw[g1,hr,U1n]
    match xs,hl with
    |[],_=>exact .nil
    |[x],_=>rw[U2s,List.flatten_nil,U1n];exact(g4 x (by simp)).2
    |x::y::r,hl=>simp at hl;omega
   have:=O2 hs
   rw[sz] at this
   exact wpS_pure (h st4 hR4.perm hR4.failed this)
end
end Tm
end
section
set_option maxRecDepth 100000
namespace SetP
open PySem PyProof.Rows Tm
theorem jc{vs:List Value}{ns:List Int}(hI:IntsAre vs ns)(hd:ns.Nodup):Keys (pairsOf vs):=by
 refine⟨fun p hp=>?_,?_⟩
 .obtain⟨n,t,e⟩:=hI.intKeys p hp
  exact⟨n,t,p.2,Prod.ext e rfl⟩
 .have e:(pairsOf vs).toList.map kv=((vs.zip vs).map Prod.fst).map numOf:=by rw[pairsOf_toList,U09];rfl
  rw[e,List.map_fst_zip (U0h _),hI.nums]
  exact hd
section
variable{prog:Program}{w:World}{A:Around}{E:Value->Shared->Prop}{s:Shared}
theorem VF{a:Addr}{vs:List Value}{ns:List Int}{n:Nat}{P:Fin->Shared->Prop}(ho:s.heap.get? a=some (seqObj "list" vs.toArray n))(hI:IntsAre vs ns)(hd:ns.Nodup)(hl:vs.length<1000)
  (h:∀(out:Array Value)(ns':List Int),IntsAre out.toList ns'->ns'.Perm ns->ns'.Pairwise (·<=·)->P (.done (.ret .none)) { s with heap:=sortedHeap s.heap a vs out }) :
  wpAny (model prog w) A (Builtin.«list.sort» ⟨[.ref a],[]⟩) P E s:=by
 by_cases h64:vs.length<64
 .exact list_sort_tree ho hI h64 h
 obtain⟨v₁,v₂,rest,rfl⟩:∃v₁ v₂ rest,vs=v₁::v₂::rest:=by
  match vs,h64 with
  |[],h64=>simp at h64
  |[_],h64=>simp at h64
  |v₁::v₂::rest,_=>exact⟨v₁,v₂,rest,rfl⟩
 have many:¬(v₁::v₂::rest).toArray.size<2:=by simp
 have lt:=U0i ho
 have room:∀xs:Array Value,xs.size=(v₁::v₂::rest).length->xs.size<=sizeLine+1:=fun xs e=>by rw[e,sizeLine_eq];omega
 rw[list_sort_plain]
 refine U0 (listItems_at ho rfl (U0 (listUpdate_at ho rfl ?_ (hsz:=by rw[U0l,sizeLine_eq];omega))))
 obtain⟨e1,o1⟩:∃e1,(s.heap.update a (U19 fun _=>#[])).get? a=some (seqObj "list" #[] e1):=⟨_,get?_update_seq ho (fun _=>#[])⟩
 refine U0 (seqEpoch_at o1 rfl (U0 (wpAny_newTuple (U0 (wpAny_newList (U2n ?_))))))
 have o2:(((s.heap.update a (U19 fun _=>#[])).push (seqObj "tuple" (v₁::v₂::rest).toArray 0)).push (seqObj "list" #[] 0)).get? a=some (seqObj "list" #[] e1) :=
  U0c _ (U0c _ o1)
 show wpAny (model prog w) A _ P E { s with heap:=((s.heap.update a (U19 fun _=>#[])).push (seqObj "tuple" (v₁::v₂::rest).toArray 0)).push (seqObj "list" #[] 0) }
 dsimp only
 rw[if_neg many,if_neg many,keyKind_ints hI]
 refine U0 (U0d (U0 (U5b (Xd (a₀:=pairsOf (v₁::v₂::rest)) (Q:=fun _ st'=>(arrOf st').Perm (pairsOf (v₁::v₂::rest))/\failedOf st'=none/\SortedTo (arrOf st') (pairsOf (v₁::v₂::rest)).size)
  (jc hI hd) ⟨Array.Perm.refl _,rfl,rfl,rfl⟩ (by rw[pairsOf_size];simp) fun st' a1 a2 a3=>⟨a1,a2,a3⟩) ?_ fun _ _ e=>e)))
 rintro⟨⟨⟩,st'⟩ s' ⟨rfl,hp,hf,hs⟩
 obtain⟨ns',r1,r2,r3⟩:=sorted_out hI hp hs
 dsimp only
 refine U0 (seqEpoch_at o2 rfl (U0 (listUpdate_at o2 rfl ?_ (hsz2:=room _ ((Array.size_map ..).trans (hp.size_eq.trans (pairsOf_size _)))))))
 rw[hf]
 simp only[bne_self_eq_false,U0w,if_false]
 exact U0d (h _ ns' r1 r2 r3)
theorem Zo{S:Addr}{ds:List Int}{Q:List Value->Shared->Prop}(hh:A.handled=none)(hS:SetT prog w s.heap S ds)(h64:ds.length<1000)
  (h:∀h' d' tk vs ns,(∀b o,s.heap.get? b=some o->h'.get? b=some o)->IntsAre vs ns->ns.Perm ds->Q vs { s with heap:=h',drawn:=d',toks:=tk }):wpAny (model prog w) A (collect (.ref S)) Q E s:=by
 obtain⟨o,ho,hex⟩:∃o,s.heap.get? S=some o/\o.ExactSet:=by
  obtain⟨_,o,es,ep,t,ho,hex,_⟩:=hS
  exact⟨o,ho,hex⟩
 have hlt:=U0i ho
 unfold collect
 refine U0 (U7r (codeAny_builtin F.entry_proto_collect ?_))
 rw[U3a F.plain_proto_collect _]
 show wpAny _ A.in1 (newList [] >>= fun l=>again (.builtin "list.__iadd__" ⟨[l,.ref S],[]⟩)) _ _ s
 refine U0 (U1p (U0d ⟨plainId_quiet U57 _,codeAny_builtin F.entry_list_iadd ?_⟩))
 rw[U3a U57 _]
 generalize hL:s.heap.objs.size=L
 generalize hg:s.heap.push { cls:=.type "list",dict:=none,data:=.seq ([]:List Value).toArray }=g
 have k1:∀b o,s.heap.get? b=some o->g.get? b=some o:=fun b o e=>hg ▸ U0c _ e
 have hLg:g.get? L=some { cls:=.type "list",data:=.seq ([]:List Value).toArray }:=hg ▸ hL ▸ U0r _ rfl
 have hsz:g.objs.size=L+1:=by rw[←hg,U2h,hL]
 have hLS:L≠S:=by rw[←hL];exact U3k hlt
 have hT:U5g { s with heap:=g } (.ref S) "set":=⟨o,k1 _ _ ho,hex.1⟩
 show wpAny _ A.in1 (U39 (.ref L) (.ref S) (.ref L)) _ _ _
 unfold U39
 refine U0 (U44 hT ?_)
 have h1:U4u (.ref L) (.ref S)=false:=by simp[U4u,hLS]
 have h2:(U2r "set"==U2r "list")=false:=by decide
 have h3:(U2r "set"==U2r "tuple")=false:=by decide
 simp only[h1,h2,h3,U7x,U0w,if_false]
 refine U0 (aO (s:={ s with heap:=g }) (hS.sameBut fun o e=>k1 _ _ e) fun g2 d2 it T vs k2 hit hTT x ⟨ns,hi,hp⟩=>?_)
 have hT2:U5g { s with heap:=g2,drawn:=d2 } (.ref S) "set":=⟨o,k2 _ _ (k1 _ _ ho),hex.1⟩
 refine U0 (U2n (aR hT2 ?_))
 have hit':L<it:=by
  have hit2:g.objs.size<=it:=hit
  omega
 show wpAny _ A.in1 (rule "list.extend.makes-room" >>= fun _=>Builtin.List.listTouch (.ref L) >>= fun _=>again (.builtin "list.extend.loop" ⟨[.ref L,.ref it,.ref L],[]⟩)) _ _ _
 refine U0 (U3 (U0 ?_))
 have e1:=k2 _ _ hLg
 show wpAny _ A.in1 (updateSeq L (·.push .none) >>= fun _=>updateSeq L (·.pop)) _ _ _
 refine U0 (U6i e1 rfl ?_)
 have e2:=U2o (U19 (·.push U2f)) e1 rfl
 refine U6i e2 rfl ?_
 have e3:=U2o (U19 (·.pop)) e2 rfl
 have oth:∀b o,b≠L->g2.get? b=some o->((g2.update L (U19 (·.push U2f))).update L (U19 (·.pop))).get? b=some o:=fun b o hb e=>(U1a _ _ (U2g hb)).trans ((U1a _ _ (U2g hb)).trans e)
 have hvn:vs.length=ns.length:=U5y hi
 have hv64:vs.length<1000:=by rw[hvn,hp.length_eq];exact h64
 have hz:vs.length<=sizeLine:=by rw[sizeLine_eq];omega
 have nin:L ∉ [it,S,T]:=fun z=>by
  simp only[U0k,U1m,or_false] at z
  rcases z with z|z|z
  .omega
  .exact hLS z
  .rcases hTT with q|q
   .exact hLS (z.trans q)
   .have q':g.objs.size<=T:=q
    omega
 have W:=(YC (prog:=prog) (w:=w) (A:=A.in1) (by simpa using hh) it S T vs).toS
 have x3:KN w ((g2.update L (U19 (·.push U2f))).update L (U19 (·.pop))) it S T vs 0:=x.keep fun b hb o e=>oth b o (fun z=>nin (z ▸ hb)) e
 refine U0d ⟨plainId_quiet F.plain_extend_loop _,codeAny_extend_loopS W hz L nin _ vs.length 0 _ _ _ (by omega) (U2w _) x3 e3 (ItemsOf.nil _) fun s' acc c hm hS' hacc=>?_⟩
 show wpAny _ A (load L >>= _) _ _ s'
 refine U0 (U7v hS' ?_)
 have eacc:acc.toList=vs:=by
  apply U58
  intro j
  rw[U18]
  cases hj:acc[j]? with
  |some v=>exact(hacc.2 j v hj).symm
  |none =>
   have:acc.size<=j:=by simpa using hj
   rw[hacc.1] at this
   exact(U46 this).symm
 obtain⟨h',g',d',tk,os'⟩:=s'
 have q1:g'=s.gens:=hm.gens
 have q2:os'=s.os:=hm.os
 subst q1 q2
 refine U0d ?_
 show Q acc.toList _
 rw[eacc]
 refine h h' d' tk vs ns (fun b o e=>hm.heap b o ?_ (oth b o ?_ (k2 _ _ (k1 _ _ e)))) hi hp
 .have hb:b<L:=by rw[←hL];exact U0i e
  intro z
  rcases U0k.mp z with z|z
  .exact absurd z (U05 hb)
  .exact absurd (U1k.mp z) (U05 (U3w hb hit'))
 .exact U05 (by rw[←hL];exact U0i e)
theorem ao{S:Addr}{ds:List Int}{Q:Value->Shared->Prop}(hh:A.handled=none)(hS:SetT prog w s.heap S ds)(h64:ds.length<1000)
  (h:∀h' d' tk l vs ns n,(∀b o,s.heap.get? b=some o->h'.get? b=some o)->(∀b o,s.heap.get? b=some o->b<l)->h'.get? l=some { cls:=.type "list",data:=.seq vs n }->IntsAre vs.toList ns->ns.Perm ds->ns.Pairwise (·<=·)->Q (.ref l) { s with heap:=h',drawn:=d',toks:=tk }) :
  wpAny (model prog w) A (call (.builtin "sorted") [.ref S]) Q E s:=by
 refine Calls.call_function_entry kind_sorted plain_sorted entry_sorted (args_sorted1 _) ?_
 unfold Builtin.«sorted»
 refine U0 (m:=checkCount "sorted" 1 1 _) (U0d ?_)
 refine U0 (Zo (A:=A.in1) (by simpa using hh) hS h64 fun h1 d1 t1 vs ns k1 hi hp=>?_)
 have hv64:vs.length<1000:=by rw[show vs.length=ns.length from U5y hi,hp.length_eq];exact h64
 refine U0 (wpAny_newList ?_)
 have hoL:(h1.push (seqObj "list" vs.toArray 0)).get? h1.objs.size=some (seqObj "list" vs.toArray 0):=U0r _ rfl
 show wpAny _ _ _ _ _ { s with heap:=h1.push (seqObj "list" vs.toArray 0),drawn:=d1,toks:=t1 }
 refine U0 (U2n (U2i slot_list_sort ⟨_,hoL,rfl⟩ entry_list_sort (VF hoL hi (hp.nodup_iff.mpr hS.nd) hv64 fun out ns' a1 a2 a3=>⟨_,rfl,?_⟩) (args_list_sort _)))
 refine U0d ⟨_,rfl,?_⟩
 have old:∀b o,s.heap.get? b=some o->b≠h1.objs.size:=fun b o e=>U05 (U0i (k1 b o e))
 obtain⟨n',e'⟩:=Mi (out:=out) hoL
 refine h _ d1 t1 h1.objs.size out ns' n' (fun b o e=>Lz (old b o e) (U0c _ (k1 b o e))) (fun b o e=>U0i (k1 b o e)) e' a1 (a2.trans hp) a3
end
end SetP
end
section
namespace L2
open PySem PySem.Spec PyProof.Rows
variable{X:Cx}
theorem TQ(hc:X.calm=true):Dd X (.builtin "sorted") (fun xs H Q=>∃(a:Addr)(ds:List Int),xs=[.ref a]/\H a=some (Oi X.prog X.w a ds)/\ds.length<1000 /\
  ∀(l:Addr)(ns:List Int),H l=none->ns.Perm ds->ns.Pairwise (·<=·)->Q (.ref l) (upd H l (.lst (ns.map V.int)))):=by
 intro pins s σ H xs us Q I r h
 obtain⟨a,ds,rfl,hH,hl,q⟩:=h
 obtain⟨u,rfl,rx⟩:=vals1 r
 cases rx
 obtain⟨T,_,_⟩:=(show Dc X.prog X.w H s.heap a (Oi X.prog X.w a ds) from I.hok a _ hH)
 refine SetP.ao (I.ok.hd hc) T hl fun h' d' tk l vs ns n k hb e hi hp hs=>?_
 have hn:s.heap.get? l=none:=by
  cases q:s.heap.get? l with
  |none=>rfl
  |some o=>exact absurd (hb l o q) (U4i _)
 have hsy:sysModules≠l:=by
  obtain⟨o,_,_,e,_⟩:=I.ok.mod.glob
  exact U05 (U3w (by decide:(1:Nat)<3) (hb _ _ (I.bk _ _ e)))
 have hlen:ns.length<1000:=by rw[hp.length_eq];exact hl
 refine⟨.ref l,_,I.laidN (d':=d') (t':=tk) (o:=.lst (ns.map V.int)) k hn hsy ⟨?_,vs.toList,n,MK hi,by simpa using e⟩,rfl,q l ns (I.Tt hn) hp hs⟩
 rw[U0e]
 exact U2d (Uk (by omega))
end L2
end
section
namespace VS
open PySem PySem.Spec L2
def Kg(a:Az):Az:=fun env S=>(a env S).bind fun p=>(listOf p.2 p.1).bind fun ds=>(intsOf ds).bind fun ns=>if ns.length<1000/\(SetP.once ns).length<1000 then some (.lst true ((Dr ns).map .int),p.2) else none
theorem Xy{X:Cx}{a:Expr}{f:Az}{p p2 pos pos2:Pos}(hc:X.calm=true)(ha:JE X a f)(hg:Gl X "sorted")(hm:X.mg "sorted"=none)(hg2:Gl X "set")(hm2:X.mg "set"=none) 
  (he:starEach [a] X.env=[(false,eval a X.env)]:=by rfl) (he2:starEach [.Call (.Name "set" p2) [a] [] pos2] X.env=[(false,eval (.Call (.Name "set" p2) [a] [] pos2) X.env)]:=by rfl):JE X (.Call (.Name "sorted" p) [.Call (.Name "set" p2) [a] [] pos2] [] pos) (Kg f) :=
 ⟨PE.imp (RK (TQ hc) hg hm Ux (Nb (MN (X3 hc) hg2 hm2 aX (Nb ha.pe Ox he) (he:=he) (hpl:=rfl)) Ox he2) (he:=he2) (hpl:=rfl)) fun σ H Q h=>by
  obtain⟨Γ,μ,env,S,d,S',hK,R,e,q⟩:=h
  obtain⟨⟨y,S1⟩,e1,e⟩:=bind_some e
  obtain⟨ds,e2,e⟩:=bind_some e
  obtain⟨ns,e3,e⟩:=bind_some e
  by_cases hl:ns.length<1000/\(SetP.once ns).length<1000
  .rw[if_pos hl] at e
   cases e
   refine⟨Γ,μ,env,S,y,_,hK,R,e1,fun v1 μ1 H1 x1 R1 r1=>?_⟩
   obtain⟨b,xs,rfl,hb,rb⟩:=VR.list R1 r1 e2
   have:=Ho e3
   subst this
   have:=rb.Q8
   subst this
   refine⟨b,ns,rfl,SqL.of hb,hl.1,fun s hs=>?_⟩
   obtain⟨R2,x2⟩:=R1.grow (Cd hs (Oi X.prog X.w s (SetP.once ns)))
   refine⟨s,_,rfl,Bv,hl.2,fun l ms hl' hp hsrt=>?_⟩
   have:=S9 hp hsrt
   subst this
   obtain⟨R3,x3⟩:=R2.grow (Cd hl' (.lst ((Dr ns).map V.int)))
   exact q _ μ1 _ (x1.trans (x2.trans x3)) R3 (.lst (R2.ok hl' true) (R2.dead hl') Bv (VRs.ints _))
  .rw[if_neg hl] at e;cases e⟩
theorem Xb(a:Az)(env:VS.Env)(S:Store):Kg a env S=(a env S).bind fun p=>(listOf p.2 p.1).bind fun ds=>(intsOf ds).bind fun ns=>if ns.length<1000/\(SetP.once ns).length<1000 then some (.lst true ((Dr ns).map .int),p.2) else none:=rfl
end VS
end
section
namespace L2
open PySem PySem.Spec PyProof.Rows
open PySem.SeqAt PySem.MeetsSeq
open PySem.AutoSeq1 (wpAny_loadPart')
theorem OJ(b:Int)(u:Tok)(l:Addr)(es:Array DictEntry)(n:Nat)(dd:Option Addr)(sl:Array (Option Value)) :
  Meets (Builtin.«int.__eq__» ⟨[.int b u,.ref l],[]⟩) (fun _ R s=>s.heap.get? l=some { cls:=.type "dict",dict:=dd,data:=.dict es n,slots:=sl }/\R (.ok (.ret .notImplemented)) s) :=
 .of_wp fun prog w A R s h=>by obtain⟨hp,g,d,tk,os⟩:=s;obtain⟨hl,h⟩:=h;wp_walk using wpAny_loadPart' hl,U7v hl;exact⟨_,rfl,h⟩
theorem Oa(l:Addr)(es:Array DictEntry)(n:Nat)(dd:Option Addr)(sl:Array (Option Value))(b:Int)(u:Tok) :
  Meets (Builtin.«dict.__eq__» ⟨[.ref l,.int b u],[]⟩) (fun _ R s=>s.heap.get? l=some { cls:=.type "dict",dict:=dd,data:=.dict es n,slots:=sl }/\R (.ok (.ret .notImplemented)) s) :=
 .of_wp fun prog w A R s h=>by obtain⟨hp,g,d,tk,os⟩:=s;obtain⟨hl,h⟩:=h;have f1:=F.sub_int_dict;wp_walk using wpAny_loadPart' hl;exact⟨_,rfl,h⟩
theorem VJ{A:Around}{s:Shared}{l:Addr}{es:Array DictEntry}{n:Nat}{dd:Option Addr}{sl:Array (Option Value)}(b:Int)(u:Tok)(ho:s.heap.get? l=some { cls:=.type "dict",dict:=dd,data:=.dict es n,slots:=sl })(hu:A.units<cLine):RcAt A s (.int b u) (.ref l) false:=fun prog w E Q h=>by
 exact rc_eq_decline_or (k:=false) (typeIs_int s b u) ⟨_,ho,rfl⟩ (by decide) F.sub_dict_int F.slot_int_eq F.slot_dict_eq_refl
  (fun _ hq=>call_meets F.slot_int_eq (typeIs_int s b u) F.entry_int_eq (F.args_int_eq_2 _ _) (OJ b u l es n dd sl) ⟨ho,hq⟩)
  (fun _ hq=>call_meets F.slot_dict_eq_refl ⟨_,ho,rfl⟩ F.entry_dict_eq (F.args_dict_eq_2 _ _) (Oa l es n dd sl b u) ⟨ho,hq⟩)
  (fun _ hq=>wpAny_of_eq (rfl:isSame (.int b u) (.ref l)=pure false) hq) (.inr hu) h
theorem VL{A:Around}{s:Shared}{l:Addr}{es:Array DictEntry}{n:Nat}{dd:Option Addr}{sl:Array (Option Value)}(b:Int)(u:Tok)(ho:s.heap.get? l=some { cls:=.type "dict",dict:=dd,data:=.dict es n,slots:=sl })(hu:A.units<cLine):EqAt A s (.int b u) (.ref l) false:=fun prog w E Q h=>by
 unfold eqBool
 refine U2n ?_
 refine wpAny_ite_split (fun hab=>absurd (eq_of_beq hab) nofun) (fun _=>?_)
 exact U0 (VJ b u ho hu prog w E _ (U32 h))
def eqI(d:PyData):Value->Bool
 |.int n _=>U3c (.int n) d
 |_=>false
theorem Yy(d:PyData):∀{ns:List Int} {us:List Value},Vals (ns.map V.int) us->us.any (eqI d)=ns.any fun n=>U3c (.int n) d
 |[],_,.nil=>rfl
 |n::r,_,.cons q t=>by
  obtain⟨tk,rfl⟩:=q
  rw[List.any_cons,List.any_cons,Yy d t];rfl
def okIn(d:PyData):Bool:=U2e d||match d with|.dict _=>true|_=>false
theorem Xa{A:Around}{s:Shared}{d:PyData}{v:Value}{as:List Addr}(rx:Reads s.heap v d as)(hd:okIn d=true)(hu:A.units+64<cLine)(n:Int)(tk:Tok):U7u A s (.int n tk) v (U3c (.int n) d):=by
 by_cases hs:U2e d=true
 .refine SeqAt.eqAt_reads (.int n) d A s _ v _ as (.int n tk) rx rfl (SeqAt.canLay_of_shaped hs) ?_
  have:min (U4n n).depth d.depth<=(U4n n).depth:=Nat.min_le_left _ _
  have h1:(U4n n).depth<=64:=by simp[U2z]
  omega
 .cases d with
  |dict kvs =>
   cases rx with
   |@dict a o es m _ as bs h1 h2 h3 h4 h5 =>
    obtain⟨cls,dd,data,sl⟩:=o
    simp only at h2 h3
    subst h2 h3
    have e:U3c (.int n) (.dict kvs)=false:=rfl
    rw[e]
    exact VL n tk h1 (by omega)
  |_ =>
   unfold okIn at hd
   rw[U7j] at hd
   rcases hd with hd|hd
   .exact absurd hd hs
   .cases hd
theorem Yh{A:Around}{s:Shared}{d:PyData}{v:Value}{as:List Addr}(rx:Reads s.heap v d as)(hd:okIn d=true)(hu:A.units+64<cLine):∀{ns:List Int} {us:List Value},Vals (ns.map V.int) us->∀u∈us,U7u A s u v (eqI d u)
 |[],_,.nil=>fun u hu=>by cases hu
 |n::r,_,.cons q t=>fun u' hm=>by
  obtain⟨tk,rfl⟩:=q
  rcases U0k.mp hm with rfl|hm
  .exact Xa rx hd hu n tk
  .exact Yh rx hd hu t u' hm
def mG(K:U0b):R2:=fun x y H Q=>∃(N:Addr->Prop)(d:PyData)(p:Addr)(ns:List Int),Tr N H x d/\okIn d=true/\y=.ref p/\SqT K H p (ns.map V.int)/\Q (.bl (ns.any fun n=>U3c (.int n) d)) H
theorem oA{X:Cx}{k:Nat}(hr:Dy k X.A):OpR X (compareOp .In) (mG X.K):=by
 intro pins s σ H x y v u Q I rx ry h
 obtain⟨N,d,p,ns,t1,hd,rfl,hq,q⟩:=h
 cases ry
 obtain⟨as,ra,_⟩:=t1.reads I.hok I.Oh v rx
 obtain⟨its,r,pl,hz⟩:=I.tuple hq
 refine SeqAt.in_tupleAt (eqI d) pl (fun w hw=>Yh ra hd (by have:=hr.un;show X.A.units+1+64<_;omega) r w (by simpa using hw)) ⟨.bl _,H,I,rfl,?_⟩
 rw[show its.toArray.any (eqI d)=its.any (eqI d) by simp,Yy d r]
 exact q
def mH:R2:=fun x y H Q=>∃(l b:Addr)(xs:List V),x=.ref l/\y=.ref b/\H l=some (.lst xs)/\H b=some (.lst [])/\Q (.bl xs.isEmpty) H
theorem aD{X:Cx}{k:Nat}(hr:Dy k X.A):OpR X (compareOp .Eq) mH:=by
 intro pins s σ H x y v u Q I rx ry h
 obtain⟨l,b,xs,rfl,rfl,hl,hb,q⟩:=h
 cases rx
 cases ry
 obtain⟨its,r,pl,hz⟩:=I.list (SqL.of hl)
 obtain⟨its2,r2,pl2,hz2⟩:=I.list (SqL.of hb)
 cases r2
 have hu:X.A.units<cLine:=by have:=hr.un;omega
 cases r with
 |nil=>exact SeqAt.eq_listAt (e:=fun _=>true) pl.isList pl2.isList rfl hu (fun j h1 _=>absurd h1 (by simp)) ⟨.bl true,H,I,rfl,q⟩
 |cons a t=>exact SeqAt.eq_list_lengthsAt pl.isList pl2.isList (by simp) hu ⟨.bl false,H,I,rfl,q⟩
end L2
end
section
namespace VS
open PySem PySem.Spec L2
def Td(S:Store)(x:D):D->Option D
 |.tup ds=>(Cv S x).bind fun p=>if okIn p=true then (intsOf ds).map fun ns=>.bl (ns.any fun n=>U3c (.int n) p) else none
 |_=>none
theorem iU{K:U0b}:Fg K (mG K) Td:=by
 intro Γ μ σ H env S x y dx dy d hK R rx ry e Q q
 cases ry with
 |@tup p xs ds hp rp =>
  obtain⟨pd,e1,e⟩:=bind_some e
  by_cases h:okIn pd=true
  .rw[if_pos h] at e
   obtain⟨ns,e2,e⟩:=map_some e
   subst e
   have:=Ho e2
   subst this
   have:=rp.Q8
   subst this
   exact⟨_,pd,p,ns,VR.see R rx e1,h,rfl,SqT.of hp,q _ H (Same.refl H) (.bl _)⟩
  .rw[if_neg h] at e;cases e
 |_=>cases e
def cJ(S:Store)(x y:D):Option D:=(listOf S x).bind fun xs=>(listOf S y).bind fun ys=>if ys.isEmpty=true then some (.bl xs.isEmpty) else none
theorem YT{K:U0b}:Fg K mH cJ:=by
 intro Γ μ σ H env S x y dx dy d hK R rx ry e Q q
 obtain⟨xs,e1,e⟩:=bind_some e
 obtain⟨ys,e2,e⟩:=bind_some e
 cases ys with
 |nil =>
  cases e
  obtain⟨p,us,rfl,hp,rp⟩:=VR.list R rx e1
  obtain⟨p2,ws,rfl,hp2,rp2⟩:=VR.list R ry e2
  cases rp2
  refine⟨p,p2,us,rfl,rfl,hp,hp2,?_⟩
  have:us.isEmpty=xs.isEmpty:=by cases rp<;>rfl
  rw[this]
  exact q _ H (Same.refl H) (.bl _)
 |cons a r=>cases e
def QB(_:Store):List D->Option D
 |[.int i]=>some (.bl (i != 0))
 |[.bl k]=>some (.bl k)
 |_=>none
theorem dO{K:U0b}:Km K (fun xs H Q=>(∃i,xs=[.int i]/\Q (.bl (i != 0)) H)∨∃k,xs=[.bl k]/\Q (.bl k) H) QB:=by
 intro Γ μ σ H env S xs ds d hK R rs e Q q
 unfold QB at e
 split at e
 .cases e
  obtain⟨v,rfl,r1⟩:=rs.one
  cases r1
  exact .inl ⟨_,rfl,q _ H (Same.refl H) (.bl _)⟩
 .cases e
  obtain⟨v,rfl,r1⟩:=rs.one
  cases r1
  exact .inr ⟨_,rfl,q _ H (Same.refl H) (.bl _)⟩
 .cases e
def Q9(a b:Az):Az:=fun env S=>(a env S).bind fun p=>(b env p.2).bind fun q=>(listOf q.2 p.1).bind fun xs=>(listOf q.2 q.1).bind fun ys=>if xs.length+ys.length<=1000000 then some (.ref q.2.length,q.2++[some (xs++ys)]) else none
theorem Yl{X:Cx}{a b:Expr}{fa fb:Az}{pos:Pos}(ha:JE X a fa)(hb:JE X b fb):JE X (.BinOp a .Add b pos) (Q9 fa fb) :=
 ⟨PE.imp (ZD aF ha.pe hb.pe) fun σ H Q h=>by
  obtain⟨Γ,μ,env,S,d,S',hK,R,e,q⟩:=h
  obtain⟨⟨x,S1⟩,e1,e⟩:=bind_some e
  obtain⟨⟨y,S2⟩,e2,e⟩:=bind_some e
  obtain⟨xs,e3,e⟩:=bind_some e
  obtain⟨ys,e4,e⟩:=bind_some e
  by_cases hl:xs.length+ys.length<=1000000
  .rw[if_pos hl] at e;cases e
   refine⟨Γ,μ,env,S,x,S1,hK,R,e1,fun v1 μ1 H1 x1 R1 r1=>?_⟩
   refine⟨Γ,μ1,env,S1,y,S2,hK,R1,e2,fun v2 μ2 H2 x2 R2 r2=>?_⟩
   obtain⟨p,us,rfl,hp,rp⟩:=VR.list R2 (r1.ext x2) e3
   obtain⟨p2,ws,rfl,hp2,rp2⟩:=VR.list R2 r2 e4
   refine⟨p,p2,us,ws,rfl,rfl,hp,hp2,by rw[rp.length,rp2.length];exact U2d (big hl),fun t ht=>?_⟩
   obtain⟨R3,x3⟩:=R2.laid ht (rp.append rp2)
   exact q _ _ _ (x1.trans (x2.trans x3)) R3 (Yb R2.slen)
  .rw[if_neg hl] at e;cases e⟩
theorem Wx(a b:Az)(env:VS.Env)(S:Store):VS.Q9 a b env S=(a env S).bind fun p=>(b env p.2).bind fun q=>(listOf q.2 p.1).bind fun xs=>(listOf q.2 q.1).bind fun ys=>if xs.length+ys.length<=1000000 then some (.ref q.2.length,q.2++[some (xs++ys)]) else none:=rfl
end VS
end
section
namespace VS
def at1(bs:List (List St2))(i w:Nat):St2:=(bs.getD i []).getD w (0,0)
def inS(p:St2)(x:Int):Bool:=decide (p.1<=x)&&decide (x<p.2)
def steps(E:List Int):List St2:=E.zip E.tail
theorem ZS(a b:Int)(r:List Int):steps (a::b::r)=(a,b)::steps (b::r):=rfl
theorem PN:∀{E:List Int},E.Pairwise (·<·)->∀p∈steps E,p.1<p.2/\p.1∈E/\p.2∈E/\∀e∈E,e<=p.1∨p.2<=e
 |[],_,p,h=>by simp[steps] at h
 |[a],_,p,h=>by simp[steps] at h
 |a::b::r,hp,p,h=>by
  have hab:=(U27.mp hp).1
  have ht:=(U27.mp hp).2
  rw[ZS] at h
  rcases U0k.mp h with z|z
  .subst z
   refine⟨hab b U0s,by simp,by simp,fun e he=>?_⟩
   rcases U0k.mp he with q|q
   .left;show e<=a;omega
   .right
    show b<=e
    rcases U0k.mp q with q|q
    .omega
    .exact U4 ((U27.mp ht).1 e q)
  .obtain⟨h1,h2,h3,h4⟩:=PN ht p z
   refine⟨h1,U0p _ h2,U0p _ h3,fun e he=>?_⟩
   rcases U0k.mp he with q|q
   .left;rw[q];exact U4 (hab _ h2)
   .exact h4 e q
theorem aq{ns:List Int}{x:Int}:x∈Dr ns↔x∈ns:=(U3j _ _).mem_iff.trans ((SetP.HJ ns).2.2 x)
theorem O4(ns:List Int):(Dr ns).Pairwise (·<·):=by
 obtain⟨o1,o2,o3⟩:=SetP.HJ ns
 have hp:(Dr ns).Perm (SetP.once ns):=U3j _ _
 have hs:(Dr ns).Pairwise (·<=·):=by
  have:=List.pairwise_mergeSort (le:=fun a b:Int=>decide (a<=b)) (by intro a b c h1 h2;simp at *;omega) (by intro a b;simp;omega) (SetP.once ns)
  exact this.imp fun h=>by simpa using h
 exact(hs.and (hp.nodup_iff.mpr o1)).imp fun⟨h,n⟩=>by omega
end VS
end
section
namespace VS
end VS
end
section
namespace VS
def S1(vs:List St2):Int:=((steps (Dr (vs.map (fun p=>p.1)++vs.map fun p=>p.2))).map fun p=>(p.2-p.1)*(if vs.any (fun v=>inS v p.1) then 1 else 0)).sum
end VS
end
section
namespace VS
structure Norm(l:List St2):Prop where
 pos:∀p∈l,p.1<p.2
 far:l.Pairwise fun p q=>p.2<q.1
structure Asc(l:List St2):Prop where
 pos:∀p∈l,p.1<p.2
 up:l.Pairwise fun p q=>p.2<=q.1
end VS
end
section
namespace VS
open PySem L2
theorem Ul:∀{a b:List Int},a.Pairwise (·<·)->b.Pairwise (·<·)->(∀x,x∈a↔x∈b)->a=b
 |[],[],_,_,_=>rfl
 |[],y::b,_,_,h=>by have:=(h y).mpr U0s;simp at this
 |x::a,[],_,_,h=>by have:=(h x).mp U0s;simp at this
 |x::a,y::b,ha,hb,h=>by
  obtain⟨a1,a2⟩:=U27.mp ha
  obtain⟨b1,b2⟩:=U27.mp hb
  have e:x=y:=by
   rcases U0k.mp ((h x).mp U0s) with z|z
   .exact z
   .rcases U0k.mp ((h y).mpr U0s) with w|w
    .exact w.symm
    .have:=b1 x z;have:=a1 y w;omega
  subst e
  congr 1
  refine Ul a2 b2 fun z=>?_
  constructor
  .intro hz
   rcases U0k.mp ((h z).mp (U0p _ hz)) with w|w
   .have:=a1 z hz;omega
   .exact w
  .intro hz
   rcases U0k.mp ((h z).mpr (U0p _ hz)) with w|w
   .have:=b1 z hz;omega
   .exact w
def cnt(ps:List St2)(x:Int):Int:=(ps.map fun p=>if inS p x=true then (1:Int) else 0).sum
end VS
end
section
namespace W27
open PySem L2 VS
def Ss:Bm :=
 (DK (JQ (eCB Eb (Aa (Ab 0) (Aa (eC (.ty "int")) Ad))) (Te (eCB Eb (Aa (Ab 0) (Aa (eC (.ty "bool")) Ad))))))
def Gw:FT:=HF 1 1 Ss
def JK:Bs :=
 Ea 1 [] (Ei (Ab 0)) (Pat.sem (.nm 0)) Jj (Bp Gw (Aa (Ab 0) Ad))
def Q6:Bm :=
 (DK (JQ (eCB Eb (Aa (Ab 0) (Aa (eC (.ty "tuple")) Ad))) (JQ (eOp (oEq false) (eCB Ej (Aa (Ab 0) Ad)) (Ab 1)) (eCB GC (Aa (Am JK) Ad)))))
def Di:FT:=HF 2 2 Q6
def Sv:Bm :=
 (DK (JQ (Bp Di (Aa (Ab 0) (Aa (eC (.int 3)) Ad))) (JQ (eOp oLt (eOp oIx (Ab 0) (eC (.int 0))) (eOp oIx (Ab 0) (eC (.int 1)))) (eOp oGe (eOp oIx (Ab 0) (eC (.int 2))) (eC (.int 1))))))
def Gx:FT:=HF 1 1 Sv
def JL:Bs :=
 Ea 1 [] (Ei (Ab 0)) (Pat.sem (.nm 0)) Jj (Bp Gx (Aa (Ab 0) Ad))
def Q7:Bm :=
 (DK (JQ (eCB Eb (Aa (Ab 0) (Aa (eC (.ty "list")) Ad))) (eCB GC (Aa (Am JL) Ad))))
def Ck:FT:=HF 1 1 Q7
def HS:Bs :=
 Ea 1 [] (Ei (Ab 0)) (Pat.sem (.nm 0)) Jj (JQ (Bp Di (Aa (Ab 0) (Aa (eC (.int 2)) Ad))) (eOp oGe (eOp oIx (Ab 0) (eC (.int 1))) (eC (.int 0))))
def JH:Bs :=
 Ea 2 [] (Rm (Aa (Ab 0) (Aa (eSl oSl (Ab 0) (Bq (eC (.int 1))) CP) Ad))) (Pat.sem (.tp [(.nm 0),(.nm 1)])) Jj (JQ (eOp oLt (eOp oIx (Ab 0) (eC (.int 0))) (eOp oIx (Ab 1) (eC (.int 0)))) (eOp (oEq true) (eOp oIx (Ab 0) (eC (.int 1))) (eOp oIx (Ab 1) (eC (.int 1)))))
def Q5:Bm :=
 (Bh (sIf (tOr (Ga (Bd (eCB Eb (Aa (Ab 0) (Aa (eC (.ty "list")) Ad))))) (Ga (Bd (eCB GC (Aa (Am HS) Ad)))))
  (DK (eC (.bl false)))
  FQ)
  (Bh (sIf (Bd (eOp (oEq false) (eCB Ej (Aa (Ab 0) Ad)) (eC (.int 0))))
  (DK (eC (.bl true)))
  FQ)
  (Bh (sIf (tOr (Bd (eOp (oEq false) (eOp oIx (eOp oIx (Ab 0) (eC (.int 0))) (eC (.int 1))) (eC (.int 0)))) (Bd (eOp (oEq true) (eOp oIx (eOp oIx (Ab 0) (eUn Cw (eC (.int 1)))) (eC (.int 1))) (eC (.int 0)))))
  (DK (eC (.bl false)))
  FQ)
  (DK (eCB GC (Aa (Am JH) Ad))))))
def Cj:FT:=HF 1 1 Q5
def Qq:Bm :=
 (Bh (BR 2 (eOp oMod (eOp Aw (eOp Aw (eOp oMod (Ab 0) (eC (.int 2147483629))) (eOp Hq (eOp Hq (eC (.int 1000003)) (Ab 1)) (Ab 1))) (eOp Hq (eC (.int 7919)) (Ab 1))) (eC (.int 2147483629))))
  (Bh (BR 2 (eOp oMod (eOp Hq (Ab 2) (Ab 2)) (eC (.int 2147483587))))
  (DK (eOp oDiv (eOp oMod (eOp Hq (Ab 2) (eOp Aw (Ab 2) (eC (.int 40961)))) (eC (.int 2147483563))) (eC (.int 4))))))
def GJ:FT:=HF 2 3 Qq
def O8:Bm :=
 (DK (Am (Aa (eOp Hq (Ab 0) (eCB Nk (Aa (eOp oGe (Ab 0) (eOp Cm (eC (.int 10)) (eC (.int 18)))) Ad))) (Aa (Ab 0) (Aa (eC (.int 0)) Ad)))))
def FZ:FT:=HF 1 1 O8
def LC:Bm :=
 (Bh (sIf (Bd (eOp oGt (eOp oIx (Ab 0) (eC (.int 0))) (eC (.int 0))))
  (Bh (BR 2 (eOp oMod (eOp oIx (Ab 0) (eC (.int 0))) (Ab 1)))
  (Bh (Ru (eOp oDiv (eOp oIx (Ab 0) (eC (.int 0))) (Ab 1)) (Ab 0) (eC (.int 0)))
  (DK (Ab 2))))
  FQ)
  (Bh (Ru (eOp Aw (eOp oIx (Ab 0) (eC (.int 2))) (eC (.int 1))) (Ab 0) (eC (.int 2)))
  (DK (eOp oMod (eOp Hq (Bp GJ (Aa (eOp oIx (Ab 0) (eC (.int 1))) (Aa (eOp oIx (Ab 0) (eC (.int 2))) Ad))) (eOp oIx (Am (Aa (eC (.int 1)) (Aa (eC (.int 8191)) Ad))) (eCB Nk (Aa (eOp oGt (Ab 1) (eOp Cm (eC (.int 10)) (eC (.int 6)))) Ad)))) (Ab 1)))))
def Ai:Jm:=runM 2 3 LC
def Qp:Bm :=
 (DK (eOp oIx (Am (Aa (Ay (Aa (eC (.int 0)) (Aa (eC (.int 6)) Ad))) (Aa (Ay (Aa (eUn Cw (eC (.int 3))) (Aa (eC (.int 8)) Ad))) (Aa (Ay (Aa (eC (.int 0)) (Aa (eC (.int 13)) Ad))) (Aa (Ay (Aa (eUn Cw (eC (.int 20))) (Aa (eC (.int 41)) Ad))) (Aa (Ay (Aa (eUn Cw (eOp Cm (eC (.int 10)) (eC (.int 9)))) (Aa (eOp Hq (eC (.int 2)) (eOp Cm (eC (.int 10)) (eC (.int 9)))) Ad))) Ad)))))) (Ak Ai (Aa (Ab 0) (Aa (eC (.int 5)) Ad)))))
def Dp:Jm:=runM 1 1 Qp
def Oc:Bm :=
 (Bh (BR 2 (eOp Aw (eOp oIx (Ab 1) (eC (.int 0))) (Ak Ai (Aa (Ab 0) (Aa (eOp oIx (Ab 1) (eC (.int 1))) Ad)))))
  (Bh (BR 3 (eOp Aw (eOp oIx (Ab 1) (eC (.int 0))) (Ak Ai (Aa (Ab 0) (Aa (eOp oIx (Ab 1) (eC (.int 1))) Ad)))))
  (Bh (sIf (Bd (eOp (oEq false) (Ab 2) (Ab 3)))
  (BR 3 (eOp Aw (Ab 2) (eC (.int 1))))
  FQ)
  (DK (Ay (Aa (eCB J9 (Aa (Ab 2) (Aa (Ab 3) Ad))) (Aa (eCB JB (Aa (Ab 2) (Aa (Ab 3) Ad))) Ad)))))))
def Dw:Jm:=runM 2 4 Oc
def Qs:Bm :=
 (Bh (Z0 (Ak Dw (Aa (Ab 0) (Aa (Ab 1) Ad))) (Pat.sem (.tp [(.nm 3),(.nm 4)])))
  (Bh (BR 5 (eOp Aw (eC (.int 1)) (eOp oIx (Am (Aa (Ak Ai (Aa (Ab 0) (Aa (eC (.int 3)) Ad))) (Aa (Ak Ai (Aa (Ab 0) (Aa (eC (.int 9)) Ad))) (Aa (Ak Ai (Aa (Ab 0) (Aa (eOp Cm (eC (.int 10)) (eC (.int 9))) Ad))) Ad)))) (Ak Ai (Aa (Ab 0) (Aa (eC (.int 3)) Ad))))))
  (Bh (BR 6 (Ak Ai (Aa (Ab 0) (Aa (eC (.int 8)) Ad))))
  (Bh (sIf (tOr (Bd (eOp (oEq false) (Ab 2) (Am Ad))) (Bd (eOp oGt (Ab 6) (eC (.int 4)))))
  (DK (Ay (Aa (Ab 3) (Aa (Ab 4) (Aa (Ab 5) Ad)))))
  FQ)
  (Bh (BR 7 (eOp oIx (Ab 2) (Ak Ai (Aa (Ab 0) (Aa (eCB Ej (Aa (Ab 2) Ad)) Ad)))))
  (Bh (BR 8 (eCB J9 (Aa (eOp Cm (eC (.int 10)) (eC (.int 9))) (Aa (eOp Aw (eOp Aw (eOp oIx (Ab 7) (eC (.int 1))) (eC (.int 1))) (Ak Ai (Aa (Ab 0) (Aa (eC (.int 4)) Ad)))) Ad))))
  (Bh (BR 9 (eOp Aw (eOp Aw (eOp oIx (Ab 7) (eC (.int 0))) (eC (.int 1))) (Ak Ai (Aa (Ab 0) (Aa (eOp Jk (eOp oIx (Ab 7) (eC (.int 1))) (eOp oIx (Ab 7) (eC (.int 0)))) Ad)))))
  (Bh (BR 10 (Mr (Aa (Ab 7) (Aa (Ay (Aa (eOp oIx (Ab 7) (eC (.int 0))) (Aa (eOp oIx (Ab 7) (eC (.int 1))) (Aa (Ab 5) Ad)))) (Aa (Ay (Aa (Ab 3) (Aa (Ab 4) (Aa (eOp oIx (Ab 7) (eC (.int 2))) Ad)))) (Aa (Ay (Aa (eOp oIx (Ab 7) (eC (.int 1))) (Aa (Ab 8) (Aa (Ab 5) Ad)))) Ad))))))
  (Bh (Lh (Hz Fz (Ab 10) (Aa (Ay (Aa (eOp oIx (Ab 7) (eC (.int 0))) (Aa (Ab 9) (Aa (Ab 5) Ad)))) Ad)))
  (Bh (sIf (Bd (eOp oGe (eOp oIx (eOp oIx (Ab 10) (Ab 6)) (eC (.int 0))) (eOp oIx (eOp oIx (Ab 10) (Ab 6)) (eC (.int 1)))))
  (DK (Ab 7))
  FQ)
  (DK (eOp oIx (Ab 10) (Ab 6)))))))))))))
def Es:Jm:=runM 3 11 Qs
def JF:Bm :=
 (Lh (Hz Fz (Ab 4) (Aa (Ak Es (Aa (Ab 0) (Aa (Ab 1) (Aa (Ab 4) Ad)))) Ad)))
def Kp:Bm :=
 Lg (Ie (Aa (Ab 3) Ad)) (Pat.sem (.nm 5))
  JF
def Q0:Bm :=
 (Bh (BR 3 (eOp oIx (Am (Aa (Ak Ai (Aa (Ab 0) (Aa (eC (.int 4)) Ad))) (Aa (Ak Ai (Aa (Ab 0) (Aa (eOp Aw (Ab 2) (eC (.int 1))) Ad))) (Aa (Ab 2) Ad)))) (Ak Ai (Aa (Ab 0) (Aa (eC (.int 3)) Ad)))))
  (Bh (BR 4 (Mr Ad))
  (Bh Kp
  (DK (Ab 4)))))
def Eh:Jm:=runM 3 6 Q0
def Mz:Bs :=
 Ea 1 [] (Ei (Ab 0)) (Pat.sem (.nm 0)) Jj (eOp oIx (Ab 0) (eC (.int 0)))
def Mx:Bs :=
 Ea 1 [] (Ei (Ab 0)) (Pat.sem (.nm 0)) Jj (eOp oIx (Ab 0) (eC (.int 1)))
def KY:Bm :=
 (sIf (Og (Bd (eOp oLe (eOp oIx (Ab 5) (eC (.int 0))) (Ab 3))) (Og (Bd (eOp oLt (Ab 3) (eOp oIx (Ab 5) (eC (.int 1))))) (Bd (eOp oGt (eOp oIx (Ab 5) (eC (.int 2))) (Ab 4)))))
  (BR 4 (eOp oIx (Ab 5) (eC (.int 2))))
  FQ)
def Mw:Bm :=
 Lg (Ei (Ab 0)) (Pat.sem (.nm 5))
  KY
def KR:Bm :=
 (Bh (BR 4 (eC (.int 0)))
  (Bh Mw
  (sIf (Bd (eOp (oEq true) (Ab 4) (eOp oIx (eOp oIx (eOp Aw (Am (Aa (Ay (Aa (eC (.int 0)) (Aa (eC (.int 0)) Ad))) Ad)) (Ab 2)) (eUn Cw (eC (.int 1)))) (eC (.int 1)))))
  (Lh (Hz Fz (Ab 2) (Aa (Ay (Aa (Ab 3) (Aa (Ab 4) Ad))) Ad)))
  FQ)))
def Mv:Bm :=
 Lg (Ei (Ab 1)) (Pat.sem (.nm 3))
  KR
def Sh:Bm :=
 (Bh (BR 1 (Kg (eOp Aw (Am Mz) (Am Mx))))
  (Bh (BR 2 (Mr Ad))
  (Bh Mv
  (DK (Ab 2)))))
def Fb:FT:=HF 1 6 Sh
def Qn:Bm :=
 (DK (JQ (eCB Eb (Aa (Ab 0) (Aa (eC (.ty "int")) Ad))) (Te (eCB Eb (Aa (Ab 0) (Aa (eC (.ty "bool")) Ad))))))
def Fi:FT:=HF 1 1 Qn
def Gq:Bs :=
 Ea 1 [] (Ei (Ab 0)) (Pat.sem (.nm 0)) (Ga (Bd (Bp Fi (Aa (Ab 0) Ad)))) (Ab 0)
def M6:Bm :=
 (Bh (sIf (tOr (Ga (Bd (eCB Eb (Aa (Ab 0) (Aa (eC (.ty "tuple")) Ad))))) (Bd (eOp (oEq true) (eCB Ej (Aa (Ab 0) Ad)) (Ab 1))))
  (DK (eC (.bl false)))
  FQ)
  (DK (eOp cJ (Am Gq) (Am Ad))))
def CN:FT:=HF 2 2 M6
def Iv:Bm :=
 (sIf (tOr (Ga (Bd (Bp CN (Aa (Ab 1) (Aa (eC (.int 3)) Ad))))) (tOr (Bd (eOp oGe (eOp oIx (Ab 1) (eC (.int 0))) (eOp oIx (Ab 1) (eC (.int 1))))) (Bd (eOp oLt (eOp oIx (Ab 1) (eC (.int 2))) (eC (.int 1))))))
  (DK (eC (.bl false)))
  FQ)
def Iu:Bm :=
 Lg (Ei (Ab 0)) (Pat.sem (.nm 1))
  Iv
def M7:Bm :=
 (Bh (sIf (Ga (Bd (eCB Eb (Aa (Ab 0) (Aa (eC (.ty "list")) Ad)))))
  (DK (eC (.bl false)))
  FQ)
  (Bh Iu
  (DK (eC (.bl true)))))
def Cz:FT:=HF 1 2 M7
def Ir:Bm :=
 (sIf (tOr (Ga (Bd (Bp CN (Aa (Ab 1) (Aa (eC (.int 2)) Ad))))) (Bd (eOp oLt (eOp oIx (Ab 1) (eC (.int 1))) (eC (.int 0)))))
  (DK (eC (.bl false)))
  FQ)
def Ip:Bm :=
 Lg (Ei (Ab 0)) (Pat.sem (.nm 1))
  Ir
def Gp:Bs :=
 Ea 1 [] (Ei (Ab 0)) (Pat.sem (.nm 0)) Jj (eOp oIx (Ab 0) (eC (.int 1)))
def Gn:Bs :=
 Ea 1 [] (Ei (Ab 0)) (Pat.sem (.nm 0)) Jj (eOp oIx (Ab 0) (eC (.int 0)))
def Gm:Bs :=
 Ea 2 [] (Rm (Aa (Ab 2) (Aa (eSl oSl (Ab 2) (Bq (eC (.int 1))) CP) Ad))) (Pat.sem (.tp [(.nm 0),(.nm 1)])) (Bd (eOp (oEq false) (Ab 0) (Ab 1))) (eC (.int 1))
def M5:Bm :=
 (Bh (sIf (Ga (Bd (eCB Eb (Aa (Ab 0) (Aa (eC (.ty "list")) Ad)))))
  (DK (eC (.bl false)))
  FQ)
  (Bh Ip
  (Bh (BR 2 (eOp Aw (Am (Aa (eC (.int 0)) Ad)) (Am Gp)))
  (Bh (BR 3 (Am Gn))
  (Bh (sIf (tOr (Bd (eOp (oEq true) (Ab 3) (K6 (Ab 3)))) (Bd (eOp (oEq true) (eOp oIx (Ab 2) (eUn Cw (eC (.int 1)))) (eC (.int 0)))))
  (DK (eC (.bl false)))
  FQ)
  (DK (eOp (oEq false) (Am Gm) (Am Ad))))))))
def Cy:FT:=HF 1 4 M5
def Us:Bm :=
 (Bh (BR 1 (Am (Aa (eC .non) (Aa (eC (.bl true)) (Aa (eC (.bl false)) (Aa (eC (.str "")) (Aa (eC (.str "0")) (Aa (Am Ad) (Aa (Am (Aa (eC (.int 0)) Ad)) (Aa (Ay Ad) (Aa (Ay (Aa (eC (.int 0)) Ad)) (Aa (eC .emp) (Aa (eC (.int 0)) (Aa (eUn Cw (eC (.int 1))) (Aa (eC (.int 4)) (Aa (eOp Cm (eC (.int 10)) (eC (.int 39))) (Aa (eUn Cw (eOp Cm (eC (.int 10)) (eC (.int 39)))) (Aa (Am (Aa (Am Ad) Ad)) (Aa (Ay (Aa (eC (.int 0)) (Aa (eC (.int 0)) Ad))) (Aa (Ay (Aa (eC (.int 0)) (Aa (eC (.int 1)) (Aa (eC (.int 1)) Ad)))) Ad))))))))))))))))))))
  (DK (eOp oIx (Ab 1) (Ak Ai (Aa (Ab 0) (Aa (eC (.int 18)) Ad))))))
def CG:Jm:=runM 1 2 Us
def Sq:Bm :=
 (Bh (BR 2 (eOp oIx (Am (Aa (Ak Ai (Aa (Ab 0) (Aa (eOp Aw (eCB Ej (Aa (Ab 1) Ad)) (eC (.int 1))) Ad))) (Aa (eC (.int 0)) (Aa (eCB JB (Aa (eC (.int 0)) (Aa (eOp Jk (eCB Ej (Aa (Ab 1) Ad)) (eC (.int 1))) Ad))) Ad)))) (Ak Ai (Aa (Ab 0) (Aa (eC (.int 3)) Ad)))))
  (Bh (BR 3 (eOp oIx (eOp Aw (Ab 1) (Am (Aa (Ay (Aa (eC (.int 0)) (Aa (eC (.int 1)) (Aa (eC (.int 1)) Ad)))) Ad))) (Ab 2)))
  (Bh (BR 4 (Ak Ai (Aa (Ab 0) (Aa (eCB Ej (Aa (Ab 3) Ad)) Ad))))
  (Bh (BR 5 (eOp oIx (Ab 3) (Ab 4)))
  (Bh (BR 6 (Ak CG (Aa (Ab 0) Ad)))
  (Bh (sIf (Bd (eOp Td (Ab 6) (Ay (Aa (eOp Cm (eC (.int 10)) (eC (.int 39))) (Aa (eUn Cw (eOp Cm (eC (.int 10)) (eC (.int 39)))) Ad)))))
  (BR 6 (eC .non))
  FQ)
  (Bh (BR 6 (Am (Aa (Ab 6) (Aa (eCB J9 (Aa (eOp Cm (eC (.int 10)) (eC (.int 9))) (Aa (eOp Aw (Ab 5) (eC (.int 1))) Ad))) (Aa (eCB JB (Aa (eUn Cw (eOp Cm (eC (.int 10)) (eC (.int 9)))) (Aa (eOp Jk (Ab 5) (eC (.int 1))) Ad))) (Aa (eC (.int 0)) Ad))))))
  (Bh (BR 6 (eOp oIx (eOp Aw (Ab 6) (Am (Aa (eUn Cw (eC (.int 1))) (Aa (eCB QB (Aa (Ab 5) Ad)) (Aa (eOp oIx (Ab 3) (eC (.int 0))) Ad))))) (Ak Ai (Aa (Ab 0) (Aa (eC (.int 7)) Ad)))))
  (Bh (BR 7 (eOp Aw (eOp Aw (eSl oSl (Ab 3) CP (Bq (Ab 4))) (Ay (Aa (Ab 6) Ad))) (eSl oSl (Ab 3) (Bq (eOp Aw (Ab 4) (eC (.int 1)))) CP)))
  (Bh (BR 8 (Am (Aa (Ab 7) (Aa (Ab 7) (Aa (Ab 7) (Aa (eOp Aw (eSl oSl (Ab 3) CP (Bq (Ab 4))) (eSl oSl (Ab 3) (Bq (eOp Aw (Ab 4) (eC (.int 1)))) CP)) (Aa (eOp Aw (Ab 3) (Ay (Aa (eC (.int 1)) Ad))) (Aa (Rn nList (Aa (Ab 3) Ad)) (Aa (eUn J5 (Ab 3)) (Aa (Ak CG (Aa (Ab 0) Ad)) Ad))))))))))
  (Bh (BR 7 (eOp oIx (Ab 8) (Ak Ai (Aa (Ab 0) (Aa (eC (.int 8)) Ad)))))
  (Bh (BR 9 (eSl oSl (Ab 1) CP (Bq (Ab 2))))
  (Bh (BR 10 (Vc (Am (Aa (eOp Aw (eOp Aw (Ab 9) (Am (Aa (Ab 7) Ad))) (eSl oSl (Ab 1) (Bq (eOp Aw (Ab 2) (eC (.int 1)))) CP)) Ad)) (eC (.int 4))))
  (Bh (BR 10 (Q9 (Ab 10) (Am (Aa (eOp Aw (eOp Aw (Ab 9) (Am (Aa (Ab 7) Ad))) (eSl oSl (Ab 1) (Bq (Ab 2)) CP)) (Aa (eOp Aw (Ab 9) (eSl oSl (Ab 1) (Bq (eOp Aw (Ab 2) (eC (.int 1)))) CP)) Ad)))))
  (Bh (Lh (Hz Fz (Ab 10) (Aa (eOp Aw (eOp Aw (Ab 9) (eUn J5 (eSl oSl (Ab 1) (Bq (Ab 2)) (Bq (eOp Aw (Ab 2) (eC (.int 2))))))) (eSl oSl (Ab 1) (Bq (eOp Aw (Ab 2) (eC (.int 2)))) CP)) Ad)))
  (Bh (BR 10 (eOp Aw (Ab 10) (Am (Aa (eUn J5 (Ab 1)) (Aa (eCB Vj (Aa (Ab 1) Ad)) (Aa (Am (Aa (Ab 1) Ad)) (Aa (eSl oSl (Ab 1) CP (Bq (eUn Cw (eC (.int 1))))) Ad)))))))
  (Bh (BR 10 (eOp Aw (Ab 10) (Am (Aa (eOp Aw (Ab 1) (Ab 1)) (Aa (eSl oSl (Ab 1) (Bq (eC (.int 1))) CP) (Aa (eOp Aw (eOp Aw (Ab 9) (Am (Aa (Ab 3) Ad))) (eSl oSl (Ab 1) (Bq (Ab 2)) CP)) Ad))))))
  (DK (eOp oIx (eOp Aw (Ab 10) (Am (Aa (Ak CG (Aa (Ab 0) Ad)) Ad))) (Ak Ai (Aa (Ab 0) (Aa (eC (.int 15)) Ad))))))))))))))))))))))
def Dn:Jm:=runM 2 11 Sq
def Jw:Bm :=
 (Bh (BR 3 (Am (Aa (Bp Ck (Aa (Ab 0) Ad)) (Aa (Bp Cj (Aa (Ab 0) Ad)) Ad))))
  (sIf (tOr (Bd (eOp (Ol true) (eCB FN (Aa (Ab 3) Ad)) (eCB FN (Aa (Am (Aa (Bp Cz (Aa (Ab 0) Ad)) (Aa (Bp Cy (Aa (Ab 0) Ad)) Ad))) Ad)))) (Bd (eOp (Ol true) (eCB FN (Aa (Ab 0) Ad)) (Ab 1))))
  (DK (eC (.bl false)))
  FQ))
def Ly:Bm :=
 Lg (Ie (Aa (eC (.int 2)) Ad)) (Pat.sem (.nm 2))
  Jw
def Qo:Bm :=
 (Bh (BR 1 (eCB FN (Aa (Ab 0) Ad)))
  (Bh Ly
  (DK (eC (.bl true)))))
def Ep:FT:=HF 1 4 Qo
def Vy:Bm :=
 (sIf (Ga (Bd (Bp Ep (Aa (Ab 6) Ad))))
  (DK (eC (.bl false)))
  FQ)
def aH:Bm :=
 Lg (Ei (Am (Aa (Ak Dn (Aa (Ab 2) (Aa (Ab 3) Ad))) (Aa (Ak Dn (Aa (Ab 2) (Aa (Ab 4) Ad))) (Aa (Ak CG (Aa (Ab 2) Ad)) (Aa (Ab 3) (Aa (Ab 4) Ad))))))) (Pat.sem (.nm 6))
  Vy
def Ry:Bm :=
 aH
def aG:Bm :=
 Lg (Ie (Aa (eC (.int 4)) Ad)) (Pat.sem (.nm 5))
  Ry
def Rx:Bm :=
 (Bh (BR 2 (PL FZ (Aa (Ab 1) Ad)))
  (Bh (BR 3 (Ak Eh (Aa (Ab 2) (Aa (Ak Dp (Aa (Ab 2) Ad)) (Aa (eC (.int 10)) Ad)))))
  (Bh (BR 4 (Bp Fb (Aa (Ab 3) Ad)))
  (Bh (sIf (tOr (Bd (eOp (Oj true) (Bp Ck (Aa (Ab 3) Ad)) (eC (.bl true)))) (Bd (eOp (Oj true) (Bp Cj (Aa (Ab 4) Ad)) (eC (.bl true)))))
  (DK (eC (.bl false)))
  FQ)
  aG))))
def Vw:Bm :=
 Lg (Ei (eOp Aw (Am (Aa (eC (.int 0)) Ad)) (eSl oSl (Ab 0) CP (Bq (eC (.int 20)))))) (Pat.sem (.nm 1))
  Rx
def Vx:Bs :=
 Ea 1 [] (Ei (Ab 7)) (Pat.sem (.nm 0)) (Ga (Bd (Bp Ep (Aa (Ab 0) Ad)))) (Ab 0)
def gJ:Bm :=
 (Bh Vw
  (Bh (BR 7 (Mr (Aa (Am (Aa (Ay (Aa (eC (.int 0)) (Aa (eC (.int 0)) Ad))) Ad)) (Aa (Am (Aa (Ay (Aa (eC (.int 0)) (Aa (eC (.int 1)) Ad))) Ad)) (Aa (Am (Aa (Ay (Aa (eC (.int 0)) (Aa (eC (.int 1)) Ad))) (Aa (Ay (Aa (eC (.int 1)) (Aa (eC (.int 0)) Ad))) Ad))) (Aa (Am (Aa (Ay (Aa (eC (.int 0)) (Aa (eC (.int 1)) Ad))) (Aa (Ay (Aa (eC (.int 0)) (Aa (eC (.int 0)) Ad))) Ad))) (Aa (Am (Aa (Ay (Aa (eC (.int 0)) (Aa (eC (.int 1)) Ad))) (Aa (Ay (Aa (eC (.int 1)) (Aa (eC (.int 1)) Ad))) (Aa (Ay (Aa (eC (.int 2)) (Aa (eC (.int 0)) Ad))) Ad)))) (Aa (Am (Aa (Ay (Aa (eC (.int 0)) (Aa (eC (.int 0)) Ad))) (Aa (Ay (Aa (eC (.int 1)) (Aa (eC (.int 1)) Ad))) (Aa (Ay (Aa (eC (.int 2)) (Aa (eC (.int 0)) Ad))) Ad)))) Ad))))))))
  (Bh (BR 7 (Q9 (Ab 7) (Am (Aa (Am (Aa (Ay (Aa (eC (.int 0)) (Aa (eC (.int 1)) (Aa (eC (.int 1)) Ad)))) Ad)) (Aa (Am (Aa (Ay (Aa (eC (.int 0)) (Aa (eC (.int 0)) (Aa (eC (.int 1)) Ad)))) Ad)) (Aa (Am (Aa (Ay (Aa (eC (.int 1)) (Aa (eC (.int 0)) (Aa (eC (.int 1)) Ad)))) Ad)) (Aa (Am (Aa (Ay (Aa (eC (.int 0)) (Aa (eC (.int 1)) (Aa (eC (.int 0)) Ad)))) Ad)) (Aa (Am (Aa (Ay (Aa (eC (.bl true)) (Aa (eC (.int 1)) Ad))) (Aa (Ay (Aa (eC (.int 2)) (Aa (eC (.int 0)) Ad))) Ad))) Ad))))))))
  (Bh (Lh (Hz Fz (Ab 7) (Aa (Am (Aa (Ay (Aa (eC (.int 0)) (Aa (eC (.int 2)) Ad))) (Aa (Ay (Aa (eC (.int 1)) (Aa (eC (.int 0)) Ad))) (Aa (Ay (Aa (eC (.int 2)) (Aa (eC (.int 1)) Ad))) (Aa (Ay (Aa (eC (.int 3)) (Aa (eC (.int 0)) Ad))) Ad))))) Ad)))
  (DK (eOp cJ (Am Vx) (Am Ad)))))))
def Tp:FT:=HF 1 8 gJ
end W27
end
section
namespace W27
open PySem PySem.Spec L2 VS
def top (i : Nat) : Stmt := PySem.Challenge.pw_boxcover_k27_what_are_houses_and_skyline.main.body.getD i (.Pass ⟨0, 0, 0, 0⟩)
abbrev Ik:Stmt:=top 1
abbrev G6:Stmt:=top 3
abbrev Il:Stmt:=top 4
abbrev G7:Stmt:=top 5
abbrev Fd:Stmt:=top 6
abbrev Hj:Stmt:=top 8
abbrev Ih:Stmt:=top 9
abbrev Ii:Stmt:=top 10
abbrev Hi:Stmt:=top 11
abbrev GK:Stmt:=top 12
abbrev Hl:Stmt:=top 13
abbrev Gy:Stmt:=top 14
abbrev GX:Stmt:=top 15
abbrev Hg:Stmt:=top 16
abbrev Ec:Stmt:=top 17
abbrev FJ:Stmt:=top 18
abbrev DY:Stmt:=top 19
abbrev Je:Stmt:=top 20
abbrev Ij:Stmt:=top 21
abbrev Hh:Stmt:=top 22
abbrev K8:Stmt:=top 23
theorem Xk:Cu ["thing"] ["thing"] (Av Ik):=⟨rfl,rfl,rfl,by decide +kernel,rfl,by decide +kernel,by decide +kernel⟩
theorem V6:Cu ["thing","many"] ["thing","many"] (Av G6):=⟨rfl,rfl,rfl,by decide +kernel,rfl,by decide +kernel,by decide +kernel⟩
theorem Xl:Cu ["thing"] ["thing"] (Av Il):=⟨rfl,rfl,rfl,by decide +kernel,rfl,by decide +kernel,by decide +kernel⟩
theorem V7:Cu ["thing"] ["thing"] (Av G7):=⟨rfl,rfl,rfl,by decide +kernel,rfl,by decide +kernel,by decide +kernel⟩
theorem V5:Cu ["thing"] ["thing"] (Av Fd):=⟨rfl,rfl,rfl,by decide +kernel,rfl,by decide +kernel,by decide +kernel⟩
theorem Lx:Cu ["cell","k","number"] ["cell","k"] (Av Hj):=⟨rfl,rfl,rfl,by decide +kernel,rfl,by decide +kernel,by decide +kernel⟩
theorem Xj:Cu ["cell"] ["cell"] (Av Ih):=⟨rfl,rfl,rfl,by decide +kernel,rfl,by decide +kernel,by decide +kernel⟩
theorem Qj:Cu ["well","many","got"] ["well","many"] (Av Ii):=⟨rfl,rfl,rfl,by decide +kernel,rfl,by decide +kernel,by decide +kernel⟩
theorem X8:Cu ["well"] ["well"] (Av Hi):=⟨rfl,rfl,rfl,by decide +kernel,rfl,by decide +kernel,by decide +kernel⟩
theorem Im:Cu ["well","reach","one","other"] ["well","reach"] (Av GK):=⟨rfl,rfl,rfl,by decide +kernel,rfl,by decide +kernel,by decide +kernel⟩
theorem Em:Cu ["well","reach","houses","low","high","height","kind","here","beside","within","some"] ["well","reach","houses"] (Av Hl):=⟨rfl,rfl,rfl,by decide +kernel,rfl,by decide +kernel,by decide +kernel⟩
theorem JD:Cu ["well","reach","most","many","found","k"] ["well","reach","most"] (Av Gy):=⟨rfl,rfl,rfl,by decide +kernel,rfl,by decide +kernel,by decide +kernel⟩
theorem Gi:Cu ["houses","marks","found","mark","height","house"] ["houses"] (Av GX):=⟨rfl,rfl,rfl,by decide +kernel,rfl,by decide +kernel,by decide +kernel⟩
theorem X7:Cu ["thing"] ["thing"] (Av Hg):=⟨rfl,rfl,rfl,by decide +kernel,rfl,by decide +kernel,by decide +kernel⟩
theorem Qc:Cu ["thing","many"] ["thing","many"] (Av Ec):=⟨rfl,rfl,rfl,by decide +kernel,rfl,by decide +kernel,by decide +kernel⟩
theorem Kr:Cu ["thing","one"] ["thing"] (Av FJ):=⟨rfl,rfl,rfl,by decide +kernel,rfl,by decide +kernel,by decide +kernel⟩
theorem Gk:Cu ["thing","one","heights","numbers"] ["thing"] (Av DY):=⟨rfl,rfl,rfl,by decide +kernel,rfl,by decide +kernel,by decide +kernel⟩
theorem SM:Cu ["well","some"] ["well"] (Av Je):=⟨rfl,rfl,rfl,by decide +kernel,rfl,by decide +kernel,by decide +kernel⟩
theorem Ce:Cu ["well","rows","at","here","to","thing","odd","one","ones","ahead","some"] ["well","rows"] (Av Ij):=⟨rfl,rfl,rfl,by decide +kernel,rfl,by decide +kernel,by decide +kernel⟩
theorem Jv:Cu ["thing","kept","turn","found"] ["thing"] (Av Hh):=⟨rfl,rfl,rfl,by decide +kernel,rfl,by decide +kernel,by decide +kernel⟩
theorem Jp:Cu ["script","cell","well","houses","skyline","turn","thing","some"] ["script"] (Av K8):=⟨rfl,rfl,rfl,by decide +kernel,rfl,by decide +kernel,by decide +kernel⟩
section
variable{P:Program}{w:World}{K:U0b}{mg:Str->Option Value}{base:Heap}
set_option maxHeartbeats 4000000 in
theorem Xu{f:Addr}{fd:FuncData}(F:Fun K "is_whole" "is_whole" Ik f fd)(B:Blt mg):DW P w K mg base CX0 1 f fd ["thing"] (spP K Gw 1) :=
 fnP F Xk fun cdv A outer s H E hr =>
  (Ba (CT (Jt (Bx Gf HX rfl (B.is "isinstance") Dq (Ac (Af 0) (Ac (KD (n:="int") rfl (B.is "int") S6) Ah))) (Lp (aM (Bx Gf HX rfl (B.is "isinstance") Dq (Ac (Af 0) (Ac (KD (n:="bool") rfl (B.is "bool") Ua) Ah))))))))
set_option maxHeartbeats 4000000 in
theorem VB{f:Addr}{fd:FuncData}(F:Fun K "are_wholes" "are_wholes" G6 f fd)(B:Blt mg)(c_is_whole:Dz P w K mg base "is_whole" 1 Gw):DW P w K mg base CX0 2 f fd ["thing","many"] (spP K Di 2) :=
 fnP F V6 fun cdv A outer s H E hr =>
  (Ba (CT (Jt (Bx Gf HX rfl (B.is "isinstance") Dq (Ac (Af 0) (Ac (KD (n:="tuple") rfl (B.is "tuple") Rb) Ah))) (Jt (Hv (Ln hr) Lk (Bx G8 Jy rfl (B.is "len") Lr (Ac (Af 0) Ah)) (Af 1) (CZ _)) (Lp (Bx (O1 rfl) QG rfl (B.is "all") S7 (Ac (Ge rfl (Eu.of (sc:=Av G6) (N:=["thing","many"]) (N2:=["part"]) (k:=1) (caps:=[]) (by decide +kernel)) rfl (G5 (Af 0)) ⟨fun _ _ _ _ _=>⟨(DG (i:=0) (show U3q (["part"]:List Str) by decide +kernel)),Jc,(Dm c_is_whole hr (by omega) rfl (Ac (Af 0) Ah))⟩⟩) Ah)))))))
set_option maxHeartbeats 4000000 in
theorem Xv{f:Addr}{fd:FuncData}(F:Fun K "is_house" "is_house" Il f fd)(B:Blt mg)(c_are_wholes:Dz P w K mg base "are_wholes" 2 Di):DW P w K mg base CX0 3 f fd ["thing"] (spP K Gx 1) :=
 fnP F Xl fun cdv A outer s H E hr =>
  (Ba (CT (Jt (Dm c_are_wholes hr (by omega) rfl (Ac (Af 0) (Ac Ag Ah))) (Jt (Hv Rj Ov (Bg BP BL (Af 0) Ag (fun _ _=>rfl)) (Bg BP BL (Af 0) Ag (fun _ _=>rfl)) (CZ _)) (Lp (Hv Rk Ow (Bg BP BL (Af 0) Ag (fun _ _=>rfl)) Ag (CZ _)))))))
set_option maxHeartbeats 4000000 in
theorem VD{f:Addr}{fd:FuncData}(F:Fun K "are_houses" "are_houses" G7 f fd)(B:Blt mg)(c_is_house:Dz P w K mg base "is_house" 3 Gx):DW P w K mg base CX0 4 f fd ["thing"] (spP K Ck 1) :=
 fnP F V7 fun cdv A outer s H E hr =>
  (Ba (CT (Jt (Bx Gf HX rfl (B.is "isinstance") Dq (Ac (Af 0) (Ac (KD (n:="list") rfl (B.is "list") Nh) Ah))) (Lp (Bx (O1 rfl) QG rfl (B.is "all") S7 (Ac (Ge rfl (Eu.of (sc:=Av G7) (N:=["thing"]) (N2:=["part"]) (k:=1) (caps:=[]) (by decide +kernel)) rfl (G5 (Af 0)) ⟨fun _ _ _ _ _=>⟨(DG (i:=0) (show U3q (["part"]:List Str) by decide +kernel)),Jc,(Dm c_is_house hr (by omega) rfl (Ac (Af 0) Ah))⟩⟩) Ah))))))
set_option maxHeartbeats 4000000 in
theorem V9{f:Addr}{fd:FuncData}(F:Fun K "is_skyline" "is_skyline" Fd f fd)(B:Blt mg)(Bz:mg "zip"=none)(c_are_wholes:Dz P w K mg base "are_wholes" 2 Di):DW P w K mg base CX0 3 f fd ["thing"] (spP K Cj 1) :=
 fnP F V5 fun cdv A outer s H E hr =>
  (Aq (Fw (KC (K9 (J4 (J3 (Bx Gf HX rfl (B.is "isinstance") Dq (Ac (Af 0) (Ac (KD (n:="list") rfl (B.is "list") Nh) Ah))))) (Jr (J4 (J3 (Bx (O1 rfl) QG rfl (B.is "all") S7 (Ac (Ge rfl (Eu.of (sc:=Av Fd) (N:=["thing"]) (N2:=["part"]) (k:=1) (caps:=[]) (by decide +kernel)) rfl (G5 (Af 0)) ⟨fun _ _ _ _ _=>⟨(DG (i:=0) (show U3q (["part"]:List Str) by decide +kernel)),Jc,(Jt (Dm c_are_wholes hr (by omega) rfl (Ac (Af 0) (Ac Ag Ah))) (Lp (Hv Rk Ow (Bg BP BL (Af 0) Ag (fun _ _=>rfl)) Ag (CZ _))))⟩⟩) Ah)))))))
   (Ba (CT Fx))
   Ds)
   (Aq (Fw (Dk (Ln hr) Lk (Bx G8 Jy rfl (B.is "len") Lr (Ac (Af 0) Ah)) Ag (CZ _))
   (Ba (CT Fx))
   Ds)
   (Aq (Fw (KC (K9 (Dk (Ln hr) Lk (Bg BP BL (Bg BP BL (Af 0) Ag (fun _ _=>rfl)) Ag (fun _ _=>rfl)) Ag (CZ _)) (Jr (Dk (Kd hr) N6 (Bg BP BL (Bg BP BL (Af 0) (J6 Gu GF Ag) (fun _ _=>rfl)) Ag (fun _ _=>rfl)) Ag (CZ _)))))
   (Ba (CT Fx))
   Ds)
   (Ba (CT (Bx (O1 rfl) QG rfl (B.is "all") S7 (Ac (Ge rfl (Eu.of (sc:=Av Fd) (N:=["thing"]) (N2:=["before","behind"]) (k:=2) (caps:=[]) (by decide +kernel)) rfl (aK rfl Bz (Ac (Af 0) (Ac (Du Fj Fo (Af 0) (Ef Ag) Ey) Ah))) ⟨fun _ _ _ _ _=>⟨(Vz rfl (K4 (DG (i:=0) (show U3q (["before","behind"]:List Str) by decide +kernel)) (K4 (DG (i:=1) (show U3q (["before","behind"]:List Str) by decide +kernel)) U9))),Jc,(Jt (Hv Rj Ov (Bg BP BL (Af 0) Ag (fun _ _=>rfl)) (Bg BP BL (Af 1) Ag (fun _ _=>rfl)) (CZ _)) (Lp (Hv (Kd hr) N6 (Bg BP BL (Af 0) Ag (fun _ _=>rfl)) (Bg BP BL (Af 1) Ag (fun _ _=>rfl)) (CZ _))))⟩⟩) Ah)))))))
set_option maxHeartbeats 4000000 in
theorem XJ{f:Addr}{fd:FuncData}(F:Fun K "_law_mixed" "_law_mixed" Hj f fd)(B:Blt mg):DW P w K mg base CX0 1 f fd ["cell","k"] (spP K GJ 2) :=
 fnP F Lx fun cdv A outer s H E hr =>
  (Aq (Bt (i:=2) Lx.nd (BW N8 La (BW Bl Bk (BW Bl Bk (BW N8 La (Af 0) Ag) (BW Jb Ja (BW Jb Ja Ag (Af 1)) (Af 1))) (BW Jb Ja Ag (Af 1))) Ag))
   (Aq (Bt (i:=2) Lx.nd (BW N8 La (BW Jb Ja (Af 2) (Af 2)) Ag))
   (Ba (CT (BW Wj YW (BW N8 La (BW Jb Ja (Af 2) (BW Bl Bk (Af 2) Ag)) Ag) Ag)))))
set_option maxHeartbeats 4000000 in
theorem Xo{f:Addr}{fd:FuncData}(F:Fun K "_law_well" "_law_well" Ih f fd)(B:Blt mg):DW P w K mg base CX0 1 f fd ["cell"] (spP K FZ 1) :=
 fnP F Xj fun cdv A outer s H E hr =>
  (Ba (CT (Bf (Ac (BW Jb Ja (Af 0) (MP Uw YS rfl (B.is "int") S6 (Ac (Hv Rk Ow (Af 0) (BW HN GD Ag Ag) (CZ _)) Ah))) (Ac (Af 0) (Ac Ag Ah))) (Ae (Ae (Ae Al))))))
set_option maxHeartbeats 4000000 in
theorem Xq{f:Addr}{fd:FuncData}(F:Fun K "_law_draw" "_law_draw" Ii f fd)(B:Blt mg)(c_law_mixed:Dz P w K mg base "_law_mixed" 1 GJ):DW P w K mg base CX0 2 f fd ["well","many"] (spM K Ai 2) :=
 fnM F Qj fun cdv A outer s H E hr =>
  (Aq (Fw (Dk Va Rq (Bg BP BL (Af 0) Ag (fun _ _=>rfl)) Ag (CZ _))
   (Aq (Bt (i:=2) Qj.nd (BW N8 La (Bg BP BL (Af 0) Ag (fun _ _=>rfl)) (Af 1)))
   (Aq (Wt (BW Wj YW (Bg BP BL (Af 0) Ag (fun _ _=>rfl)) (Af 1)) (Af 0) Ag)
   (Ba (CT (Af 2)))))
   Ds)
   (Aq (Wt (BW Bl Bk (Bg BP BL (Af 0) Ag (fun _ _=>rfl)) Ag) (Af 0) Ag)
   (Ba (CT (BW N8 La (BW Jb Ja (Dm c_law_mixed hr (by omega) rfl (Ac (Bg BP BL (Af 0) Ag (fun _ _=>rfl)) (Ac (Bg BP BL (Af 0) Ag (fun _ _=>rfl)) Ah))) (Bg BP BL (Bf (Ac Ag (Ac Ag Ah)) (Ae (Ae Al))) (MP Uw YS rfl (B.is "int") S6 (Ac (Hv Va Rq (Af 1) (BW HN GD Ag Ag) (CZ _)) Ah)) (fun _ _=>rfl))) (Af 1))))))
set_option maxHeartbeats 4000000 in
theorem XH{f:Addr}{fd:FuncData}(F:Fun K "_law_reach" "_law_reach" Hi f fd)(B:Blt mg)(c_law_draw:Gb P w K mg base "_law_draw" 2 Ai):DW P w K mg base CX0 3 f fd ["well"] (spM K Dp 1) :=
 fnM F X8 fun cdv A outer s H E hr =>
  (Ba (CT (Bg BP BL (Bf (Ac (Bu (Ac Ag (Ac Ag Ah)) (Ae (Ae Al))) (Ac (Bu (Ac (J6 Gu GF Ag) (Ac Ag Ah)) (Ae (Ae Al))) (Ac (Bu (Ac Ag (Ac Ag Ah)) (Ae (Ae Al))) (Ac (Bu (Ac (J6 Gu GF Ag) (Ac Ag Ah)) (Ae (Ae Al))) (Ac (Bu (Ac (J6 Gu GF (BW HN GD Ag Ag)) (Ac (BW Jb Ja Ag (BW HN GD Ag Ag)) Ah)) (Ae (Ae Al))) Ah))))) (Ae (Ae (Ae (Ae (Ae Al)))))) (Bw c_law_draw hr (by omega) rfl (Ac (Af 0) (Ac Ag Ah))) (fun _ _=>rfl))))
set_option maxHeartbeats 4000000 in
theorem Ud{f:Addr}{fd:FuncData}(F:Fun K "_law_stretch" "_law_stretch" GK f fd)(B:Blt mg)(c_law_draw:Gb P w K mg base "_law_draw" 2 Ai):DW P w K mg base CX0 3 f fd ["well","reach"] (spM K Dw 2) :=
 fnM F Im fun cdv A outer s H E hr =>
  (Aq (Bt (i:=2) Im.nd (BW Bl Bk (Bg BP BL (Af 1) Ag (fun _ _=>rfl)) (Bw c_law_draw hr (by omega) rfl (Ac (Af 0) (Ac (Bg BP BL (Af 1) Ag (fun _ _=>rfl)) Ah)))))
   (Aq (Bt (i:=3) Im.nd (BW Bl Bk (Bg BP BL (Af 1) Ag (fun _ _=>rfl)) (Bw c_law_draw hr (by omega) rfl (Ac (Af 0) (Ac (Bg BP BL (Af 1) Ag (fun _ _=>rfl)) Ah)))))
   (Aq (Fw (Dk (Ln hr) Lk (Af 2) (Af 3) (CZ _))
   (Ba (Bt (i:=3) Im.nd (BW Bl Bk (Af 2) Ag)))
   Ds)
   (Ba (CT (Bu (Ac (Bx (Pr rfl) R8 rfl (B.is "min") W6 (Ac (Af 2) (Ac (Af 3) Ah))) (Ac (Bx (Pu rfl) R9 rfl (B.is "max") W7 (Ac (Af 2) (Ac (Af 3) Ah))) Ah)) (Ae (Ae Al))))))))
set_option maxHeartbeats 4000000 in
theorem XM{f:Addr}{fd:FuncData}(F:Fun K "_law_house" "_law_house" Hl f fd)(B:Blt mg)(c_law_stretch:Gb P w K mg base "_law_stretch" 3 Dw)(c_law_draw:Gb P w K mg base "_law_draw" 2 Ai):DW P w K mg base CX0 4 f fd ["well","reach","houses"] (spM K Es 3) :=
 fnM F Em fun cdv A outer s H E hr =>
  (Aq (oW (Bw c_law_stretch hr (by omega) rfl (Ac (Af 0) (Ac (Af 1) Ah))) (Vz rfl (K4 (DG (i:=3) Em.nd) (K4 (DG (i:=4) Em.nd) U9))))
   (Aq (Bt (i:=5) Em.nd (BW Bl Bk Ag (Bg BP BL (Bf (Ac (Bw c_law_draw hr (by omega) rfl (Ac (Af 0) (Ac Ag Ah))) (Ac (Bw c_law_draw hr (by omega) rfl (Ac (Af 0) (Ac Ag Ah))) (Ac (Bw c_law_draw hr (by omega) rfl (Ac (Af 0) (Ac (BW HN GD Ag Ag) Ah))) Ah))) (Ae (Ae (Ae Al)))) (Bw c_law_draw hr (by omega) rfl (Ac (Af 0) (Ac Ag Ah))) (fun _ _=>rfl))))
   (Aq (Bt (i:=6) Em.nd (Bw c_law_draw hr (by omega) rfl (Ac (Af 0) (Ac Ag Ah))))
   (Aq (Fw (KC (K9 (Dk (Ln hr) Lk (Af 2) (Bf Ah Al) (CZ _)) (Jr (Dk Va Rq (Af 6) Ag (CZ _)))))
   (Ba (CT (Bu (Ac (Af 3) (Ac (Af 4) (Ac (Af 5) Ah))) (Ae (Ae (Ae Al))))))
   Ds)
   (Aq (Bt (i:=7) Em.nd (Bg BP BL (Af 2) (Bw c_law_draw hr (by omega) rfl (Ac (Af 0) (Ac (Bx G8 Jy rfl (B.is "len") Lr (Ac (Af 2) Ah)) Ah))) (fun _ _=>rfl)))
   (Aq (Bt (i:=8) Em.nd (Bx (Pr rfl) R8 rfl (B.is "min") W6 (Ac (BW HN GD Ag Ag) (Ac (BW Bl Bk (BW Bl Bk (Bg BP BL (Af 7) Ag (fun _ _=>rfl)) Ag) (Bw c_law_draw hr (by omega) rfl (Ac (Af 0) (Ac Ag Ah)))) Ah))))
   (Aq (Bt (i:=9) Em.nd (BW Bl Bk (BW Bl Bk (Bg BP BL (Af 7) Ag (fun _ _=>rfl)) Ag) (Bw c_law_draw hr (by omega) rfl (Ac (Af 0) (Ac (BW Vs Tn (Bg BP BL (Af 7) Ag (fun _ _=>rfl)) (Bg BP BL (Af 7) Ag (fun _ _=>rfl))) Ah)))))
   (Aq (Bt (i:=10) Em.nd (QK (Ac (Af 7) (Ac (Bu (Ac (Bg BP BL (Af 7) Ag (fun _ _=>rfl)) (Ac (Bg BP BL (Af 7) Ag (fun _ _=>rfl)) (Ac (Af 5) Ah))) (Ae (Ae (Ae Al)))) (Ac (Bu (Ac (Af 3) (Ac (Af 4) (Ac (Bg BP BL (Af 7) Ag (fun _ _=>rfl)) Ah))) (Ae (Ae (Ae Al)))) (Ac (Bu (Ac (Bg BP BL (Af 7) Ag (fun _ _=>rfl)) (Ac (Af 8) (Ac (Af 5) Ah))) (Ae (Ae (Ae Al)))) Ah)))) (Ae (Ae (Ae (Ae Al))))))
   (Aq (PK (Ng U36 U30 U31 Kf Ke (Af 10) (Ac (Bu (Ac (Bg BP BL (Af 7) Ag (fun _ _=>rfl)) (Ac (Af 9) (Ac (Af 5) Ah))) (Ae (Ae (Ae Al)))) Ah)))
   (Aq (Fw (Dk Rk Ow (Bg BP BL (Bg BP BL (Af 10) (Af 6) (fun _ _=>rfl)) Ag (fun _ _=>rfl)) (Bg BP BL (Bg BP BL (Af 10) (Af 6) (fun _ _=>rfl)) Ag (fun _ _=>rfl)) (CZ _))
   (Ba (CT (Af 7)))
   Ds)
   (Ba (CT (Bg BP BL (Af 10) (Af 6) (fun _ _=>rfl))))))))))))))
set_option maxHeartbeats 4000000 in
theorem V8{f:Addr}{fd:FuncData}(F:Fun K "_law_houses" "_law_houses" Gy f fd)(B:Blt mg)(c_law_draw:Gb P w K mg base "_law_draw" 2 Ai)(c_law_house:Gb P w K mg base "_law_house" 4 Es):DW P w K mg base CX0 5 f fd ["well","reach","most"] (spM K Eh 3) :=
 fnM F JD fun cdv A outer s H E hr =>
  (Aq (Bt (i:=3) JD.nd (Bg BP BL (Bf (Ac (Bw c_law_draw hr (by omega) rfl (Ac (Af 0) (Ac Ag Ah))) (Ac (Bw c_law_draw hr (by omega) rfl (Ac (Af 0) (Ac (BW Bl Bk (Af 2) Ag) Ah))) (Ac (Af 2) Ah))) (Ae (Ae (Ae Al)))) (Bw c_law_draw hr (by omega) rfl (Ac (Af 0) (Ac Ag Ah))) (fun _ _=>rfl)))
   (Aq (Bt (i:=4) JD.nd (QK Ah Al))
   (Aq (Js rfl (Pk rfl (B.is "range") (Ac (Af 3) Ah)) (DG (i:=5) JD.nd)
   (Ba (PK (Ng U36 U30 U31 Kf Ke (Af 4) (Ac (Bw c_law_house hr (by omega) rfl (Ac (Af 0) (Ac (Af 1) (Ac (Af 4) Ah)))) Ah)))) U3i)
   (Ba (CT (Af 4))))))
set_option maxHeartbeats 4000000 in
theorem Xp{f:Addr}{fd:FuncData}(F:Fun K "_law_line" "_law_line" GX f fd)(B:Blt mg):DW P w K mg base CX0 1 f fd ["houses"] (spP K Fb 1) :=
 fnP F Gi fun cdv A outer s H E hr =>
  (Aq (Bt (i:=1) Gi.nd (Xy rfl (BW Bl Bk (Ge rfl (Eu.of (sc:=Av GX) (N:=["houses","marks","found","mark","height","house"]) (N2:=["house"]) (k:=1) (caps:=[]) (by decide +kernel)) rfl (G5 (Af 0)) ⟨fun _ _ _ _ _=>⟨(DG (i:=0) (show U3q (["house"]:List Str) by decide +kernel)),Jc,(Bg BP BL (Af 0) Ag (fun _ _=>rfl))⟩⟩) (Ge rfl (Eu.of (sc:=Av GX) (N:=["houses","marks","found","mark","height","house"]) (N2:=["house"]) (k:=1) (caps:=[]) (by decide +kernel)) rfl (G5 (Af 0)) ⟨fun _ _ _ _ _=>⟨(DG (i:=0) (show U3q (["house"]:List Str) by decide +kernel)),Jc,(Bg BP BL (Af 0) Ag (fun _ _=>rfl))⟩⟩)) rfl (B.is "sorted") rfl (B.is "set")))
   (Aq (Bt (i:=2) Gi.nd (QK Ah Al))
   (Aq (Js rfl (G5 (Af 1)) (DG (i:=3) Gi.nd)
   (Aq (Bt (i:=4) Gi.nd Ag)
   (Aq (Js rfl (G5 (Af 0)) (DG (i:=5) Gi.nd)
   (Ba (Fw (KC (aJ (Dk qp n8 (Bg BP BL (Af 5) Ag (fun _ _=>rfl)) (Af 3) (CZ _)) (aJ (Dk Rj Ov (Af 3) (Bg BP BL (Af 5) Ag (fun _ _=>rfl)) (CZ _)) (jd (Dk Va Rq (Bg BP BL (Af 5) Ag (fun _ _=>rfl)) (Af 4) (CZ _))))))
   (Ba (Bt (i:=4) Gi.nd (Bg BP BL (Af 5) Ag (fun _ _=>rfl))))
   Ds)) U3i)
   (Ba (Fw (Dk (Kd hr) N6 (Af 4) (Bg BP BL (Bg BP BL (BW Bl Bk (Bf (Ac (Bu (Ac Ag (Ac Ag Ah)) (Ae (Ae Al))) Ah) (Ae Al)) (Af 2)) (J6 Gu GF Ag) (fun _ _=>rfl)) Ag (fun _ _=>rfl)) (CZ _))
   (Ba (PK (Ng U36 U30 U31 Kf Ke (Af 2) (Ac (Bu (Ac (Af 3) (Ac (Af 4) Ah)) (Ae (Ae Al))) Ah))))
   Ds)))) U3i)
   (Ba (CT (Af 2))))))
set_option maxHeartbeats 4000000 in
theorem XD{f:Addr}{fd:FuncData}(F:Fun K "_law_whole" "_law_whole" Hg f fd)(B:Blt mg):DW P w K mg base CX0 1 f fd ["thing"] (spP K Fi 1) :=
 fnP F X7 fun cdv A outer s H E hr =>
  (Ba (CT (Jt (Bx Gf HX rfl (B.is "isinstance") Dq (Ac (Af 0) (Ac (KD (n:="int") rfl (B.is "int") S6) Ah))) (Lp (aM (Bx Gf HX rfl (B.is "isinstance") Dq (Ac (Af 0) (Ac (KD (n:="bool") rfl (B.is "bool") Ua) Ah))))))))
set_option maxHeartbeats 4000000 in
theorem Qf{f:Addr}{fd:FuncData}(F:Fun K "_law_are_wholes" "_law_are_wholes" Ec f fd)(B:Blt mg)(c_law_whole:Dz P w K mg base "_law_whole" 1 Fi):DW P w K mg base CX0 2 f fd ["thing","many"] (spP K CN 2) :=
 fnP F Qc fun cdv A outer s H E hr =>
  (Aq (Fw (KC (K9 (J4 (J3 (Bx Gf HX rfl (B.is "isinstance") Dq (Ac (Af 0) (Ac (KD (n:="tuple") rfl (B.is "tuple") Rb) Ah))))) (Jr (Dk (Kd hr) N6 (Bx G8 Jy rfl (B.is "len") Lr (Ac (Af 0) Ah)) (Af 1) (CZ _)))))
   (Ba (CT Fx))
   Ds)
   (Ba (CT (Hv (aD hr) YT (Ge rfl (Eu.of (sc:=Av Ec) (N:=["thing","many"]) (N2:=["one"]) (k:=1) (caps:=[]) (by decide +kernel)) rfl (G5 (Af 0)) ⟨fun _ _ _ _ _=>⟨(DG (i:=0) (show U3q (["one"]:List Str) by decide +kernel)),(U8 (J4 (J3 (Dm c_law_whole hr (by omega) rfl (Ac (Af 0) Ah))))),(Af 0)⟩⟩) (Bf Ah Al) (CZ _)))))
set_option maxHeartbeats 4000000 in
theorem Qg{f:Addr}{fd:FuncData}(F:Fun K "_law_are_houses" "_law_are_houses" FJ f fd)(B:Blt mg)(c_law_are_wholes:Dz P w K mg base "_law_are_wholes" 2 CN):DW P w K mg base CX0 3 f fd ["thing"] (spP K Cz 1) :=
 fnP F Kr fun cdv A outer s H E hr =>
  (Aq (Fw (J4 (J3 (Bx Gf HX rfl (B.is "isinstance") Dq (Ac (Af 0) (Ac (KD (n:="list") rfl (B.is "list") Nh) Ah)))))
   (Ba (CT Fx))
   Ds)
   (Aq (Js rfl (G5 (Af 0)) (DG (i:=1) Kr.nd)
   (Ba (Fw (KC (K9 (J4 (J3 (Dm c_law_are_wholes hr (by omega) rfl (Ac (Af 1) (Ac Ag Ah))))) (K9 (Dk Rk Ow (Bg BP BL (Af 1) Ag (fun _ _=>rfl)) (Bg BP BL (Af 1) Ag (fun _ _=>rfl)) (CZ _)) (Jr (Dk Rj Ov (Bg BP BL (Af 1) Ag (fun _ _=>rfl)) Ag (CZ _))))))
   (Ba (CT Fx))
   Ds)) U3i)
   (Ba (CT Fx))))
set_option maxHeartbeats 4000000 in
theorem Qd{f:Addr}{fd:FuncData}(F:Fun K "_law_is_skyline" "_law_is_skyline" DY f fd)(B:Blt mg)(Bz:mg "zip"=none)(c_law_are_wholes:Dz P w K mg base "_law_are_wholes" 2 CN):DW P w K mg base CX0 3 f fd ["thing"] (spP K Cy 1) :=
 fnP F Gk fun cdv A outer s H E hr =>
  (Aq (Fw (J4 (J3 (Bx Gf HX rfl (B.is "isinstance") Dq (Ac (Af 0) (Ac (KD (n:="list") rfl (B.is "list") Nh) Ah)))))
   (Ba (CT Fx))
   Ds)
   (Aq (Js rfl (G5 (Af 0)) (DG (i:=1) Gk.nd)
   (Ba (Fw (KC (K9 (J4 (J3 (Dm c_law_are_wholes hr (by omega) rfl (Ac (Af 1) (Ac Ag Ah))))) (Jr (Dk Rj Ov (Bg BP BL (Af 1) Ag (fun _ _=>rfl)) Ag (CZ _)))))
   (Ba (CT Fx))
   Ds)) U3i)
   (Aq (Bt (i:=2) Gk.nd (BW Bl Bk (Bf (Ac Ag Ah) (Ae Al)) (Ge rfl (Eu.of (sc:=Av DY) (N:=["thing","one","heights","numbers"]) (N2:=["one"]) (k:=1) (caps:=[]) (by decide +kernel)) rfl (G5 (Af 0)) ⟨fun _ _ _ _ _=>⟨(DG (i:=0) (show U3q (["one"]:List Str) by decide +kernel)),Jc,(Bg BP BL (Af 0) Ag (fun _ _=>rfl))⟩⟩)))
   (Aq (Xx (i:=3) rfl Gk.nd (Eu.of (sc:=Av DY) (N:=["thing","one","heights","numbers"]) (N2:=["one"]) (k:=1) (caps:=[]) (by decide +kernel)) rfl (G5 (Af 0)) ⟨fun _ _ _ _ _=>⟨(DG (i:=0) (show U3q (["one"]:List Str) by decide +kernel)),Jc,(Bg BP BL (Af 0) Ag (fun _ _=>rfl))⟩⟩)
   (Aq (Fw (KC (K9 (Dk (Kd hr) N6 (Af 3) (Zj rfl (Af 3) rfl (B.is "sorted") rfl (B.is "set")) (CZ _)) (Jr (Dk (Kd hr) N6 (Bg BP BL (Af 2) (J6 Gu GF Ag) (fun _ _=>rfl)) Ag (CZ _)))))
   (Ba (CT Fx))
   Ds)
   (Ba (CT (Hv (Ln hr) Lk (Ge rfl (Eu.of (sc:=Av DY) (N:=["thing","one","heights","numbers"]) (N2:=["one","other"]) (k:=2) (caps:=[]) (by decide +kernel)) rfl (aK rfl Bz (Ac (Af 2) (Ac (Du Fj Fo (Af 2) (Ef Ag) Ey) Ah))) ⟨fun _ _ _ _ _=>⟨(Vz rfl (K4 (DG (i:=0) (show U3q (["one","other"]:List Str) by decide +kernel)) (K4 (DG (i:=1) (show U3q (["one","other"]:List Str) by decide +kernel)) U9))),(U8 (Dk (Ln hr) Lk (Af 0) (Af 1) (CZ _))),Ag⟩⟩) (Bf Ah Al) (CZ _)))))))))
set_option maxHeartbeats 4000000 in
theorem Zc{f:Addr}{fd:FuncData}(F:Fun K "_law_odd" "_law_odd" Je f fd)(B:Blt mg)(c_law_draw:Gb P w K mg base "_law_draw" 2 Ai):DW P w K mg base CX0 3 f fd ["well"] (spM K CG 1) :=
 fnM F SM fun cdv A outer s H E hr =>
  (Aq (Bt (i:=1) SM.nd (Bf (Ac aN (Ac Fx (Ac Fx (Ac aL (Ac aL (Ac (Bf Ah Al) (Ac (Bf (Ac Ag Ah) (Ae Al)) (Ac (Bu Ah Al) (Ac (Bu (Ac Ag Ah) (Ae Al)) (Ac oX (Ac Ag (Ac (J6 Gu GF Ag) (Ac Ag (Ac (BW HN GD Ag Ag) (Ac (J6 Gu GF (BW HN GD Ag Ag)) (Ac (Bf (Ac (Bf Ah Al) Ah) (Ae Al)) (Ac (Bu (Ac Ag (Ac Ag Ah)) (Ae (Ae Al))) (Ac (Bu (Ac Ag (Ac Ag (Ac Ag Ah))) (Ae (Ae (Ae Al)))) Ah)))))))))))))))))) (Ae (Ae (Ae (Ae (Ae (Ae (Ae (Ae (Ae (Ae (Ae (Ae (Ae (Ae (Ae (Ae (Ae (Ae Al))))))))))))))))))))
   (Ba (CT (Bg BP BL (Af 1) (Bw c_law_draw hr (by omega) rfl (Ac (Af 0) (Ac Ag Ah))) (fun _ _=>rfl)))))
set_option maxHeartbeats 4000000 in
theorem Xr{f:Addr}{fd:FuncData}(F:Fun K "_law_bent" "_law_bent" Ij f fd)(B:Blt mg)(c_law_draw:Gb P w K mg base "_law_draw" 2 Ai)(c_law_odd:Gb P w K mg base "_law_odd" 3 CG):DW P w K mg base CX0 4 f fd ["well","rows"] (spM K Dn 2) :=
 fnM F Ce fun cdv A outer s H E hr =>
  (Aq (Bt (i:=2) Ce.nd (Bg BP BL (Bf (Ac (Bw c_law_draw hr (by omega) rfl (Ac (Af 0) (Ac (BW Bl Bk (Bx G8 Jy rfl (B.is "len") Lr (Ac (Af 1) Ah)) Ag) Ah))) (Ac Ag (Ac (Bx (Pu rfl) R9 rfl (B.is "max") W7 (Ac Ag (Ac (BW Vs Tn (Bx G8 Jy rfl (B.is "len") Lr (Ac (Af 1) Ah)) Ag) Ah))) Ah))) (Ae (Ae (Ae Al)))) (Bw c_law_draw hr (by omega) rfl (Ac (Af 0) (Ac Ag Ah))) (fun _ _=>rfl)))
   (Aq (Bt (i:=3) Ce.nd (Bg BP BL (BW Bl Bk (Af 1) (Bf (Ac (Bu (Ac Ag (Ac Ag (Ac Ag Ah))) (Ae (Ae (Ae Al)))) Ah) (Ae Al))) (Af 2) (fun _ _=>rfl)))
   (Aq (Bt (i:=4) Ce.nd (Bw c_law_draw hr (by omega) rfl (Ac (Af 0) (Ac (Bx G8 Jy rfl (B.is "len") Lr (Ac (Af 3) Ah)) Ah))))
   (Aq (Bt (i:=5) Ce.nd (Bg BP BL (Af 3) (Af 4) (fun _ _=>rfl)))
   (Aq (Bt (i:=6) Ce.nd (Bw c_law_odd hr (by omega) rfl (Ac (Af 0) Ah)))
   (Aq (Fw (Dk (oA hr) iU (Af 6) (Bu (Ac (BW HN GD Ag Ag) (Ac (J6 Gu GF (BW HN GD Ag Ag)) Ah)) (Ae (Ae Al))) (by with_unfolding_all rfl))
   (Ba (Bt (i:=6) Ce.nd aN))
   Ds)
   (Aq (Bt (i:=6) Ce.nd (Bf (Ac (Af 6) (Ac (Bx (Pr rfl) R8 rfl (B.is "min") W6 (Ac (BW HN GD Ag Ag) (Ac (BW Bl Bk (Af 5) Ag) Ah))) (Ac (Bx (Pu rfl) R9 rfl (B.is "max") W7 (Ac (J6 Gu GF (BW HN GD Ag Ag)) (Ac (BW Vs Tn (Af 5) Ag) Ah))) (Ac Ag Ah)))) (Ae (Ae (Ae (Ae Al))))))
   (Aq (Bt (i:=6) Ce.nd (Bg BP BL (BW Bl Bk (Af 6) (Bf (Ac (J6 Gu GF Ag) (Ac (MP Zr dO rfl (B.is "bool") Ua (Ac (Af 5) Ah)) (Ac (Bg BP BL (Af 3) Ag (fun _ _=>rfl)) Ah))) (Ae (Ae (Ae Al))))) (Bw c_law_draw hr (by omega) rfl (Ac (Af 0) (Ac Ag Ah))) (fun _ _=>rfl)))
   (Aq (Bt (i:=7) Ce.nd (BW Bl Bk (BW Bl Bk (Du Fj Fo (Af 3) Ey (Ef (Af 4))) (Bu (Ac (Af 6) Ah) (Ae Al))) (Du Fj Fo (Af 3) (Ef (BW Bl Bk (Af 4) Ag)) Ey)))
   (Aq (Bt (i:=8) Ce.nd (Bf (Ac (Af 7) (Ac (Af 7) (Ac (Af 7) (Ac (BW Bl Bk (Du Fj Fo (Af 3) Ey (Ef (Af 4))) (Du Fj Fo (Af 3) (Ef (BW Bl Bk (Af 4) Ag)) Ey)) (Ac (BW Bl Bk (Af 3) (Bu (Ac Ag Ah) (Ae Al))) (Ac (jf Xc dN rfl (B.is "list") Nh (Ac (Af 3) Ah)) (Ac (UG (Af 3)) (Ac (Bw c_law_odd hr (by omega) rfl (Ac (Af 0) Ah)) Ah)))))))) (Ae (Ae (Ae (Ae (Ae (Ae (Ae (Ae Al))))))))))
   (Aq (Bt (i:=7) Ce.nd (Bg BP BL (Af 8) (Bw c_law_draw hr (by omega) rfl (Ac (Af 0) (Ac Ag Ah))) (fun _ _=>rfl)))
   (Aq (Bt (i:=9) Ce.nd (Du Fj Fo (Af 1) Ey (Ef (Af 2))))
   (Aq (Bt (i:=10) Ce.nd (je (Bf (Ac (BW Bl Bk (BW Bl Bk (Af 9) (Bf (Ac (Af 7) Ah) (Ae Al))) (Du Fj Fo (Af 1) (Ef (BW Bl Bk (Af 2) Ag)) Ey)) Ah) (Ae Al)) Ag))
   (Aq (Bt (i:=10) Ce.nd (Yl (Af 10) (Bf (Ac (BW Bl Bk (BW Bl Bk (Af 9) (Bf (Ac (Af 7) Ah) (Ae Al))) (Du Fj Fo (Af 1) (Ef (Af 2)) Ey)) (Ac (BW Bl Bk (Af 9) (Du Fj Fo (Af 1) (Ef (BW Bl Bk (Af 2) Ag)) Ey)) Ah)) (Ae (Ae Al)))))
   (Aq (PK (Ng U36 U30 U31 Kf Ke (Af 10) (Ac (BW Bl Bk (BW Bl Bk (Af 9) (UG (Du Fj Fo (Af 1) (Ef (Af 2)) (Ef (BW Bl Bk (Af 2) Ag))))) (Du Fj Fo (Af 1) (Ef (BW Bl Bk (Af 2) Ag)) Ey)) Ah)))
   (Aq (Bt (i:=10) Ce.nd (BW Bl Bk (Af 10) (Bf (Ac (UG (Af 1)) (Ac (MP VG bB rfl (B.is "tuple") Rb (Ac (Af 1) Ah)) (Ac (Bf (Ac (Af 1) Ah) (Ae Al)) (Ac (Du Fj Fo (Af 1) Ey (Ef (J6 Gu GF Ag))) Ah)))) (Ae (Ae (Ae (Ae Al)))))))
   (Aq (Bt (i:=10) Ce.nd (BW Bl Bk (Af 10) (Bf (Ac (BW Bl Bk (Af 1) (Af 1)) (Ac (Du Fj Fo (Af 1) (Ef Ag) Ey) (Ac (BW Bl Bk (BW Bl Bk (Af 9) (Bf (Ac (Af 3) Ah) (Ae Al))) (Du Fj Fo (Af 1) (Ef (Af 2)) Ey)) Ah))) (Ae (Ae (Ae Al))))))
   (Ba (CT (Bg BP BL (BW Bl Bk (Af 10) (Bf (Ac (Bw c_law_odd hr (by omega) rfl (Ac (Af 0) Ah)) Ah) (Ae Al))) (Bw c_law_draw hr (by omega) rfl (Ac (Af 0) (Ac Ag Ah))) (fun _ _=>rfl)))))))))))))))))))))
set_option maxHeartbeats 4000000 in
theorem XF{f:Addr}{fd:FuncData}(F:Fun K "_law_right" "_law_right" Hh f fd)(B:Blt mg)(c_is_skyline:Dz P w K mg base "is_skyline" 3 Cj)(c_are_houses:Dz P w K mg base "are_houses" 4 Ck)(c_law_is_skyline:Dz P w K mg base "_law_is_skyline" 3 Cy)(c_law_are_houses:Dz P w K mg base "_law_are_houses" 3 Cz):DW P w K mg base CX0 5 f fd ["thing"] (spP K Ep 1) :=
 fnP F Jv fun cdv A outer s H E hr =>
  (Aq (Bt (i:=1) Jv.nd (Bx (LQ hr) Nt rfl (B.is "repr") QW (Ac (Af 0) Ah)))
   (Aq (Js rfl (Pk rfl (B.is "range") (Ac Ag Ah)) (DG (i:=2) Jv.nd)
   (Aq (Bt (i:=3) Jv.nd (Bf (Ac (Dm c_are_houses hr (by omega) rfl (Ac (Af 0) Ah)) (Ac (Dm c_is_skyline hr (by omega) rfl (Ac (Af 0) Ah)) Ah)) (Ae (Ae Al))))
   (Ba (Fw (KC (K9 (Dk (Kd hr) YQ (Bx (LQ hr) Nt rfl (B.is "repr") QW (Ac (Af 3) Ah)) (Bx (LQ hr) Nt rfl (B.is "repr") QW (Ac (Bf (Ac (Dm c_law_are_houses hr (by omega) rfl (Ac (Af 0) Ah)) (Ac (Dm c_law_is_skyline hr (by omega) rfl (Ac (Af 0) Ah)) Ah)) (Ae (Ae Al))) Ah)) (CZ _)) (Jr (Dk (Kd hr) YQ (Bx (LQ hr) Nt rfl (B.is "repr") QW (Ac (Af 0) Ah)) (Af 1) (CZ _)))))
   (Ba (CT Fx))
   Ds))) U3i)
   (Ba (CT Fx))))
set_option maxHeartbeats 4000000 in
theorem oG{f:Addr}{fd:FuncData}(F:Fun K "law" "law" K8 f fd)(B:Blt mg)(c_law_well:Dz P w K mg base "_law_well" 1 FZ)(c_law_houses:Gb P w K mg base "_law_houses" 5 Eh)(c_law_reach:Gb P w K mg base "_law_reach" 3 Dp)(c_law_line:Dz P w K mg base "_law_line" 1 Fb)(c_are_houses:Dz P w K mg base "are_houses" 4 Ck)(c_is_skyline:Dz P w K mg base "is_skyline" 3 Cj)(c_law_odd:Gb P w K mg base "_law_odd" 3 CG)(c_law_bent:Gb P w K mg base "_law_bent" 4 Dn)(c_law_right:Dz P w K mg base "_law_right" 5 Ep):DW P w K mg base CX0 6 f fd ["script"] (spP K Tp 1) :=
 fnP F Jp fun cdv A outer s H E hr =>
  (Aq (Js rfl (G5 (BW Bl Bk (Bf (Ac Ag Ah) (Ae Al)) (Du Fj Fo (Af 0) Ey (Ef Ag)))) (DG (i:=1) Jp.nd)
   (Aq (Bt (i:=2) Jp.nd (eZ c_law_well hr (by omega) rfl (Ac (Af 1) Ah)))
   (Aq (Bt (i:=3) Jp.nd (Bw c_law_houses hr (by omega) rfl (Ac (Af 2) (Ac (Bw c_law_reach hr (by omega) rfl (Ac (Af 2) Ah)) (Ac Ag Ah)))))
   (Aq (Bt (i:=4) Jp.nd (Dm c_law_line hr (by omega) rfl (Ac (Af 3) Ah)))
   (Aq (Fw (KC (K9 (Dk Wi Wa (Dm c_are_houses hr (by omega) rfl (Ac (Af 3) Ah)) Fx (CZ _)) (Jr (Dk Wi Wa (Dm c_is_skyline hr (by omega) rfl (Ac (Af 4) Ah)) Fx (CZ _)))))
   (Ba (CT Fx))
   Ds)
   (Ba (Js rfl (Pk rfl (B.is "range") (Ac Ag Ah)) (DG (i:=5) Jp.nd)
   (Ba (Js rfl (G5 (Bf (Ac (Bw c_law_bent hr (by omega) rfl (Ac (Af 2) (Ac (Af 3) Ah))) (Ac (Bw c_law_bent hr (by omega) rfl (Ac (Af 2) (Ac (Af 4) Ah))) (Ac (Bw c_law_odd hr (by omega) rfl (Ac (Af 2) Ah)) (Ac (Af 3) (Ac (Af 4) Ah))))) (Ae (Ae (Ae (Ae (Ae Al))))))) (DG (i:=6) Jp.nd)
   (Ba (Fw (J4 (J3 (Dm c_law_right hr (by omega) rfl (Ac (Af 6) Ah))))
   (Ba (CT Fx))
   Ds)) U3i)) U3i)))))) U3i)
   (Aq (Bt (i:=7) Jp.nd (QK (Ac (Bf (Ac (Bu (Ac Ag (Ac Ag Ah)) (Ae (Ae Al))) Ah) (Ae Al)) (Ac (Bf (Ac (Bu (Ac Ag (Ac Ag Ah)) (Ae (Ae Al))) Ah) (Ae Al)) (Ac (Bf (Ac (Bu (Ac Ag (Ac Ag Ah)) (Ae (Ae Al))) (Ac (Bu (Ac Ag (Ac Ag Ah)) (Ae (Ae Al))) Ah)) (Ae (Ae Al))) (Ac (Bf (Ac (Bu (Ac Ag (Ac Ag Ah)) (Ae (Ae Al))) (Ac (Bu (Ac Ag (Ac Ag Ah)) (Ae (Ae Al))) Ah)) (Ae (Ae Al))) (Ac (Bf (Ac (Bu (Ac Ag (Ac Ag Ah)) (Ae (Ae Al))) (Ac (Bu (Ac Ag (Ac Ag Ah)) (Ae (Ae Al))) (Ac (Bu (Ac Ag (Ac Ag Ah)) (Ae (Ae Al))) Ah))) (Ae (Ae (Ae Al)))) (Ac (Bf (Ac (Bu (Ac Ag (Ac Ag Ah)) (Ae (Ae Al))) (Ac (Bu (Ac Ag (Ac Ag Ah)) (Ae (Ae Al))) (Ac (Bu (Ac Ag (Ac Ag Ah)) (Ae (Ae Al))) Ah))) (Ae (Ae (Ae Al)))) Ah)))))) (Ae (Ae (Ae (Ae (Ae (Ae Al))))))))
   (Aq (Bt (i:=7) Jp.nd (Yl (Af 7) (Bf (Ac (Bf (Ac (Bu (Ac Ag (Ac Ag (Ac Ag Ah))) (Ae (Ae (Ae Al)))) Ah) (Ae Al)) (Ac (Bf (Ac (Bu (Ac Ag (Ac Ag (Ac Ag Ah))) (Ae (Ae (Ae Al)))) Ah) (Ae Al)) (Ac (Bf (Ac (Bu (Ac Ag (Ac Ag (Ac Ag Ah))) (Ae (Ae (Ae Al)))) Ah) (Ae Al)) (Ac (Bf (Ac (Bu (Ac Ag (Ac Ag (Ac Ag Ah))) (Ae (Ae (Ae Al)))) Ah) (Ae Al)) (Ac (Bf (Ac (Bu (Ac Fx (Ac Ag Ah)) (Ae (Ae Al))) (Ac (Bu (Ac Ag (Ac Ag Ah)) (Ae (Ae Al))) Ah)) (Ae (Ae Al))) Ah))))) (Ae (Ae (Ae (Ae (Ae Al))))))))
   (Aq (PK (Ng U36 U30 U31 Kf Ke (Af 7) (Ac (Bf (Ac (Bu (Ac Ag (Ac Ag Ah)) (Ae (Ae Al))) (Ac (Bu (Ac Ag (Ac Ag Ah)) (Ae (Ae Al))) (Ac (Bu (Ac Ag (Ac Ag Ah)) (Ae (Ae Al))) (Ac (Bu (Ac Ag (Ac Ag Ah)) (Ae (Ae Al))) Ah)))) (Ae (Ae (Ae (Ae Al))))) Ah)))
   (Ba (CT (Hv (aD hr) YT (Ge rfl (Eu.of (sc:=Av K8) (N:=["script","cell","well","houses","skyline","turn","thing","some"]) (N2:=["thing"]) (k:=1) (caps:=[]) (by decide +kernel)) rfl (G5 (Af 7)) ⟨fun _ _ _ _ _=>⟨(DG (i:=0) (show U3q (["thing"]:List Str) by decide +kernel)),(U8 (J4 (J3 (Dm c_law_right hr (by omega) rfl (Ac (Af 0) Ah))))),(Af 0)⟩⟩) (Bf Ah Al) (CZ _))))))))
end
end W27
end
section
namespace W27
open PySem L2 VS
theorem Dv{sem:FT}{a:Bs}{env:VS.Env}{S S':Store}{ds es:List D}{r:D}(h:a env S=some (ds,S'))(hp:BZ ds=true)(ha:Bj ds=es)(hr:sem es=some r):Bp sem a env S=some (r,S'):=by
 rw[Mg,h]
 simp only[U0a,FW 0 S' hp,ha,hr,hp,Bool.true_or,if_true]
end W27
end
section
namespace W27
open PySem L2 VS
theorem eG(c k:Int)(h0:0<=k)(h1:k<1000000000000):∃v,GJ [.int c,.int k]=some (.int v):=by
 have hk:-18446744073709551616<k/\k<18446744073709551616:=by omega
 have ha:∀t:Int,-18446744073709551616<t%2147483629/\t%2147483629<18446744073709551616:=fun t=>by omega
 have hb:∀t:Int,-18446744073709551616<t%2147483587/\t%2147483587<18446744073709551616:=fun t=>by omega
 simp[GJ,Qq,IK,Br,DQ,Ez,J8,Bb,oI,Ms,Tg,Tf,Aw,Hq,oDiv,oMod,VS.listOf,Ew,den,U0t,-U09,-U1r,hk,ha,hb]
theorem Dg(x y z m:Int)(h0:0<m)(h1:m<2^63)(z0:0<=z)(z1:z<100000000000):∃r x' z',Ai [x,y,z] [.int m]=some (.int r,[x',y,z'])/\(0<=r/\r<m)/\z<=z'/\z'<=z+1:=by
 have hm:m<18446744073709551616:=by omega
 by_cases h:0<x
 .refine⟨x%m,x/m,z,?_,⟨U7l _ (by omega),U6w _ h0⟩,by omega,by omega⟩
  simp[Ai,LC,IK,Br,DQ,N7,NZ,PX,Ez,J8,Bb,G4,BJ,Fp,CJ,Cg,Mg,oI,JM,Ms,Tg,Tf,Kl,Aw,Hq,oDiv,oMod,Cm,oGt,oIx,Nk,VS.listOf,Fv,IW,intsOf,den,U0t,-U09,-U1r,h,h0,hm]
 .obtain⟨v,hv⟩:=eG y (z+1) (by omega) (by omega)
  by_cases h6:1000000<m
  .refine⟨v*8191%m,x,z+1,?_,⟨U7l _ (by omega),U6w _ h0⟩,by omega,by omega⟩
   simp[Ai,LC,IK,Br,DQ,N7,NZ,PX,Ez,J8,Bb,G4,BJ,Fp,CJ,Cg,Mg,oI,JM,Ms,Tg,Tf,Kl,Aw,Hq,oDiv,oMod,Cm,oGt,oIx,Nk,VS.listOf,Fv,IW,intsOf,den,Dl,age,Bj,BK,BZ,U0t,-U09,-U1r,h,h0,hm,hv,h6]
  .refine⟨v*1%m,x,z+1,?_,⟨U7l _ (by omega),U6w _ h0⟩,by omega,by omega⟩
   simp[Ai,LC,IK,Br,DQ,N7,NZ,PX,Ez,J8,Bb,G4,BJ,Fp,CJ,Cg,Mg,oI,JM,Ms,Tg,Tf,Kl,Aw,Hq,oDiv,oMod,Cm,oGt,oIx,Nk,VS.listOf,Fv,IW,intsOf,den,Dl,age,Bj,BK,BZ,U0t,-U09,-U1r,h,h0,hm,hv,h6]
theorem gq(c:Int):∃x,FZ [.int c]=some (.lst true [.int x,.int c,.int 0]):=by
 by_cases h:(1000000000000000000:Int)<=c
 .simp[FZ,O8,DQ,Ez,J8,Bb,G4,BJ,Fp,Cg,oI,JM,Ms,Kl,Hq,Cm,oGe,Nk,VS.listOf,Ew,den,Dl,-U09,-U1r,h]
 .simp[FZ,O8,DQ,Ez,J8,Bb,G4,BJ,Fp,Cg,oI,JM,Ms,Kl,Hq,Cm,oGe,Nk,VS.listOf,Ew,den,Dl,-U09,-U1r,h]
end W27
end
section
namespace W27
open PySem L2 VS
theorem dF{sem:FT}{a:Bs}{env:VS.Env}{S S':Store}{d d':D}{cs:List D}(h:Bp sem a env S=some (d,S'))(ht:Qx S'.length d=some (d',cs)):PL sem a env S=some (d',S'++[some cs]):=by
 rw[bW,h,U0a]
 show(Qx S'.length d).bind _=_
 rw[ht];rfl
theorem Gg{sem:Jm}{a:Bs}{env:VS.Env}{S S':Store}{i:Nat}{rest es:List D}{ns ms:List Int}{r:D}(h:a env S=some (.ref i::rest,S'))(hi:S'[i]?=some (some (ns.map D.int)))(hp:BZ rest=true)(ha:Bj rest=es)(hr:sem ns es=some (r,ms)):Ak sem a env S=some (r,S'.set i (some (ms.map D.int))):=by
 rw[Pq,h]
 simp only[U0a,hi,O7,FW 0 _ hp,ha,hr,hp,Bool.true_or,if_true]
theorem Yg{g:Store->D->List D->Option (D×Store)}{o:Az}{a:Bs}{env:VS.Env}{S S1 S2 S3:Store}{d r:D}{cs ds:List D}(h:o env S=some (d,S1))(hl:VS.listOf S1 d=some cs)(h2:a env S1=some (ds,S2))(h3:g S2 d ds=some (r,S3)):Hz g o a env S=some (r,S3):=by
 rw[Ww,h,U0a]
 show(if (VS.listOf S1 d).isSome=true then _ else _)=_
 rw[hl]
 show(a env S1).bind _=_
 rw[h2]
 exact h3
theorem Nj(S:Store)(a:Option (List D))(l:List (Option (List D))):(S++a::l)[S.length]?=some a:=by simp
theorem TY(S:Store)(a c:Option (List D))(l:List (Option (List D))):(S++a::l).set S.length c=S++c::l:=by
 rw[List.set_append_right _ _ (by omega)]
 simp
end W27
end
section
namespace W27
open PySem L2 VS
theorem Dh{x y z c r x' z':Int}{a:Az}{env:VS.Env}{S:Store}{j:Nat}(h:Ai [x,y,z] [.int c]=some (.int r,[x',y,z']))(h0:env[j]?=some (some (.ref 0)))(ha:a env (some [.int x,.int y,.int z]::S)=some (.int c,some [.int x,.int y,.int z]::S)):Ak Ai (Aa (Ab j) (Aa a Ad)) env (some [.int x,.int y,.int z]::S)=some (.int r,some [.int x',.int y,.int z']::S):=by
 have v0:Ab j env (some [.int x,.int y,.int z]::S)=some (.ref 0,some [.int x,.int y,.int z]::S):=by rw[Ez,h0];rfl
 exact Gg (ns:=[x,y,z]) (rest:=[.int c]) (es:=[.int c]) (i:=0) (S':=some [.int x,.int y,.int z]::S) (by rw[BJ,v0,U0a,BJ,ha];rfl) rfl (by simp[BZ,BK]) (by simp[Bj,age]) h
theorem ZR(x y z r0 r1:Int)(h1:0<r1)(h2:r1<=2000000000)(z0:0<=z)(z1:z<10000000000):∃(p:St2)(x' z':Int),Dw [x,y,z] [.tup [.int r0,.int r1]]=some (Ax p,[x',y,z'])/\(r0<=p.1/\p.1<p.2/\p.2<=r0+r1)/\z<=z'/\z'<=z+2:=by
 obtain⟨a,x1,z2,d1,⟨a0,a1⟩,k1,k2⟩:=Dg x y z r1 h1 (by omega) z0 (by omega)
 obtain⟨b,x2,z3,d2,⟨b0,b1⟩,k3,k4⟩:=Dg x1 y z2 r1 h1 (by omega) (by omega) (by omega)
 have v1:∀(e2 e3:Option D)(S:Store),eOp oIx (Ab 1) (eC (.int 0)) [some (.ref 0),some (.tup [.int r0,.int r1]),e2,e3] S=some (.int r0,S):=fun _ _ _=>rfl
 have v2:∀(e2 e3:Option D)(S:Store),eOp oIx (Ab 1) (eC (.int 1)) [some (.ref 0),some (.tup [.int r0,.int r1]),e2,e3] S=some (.int r1,S):=fun _ _ _=>rfl
 have s1:(BR 2 (eOp Aw (eOp oIx (Ab 1) (eC (.int 0))) (Ak Ai (Aa (Ab 0) (Aa (eOp oIx (Ab 1) (eC (.int 1))) Ad))))) [some (.ref 0),some (.tup [.int r0,.int r1]),none,none] [some [.int x,.int y,.int z]]=some (.nx,[some (.ref 0),some (.tup [.int r0,.int r1]),some (.int (r0+a)),none],[some [.int x1,.int y,.int z2]]):=by
  rw[Br,Bb,v1,U0a,Dh d1 rfl (v2 _ _ _)];rfl
 have s2:(BR 3 (eOp Aw (eOp oIx (Ab 1) (eC (.int 0))) (Ak Ai (Aa (Ab 0) (Aa (eOp oIx (Ab 1) (eC (.int 1))) Ad))))) [some (.ref 0),some (.tup [.int r0,.int r1]),some (.int (r0+a)),none] [some [.int x1,.int y,.int z2]]=some (.nx,[some (.ref 0),some (.tup [.int r0,.int r1]),some (.int (r0+a)),some (.int (r0+b))],[some [.int x2,.int y,.int z3]]):=by
  rw[Br,Bb,v1,U0a,Dh d2 rfl (v2 _ _ _)];rfl
 have ts:Bd (eOp (oEq false) (Ab 2) (Ab 3)) [some (.ref 0),some (.tup [.int r0,.int r1]),some (.int (r0+a)),some (.int (r0+b))] [some [.int x2,.int y,.int z3]]=some (decide (r0+a=r0+b),[some [.int x2,.int y,.int z3]]):=by
  simp[Ez,Bb,CJ,oEq,-U09,-U1r]
 obtain⟨c,s3,c0,c1,c2⟩:∃c:Int,(sIf (Bd (eOp (oEq false) (Ab 2) (Ab 3))) (BR 3 (eOp Aw (Ab 2) (eC (.int 1)))) FQ) [some (.ref 0),some (.tup [.int r0,.int r1]),some (.int (r0+a)),some (.int (r0+b))] [some [.int x2,.int y,.int z3]]=some (.nx,[some (.ref 0),some (.tup [.int r0,.int r1]),some (.int (r0+a)),some (.int c)],[some [.int x2,.int y,.int z3]])/\c≠r0+a/\r0<=c/\c<=r0+r1:=by
  by_cases h:r0+a=r0+b
  .rw[show decide (r0+a=r0+b)=true from decide_eq_true h] at ts
   exact⟨r0+a+1,by rw[El ts];rfl,by omega,by omega,by omega⟩
  .rw[show decide (r0+a=r0+b)=false from decide_eq_false h] at ts
   exact⟨r0+b,by rw[G9 ts];rfl,by omega,by omega,by omega⟩
 refine⟨(if c<r0+a then c else r0+a,if c>r0+a then c else r0+a),x2,z3,?_,?_,by omega,by omega⟩
 .unfold Dw
  rw[IW]
  simp only[U0g,U1b,U0o,U1t,U16,U17,U0t,U1c,U1y,U1z,if_true]
  unfold Oc
  rw[BX s1,BX s2,BX s3]
  simp[DQ,Ez,G4,BJ,Fp,QS,JB,J9,intsOf,den,Dl,-U09,-U1r,Ax]
 .simp only
  split<;>split<;>omega
end W27
end
section
namespace W27
open PySem L2 VS
theorem dX(x y z:Int)(z0:0<=z)(z1:z<10000000000):∃r0 r1 x' z':Int,Dp [x,y,z] []=some (.tup [.int r0,.int r1],[x',y,z'])/\(-1000000000<=r0/\0<r1/\r0+r1<=1000000000)/\z<=z'/\z'<=z+1:=by
 obtain⟨r,x1,z2,d1,⟨a0,a1⟩,k1,k2⟩:=Dg x y z 5 (by decide) (by decide) z0 (by omega)
 obtain⟨r0,r1,f1,h⟩:∃r0 r1:Int,atI [D.tup [.int 0,.int 6],.tup [.int (-3),.int 8],.tup [.int 0,.int 13],.tup [.int (-20),.int 41],.tup [.int (-1000000000),.int 2000000000]] r=some (.tup [.int r0,.int r1])/\(-1000000000<=r0/\0<r1/\r0+r1<=1000000000):=by
  have:r=0∨r=1∨r=2∨r=3∨r=4:=by omega
  rcases this with rfl|rfl|rfl|rfl|rfl
  .exact⟨0,6,rfl,by decide⟩
  .exact⟨-3,8,rfl,by decide⟩
  .exact⟨0,13,rfl,by decide⟩
  .exact⟨-20,41,rfl,by decide⟩
  .exact⟨-1000000000,2000000000,rfl,by decide⟩
 refine⟨r0,r1,x1,z2,?_,h,k1,k2⟩
 have c1:Ak Ai (Aa (Ab 0) (Aa (eC (.int 5)) Ad)) [some (.ref 0)] [some [.int x,.int y,.int z]]=some (.int r,[some [.int x1,.int y,.int z2]]):=Dh d1 rfl rfl
 have q0:Am (Aa (Ay (Aa (eC (.int 0)) (Aa (eC (.int 6)) Ad))) (Aa (Ay (Aa (eUn Cw (eC (.int 3))) (Aa (eC (.int 8)) Ad))) (Aa (Ay (Aa (eC (.int 0)) (Aa (eC (.int 13)) Ad))) (Aa (Ay (Aa (eUn Cw (eC (.int 20))) (Aa (eC (.int 41)) Ad))) (Aa (Ay (Aa (eUn Cw (eOp Cm (eC (.int 10)) (eC (.int 9)))) (Aa (eOp Hq (eC (.int 2)) (eOp Cm (eC (.int 10)) (eC (.int 9)))) Ad))) Ad))))) [some (.ref 0)] [some [.int x,.int y,.int z]]=some (.lst true [.tup [.int 0,.int 6],.tup [.int (-3),.int 8],.tup [.int 0,.int 13],.tup [.int (-20),.int 41],.tup [.int (-1000000000),.int 2000000000]],[some [.int x,.int y,.int z]]):=by simp[J8,Bb,W2,G4,BJ,Cg,QS,oI,Ms,Kl,Hq,Cm,Cw,VS.listOf,-U09,-U1r]
 unfold Dp
 rw[IW]
 simp only[U0g,U1b,U0o,U1t,U16,U17,U0t,U1c,U1y,U1z,if_true]
 unfold Qp
 rw[DQ,Bb,q0,U0a,c1,U0a]
 show((U06 _ (atI [D.tup [.int 0,.int 6],.tup [.int (-3),.int 8],.tup [.int 0,.int 13],.tup [.int (-20),.int 41],.tup [.int (-1000000000),.int 2000000000]] r)).bind _).bind _=_
 rw[f1]
 simp[intsOf,den,Dl,-U09,-U1r]
end W27
end
section
namespace W27
open PySem L2 VS
theorem Yq(ws:List Nat)(w:Nat)(xs:List PyData)(hl:xs.length<=w)(h:∀x∈xs,fit ws x=true):fit (w::ws) (.list xs)=true/\fit (w::ws) (.tuple xs)=true:=by
 have a:xs.all (fit ws)=true:=U15.mpr h
 simp[fit,hl,a]
theorem YX{S:Store}{d:D}{p:PyData}{ws:List Nat}(h:Cv S d=some p)(hf:fit ws p=true)(hw:ws.length<=50)(hb:bnd ws<=1000000):FN S [d]=some (.str p.shown):=by
 obtain⟨f1,f2,f3⟩:=aU ws p hf
 show(Cv S d).bind _=_
 rw[h,U0a]
 have:(p.showable&&decide (p.depth<=60)&&decide (p.shown.length<=1000000))=true:=by
  rw[U0m,U0m]
  exact⟨⟨f1,decide_eq_true (by omega)⟩,decide_eq_true (by omega)⟩
 rw[if_pos this]
def ZL(l:List St2):Prop:=∀p∈l,-10000000000<=p.1/\p.1<=10000000000/\-10000000000<=p.2/\p.2<=10000000000
theorem UL(k:List St2):Dj (k.map Ax)=true:=Jh _ fun p _=>Hy p
theorem QZ{env:VS.Env}{S S':Store}{o:Az}{i:Nat}{l:List D}{d:D}{a:Az}(ho:o env S=some (.ref i,S))(hi:S[i]?=some (some l))(ha:a env S=some (d,S))(hl:l.length<1000000)(hS:S.set i (some (l++[d]))=S'):Lh (Hz Fz o (Aa a Ad)) env S=some (.nx,env,S'):=by
 rw[Tq,Yg (d:=.ref i) (cs:=l) (ds:=[d]) (r:=.non) (S1:=S) (S2:=S) (S3:=S') ho (by rw[VS.listOf,hi];rfl) (by rw[BJ,ha];rfl) (by
  unfold Fz
  simp only[hi]
  rw[if_pos hl,hS])]
 rfl
theorem add_lists{a b:Az}{env:VS.Env}{S:Store}{xs ys:List D}(ha:a env S=some (.lst true xs,S))(hb:b env S=some (.lst true ys,S))(hl:xs.length+ys.length<=1000000):eOp Aw a b env S=some (.lst true (xs++ys),S):=by
 rw[Bb,ha,U0a,hb,U0a]
 show(U06 _ (if xs.length+ys.length<=1000000 then some (D.lst true (xs++ys)) else none))=_
 rw[if_pos hl];rfl
end W27
end
section
namespace W27
open PySem L2 VS
abbrev T3:=Int×Int×Int
def Aj(p:T3):D:=.tup [.int p.1,.int p.2.1,.int p.2.2]
theorem Yp(p:T3):CK (Aj p)=true:=by simp[Aj,CK,Dj]
theorem K5(k:List T3):Dj (k.map Aj)=true:=Jh _ fun p _=>Yp p
def pT3(p:T3):PyData:=.tuple [.int p.1,.int p.2.1,.int p.2.2]
theorem mj(p:T3):toP (Aj p)=some (pT3 p):=by simp[Aj,toP,Dt,pT3]
theorem iV(S:Store)(m:Bool)(k:List T3):Cv S (.lst m (k.map Aj))=some (.list (k.map pT3)):=by
 have:Dt (k.map Aj)=some (k.map pT3):=by
  induction k with
  |nil=>rfl
  |cons p r ih=>rw[U0o,Dt,mj,ih];rfl
 rw[Cv,den,FW 0 S (DX (K5 k))]
 show toP (.lst m (k.map Aj))=_
 rw[toP,this];rfl
structure Hs(hs:List T3):Prop where
 few:hs.length<=400
 all:∀t∈hs,t.1<t.2.1/\1<=t.2.2/\t.2.2<=1000000000/\-1000000000<=t.1/\t.2.1<=1000000000
theorem Yd(m:Bool)(hs:List T3):BZ [.lst m (hs.map Aj)]=true:=by rw[BZ,BK,DX (K5 hs),BZ];rfl
theorem aY(m:Bool)(hs:List T3):Bj [.lst m (hs.map Aj)]=[.lst false (hs.map Aj)]:=by rw[Bj,age,Gz (K5 hs),Bj]
def inH(t:T3)(x:Int):Bool:=decide (t.1<=x)&&decide (x<t.2.1)
def Gj(hs:List T3)(x:Int):List Int:=(hs.filter fun t=>inH t x).map fun t=>t.2.2
def hgt(hs:List T3)(x:Int):Int:=(Vh (Gj hs x)).getD 0
def Fq(a:List St2×Int)(p:St2):List St2×Int:=(if p.2≠a.2 then a.1++[p] else a.1,p.2)
theorem W5:∀(l:List St2)(a:List St2×Int),(l.foldl Fq a).1.length<=a.1.length+l.length
 |[],a=>by simp
 |p::l,a=>by
  have:=W5 l (Fq a p)
  have:(Fq a p).1.length<=a.1.length+1:=by
   unfold Fq
   dsimp only
   split
   .simp
   .omega
  rw[U3g,U0g]
  omega
theorem aB{hs:List T3}(hl:hs.length<=1000){m:Bool}{r:VS.Env}{S:Store}(h:r[0]?=some (some (.lst m (hs.map Aj))))(k:Int)(F:T3->Int)(hF:∀t,atI [D.int t.1,.int t.2.1,.int t.2.2] k=some (.int (F t))):Ea 1 [] (Ei (Ab 0)) (Pat.sem (.nm 0)) Jj (eOp oIx (Ab 0) (eC (.int k))) r S=some ((hs.map F).map .int,S):=by
 have v:Ab 0 r S=some (.lst m (hs.map Aj),S):=by rw[Ez,h];rfl
 have e:Ei (Ab 0) r S=some ((hs.map Aj,[]),S):=by rw[QM,v];rfl
 unfold Ea
 rw[e]
 simp only[U0a]
 rw[QT (by simp) Aj (fun t=>.int (F t)) hs (by omega),U09]
 .rfl
 .intro t ht
  refine⟨_,Ed _ _ _,?_⟩
  show U06 _ (atI [D.int t.1,.int t.2.1,.int t.2.2] k)=_
  rw[hF];rfl
def ends(hs:List T3):List Int:=Dr (hs.map (·.1)++hs.map (·.2.1))
theorem jo{hs:List T3}(hl:hs.length<=400){a b:Bs}{r:VS.Env}{S:Store}(ha:a r S=some ((hs.map (·.1)).map .int,S))(hb:b r S=some ((hs.map (·.2.1)).map .int,S)):Kg (eOp Aw (Am a) (Am b)) r S=some (.lst true ((ends hs).map .int),S):=by
 have q:=(SetP.HJ (hs.map (·.1)++hs.map (·.2.1))).2.1
 have hlen:(hs.map (·.1)++hs.map (·.2.1)).length<=800:=by simp;omega
 have c:eOp Aw (Am a) (Am b) r S=some (.lst true ((hs.map (·.1)++hs.map (·.2.1)).map .int),S):=by
  rw[add_lists (xs:=(hs.map (·.1)).map .int) (ys:=(hs.map (·.2.1)).map .int) (by rw[Cg,ha];rfl) (by rw[Cg,hb];rfl) (by simp;omega),←U3h]
 rw[Xb,c]
 show(intsOf ((hs.map (·.1)++hs.map (·.2.1)).map D.int)).bind _=_
 rw[O7,U0a,if_pos ⟨by omega,by omega⟩]
 rfl
theorem fL{hs:List T3}(hl:hs.length<=400):(ends hs).length<=800:=by
 have q:=(SetP.HJ (hs.map (·.1)++hs.map (·.2.1))).2.1
 unfold ends Dr
 rw[(U3j _ _).length_eq]
 simp at q
 omega
def sky(hs:List T3):List St2:=(((ends hs).map fun x=>(x,hgt hs x)).foldl Fq ([],0)).1
theorem ou{hs:List T3}(h:Hs hs){x F:Int}(h1:F=0∨F∈Gj hs x)(h2:0<=F)(h3:∀n∈Gj hs x,n<=F):F=hgt hs x:=by
 unfold hgt
 cases e:Vh (Gj hs x) with
 |none =>
  have:Gj hs x=[]:=by
   cases q:Gj hs x with
   |nil=>rfl
   |cons a r=>rw[q] at e;simp[Vh] at e
  rw[this] at h1
  simpa using h1
 |some m =>
  obtain⟨g1,g2⟩:=Yi e
  have:1<=m:=by
   obtain⟨t,ht,rfl⟩:=U2u.mp g1
   exact(h.all t (U4c.mp ht).1).2.1
  have q1:=h3 m g1
  show F=m
  rcases h1 with z|z
  .omega
  .have:=g2 F z;omega
def GP(x:Int)(hh:Int)(t:T3):Int:=if inH t x=true/\t.2.2>hh then t.2.2 else hh
theorem gH(x:Int):∀(l:List T3)(hh:Int),hh<=l.foldl (GP x) hh/\(l.foldl (GP x) hh=hh∨l.foldl (GP x) hh∈Gj l x)/\∀n∈Gj l x,n<=l.foldl (GP x) hh
 |[],hh=>⟨U3v _,.inl rfl,fun n hn=>by simp[Gj] at hn⟩
 |t::l,hh=>by
  obtain⟨a1,a2,a3⟩:=gH x l (GP x hh t)
  have s1:hh<=GP x hh t:=by unfold GP;split<;>omega
  rw[U3g]
  have tp:Gj (t::l) x=if inH t x=true then t.2.2::Gj l x else Gj l x:=by
   unfold Gj
   rw[List.filter_cons]
   split<;>rfl
  rw[tp]
  by_cases z:inH t x=true
  .rw[if_pos z]
   have s2:t.2.2<=GP x hh t:=by unfold GP;split<;>(try simp[z] at *)<;>omega
   refine⟨by omega,?_,fun n hn=>?_⟩
   .rcases a2 with w|w
    .rw[w]
     unfold GP
     split
     .exact .inr U0s
     .exact .inl rfl
    .exact .inr (U0p _ w)
   .rcases U0k.mp hn with w|w
    .rw[w];omega
    .exact a3 n w
  .rw[if_neg z]
   have s2:GP x hh t=hh:=by unfold GP;rw[if_neg (fun w=>z w.1)]
   rw[s2] at a1 a2 a3 ⊢
   exact⟨a1,a2,a3⟩
theorem fK{hs:List T3}(h:Hs hs)(x:Int):hs.foldl (GP x) 0=hgt hs x:=by
 obtain⟨a1,a2,a3⟩:=gH x hs 0
 exact ou h a2 a1 a3
theorem jV(t:T3)(x hh:Int)(e0 e1 e2:Option D)(S:Store):KY [e0,e1,e2,some (.int x),some (.int hh),some (Aj t)] S=some (.nx,[e0,e1,e2,some (.int x),some (.int (GP x hh t)),some (Aj t)],S):=by
 have t1:Bd (eOp oLe (eOp oIx (Ab 5) (eC (.int 0))) (Ab 3)) [e0,e1,e2,some (.int x),some (.int hh),some (Aj t)] S=some (decide (t.1<=x),S):=rfl
 have t2:Bd (eOp oLt (Ab 3) (eOp oIx (Ab 5) (eC (.int 1)))) [e0,e1,e2,some (.int x),some (.int hh),some (Aj t)] S=some (decide (x<t.2.1),S):=rfl
 have t3:Bd (eOp oGt (eOp oIx (Ab 5) (eC (.int 2))) (Ab 4)) [e0,e1,e2,some (.int x),some (.int hh),some (Aj t)] S=some (decide (hh<t.2.2),S):=rfl
 unfold KY GP inH
 have ts:Og (Bd (eOp oLe (eOp oIx (Ab 5) (eC (.int 0))) (Ab 3))) (Og (Bd (eOp oLt (Ab 3) (eOp oIx (Ab 5) (eC (.int 1))))) (Bd (eOp oGt (eOp oIx (Ab 5) (eC (.int 2))) (Ab 4)))) [e0,e1,e2,some (.int x),some (.int hh),some (Aj t)] S=some (decide (t.1<=x)&&decide (x<t.2.1)&&decide (hh<t.2.2),S):=by
  rw[YJ,t1]
  cases decide (t.1<=x) with
  |false=>rfl
  |true =>
   simp only[U0a,if_true,U34]
   rw[YJ,t2]
   cases decide (x<t.2.1) with
   |false=>rfl
   |true =>
    simp only[U0a,if_true,U34]
    exact t3
 by_cases g:(decide (t.1<=x)&&decide (x<t.2.1))=true/\t.2.2>hh
 .rw[if_pos g]
  rw[g.1,decide_eq_true (show hh<t.2.2 from g.2)] at ts
  rw[El ts];rfl
 .rw[if_neg g]
  have:(decide (t.1<=x)&&decide (x<t.2.1)&&decide (hh<t.2.2))=false:=by
   rw[U68]
   intro w
   rw[U0m,decide_eq_true_eq] at w
   exact g w
  rw[this] at ts
  rw[G9 ts];rfl
theorem jT{hs:List T3}(h:Hs hs)(x:Int)(e1 e2 z5:Option D)(S:Store):∃y5:Option D,Mw [some (.lst false (hs.map Aj)),e1,e2,some (.int x),some (.int 0),z5] S=some (.nx,[some (.lst false (hs.map Aj)),e1,e2,some (.int x),some (.int (hgt hs x)),y5],S):=by
 have e:Ei (Ab 0) [some (.lst false (hs.map Aj)),e1,e2,some (.int x),some (.int 0),z5] S=some ((hs.map Aj,[]),S):=rfl
 obtain⟨env',S',e3,y5,he,hS⟩:=JZ (w:=[]) (g:=Pat.sem (.nm 5)) (b:=KY) (ds:=hs.map Aj) (env:=[some (.lst false (hs.map Aj)),e1,e2,some (.int x),some (.int 0),z5]) (S:=S)
  (fun i env S'=>∃y5:Option D,env=[some (.lst false (hs.map Aj)),e1,e2,some (.int x),some (.int ((hs.take i).foldl (GP x) 0)),y5]/\S'=S)
  ⟨z5,rfl,rfl⟩ (fun i env S _=>by simp) (fun i d env S' hd q=>by
   obtain⟨y5,he,hS⟩:=q
   subst he hS
   rw[U01] at hd
   obtain⟨t,ht,rfl⟩:=U2m.mp hd
   refine⟨_,Ed _ _ _,_,_,jV t x ((hs.take i).foldl (GP x) 0) _ _ _ _,some (Aj t),?_,rfl⟩
   rw[List.take_succ,ht,Option.toList_some,U64];rfl)
 subst he hS
 have hlm:(hs.map Aj).length=hs.length:=by simp
 rw[hlm,U7c,fK h] at e3
 refine⟨y5,?_⟩
 unfold Mw
 rw[IV,e]
 exact e3
def prev(acc:List St2):Int:=(acc.getLast?.map (·.2)).getD 0
theorem ju{acc:List St2}{hh:Int}(p:St2)(h:prev acc=hh):prev (Fq (acc,hh) p).1=(Fq (acc,hh) p).2:=by
 unfold Fq
 dsimp only
 split
 .unfold prev;simp
 .rename_i z
  have:p.2=hh:=by
   by_cases w:p.2=hh
   .exact w
   .exact absurd w z
  rw[this];exact h
theorem Ur:∀(l:List St2)(a:List St2×Int),prev a.1=a.2->prev (l.foldl Fq a).1=(l.foldl Fq a).2
 |[],a,h=>h
 |p::l,a,h=>by rw[U3g];exact Ur l _ (ju p h)
theorem jU{hs:List T3}(h:Hs hs)(x:Int)(acc:List St2)(hl:acc.length<1000)(e1 z4 z5:Option D):∃y5:Option D,KR [some (.lst false (hs.map Aj)),e1,some (.ref 0),some (.int x),z4,z5] [some (acc.map Ax)]=some (.nx,[some (.lst false (hs.map Aj)),e1,some (.ref 0),some (.int x),some (.int (hgt hs x)),y5],[some ((Fq (acc,prev acc) (x,hgt hs x)).1.map Ax)]):=by
 obtain⟨y5,l1⟩:=jT h x e1 (some (.ref 0)) z5 [some (acc.map Ax)]
 have s1:(BR 4 (eC (.int 0))) [some (.lst false (hs.map Aj)),e1,some (.ref 0),some (.int x),z4,z5] [some (acc.map Ax)]=some (.nx,[some (.lst false (hs.map Aj)),e1,some (.ref 0),some (.int x),some (.int 0),z5],[some (acc.map Ax)]):=rfl
 generalize hgt hs x=hx at *
 have a1:eOp Aw (Am (Aa (Ay (Aa (eC (.int 0)) (Aa (eC (.int 0)) Ad))) Ad)) (Ab 2) [some (.lst false (hs.map Aj)),e1,some (.ref 0),some (.int x),some (.int hx),y5] [some (acc.map Ax)]=some (.lst true (Ax (0,0)::acc.map Ax),[some (acc.map Ax)]):=by
  show U06 _ (if 1+(acc.map Ax).length<=1000000 then some (D.lst true ([Ax (0,0)]++acc.map Ax)) else none)=_
  rw[if_pos (by rw[U0e];omega)];rfl
 have a2:eOp oIx (eOp Aw (Am (Aa (Ay (Aa (eC (.int 0)) (Aa (eC (.int 0)) Ad))) Ad)) (Ab 2)) (eUn Cw (eC (.int 1))) [some (.lst false (hs.map Aj)),e1,some (.ref 0),some (.int x),some (.int hx),y5] [some (acc.map Ax)]=some (Ax ((acc.getLast?).getD (0,0)),[some (acc.map Ax)]):=by
  have n1:eUn Cw (eC (.int 1)) [some (.lst false (hs.map Aj)),e1,some (.ref 0),some (.int x),some (.int hx),y5] [some (acc.map Ax)]=some (.int (-1),[some (acc.map Ax)]):=rfl
  rw[Bb,a1,U0a,n1,U0a]
  show U06 _ (atI (Ax (0,0)::acc.map Ax) (-1))=_
  rcases U4g acc with z|⟨l,q,z⟩
  .rw[z];rfl
  .rw[U4h] at z
   subst z
   rw[U3h,←U1y]
   show U06 _ (atI (Ax (0,0)::l.map Ax++[Ax q]) (-1))=_
   rw[Rf];simp
 have a3:eOp oIx (eOp oIx (eOp Aw (Am (Aa (Ay (Aa (eC (.int 0)) (Aa (eC (.int 0)) Ad))) Ad)) (Ab 2)) (eUn Cw (eC (.int 1)))) (eC (.int 1)) [some (.lst false (hs.map Aj)),e1,some (.ref 0),some (.int x),some (.int hx),y5] [some (acc.map Ax)]=some (.int (prev acc),[some (acc.map Ax)]):=by
  rw[Bb,a2]
  have:prev acc=((acc.getLast?).getD (0,0)).2:=by unfold prev;cases acc.getLast?<;>rfl
  rw[this];rfl
 have t1:Bd (eOp (oEq true) (Ab 4) (eOp oIx (eOp oIx (eOp Aw (Am (Aa (Ay (Aa (eC (.int 0)) (Aa (eC (.int 0)) Ad))) Ad)) (Ab 2)) (eUn Cw (eC (.int 1)))) (eC (.int 1)))) [some (.lst false (hs.map Aj)),e1,some (.ref 0),some (.int x),some (.int hx),y5] [some (acc.map Ax)]=some (!decide (hx=prev acc),[some (acc.map Ax)]):=by
  have v4:Ab 4 [some (.lst false (hs.map Aj)),e1,some (.ref 0),some (.int x),some (.int hx),y5] [some (acc.map Ax)]=some (.int hx,[some (acc.map Ax)]):=rfl
  rw[CJ,Bb,v4,U0a,a3,U0a]
  show some ((true ^^ decide (hx=prev acc)),_)=_
  rw[U5i]
 refine⟨y5,?_⟩
 unfold KR Fq
 rw[BX s1,BX l1]
 by_cases z:hx=prev acc
 .rw[decide_eq_true z] at t1
  rw[G9 t1,if_neg (by simp[z])]
  rfl
 .rw[decide_eq_false z] at t1
  rw[El t1,if_pos z,U3h]
  exact QZ (i:=0) (l:=acc.map Ax) (d:=Ax (x,hx)) rfl rfl rfl (by rw[U0e];omega) rfl
theorem jR{hs:List T3}(h:Hs hs):Fb [.lst false (hs.map Aj)]=some (.lst true ((sky hs).map Ax)):=by
 have few:=h.few
 have el:=fL few
 have s1:(BR 1 (Kg (eOp Aw (Am Mz) (Am Mx)))) [some (.lst false (hs.map Aj)),none,none,none,none,none] []=some (.nx,[some (.lst false (hs.map Aj)),some (.lst true ((ends hs).map .int)),none,none,none,none],[]):=by
  have q1:Mz [some (.lst false (hs.map Aj)),none,none,none,none,none] []=some ((hs.map (·.1)).map .int,[]):=aB (m:=false) (by omega) rfl 0 (·.1) fun _=>rfl
  have q2:Mx [some (.lst false (hs.map Aj)),none,none,none,none,none] []=some ((hs.map (·.2.1)).map .int,[]):=aB (m:=false) (by omega) rfl 1 (·.2.1) fun _=>rfl
  rw[Br,jo few q1 q2];rfl
 have s2:(BR 2 (Mr Ad)) [some (.lst false (hs.map Aj)),some (.lst true ((ends hs).map .int)),none,none,none,none] []=some (.nx,[some (.lst false (hs.map Aj)),some (.lst true ((ends hs).map .int)),some (.ref 0),none,none,none],[some []]):=rfl
 have e:Ei (Ab 1) [some (.lst false (hs.map Aj)),some (.lst true ((ends hs).map .int)),some (.ref 0),none,none,none] [some []]=some (((ends hs).map .int,[]),[some []]):=rfl
 obtain⟨E,hE⟩:∃E:Nat->List St2×Int,∀i,E i=(((ends hs).take i).map fun x=>(x,hgt hs x)).foldl Fq ([],0):=⟨_,fun _=>rfl⟩
 obtain⟨env',S',e2,z3,z4,z5,he,hS⟩:=JZ (w:=[]) (g:=Pat.sem (.nm 3)) (b:=KR) (ds:=(ends hs).map .int) (env:=[some (.lst false (hs.map Aj)),some (.lst true ((ends hs).map .int)),some (.ref 0),none,none,none]) (S:=[some []])
  (fun i env S=>∃z3 z4 z5:Option D,env=[some (.lst false (hs.map Aj)),some (.lst true ((ends hs).map .int)),some (.ref 0),z3,z4,z5]/\S=[some ((E i).1.map Ax)])
  ⟨none,none,none,rfl,by rw[hE];rfl⟩ (fun i env S _=>by simp) (fun i d env S hd q=>by
   obtain⟨z3,z4,z5,he,hS⟩:=q
   subst he hS
   rw[U01] at hd
   obtain⟨x,hx,rfl⟩:=U2m.mp hd
   have fewE:=W5 (((ends hs).take i).map fun x=>(x,hgt hs x)) ([],0)
   rw[←hE,U0e,U1l] at fewE
   have pv:prev (E i).1=(E i).2:=by rw[hE];exact Ur _ _ rfl
   obtain⟨y5,b2⟩:=jU h x (E i).1 (by simp at fewE;omega) (some (.lst true ((ends hs).map .int))) z4 z5
   refine⟨_,Ed _ _ _,_,_,b2,_,_,_,rfl,?_⟩
   rw[pv,hE (i+1),List.take_succ,hx,Option.toList_some,U3h,U64,←hE]
   rfl)
 subst he hS
 have hlm:((ends hs).map D.int).length=(ends hs).length:=by simp
 have hsk:(E ((ends hs).map D.int).length).1=sky hs:=by rw[hlm,hE,U7c];rfl
 rw[hsk] at e2
 have l2:Mv [some (.lst false (hs.map Aj)),some (.lst true ((ends hs).map .int)),some (.ref 0),none,none,none] [some []]=some (.nx,[some (.lst false (hs.map Aj)),some (.lst true ((ends hs).map .int)),some (.ref 0),z3,z4,z5],[some ((sky hs).map Ax)]):=by
  unfold Mv
  rw[IV,e]
  exact e2
 unfold Fb
 rw[Ew]
 simp only[U0g,U1b,U0o,U1t,U16,U17,U0t,U1c,U1y,U1z,if_true]
 unfold Sh
 rw[BX s1,BX s2,BX l2]
 generalize sky hs=k
 show den 0 [some (k.map Ax)] (.ref 0)=_
 rw[den,if_neg (by omega)]
 show(if BZ (k.map Ax)=true then _ else _)=_
 rw[if_pos (DX (UL k))]
theorem bV(hs:List T3):(ends hs).Pairwise (·<·):=O4 _
theorem RX{hs:List T3}{x:Int}:x∈ends hs↔∃t∈hs,x=t.1∨x=t.2.1:=by
 unfold ends Dr
 rw[(U3j _ _).mem_iff,(SetP.HJ _).2.2,U1h,U2u,U2u]
 constructor
 .rintro(⟨t,ht,rfl⟩|⟨t,ht,rfl⟩)
  .exact⟨t,ht,.inl rfl⟩
  .exact⟨t,ht,.inr rfl⟩
 .rintro⟨t,ht,rfl|rfl⟩
  .exact .inl ⟨t,ht,rfl⟩
  .exact .inr ⟨t,ht,rfl⟩
theorem fJ{hs:List T3}{x y:Int}(hxy:x<=y)(h:∀e∈ends hs,¬(x<e/\e<=y)):hgt hs y=hgt hs x:=by
 unfold hgt Gj
 have:(hs.filter fun t=>inH t y)=hs.filter fun t=>inH t x:=List.filter_congr fun t ht=>by
  have h1:=h t.1 (RX.mpr ⟨t,ht,.inl rfl⟩)
  have h2:=h t.2.1 (RX.mpr ⟨t,ht,.inr rfl⟩)
  unfold inH
  rw[U3f,U0m,U0m,decide_eq_true_eq,decide_eq_true_eq,decide_eq_true_eq,decide_eq_true_eq]
  omega
 rw[this]
theorem Yn{hs:List T3}{x:Int}(h:∀t∈hs,¬(t.1<=x/\x<t.2.1)):hgt hs x=0:=by
 unfold hgt Gj
 have:(hs.filter fun t=>inH t x)=[]:=U42.mpr fun t ht w=>by
  unfold inH at w
  rw[U0m,decide_eq_true_eq,decide_eq_true_eq] at w
  exact h t ht w
 rw[this];rfl
def Link(f:Int->Int):Int->List Int->Prop
 |_,[]=>True
 |hh,x::E=>f (x-1)=hh/\Link f (f x) E
theorem Uv(f:Int->Int):∀(E:List Int)(acc:List St2)(hh:Int),Link f hh E->((E.map fun x=>(x,f x)).foldl Fq (acc,hh)).1=acc++(E.filter fun x=>decide (f x≠f (x-1))).map fun x=>(x,f x)
 |[],acc,hh,_=>by simp
 |x::E,acc,hh,h=>by
  obtain⟨h1,h2⟩:=h
  subst h1
  rw[U0o,U3g]
  show((E.map fun x=>(x,f x)).foldl Fq (if f x≠f (x-1) then acc++[(x,f x)] else acc,f x)).1=_
  rw[Uv f E _ _ h2,List.filter_cons]
  by_cases z:f x=f (x-1)
  .rw[if_neg (by simp[z]),if_neg (by simp[z])]
  .rw[if_pos z,if_pos (by simp[z]),U0o,U0x];rfl
theorem jk{hs:List T3}(h:Hs hs)(x:Int):0<=hgt hs x/\hgt hs x<=1000000000:=by
 unfold hgt
 cases e:Vh (Gj hs x) with
 |none=>exact⟨by decide,by decide⟩
 |some m =>
  obtain⟨t,ht,rfl⟩:=U2u.mp (Yi e).1
  have:=h.all t (U4c.mp ht).1
  show 0<=t.2.2/\t.2.2<=1000000000
  omega
end W27
end
section
namespace W27
open PySem L2 VS
def InT(r0 r1:Int)(k:Nat)(t:T3):Prop:=r0<=t.1/\t.1<t.2.1/\t.2.1<=r0+r1+5*k/\t.2.1<=1000000000/\1<=t.2.2/\t.2.2<=1000000000
theorem p9(env:VS.Env)(S:Store):eOp Cm (eC (.int 10)) (eC (.int 9)) env S=some (.int 1000000000,S):=by simp[J8,Bb,oI,Kl,Cm,-U09,-U1r]
theorem oH(m:Bool)(hs:List T3)(S:Store):oEq false S (.lst m (hs.map Aj)) (.lst true [])=some (.bl hs.isEmpty):=by
 have lv:lev 2 (.list (hs.map pT3))=true:=by
  show(hs.map pT3).all (lev 1)=true
  rw[U15]
  intro x hx
  obtain⟨t,_,rfl⟩:=U2u.mp hx
  simp[pT3,lev]
 have:=jm (neg:=false) (m:=true) 2 (iV S m hs) lv (by decide)
 rw[List.isEmpty_map,U5] at this
 exact this
theorem qI{a b c i:Int}(h0:0<=i)(h1:i<3)(ha:0<=a/\a<3)(hb:0<=b/\b<9)(hc:0<=c/\c<1000000000):∃v:Int,atI [D.int a,.int b,.int c] i=some (.int v)/\0<=v/\v<1000000000:=by
 have:i=0∨i=1∨i=2:=by omega
 rcases this with rfl|rfl|rfl
 .exact⟨a,rfl,by omega,by omega⟩
 .exact⟨b,rfl,by omega,by omega⟩
 .exact⟨c,rfl,by omega,by omega⟩
theorem Y0(x y z r0 r1:Int)(k:Nat)(q0:-1000000000<=r0)(q1:0<r1)(q2:r0+r1<=1000000000)(hs:List T3)(hl:hs.length<=1000)(hb:∀t∈hs,InT r0 r1 k t)(z0:0<=z)(z1:z<100000000):∃(t:T3)(x' z':Int),
  Es [x,y,z] [.tup [.int r0,.int r1],.lst false (hs.map Aj)]=some (Aj t,[x',y,z'])/\InT r0 r1 (k+1) t/\z<=z'/\z'<=z+12:=by
 obtain⟨p,x1,z2,d1,⟨p0,p1,p2⟩,k1,k2⟩:=ZR x y z r0 r1 q1 (by omega) z0 (by omega)
 obtain⟨a,x2,z3,d2,a0,k3,k4⟩:=Dg x1 y z2 3 (by decide) (by decide) (by omega) (by omega)
 obtain⟨b,x3,z4,d3,b0,k5,k6⟩:=Dg x2 y z3 9 (by decide) (by decide) (by omega) (by omega)
 obtain⟨c,x4,z5,d4,c0,k7,k8⟩:=Dg x3 y z4 1000000000 (by decide) (by decide) (by omega) (by omega)
 obtain⟨i,x5,z6,d5,i0,k9,k10⟩:=Dg x4 y z5 3 (by decide) (by decide) (by omega) (by omega)
 obtain⟨kd,x6,z7,d6,⟨kd0,kd1⟩,k11,k12⟩:=Dg x5 y z6 8 (by decide) (by decide) (by omega) (by omega)
 obtain⟨v,hv,v0,v1⟩:=qI i0.1 i0.2 a0 b0 c0
 have s1:(Z0 (Ak Dw (Aa (Ab 0) (Aa (Ab 1) Ad))) (Pat.sem (.tp [(.nm 3),(.nm 4)]))) [some (.ref 0),some (.tup [.int r0,.int r1]),some (.lst false (hs.map Aj)),none,none,none,none,none,none,none,none] [some [.int x,.int y,.int z]]=some (.nx,[some (.ref 0),some (.tup [.int r0,.int r1]),some (.lst false (hs.map Aj)),some (.int p.1),some (.int p.2),none,none,none,none,none,none],[some [.int x1,.int y,.int z2]]):=by
  have c1:Ak Dw (Aa (Ab 0) (Aa (Ab 1) Ad)) [some (.ref 0),some (.tup [.int r0,.int r1]),some (.lst false (hs.map Aj)),none,none,none,none,none,none,none,none] [some [.int x,.int y,.int z]]=some (Ax p,[some [.int x1,.int y,.int z2]]) :=
   Gg (ns:=[x,y,z]) (rest:=[.tup [.int r0,.int r1]]) (es:=[.tup [.int r0,.int r1]]) (i:=0) (S':=[some [.int x,.int y,.int z]]) rfl rfl (by simp[BZ,BK]) (by simp[Bj,age]) d1
  rw[iW,c1]
  simp[Ed,Vr,RL,Pj,-U09,-U1r,Ax]
 have s2:(BR 5 (eOp Aw (eC (.int 1)) (eOp oIx (Am (Aa (Ak Ai (Aa (Ab 0) (Aa (eC (.int 3)) Ad))) (Aa (Ak Ai (Aa (Ab 0) (Aa (eC (.int 9)) Ad))) (Aa (Ak Ai (Aa (Ab 0) (Aa (eOp Cm (eC (.int 10)) (eC (.int 9))) Ad))) Ad)))) (Ak Ai (Aa (Ab 0) (Aa (eC (.int 3)) Ad)))))) [some (.ref 0),some (.tup [.int r0,.int r1]),some (.lst false (hs.map Aj)),some (.int p.1),some (.int p.2),none,none,none,none,none,none] [some [.int x1,.int y,.int z2]]=some (.nx,[some (.ref 0),some (.tup [.int r0,.int r1]),some (.lst false (hs.map Aj)),some (.int p.1),some (.int p.2),some (.int (1+v)),none,none,none,none,none],[some [.int x5,.int y,.int z6]]):=by
  have o1:(Ak Ai (Aa (Ab 0) (Aa (eC (.int 3)) Ad))) [some (.ref 0),some (.tup [.int r0,.int r1]),some (.lst false (hs.map Aj)),some (.int p.1),some (.int p.2),none,none,none,none,none,none] [some [.int x1,.int y,.int z2]]=some (.int a,[some [.int x2,.int y,.int z3]]):=Dh d2 rfl rfl
  have o2:(Ak Ai (Aa (Ab 0) (Aa (eC (.int 9)) Ad))) [some (.ref 0),some (.tup [.int r0,.int r1]),some (.lst false (hs.map Aj)),some (.int p.1),some (.int p.2),none,none,none,none,none,none] [some [.int x2,.int y,.int z3]]=some (.int b,[some [.int x3,.int y,.int z4]]):=Dh d3 rfl rfl
  have o3:Ak Ai (Aa (Ab 0) (Aa (eOp Cm (eC (.int 10)) (eC (.int 9))) Ad)) [some (.ref 0),some (.tup [.int r0,.int r1]),some (.lst false (hs.map Aj)),some (.int p.1),some (.int p.2),none,none,none,none,none,none] [some [.int x3,.int y,.int z4]]=some (.int c,[some [.int x4,.int y,.int z5]]):=Dh d4 rfl (p9 _ _)
  have o4:(Ak Ai (Aa (Ab 0) (Aa (eC (.int 3)) Ad))) [some (.ref 0),some (.tup [.int r0,.int r1]),some (.lst false (hs.map Aj)),some (.int p.1),some (.int p.2),none,none,none,none,none,none] [some [.int x4,.int y,.int z5]]=some (.int i,[some [.int x5,.int y,.int z6]]):=Dh d5 rfl rfl
  have o5:Am (Aa (Ak Ai (Aa (Ab 0) (Aa (eC (.int 3)) Ad))) (Aa (Ak Ai (Aa (Ab 0) (Aa (eC (.int 9)) Ad))) (Aa (Ak Ai (Aa (Ab 0) (Aa (eOp Cm (eC (.int 10)) (eC (.int 9))) Ad))) Ad))) [some (.ref 0),some (.tup [.int r0,.int r1]),some (.lst false (hs.map Aj)),some (.int p.1),some (.int p.2),none,none,none,none,none,none] [some [.int x1,.int y,.int z2]]=some (.lst true [.int a,.int b,.int c],[some [.int x4,.int y,.int z5]]):=by
   rw[Cg,BJ,o1,U0a,BJ,o2,U0a,BJ,o3];rfl
  have o6:eOp oIx (Am (Aa (Ak Ai (Aa (Ab 0) (Aa (eC (.int 3)) Ad))) (Aa (Ak Ai (Aa (Ab 0) (Aa (eC (.int 9)) Ad))) (Aa (Ak Ai (Aa (Ab 0) (Aa (eOp Cm (eC (.int 10)) (eC (.int 9))) Ad))) Ad)))) (Ak Ai (Aa (Ab 0) (Aa (eC (.int 3)) Ad))) [some (.ref 0),some (.tup [.int r0,.int r1]),some (.lst false (hs.map Aj)),some (.int p.1),some (.int p.2),none,none,none,none,none,none] [some [.int x1,.int y,.int z2]]=some (.int v,[some [.int x5,.int y,.int z6]]):=by
   rw[Bb,o5,U0a,o4,U0a]
   show U06 _ (atI [D.int a,.int b,.int c] i)=_
   rw[hv];rfl
  rw[Br,Bb,J8,U0a,o6];rfl
 have s3:(BR 6 (Ak Ai (Aa (Ab 0) (Aa (eC (.int 8)) Ad)))) [some (.ref 0),some (.tup [.int r0,.int r1]),some (.lst false (hs.map Aj)),some (.int p.1),some (.int p.2),some (.int (1+v)),none,none,none,none,none] [some [.int x5,.int y,.int z6]]=some (.nx,[some (.ref 0),some (.tup [.int r0,.int r1]),some (.lst false (hs.map Aj)),some (.int p.1),some (.int p.2),some (.int (1+v)),some (.int kd),none,none,none,none],[some [.int x6,.int y,.int z7]]):=by
  have o1:(Ak Ai (Aa (Ab 0) (Aa (eC (.int 8)) Ad))) [some (.ref 0),some (.tup [.int r0,.int r1]),some (.lst false (hs.map Aj)),some (.int p.1),some (.int p.2),some (.int (1+v)),none,none,none,none,none] [some [.int x5,.int y,.int z6]]=some (.int kd,[some [.int x6,.int y,.int z7]]):=Dh d6 rfl rfl
  rw[Br,o1];rfl
 have t1:Bd (eOp (oEq false) (Ab 2) (Am Ad)) [some (.ref 0),some (.tup [.int r0,.int r1]),some (.lst false (hs.map Aj)),some (.int p.1),some (.int p.2),some (.int (1+v)),some (.int kd),none,none,none,none] [some [.int x6,.int y,.int z7]]=some (hs.isEmpty,[some [.int x6,.int y,.int z7]]):=by
  have f0:Am Ad [some (.ref 0),some (.tup [.int r0,.int r1]),some (.lst false (hs.map Aj)),some (.int p.1),some (.int p.2),some (.int (1+v)),some (.int kd),none,none,none,none] [some [.int x6,.int y,.int z7]]=some (.lst true [],[some [.int x6,.int y,.int z7]]):=rfl
  have v2:Ab 2 [some (.ref 0),some (.tup [.int r0,.int r1]),some (.lst false (hs.map Aj)),some (.int p.1),some (.int p.2),some (.int (1+v)),some (.int kd),none,none,none,none] [some [.int x6,.int y,.int z7]]=some (.lst false (hs.map Aj),[some [.int x6,.int y,.int z7]]):=rfl
  rw[CJ,Bb,v2,U0a,f0,U0a]
  simp only[oH]
  cases hs.isEmpty<;>rfl
 have t2:Bd (eOp oGt (Ab 6) (eC (.int 4))) [some (.ref 0),some (.tup [.int r0,.int r1]),some (.lst false (hs.map Aj)),some (.int p.1),some (.int p.2),some (.int (1+v)),some (.int kd),none,none,none,none] [some [.int x6,.int y,.int z7]]=some (decide (4<kd),[some [.int x6,.int y,.int z7]]):=rfl
 have ts:(VS.tOr (Bd (eOp (oEq false) (Ab 2) (Am Ad))) (Bd (eOp oGt (Ab 6) (eC (.int 4))))) [some (.ref 0),some (.tup [.int r0,.int r1]),some (.lst false (hs.map Aj)),some (.int p.1),some (.int p.2),some (.int (1+v)),some (.int kd),none,none,none,none] [some [.int x6,.int y,.int z7]]=some (hs.isEmpty||decide (4<kd),[some [.int x6,.int y,.int z7]]):=by
  rw[GQ,t1]
  cases hs.isEmpty with
  |true=>rfl
  |false =>
   simp only[U0a,U0w,if_false,Bool.false_or]
   exact t2
 unfold Es
 rw[IW]
 simp only[U0g,U1b,U0o,U1t,U16,U17,U0t,U1c,U1y,U1z,if_true]
 unfold Qs
 rw[BX s1,BX s2,BX s3]
 by_cases g:(hs.isEmpty||decide (4<kd))=true
 .rw[g] at ts
  rw[IK,El ts]
  refine⟨(p.1,p.2,1+v),x6,z7,?_,⟨p0,p1,by show p.2<=r0+r1+5*((k+1:Nat):Int);omega,by show p.2<=1000000000;omega,by show 1<=1+v;omega,by show 1+v<=1000000000;omega⟩,by omega,by omega⟩
  simp[IK,Br,DQ,N7,Tq,NZ,Ez,J8,Bb,G4,BJ,Fp,CJ,jq,QS,Pq,Ww,oI,JM,Kl,Aw,Jk,Cm,oGe,oIx,Ej,J9,VS.listOf,Fv,Fz,intsOf,den,Dl,-U09,-U1r,Aj]
 .rw[U68.mpr g] at ts
  have s0:(sIf (VS.tOr (Bd (eOp (oEq false) (Ab 2) (Am Ad))) (Bd (eOp oGt (Ab 6) (eC (.int 4))))) (DK (Ay (Aa (Ab 3) (Aa (Ab 4) (Aa (Ab 5) Ad))))) FQ) [some (.ref 0),some (.tup [.int r0,.int r1]),some (.lst false (hs.map Aj)),some (.int p.1),some (.int p.2),some (.int (1+v)),some (.int kd),none,none,none,none] [some [.int x6,.int y,.int z7]]=some (.nx,[some (.ref 0),some (.tup [.int r0,.int r1]),some (.lst false (hs.map Aj)),some (.int p.1),some (.int p.2),some (.int (1+v)),some (.int kd),none,none,none,none],[some [.int x6,.int y,.int z7]]):=by rw[G9 ts];rfl
  have hne:¬hs.isEmpty=true:=fun w=>g (by rw[w];rfl)
  have hkd:kd<=4:=by
   by_cases w:4<kd
   .exact absurd (by rw[decide_eq_true w,Bool.or_true]) g
   .omega
  have hlp:0<hs.length:=by
   cases hs with
   |nil=>exact absurd rfl hne
   |cons _ _=>simp
  obtain⟨j,x7,z8,d7,⟨j0,j1⟩,k13,k14⟩:=Dg x6 y z7 hs.length (by omega) (by omega) (by omega) (by omega)
  obtain⟨jn,rfl⟩:∃jn:Nat,j=jn:=⟨j.toNat,by omega⟩
  have hjn:jn<hs.length:=by omega
  obtain⟨t,ht⟩:∃t,t=hs[jn]:=⟨_,rfl⟩
  obtain⟨w1,w2,w3,w4,w5,w6⟩:=hb t (by rw[ht];exact U37 hjn)
  obtain⟨e,x8,z9,d8,e0,k15,k16⟩:=Dg x7 y z8 4 (by decide) (by decide) (by omega) (by omega)
  obtain⟨f,x9,z10,d9,f0,k17,k18⟩:=Dg x8 y z9 (t.2.1-t.1) (by omega) (by omega) (by omega) (by omega)
  obtain⟨bs,hbs⟩:∃bs:Int,bs=min 1000000000 (t.2.1+1+e):=⟨_,rfl⟩
  have s4:(BR 7 (eOp oIx (Ab 2) (Ak Ai (Aa (Ab 0) (Aa (eCB Ej (Aa (Ab 2) Ad)) Ad))))) [some (.ref 0),some (.tup [.int r0,.int r1]),some (.lst false (hs.map Aj)),some (.int p.1),some (.int p.2),some (.int (1+v)),some (.int kd),none,none,none,none] [some [.int x6,.int y,.int z7]]=some (.nx,[some (.ref 0),some (.tup [.int r0,.int r1]),some (.lst false (hs.map Aj)),some (.int p.1),some (.int p.2),some (.int (1+v)),some (.int kd),some (Aj t),none,none,none],[some [.int x7,.int y,.int z8]]):=by
   have o1:Ak Ai (Aa (Ab 0) (Aa (eCB Ej (Aa (Ab 2) Ad)) Ad)) [some (.ref 0),some (.tup [.int r0,.int r1]),some (.lst false (hs.map Aj)),some (.int p.1),some (.int p.2),some (.int (1+v)),some (.int kd),none,none,none,none] [some [.int x6,.int y,.int z7]]=some (.int jn,[some [.int x7,.int y,.int z8]]):=Dh d7 rfl (by
    show(some (D.int ((hs.map Aj).length:Nat),_):Option (D×Store))=_
    rw[U0e])
   have v2:Ab 2 [some (.ref 0),some (.tup [.int r0,.int r1]),some (.lst false (hs.map Aj)),some (.int p.1),some (.int p.2),some (.int (1+v)),some (.int kd),none,none,none,none] [some [.int x6,.int y,.int z7]]=some (.lst false (hs.map Aj),[some [.int x6,.int y,.int z7]]):=rfl
   rw[Br,Bb,v2,U0a,o1,U0a]
   show(U06 _ (atI (hs.map Aj) (jn:Int))).bind _=_
   rw[Le (v:=Aj t) (by rw[U01,U02 hjn,ht];rfl)]
   rfl
  have s5:(BR 8 (eCB J9 (Aa (eOp Cm (eC (.int 10)) (eC (.int 9))) (Aa (eOp Aw (eOp Aw (eOp oIx (Ab 7) (eC (.int 1))) (eC (.int 1))) (Ak Ai (Aa (Ab 0) (Aa (eC (.int 4)) Ad)))) Ad)))) [some (.ref 0),some (.tup [.int r0,.int r1]),some (.lst false (hs.map Aj)),some (.int p.1),some (.int p.2),some (.int (1+v)),some (.int kd),some (Aj t),none,none,none] [some [.int x7,.int y,.int z8]]=some (.nx,[some (.ref 0),some (.tup [.int r0,.int r1]),some (.lst false (hs.map Aj)),some (.int p.1),some (.int p.2),some (.int (1+v)),some (.int kd),some (Aj t),some (.int bs),none,none],[some [.int x8,.int y,.int z9]]):=by
   have o1:(Ak Ai (Aa (Ab 0) (Aa (eC (.int 4)) Ad))) [some (.ref 0),some (.tup [.int r0,.int r1]),some (.lst false (hs.map Aj)),some (.int p.1),some (.int p.2),some (.int (1+v)),some (.int kd),some (Aj t),none,none,none] [some [.int x7,.int y,.int z8]]=some (.int e,[some [.int x8,.int y,.int z9]]):=Dh d8 rfl rfl
   have o0:eOp Aw (eOp oIx (Ab 7) (eC (.int 1))) (eC (.int 1)) [some (.ref 0),some (.tup [.int r0,.int r1]),some (.lst false (hs.map Aj)),some (.int p.1),some (.int p.2),some (.int (1+v)),some (.int kd),some (Aj t),none,none,none] [some [.int x7,.int y,.int z8]]=some (.int (t.2.1+1),[some [.int x7,.int y,.int z8]]):=rfl
   have o2:eOp Aw (eOp Aw (eOp oIx (Ab 7) (eC (.int 1))) (eC (.int 1))) (Ak Ai (Aa (Ab 0) (Aa (eC (.int 4)) Ad))) [some (.ref 0),some (.tup [.int r0,.int r1]),some (.lst false (hs.map Aj)),some (.int p.1),some (.int p.2),some (.int (1+v)),some (.int kd),some (Aj t),none,none,none] [some [.int x7,.int y,.int z8]]=some (.int (t.2.1+1+e),[some [.int x8,.int y,.int z9]]):=by
    rw[Bb,o0,U0a,o1];rfl
   rw[Br,Fp,BJ,p9,U0a,BJ,o2]
   simp only[U0a,G4]
   rw[hbs]
   simp[J9,-U09,-U1r]
   omega
  have s6:(BR 9 (eOp Aw (eOp Aw (eOp oIx (Ab 7) (eC (.int 0))) (eC (.int 1))) (Ak Ai (Aa (Ab 0) (Aa (eOp Jk (eOp oIx (Ab 7) (eC (.int 1))) (eOp oIx (Ab 7) (eC (.int 0)))) Ad))))) [some (.ref 0),some (.tup [.int r0,.int r1]),some (.lst false (hs.map Aj)),some (.int p.1),some (.int p.2),some (.int (1+v)),some (.int kd),some (Aj t),some (.int bs),none,none] [some [.int x8,.int y,.int z9]]=some (.nx,[some (.ref 0),some (.tup [.int r0,.int r1]),some (.lst false (hs.map Aj)),some (.int p.1),some (.int p.2),some (.int (1+v)),some (.int kd),some (Aj t),some (.int bs),some (.int (t.1+1+f)),none],[some [.int x9,.int y,.int z10]]):=by
   have o1:Ak Ai (Aa (Ab 0) (Aa (eOp Jk (eOp oIx (Ab 7) (eC (.int 1))) (eOp oIx (Ab 7) (eC (.int 0)))) Ad)) [some (.ref 0),some (.tup [.int r0,.int r1]),some (.lst false (hs.map Aj)),some (.int p.1),some (.int p.2),some (.int (1+v)),some (.int kd),some (Aj t),some (.int bs),none,none] [some [.int x8,.int y,.int z9]]=some (.int f,[some [.int x9,.int y,.int z10]]):=Dh d9 rfl rfl
   have o0:eOp Aw (eOp oIx (Ab 7) (eC (.int 0))) (eC (.int 1)) [some (.ref 0),some (.tup [.int r0,.int r1]),some (.lst false (hs.map Aj)),some (.int p.1),some (.int p.2),some (.int (1+v)),some (.int kd),some (Aj t),some (.int bs),none,none] [some [.int x8,.int y,.int z9]]=some (.int (t.1+1),[some [.int x8,.int y,.int z9]]):=rfl
   rw[Br,Bb,o0,U0a,o1];rfl
  have s7:(BR 10 (Mr (Aa (Ab 7) (Aa (Ay (Aa (eOp oIx (Ab 7) (eC (.int 0))) (Aa (eOp oIx (Ab 7) (eC (.int 1))) (Aa (Ab 5) Ad)))) (Aa (Ay (Aa (Ab 3) (Aa (Ab 4) (Aa (eOp oIx (Ab 7) (eC (.int 2))) Ad)))) (Aa (Ay (Aa (eOp oIx (Ab 7) (eC (.int 1))) (Aa (Ab 8) (Aa (Ab 5) Ad)))) Ad)))))) [some (.ref 0),some (.tup [.int r0,.int r1]),some (.lst false (hs.map Aj)),some (.int p.1),some (.int p.2),some (.int (1+v)),some (.int kd),some (Aj t),some (.int bs),some (.int (t.1+1+f)),none] [some [.int x9,.int y,.int z10]]=some (.nx,[some (.ref 0),some (.tup [.int r0,.int r1]),some (.lst false (hs.map Aj)),some (.int p.1),some (.int p.2),some (.int (1+v)),some (.int kd),some (Aj t),some (.int bs),some (.int (t.1+1+f)),some (.ref 1)],[some [.int x9,.int y,.int z10],some ([t,(t.1,t.2.1,1+v),(p.1,p.2,t.2.2),(t.2.1,bs,1+v)].map Aj)]):=rfl
  have s8:(Lh (Hz Fz (Ab 10) (Aa (Ay (Aa (eOp oIx (Ab 7) (eC (.int 0))) (Aa (Ab 9) (Aa (Ab 5) Ad)))) Ad))) [some (.ref 0),some (.tup [.int r0,.int r1]),some (.lst false (hs.map Aj)),some (.int p.1),some (.int p.2),some (.int (1+v)),some (.int kd),some (Aj t),some (.int bs),some (.int (t.1+1+f)),some (.ref 1)] [some [.int x9,.int y,.int z10],some ([t,(t.1,t.2.1,1+v),(p.1,p.2,t.2.2),(t.2.1,bs,1+v)].map Aj)]=some (.nx,[some (.ref 0),some (.tup [.int r0,.int r1]),some (.lst false (hs.map Aj)),some (.int p.1),some (.int p.2),some (.int (1+v)),some (.int kd),some (Aj t),some (.int bs),some (.int (t.1+1+f)),some (.ref 1)],[some [.int x9,.int y,.int z10],some ([t,(t.1,t.2.1,1+v),(p.1,p.2,t.2.2),(t.2.1,bs,1+v),(t.1,t.1+1+f,1+v)].map Aj)]):=QZ (i:=1) (d:=Aj (t.1,t.1+1+f,1+v)) rfl rfl rfl (by simp) rfl
  obtain⟨u,hu,hu2⟩:∃u:T3,atI ([t,(t.1,t.2.1,1+v),(p.1,p.2,t.2.2),(t.2.1,bs,1+v),(t.1,t.1+1+f,1+v)].map Aj) kd=some (Aj u)/\(u.1<u.2.1->InT r0 r1 (k+1) u):=by
   have:kd=0∨kd=1∨kd=2∨kd=3∨kd=4:=by omega
   rcases this with rfl|rfl|rfl|rfl|rfl
   .exact⟨t,rfl,fun _=>⟨w1,w2,by omega,w4,w5,w6⟩⟩
   .exact⟨(t.1,t.2.1,1+v),rfl,fun _=>⟨w1,w2,by show t.2.1<=_;omega,w4,by show 1<=1+v;omega,by show 1+v<=_;omega⟩⟩
   .exact⟨(p.1,p.2,t.2.2),rfl,fun _=>⟨p0,p1,by show p.2<=_;omega,by show p.2<=_;omega,w5,w6⟩⟩
   .exact⟨(t.2.1,bs,1+v),rfl,fun q=>⟨by show r0<=t.2.1;omega,q,by show bs<=_;omega,by show bs<=_;omega,by show 1<=1+v;omega,by show 1+v<=_;omega⟩⟩
   .exact⟨(t.1,t.1+1+f,1+v),rfl,fun q=>⟨w1,q,by show t.1+1+f<=_;omega,by show t.1+1+f<=_;omega,by show 1<=1+v;omega,by show 1+v<=_;omega⟩⟩
  obtain⟨us,hus⟩:∃us:List T3,us=[t,(t.1,t.2.1,1+v),(p.1,p.2,t.2.2),(t.2.1,bs,1+v),(t.1,t.1+1+f,1+v)]:=⟨_,rfl⟩
  rw[←hus] at s8 hu
  have at1:eOp oIx (Ab 10) (Ab 6) [some (.ref 0),some (.tup [.int r0,.int r1]),some (.lst false (hs.map Aj)),some (.int p.1),some (.int p.2),some (.int (1+v)),some (.int kd),some (Aj t),some (.int bs),some (.int (t.1+1+f)),some (.ref 1)] [some [.int x9,.int y,.int z10],some (us.map Aj)]=some (Aj u,[some [.int x9,.int y,.int z10],some (us.map Aj)]):=by
   show U06 _ (atI (us.map Aj) kd)=_
   rw[hu];rfl
  have t3:Bd (eOp oGe (eOp oIx (eOp oIx (Ab 10) (Ab 6)) (eC (.int 0))) (eOp oIx (eOp oIx (Ab 10) (Ab 6)) (eC (.int 1)))) [some (.ref 0),some (.tup [.int r0,.int r1]),some (.lst false (hs.map Aj)),some (.int p.1),some (.int p.2),some (.int (1+v)),some (.int kd),some (Aj t),some (.int bs),some (.int (t.1+1+f)),some (.ref 1)] [some [.int x9,.int y,.int z10],some (us.map Aj)]=some (decide (u.2.1<=u.1),[some [.int x9,.int y,.int z10],some (us.map Aj)]):=by
   have b1:eOp oIx (eOp oIx (Ab 10) (Ab 6)) (eC (.int 0)) [some (.ref 0),some (.tup [.int r0,.int r1]),some (.lst false (hs.map Aj)),some (.int p.1),some (.int p.2),some (.int (1+v)),some (.int kd),some (Aj t),some (.int bs),some (.int (t.1+1+f)),some (.ref 1)] [some [.int x9,.int y,.int z10],some (us.map Aj)]=some (.int u.1,[some [.int x9,.int y,.int z10],some (us.map Aj)]):=by rw[Bb,at1];rfl
   have b2:eOp oIx (eOp oIx (Ab 10) (Ab 6)) (eC (.int 1)) [some (.ref 0),some (.tup [.int r0,.int r1]),some (.lst false (hs.map Aj)),some (.int p.1),some (.int p.2),some (.int (1+v)),some (.int kd),some (Aj t),some (.int bs),some (.int (t.1+1+f)),some (.ref 1)] [some [.int x9,.int y,.int z10],some (us.map Aj)]=some (.int u.2.1,[some [.int x9,.int y,.int z10],some (us.map Aj)]):=by rw[Bb,at1];rfl
   rw[CJ,Bb,b1,U0a,b2];rfl
  rw[BX s0,BX s4,BX s5,BX s6,BX s7,BX s8,IK]
  by_cases q:u.2.1<=u.1
  .rw[decide_eq_true q] at t3
   rw[El t3]
   refine⟨t,x9,z10,?_,⟨w1,w2,by omega,w4,w5,w6⟩,by omega,by omega⟩
   simp[DQ,Ez,Bb,oIx,VS.listOf,Fv,intsOf,den,Dl,-U09,-U1r,Aj]
  .rw[decide_eq_false q] at t3
   rw[G9 t3]
   refine⟨u,x9,z10,?_,hu2 (by omega),by omega,by omega⟩
   simp only[NZ,U0a,DQ,at1]
   simp[intsOf,den,Dl,-U09,-U1r,Aj]
end W27
end
section
namespace W27
open PySem L2 VS
theorem InT.more{r0 r1:Int}{k j:Nat}{t:T3}(h:InT r0 r1 k t)(hk:k<=j):InT r0 r1 j t:=by
 obtain⟨g1,g2,g3,g4,g5,g6⟩:=h
 exact⟨g1,g2,by omega,g4,g5,g6⟩
theorem bT(x y z r0 r1:Int)(k:Nat)(q0:-1000000000<=r0)(q1:0<r1)(q2:r0+r1<=1000000000)(hs:List T3)(hl:hs.length<=100)(hb:∀t∈hs,InT r0 r1 k t)(z0:0<=z)(z1:z<10000000)(e2 e3 e5:Option D):∃(t:T3)(x' z':Int),InT r0 r1 (k+1) t/\(z<=z'/\z'<=z+12) /\
  JF [some (.ref 0),some (.tup [.int r0,.int r1]),e2,e3,some (.ref 1),e5] [some [.int x,.int y,.int z],some (hs.map Aj)]=some (.nx,[some (.ref 0),some (.tup [.int r0,.int r1]),e2,e3,some (.ref 1),e5],[some [.int x',.int y,.int z'],some ((hs++[t]).map Aj)]):=by
 obtain⟨t,x',z',e,bi,k1,k2⟩:=Y0 x y z r0 r1 k q0 q1 q2 hs (by omega) hb z0 (by omega)
 refine⟨t,x',z',bi,⟨k1,k2⟩,?_⟩
 have hd:Dl 0 [none,some (hs.map Aj)] [.tup [.int r0,.int r1],.ref 1]=some [.tup [.int r0,.int r1],.lst true (hs.map Aj)]:=by
  have hp:=DX (K5 hs)
  simp[Dl,den,hp]
 have ha:Bj [.tup [.int r0,.int r1],.lst true (hs.map Aj)]=[.tup [.int r0,.int r1],.lst false (hs.map Aj)]:=by
  have:=Gz (K5 hs)
  simp[Bj,age,this]
 have hnew:newD (Aj t)=true:=Ny (Yp t)
 have c1:Ak Es (Aa (Ab 0) (Aa (Ab 1) (Aa (Ab 4) Ad))) [some (.ref 0),some (.tup [.int r0,.int r1]),e2,e3,some (.ref 1),e5] [some [.int x,.int y,.int z],some (hs.map Aj)]=some (Aj t,[some [.int x',.int y,.int z'],some (hs.map Aj)]):=by
  have a:Aa (Ab 0) (Aa (Ab 1) (Aa (Ab 4) Ad)) [some (.ref 0),some (.tup [.int r0,.int r1]),e2,e3,some (.ref 1),e5] [some [.int x,.int y,.int z],some (hs.map Aj)]=some ([.ref 0,.tup [.int r0,.int r1],.ref 1],[some [.int x,.int y,.int z],some (hs.map Aj)]):=rfl
  rw[Pq,a]
  show((Dl 0 [none,some (hs.map Aj)] [.tup [.int r0,.int r1],.ref 1]).bind fun ds=>(Es [x,y,z] (Bj ds)).bind fun r=>if (BZ [.tup [.int r0,.int r1],.ref 1]||newD r.1)=true then some (r.1,[some (r.2.map D.int),some (hs.map Aj)]) else none)=_
  rw[hd,U0a,ha,e,U0a,hnew,Bool.or_true]
  rfl
 unfold JF
 rw[Tq,Yg (d:=.ref 1) (cs:=hs.map Aj) (ds:=[Aj t]) (r:=.non) (S1:=[some [.int x,.int y,.int z],some (hs.map Aj)]) (S2:=[some [.int x',.int y,.int z'],some (hs.map Aj)]) (S3:=[some [.int x',.int y,.int z'],some ((hs++[t]).map Aj)]) rfl rfl (by rw[BJ,c1];rfl) (by
  show(if (hs.map Aj).length<1000000 then some (D.non,[some [.int x',.int y,.int z'],some (hs.map Aj++[Aj t])]) else none)=_
  rw[if_pos (by rw[U0e];omega),U3h]
  rfl)]
 rfl
theorem bR(x y z r0 r1:Int)(most:Nat)(hm:most<=40)(h3:3<=most)(q0:-1000000000<=r0)(q1:0<r1)(q2:r0+r1<=1000000000)(z0:0<=z)(z1:z<1000000):∃(hs:List T3)(x' z':Int),
  Eh [x,y,z] [.tup [.int r0,.int r1],.int most]=some (.lst true (hs.map Aj),[x',y,z'])/\hs.length<=most/\(∀t∈hs,InT r0 r1 most t)/\z<=z'/\z'<=z+1000:=by
 obtain⟨a,x1,z2,d1,⟨a0,a1⟩,k1,k2⟩:=Dg x y z 4 (by decide) (by decide) z0 (by omega)
 obtain⟨b,x2,z3,d2,⟨b0,b1⟩,k3,k4⟩:=Dg x1 y z2 ((most:Int)+1) (by omega) (by omega) (by omega) (by omega)
 obtain⟨c,x3,z4,d3,⟨c0,c1⟩,k5,k6⟩:=Dg x2 y z3 3 (by decide) (by decide) (by omega) (by omega)
 obtain⟨m,f1,hmm⟩:∃m:Nat,atI [D.int a,D.int b,D.int most] c=some (.int m)/\m<=most:=by
  have:c=0∨c=1∨c=2:=by omega
  rcases this with rfl|rfl|rfl
  .exact⟨a.toNat,by rw[show((a.toNat:Nat):Int)=a by omega];rfl,by omega⟩
  .exact⟨b.toNat,by rw[show((b.toNat:Nat):Int)=b by omega];rfl,by omega⟩
  .exact⟨most,rfl,U0h _⟩
 have s1:(BR 3 (eOp oIx (Am (Aa (Ak Ai (Aa (Ab 0) (Aa (eC (.int 4)) Ad))) (Aa (Ak Ai (Aa (Ab 0) (Aa (eOp Aw (Ab 2) (eC (.int 1))) Ad))) (Aa (Ab 2) Ad)))) (Ak Ai (Aa (Ab 0) (Aa (eC (.int 3)) Ad))))) [some (.ref 0),some (.tup [.int r0,.int r1]),some (.int most),none,none,none] [some [.int x,.int y,.int z]]=some (.nx,[some (.ref 0),some (.tup [.int r0,.int r1]),some (.int most),some (.int m),none,none],[some [.int x3,.int y,.int z4]]):=by
  have o1:Ak Ai (Aa (Ab 0) (Aa (eC (.int 4)) Ad)) [some (.ref 0),some (.tup [.int r0,.int r1]),some (.int most),none,none,none] [some [.int x,.int y,.int z]]=some (.int a,[some [.int x1,.int y,.int z2]]):=Dh d1 rfl rfl
  have o2:Ak Ai (Aa (Ab 0) (Aa (eOp Aw (Ab 2) (eC (.int 1))) Ad)) [some (.ref 0),some (.tup [.int r0,.int r1]),some (.int most),none,none,none] [some [.int x1,.int y,.int z2]]=some (.int b,[some [.int x2,.int y,.int z3]]):=Dh d2 rfl rfl
  have o3:Ak Ai (Aa (Ab 0) (Aa (eC (.int 3)) Ad)) [some (.ref 0),some (.tup [.int r0,.int r1]),some (.int most),none,none,none] [some [.int x2,.int y,.int z3]]=some (.int c,[some [.int x3,.int y,.int z4]]):=Dh d3 rfl rfl
  have o4:Am (Aa (Ak Ai (Aa (Ab 0) (Aa (eC (.int 4)) Ad))) (Aa (Ak Ai (Aa (Ab 0) (Aa (eOp Aw (Ab 2) (eC (.int 1))) Ad))) (Aa (Ab 2) Ad))) [some (.ref 0),some (.tup [.int r0,.int r1]),some (.int most),none,none,none] [some [.int x,.int y,.int z]]=some (.lst true [.int a,.int b,.int most],[some [.int x2,.int y,.int z3]]):=by
   rw[Cg,BJ,o1,U0a,BJ,o2];rfl
  rw[Br,Bb,o4,U0a,o3,U0a]
  show(U06 _ (atI [D.int a,D.int b,D.int most] c)).bind _=_
  rw[f1];rfl
 have s2:(BR 4 (Mr Ad)) [some (.ref 0),some (.tup [.int r0,.int r1]),some (.int most),some (.int m),none,none] [some [.int x3,.int y,.int z4]]=some (.nx,[some (.ref 0),some (.tup [.int r0,.int r1]),some (.int most),some (.int m),some (.ref 1),none],[some [.int x3,.int y,.int z4],some []]):=rfl
 have e:Ie (Aa (Ab 3) Ad) [some (.ref 0),some (.tup [.int r0,.int r1]),some (.int most),some (.int m),some (.ref 1),none] [some [.int x3,.int y,.int z4],some []]=some ((upD 0 m,[]),[some [.int x3,.int y,.int z4],some []]):=Vp _ rfl (by simp) (by omega) (by omega)
 obtain⟨env',S',e5,hs,x',z',y6,he,hS,hl,hb,k7,k8⟩:=JZ (w:=[]) (g:=Pat.sem (.nm 5)) (b:=JF) (ds:=upD 0 m) (env:=[some (.ref 0),some (.tup [.int r0,.int r1]),some (.int most),some (.int m),some (.ref 1),none]) (S:=[some [.int x3,.int y,.int z4],some []])
  (fun i env S=>∃(hs:List T3)(x' z':Int)(y6:Option D),env=[some (.ref 0),some (.tup [.int r0,.int r1]),some (.int most),some (.int m),some (.ref 1),y6]/\S=[some [.int x',.int y,.int z'],some (hs.map Aj)]/\hs.length=min i m/\(∀t∈hs,InT r0 r1 (min i m) t)/\z4<=z'/\z'<=z4+12*(min i m:Nat))
  ⟨[],x3,z4,none,rfl,rfl,by simp,(fun b h=>by cases h),by omega,by simp⟩ (fun i env S _=>by simp) (fun i d env S hd q=>by
   obtain⟨hs,x',z',y6,he,hS,hl,hb,k7,k8⟩:=q
   obtain⟨hi,rfl⟩:=YF hd
   have hmi:min i m=i:=by omega
   rw[hmi] at hl hb k8
   subst he hS
   obtain⟨t,x5,z5,hb5,⟨k9,k10⟩,e6⟩:=bT x' y z' r0 r1 i q0 q1 q2 hs (by omega) hb (by omega) (by omega) (some (.int most)) (some (.int m)) (some (.int (0+i)))
   have hmi2:min (i+1) m=i+1:=by omega
   refine⟨_,Ed _ _ _,_,_,e6,hs++[t],x5,z5,_,rfl,rfl,by simp;omega,?_,by omega,by rw[hmi2];omega⟩
   rw[hmi2]
   intro c hc
   rcases U1h.mp hc with h|h
   .exact(hb c h).more (by omega)
   .rw[U1k.mp h];exact hb5)
 rw[YD,Nat.min_self] at hl hb k8
 subst he hS
 have l1:Kp [some (.ref 0),some (.tup [.int r0,.int r1]),some (.int most),some (.int m),some (.ref 1),none] [some [.int x3,.int y,.int z4],some []]=some (.nx,[some (.ref 0),some (.tup [.int r0,.int r1]),some (.int most),some (.int m),some (.ref 1),y6],[some [.int x',.int y,.int z'],some (hs.map Aj)]):=by
  unfold Kp
  rw[IV,e]
  exact e5
 refine⟨hs,x',z',?_,by omega,fun t h=>(hb t h).more hmm,by omega,by omega⟩
 unfold Eh
 rw[IW]
 simp only[U0g,U1b,U0o,U1t,U16,U17,U0t,U1c,U1y,U1z,if_true]
 unfold Q0
 rw[BX s1,BX s2,BX l1]
 have hp:=DX (K5 hs)
 simp[DQ,Ez,intsOf,den,-U09,-U1r,hp]
end W27
end
section
namespace W27
open PySem L2 VS
theorem Oe{f:Int->Int}:∀(n:Nat){x y:Int},y=x+n->(∀e,x<e->e<=y->f e=f (e-1))->f y=f x
 |0,x,y,h,_=>by rw[h];simp
 |n+1,x,y,h,hc=>by
  rw[hc y (by omega) (U3v _)]
  exact Oe n (by omega) fun e h1 h2=>hc e h1 (by omega)
theorem Ra{f:Int->Int}{x y:Int}(hxy:x<=y)(h:∀e,x<e->e<=y->f e=f (e-1)):f y=f x:=Oe (y-x).toNat (by omega) h
structure Chg(f:Int->Int)(E:List Int)(A B:Int):Prop where
 rise:E.Pairwise (·<·)
 all:∀x,f x≠f (x-1)->x∈E
 low:∀x,x<=A->f x=0
 high:∀x,B<=x->f x=0
 inn:∀x∈E,A<x/\x<=B
theorem Wr{f:Int->Int}:∀(E:List Int)(q:Int),E.Pairwise (·<·)->(∀x∈E,q<x)->(∀e,q<e->f e≠f (e-1)->e∈E)->Link f (f q) E
 |[],q,_,_,_=>trivial
 |x::E,q,hr,hq,hc=>by
  obtain⟨r1,r2⟩:=U27.mp hr
  have hx:=hq x U0s
  refine⟨Ra (by omega) fun e h1 h2=>?_,Wr E x r2 r1 fun e h1 h2=>?_⟩
  .by_cases z:f e=f (e-1)
   .exact z
   .rcases U0k.mp (hc e h1 z) with k|k
    .omega
    .have:=r1 e k;omega
  .rcases U0k.mp (hc e (by omega) h2) with k|k
   .omega
   .exact k
theorem Chg.link{f:Int->Int}{E:List Int}{A B:Int}(h:Chg f E A B):Link f 0 E:=by
 have:=Wr E A h.rise (fun x hx=>(h.inn x hx).1) fun e _ z=>h.all e z
 rw[h.low A (U3v _)] at this
 exact this
def chg(f:Int->Int)(E:List Int):List St2:=((E.map fun x=>(x,f x)).foldl Fq ([],0)).1
def pts(f:Int->Int)(E:List Int):List Int:=E.filter fun x=>decide (f x≠f (x-1))
theorem pG{f:Int->Int}{E:List Int}{A B:Int}(h:Chg f E A B):chg f E=(pts f E).map fun x=>(x,f x):=by
 unfold chg
 rw[Uv f E [] 0 h.link,U1z];rfl
theorem Chg.pts{f:Int->Int}{E:List Int}{A B:Int}(h:Chg f E A B):Chg f (pts f E) A B :=
 ⟨h.rise.sublist List.filter_sublist,fun x z=>U4c.mpr ⟨h.all x z,decide_eq_true z⟩,h.low,h.high,fun x hx=>h.inn x (U4c.mp hx).1⟩
def stand(l:List St2):List T3:=((l.zip l.tail).map fun q=>(q.1.1,q.2.1,q.1.2)).filter fun t=>decide (0<t.2.2)
theorem WD(f:Int->Int):∀a b:List Int,(a.map fun x=>(x,f x)).zip (b.map fun x=>(x,f x))=(a.zip b).map fun p=>((p.1,f p.1),(p.2,f p.2))
 |[],_=>by simp
 |_::_,[]=>by simp
 |p::a,q::b=>by simp[WD f a b]
theorem ZV{f:Int->Int}{E:List Int}{A B:Int}(h:Chg f E A B){p:St2}(hp:p∈steps E){x:Int}(h1:p.1<=x)(h2:x<p.2):f x=f p.1:=by
 obtain⟨g1,g2,g3,g4⟩:=PN h.rise p hp
 refine Ra h1 fun e k1 k2=>?_
 by_cases z:f e=f (e-1)
 .exact z
 .have:=g4 e (h.all e z)
  omega
end W27
end
section
namespace W27
open PySem L2 VS
structure tM(l:List St2):Prop where
 few:l.length<=300
 hts:∀p∈l,0<=p.2
 head:∀p,l.head?=some p->p.2≠0
 last:∀p,l.getLast?=some p->p.2=0
 adj:∀q∈l.zip l.tail,q.1.1<q.2.1/\q.1.2≠q.2.2
structure SkB(l:List St2):Prop where
 ok:tM l
 inn:∀p∈l,-1000000000<=p.1/\p.1<=1000000000/\p.2<=1000000000
theorem pF{f:Int->Int}{E:List Int}{A B:Int}(h:Chg f E A B)(hf:∀x,0<=f x/\f x<=1000000000)(hl:E.length<=300)(hA:-1000000000<=A+1)(hB:B<=1000000000):SkB (chg f E):=by
 have hp:=h.pts
 have pl:(pts f E).length<=E.length:=List.length_filter_le ..
 have lk:=hp.link
 rw[pG h]
 have ch:∀x∈pts f E,f x≠f (x-1):=fun x hx=>of_decide_eq_true (U4c.mp hx).2
 refine⟨⟨by rw[U0e];omega,fun p hpm=>?_,fun p hh=>?_,fun p hh=>?_,fun q hq=>?_⟩,fun p hpm=>?_⟩
 .obtain⟨x,_,rfl⟩:=U2u.mp hpm
  exact(hf x).1
 .cases e:pts f E with
  |nil=>rw[e] at hh;simp at hh
  |cons x r =>
   rw[e] at hh lk
   simp at hh
   subst hh
   have:=ch x (by rw[e];exact U0s)
   show f x≠0
   rw[←lk.1]
   exact this
 .rcases U4g (pts f E) with k|⟨r,x,k⟩
  .rw[k] at hh;simp at hh
  .rw[U4h] at k
   rw[k] at hh
   simp at hh
   subst hh
   show f x=0
   have hx:x<=B:=(hp.inn x (by rw[k];simp)).2
   rw[←Ra (f:=f) hx fun e k1 k2=>?_]
   .exact h.high B (U3v _)
   .by_cases v:f e=f (e-1)
    .exact v
    .have he:=hp.all e v
     have hr:=hp.rise
     rw[k] at he hr
     rcases U1h.mp he with w|w
     .have:=(U1d.mp hr).2.2 e w x U0s
      omega
     .rw[U1k.mp w] at k1
      omega
 .rw[←List.map_tail,WD] at hq
  obtain⟨p,hps,rfl⟩:=U2u.mp hq
  have hps:p∈steps (pts f E):=hps
  obtain⟨g1,g2,g3,g4⟩:=PN hp.rise p hps
  refine⟨g1,fun z=>?_⟩
  have c1:=ch p.2 g3
  have c2:=ZV hp hps (x:=p.2-1) (by omega) (by omega)
  have z:f p.1=f p.2:=z
  omega
 .obtain⟨x,hx,rfl⟩:=U2u.mp hpm
  have:=hp.inn x hx
  have:=hf x
  show -1000000000<=x/\x<=1000000000/\f x<=1000000000
  omega
theorem iQ{hs:List T3}(h:Hs hs):Chg (hgt hs) (ends hs) (-1000000001) 1000000000:=by
 refine⟨bV hs,fun x z=>?_,fun x hx=>Yn fun t ht w=>?_,fun x hx=>Yn fun t ht w=>?_,fun x hx=>?_⟩
 .by_cases k:x∈ends hs
  .exact k
  .refine absurd (fJ (hs:=hs) (x:=x-1) (y:=x) (by omega) fun e he w=>k ?_) z
   rw[show x=e by omega];exact he
 .have:=h.all t ht;omega
 .have:=h.all t ht;omega
 .obtain⟨t,ht,k⟩:=RX.mp hx
  have:=h.all t ht
  omega
theorem n6{hs:List T3}(h:Hs hs)(hl:hs.length<=150):SkB (sky hs):=by
 refine pF (iQ h) (jk h) ?_ (by decide) (by decide)
 have q:=(SetP.HJ (hs.map (·.1)++hs.map (·.2.1))).2.1
 unfold ends Dr
 rw[(U3j _ _).length_eq]
 simp at q
 omega
end W27
end
section
namespace W27
open PySem L2 VS
structure See(d:D):Prop where
 pu:BK d=true
 sh:∃p ws,toP d=some p/\fit ws p=true/\ws.length<=50/\bnd ws<=1000000
def isInt:D->Bool
 |.int _=>true
 |_=>false
def isTup:D->Bool
 |.tup _=>true
 |_=>false
def MJ:D->Bool
 |.lst _ _=>true
 |_=>false
theorem kinds{d:D}{p:PyData}(h:toP d=some p):(isT "int" p&&!isT "bool" p)=isInt d/\isT "tuple" p=isTup d/\isT "list" p=MJ d:=by
 cases d with
 |tup ds =>
  rw[toP] at h
  obtain⟨a,_,rfl⟩:=U2m.mp h
  exact⟨rfl,rfl,rfl⟩
 |lst m ds =>
  rw[toP] at h
  obtain⟨a,_,rfl⟩:=U2m.mp h
  exact⟨rfl,rfl,rfl⟩
 |non=>rw[toP] at h;cases h;exact⟨rfl,rfl,rfl⟩
 |bl b=>rw[toP] at h;cases h;exact⟨rfl,rfl,rfl⟩
 |int b=>rw[toP] at h;cases h;exact⟨rfl,rfl,rfl⟩
 |str b=>rw[toP] at h;cases h;exact⟨rfl,rfl,rfl⟩
 |emp=>rw[toP] at h;cases h;exact⟨rfl,rfl,rfl⟩
 |ref b=>rw[toP] at h;cases h
 |scr b=>rw[toP] at h;cases h
 |ty b=>rw[toP] at h;cases h
 |dref b=>rw[toP] at h;cases h
 |dcf b=>rw[toP] at h;cases h
 |dcm b=>rw[toP] at h;cases h
mutual
theorem YH:∀d:D,toP (age d)=toP d
 |.tup ds=>by rw[age,toP,toP,R6 ds]
 |.lst m ds=>by rw[age,toP,toP,R6 ds]
 |.non=>by rw[age]
 |.bl _=>by rw[age]
 |.int _=>by rw[age]
 |.str _=>by rw[age]
 |.ty _=>by rw[age]
 |.emp=>by rw[age]
 |.ref _=>by rw[age]
 |.scr _=>by rw[age]
 |.dref _=>by rw[age]
 |.dcf _=>by rw[age]
 |.dcm _=>by rw[age]
theorem R6:∀ds:List D,Dt (Bj ds)=Dt ds
 |[]=>by rw[Bj]
 |d::r=>by rw[Bj,Dt,Dt,YH d,R6 r]
end
mutual
theorem Wf:∀d:D,BK (age d)=BK d
 |.tup ds=>by rw[age,BK,BK,Pb ds]
 |.lst m ds=>by rw[age,BK,BK,Pb ds]
 |.non=>by rw[age]
 |.bl _=>by rw[age]
 |.int _=>by rw[age]
 |.str _=>by rw[age]
 |.ty _=>by rw[age]
 |.emp=>by rw[age]
 |.ref _=>by rw[age]
 |.scr _=>by rw[age]
 |.dref _=>by rw[age]
 |.dcf _=>by rw[age]
 |.dcm _=>by rw[age]
theorem Pb:∀ds:List D,BZ (Bj ds)=BZ ds
 |[]=>by rw[Bj]
 |d::r=>by rw[Bj,BZ,BZ,Wf d,Pb r]
end
theorem See.age{d:D}(h:See d):See (age d):=by
 obtain⟨p,ws,h1,h2⟩:=h.sh
 exact⟨by rw[Wf];exact h.pu,p,ws,by rw[YH];exact h1,h2⟩
theorem Lw:∀ds:List D,Bj ds=ds.map VS.age
 |[]=>by rw[Bj];rfl
 |d::r=>by rw[Bj,Lw r];rfl
theorem Pn(d:D):isInt (VS.age d)=isInt d:=by cases d<;>(rw[VS.age]<;>rfl)
theorem See.at{d:D}(h:See d)(S:Store):∃p,toP d=some p/\Cv S d=some p:=by
 obtain⟨p,ws,h2,_⟩:=h.sh
 exact⟨p,h2,by rw[Cv,Gd 0 S h.pu];exact h2⟩
theorem Pa:∀{ds:List D},BZ ds=true->∀d∈ds,BK d=true
 |[],_,d,h=>by cases h
 |e::r,h,d,hd=>by
  rw[BZ,U0m] at h
  rcases U0k.mp hd with rfl|hd
  .exact h.1
  .exact Pa h.2 d hd
theorem R0:∀{ds:List D} {ps:List PyData},Dt ds=some ps->ds.length=ps.length/\∀d∈ds,∃p∈ps,toP d=some p
 |[],ps,h=>by rw[Dt] at h;cases h;exact⟨rfl,fun d hd=>by cases hd⟩
 |e::r,ps,h=>by
  rw[Dt] at h
  obtain⟨p,h1,h⟩:=VS.bind_some h
  obtain⟨qs,h2,h⟩:=VS.bind_some h
  cases h
  obtain⟨k1,k2⟩:=R0 h2
  refine⟨by rw[U0g,U0g,k1],fun d hd=>?_⟩
  rcases U0k.mp hd with rfl|hd
  .exact⟨p,U0s,h1⟩
  .obtain⟨q,hq,e⟩:=k2 d hd
   exact⟨q,U0p _ hq,e⟩
theorem aV{ws:List Nat}{ps:List PyData}(hb:bnd ws<=1000000)(hl:ws.length<=50)(h:fit ws (.list ps)=true∨fit ws (.tuple ps)=true):ps.length<=2500/\∀p∈ps,∃vs,fit vs p=true/\vs.length<=50/\bnd vs<=1000000:=by
 cases ws with
 |nil=>rcases h with h|h<;>simp[fit,K1] at h
 |cons w vs =>
  have h':ps.length<=w/\ps.all (fit vs)=true:=by
   rcases h with h|h<;>(rw[fit,U0m] at h;exact⟨of_decide_eq_true h.1,h.2⟩)
  rw[bnd] at hb
  have b4:400<=bnd vs:=by cases vs<;>(rw[bnd];omega)
  have m1:w*402<=w*(bnd vs+2):=Nat.mul_le_mul (U0h _) (by omega)
  refine⟨by omega,fun p hp=>⟨vs,U15.mp h'.2 p hp,by simp at hl;omega,?_⟩⟩
  have:1<=w:=by
   have:=List.length_pos_of_mem hp
   omega
  have m2:1*(bnd vs+2)<=w*(bnd vs+2):=Nat.mul_le_mul this (U0h _)
  omega
theorem See.tup{ds:List D}(h:See (.tup ds)):ds.length<=2500/\∀d∈ds,See d:=by
 obtain⟨p,ws,h1,h2,h3,h4⟩:=h.sh
 have hp:=h.pu
 rw[BK] at hp
 rw[toP] at h1
 obtain⟨ps,e,rfl⟩:=U2m.mp h1
 obtain⟨k1,k2⟩:=R0 e
 obtain⟨g1,g2⟩:=aV h4 h3 (.inr h2)
 refine⟨by omega,fun d hd=>⟨Pa hp d hd,?_⟩⟩
 obtain⟨q,hq,e2⟩:=k2 d hd
 obtain⟨vs,f1,f2,f3⟩:=g2 q hq
 exact⟨q,vs,e2,f1,f2,f3⟩
theorem See.lst{m:Bool}{ds:List D}(h:See (.lst m ds)):ds.length<=2500/\∀d∈ds,See d:=by
 obtain⟨p,ws,h1,h2,h3,h4⟩:=h.sh
 have hp:=h.pu
 rw[BK] at hp
 rw[toP] at h1
 obtain⟨ps,e,rfl⟩:=U2m.mp h1
 obtain⟨k1,k2⟩:=R0 e
 obtain⟨g1,g2⟩:=aV h4 h3 (.inl h2)
 refine⟨by omega,fun d hd=>⟨Pa hp d hd,?_⟩⟩
 obtain⟨q,hq,e2⟩:=k2 d hd
 obtain⟨vs,f1,f2,f3⟩:=g2 q hq
 exact⟨q,vs,e2,f1,f2,f3⟩
theorem See.one{d:D}(h:See d):BZ [d]=true:=by rw[BZ,BZ,h.pu];rfl
theorem See.two{d:D}(h:See d)(n:Int):BZ [d,.int n]=true:=by simp[BZ,BK,h.pu]
theorem See.repr{d:D}(h:See d)(S:Store):∃x,FN S [d]=some (.str x):=by
 obtain⟨p,ws,h1,h2,h3,h4⟩:=h.sh
 exact⟨_,YX (p:=p) (by rw[Cv,Gd 0 S h.pu];exact h1) h2 h3 h4⟩
theorem WM{d:D}(h:See d):Gw [d]=some (.bl (isInt d))/\Fi [d]=some (.bl (isInt d)):=by
 obtain⟨p,hp,hs⟩:=h.at []
 have k:=(kinds hp).1
 have i1:eCB Eb (Aa (Ab 0) (Aa (eC (.ty "int")) Ad)) [some d] []=some (.bl (isT "int" p),[]):=by
  show U06 _ (Eb [] [d,.ty "int"])=_
  rw[fW,hs];rfl
 have i2:eCB Eb (Aa (Ab 0) (Aa (eC (.ty "bool")) Ad)) [some d] []=some (.bl (isT "bool" p),[]):=by
  show U06 _ (Eb [] [d,.ty "bool"])=_
  rw[cC,hs];rfl
 have key:(DK (JQ (eCB Eb (Aa (Ab 0) (Aa (eC (.ty "int")) Ad))) (VS.Te (eCB Eb (Aa (Ab 0) (Aa (eC (.ty "bool")) Ad)))))) [some d] []=some (.ret (.bl (isInt d)),[some d],[]):=by
  rw[DQ,Jd,i1,←k]
  simp only[U0a]
  cases isT "int" p
  .rfl
  .show((VS.Te (eCB Eb (Aa (Ab 0) (Aa (eC (.ty "bool")) Ad)))) [some d] []).bind _=_
   rw[jr,i2];rfl
 constructor
 .unfold Gw
  rw[Ew]
  simp only[U0g,U1b,U0o,U1t,U16,U17,U1c,U1n,if_true]
  unfold Ss
  rw[key]
  simp[den]
 .unfold Fi
  rw[Ew]
  simp only[U0g,U1b,U0o,U1t,U16,U17,U1c,U1n,if_true]
  unfold Qn
  rw[key]
  simp[den]
def Df(n:Nat):D->Bool
 |.tup ds=>decide (ds.length=n)&&ds.all isInt
 |_=>false
theorem S8{n:Nat}{d:D}(h:isTup d=false):Df n d=false:=by
 cases d with
 |tup ds=>cases h
 |_=>rfl
theorem Gh(n:Nat)(d:D):Df n (VS.age d)=Df n d:=by
 cases d with
 |tup ds =>
  rw[VS.age,Lw]
  show(decide ((ds.map VS.age).length=n)&&(ds.map VS.age).all isInt)=_
  rw[U0e,U4b]
  show(decide (ds.length=n)&&ds.all fun x=>isInt (VS.age x))=_
  simp only[Pn];rfl
 |_=>rw[VS.age]<;>rfl
theorem NP{d:D}(h:See d)(S:Store)(r:List (Option D)):eCB Eb (Aa (Ab 0) (Aa (eC (.ty "tuple")) Ad)) (some d::r) S=some (.bl (isTup d),S)/\eCB Eb (Aa (Ab 0) (Aa (eC (.ty "list")) Ad)) (some d::r) S=some (.bl (MJ d),S):=by
 obtain⟨p,hp,hs⟩:=h.at S
 obtain⟨_,k2,k3⟩:=kinds hp
 constructor
 .show U06 _ (Eb S [d,.ty "tuple"])=_
  rw[Zt,hs,←k2];rfl
 .show U06 _ (Eb S [d,.ty "list"])=_
  rw[bw,hs,←k3];rfl
theorem fV(ds:List D)(f:D->Bool):GC.boolsOf (ds.map fun d=>D.bl (f d))=some (ds.map f):=by
 have:=Qw (ds.map f)
 rw[U09] at this
 exact this
theorem W8(S:Store)(m:Bool)(ds:List D)(f:D->Bool):GC S [.lst m (ds.map fun d=>D.bl (f d))]=some (.bl (ds.all f)):=by
 show(GC.boolsOf (ds.map fun d=>D.bl (f d))).map _=_
 rw[fV,U40,U4b];rfl
theorem Uh{d:D}(h:See d)(n:Nat):Di [d,.int n]=some (.bl (Df n d)):=by
 have i1:=(NP h [] [some (.int n)]).1
 unfold Di
 rw[Ew]
 simp only[U0g,U1b,U0o,U1t,U16,U17,U1c,U1n,if_true]
 unfold Q6
 rw[DQ,Jd,i1]
 cases e:isTup d with
 |false=>rw[S8 e];simp[den]
 |true =>
  cases d with
  |tup ds =>
   obtain⟨hl,hi⟩:=h.tup
   have e0:Ei (Ab 0) [some (.tup ds),some (.int n)] []=some ((ds,[]),[]):=rfl
   have c1:JK [some (.tup ds),some (.int n)] []=some (ds.map fun x=>D.bl (isInt x),[]):=by
    unfold JK Ea
    rw[e0]
    simp only[U0a]
    rw[comp_map (by simp) (fun _=>true) (fun x=>D.bl (isInt x)) ds [] (by simp;omega),U5l.mpr (by simp)]
    .rfl
    .intro x hx
     refine⟨_,Ed _ _ _,rfl,fun _=>?_⟩
     exact Dv (ds:=[x]) (es:=[VS.age x]) rfl (hi x hx).one (by rw[Bj,Bj]) (by rw[(WM (hi x hx).age).1,Pn])
   have a2:eCB GC (Aa (Am JK) Ad) [some (.tup ds),some (.int n)] []=some (.bl (ds.all isInt),[]):=by
    rw[Fp,BJ,Cg,c1]
    simp only[U0a,G4,W8,U40]
   have a1:eOp (oEq false) (eCB Ej (Aa (Ab 0) Ad)) (Ab 1) [some (.tup ds),some (.int n)] []=some (.bl (decide (ds.length=n)),[]):=by
    show some (D.bl (false ^^ decide ((ds.length:Int)=(n:Int))),([]:Store))=_
    rw[U5,show decide ((ds.length:Int)=(n:Int))=decide (ds.length=n) by simp only[Int.ofNat_inj]]
   simp only[U0a]
   show((JQ _ _ [some (.tup ds),some (.int n)] []).bind _).bind _=_
   rw[Jd,a1]
   simp only[U0a]
   show _=some (D.bl (decide (ds.length=n)&&ds.all isInt))
   cases decide (ds.length=n) with
   |false=>rfl
   |true =>
    show((eCB GC _ [some (.tup ds),some (.int n)] []).bind _).bind _=_
    rw[a2,U34];rfl
  |_=>cases e
theorem SQ{d:D}(h:See d)(n:Nat):CN [d,.int n]=some (.bl (Df n d)):=by
 have i1:=(NP h [] [some (.int n)]).1
 unfold CN
 rw[Ew]
 simp only[U0g,U1b,U0o,U1t,U16,U17,U1c,U1n,if_true]
 unfold M6
 cases e:isTup d with
 |false =>
  rw[e] at i1
  rw[S8 e,Gv (d:=.bl false) (by rw[El (by rw[GQ,Eo,CJ,i1];rfl)];rfl)]
  simp[den]
 |true =>
  rw[e] at i1
  cases d with
  |tup ds =>
   obtain⟨hl,hi⟩:=h.tup
   have a1:Bd (eOp (oEq true) (eCB Ej (Aa (Ab 0) Ad)) (Ab 1)) [some (.tup ds),some (.int n)] []=some (!decide (ds.length=n),[]):=by
    show some ((true ^^ decide ((ds.length:Int)=(n:Int))),([]:Store))=_
    rw[U5i,show decide ((ds.length:Int)=(n:Int))=decide (ds.length=n) by simp only[Int.ofNat_inj]]
   have tt:VS.tOr (VS.Ga (Bd (eCB Eb (Aa (Ab 0) (Aa (eC (.ty "tuple")) Ad))))) (Bd (eOp (oEq true) (eCB Ej (Aa (Ab 0) Ad)) (Ab 1))) [some (.tup ds),some (.int n)] []=some (!decide (ds.length=n),[]):=by
    rw[GQ,Eo,CJ,i1]
    simp only[U0a,U3m,U0w,if_false]
    exact a1
   show _=some (D.bl (decide (ds.length=n)&&ds.all isInt))
   by_cases z:ds.length=n
   .rw[decide_eq_true z,U3m] at tt
    have e0:Ei (Ab 0) [some (.tup ds),some (.int n)] []=some ((ds,[]),[]):=rfl
    have c1:Gq [some (.tup ds),some (.int n)] []=some (ds.filter fun x=>!isInt x,[]):=by
     unfold Gq Ea
     rw[e0]
     simp only[U0a]
     rw[comp_map (by simp) (fun x=>!isInt x) (fun x=>x) ds [] (by simp;omega)]
     .simp
     .intro x hx
      refine⟨_,Ed _ _ _,?_,fun _=>rfl⟩
      have c:Bp Fi (Aa (Ab 0) Ad) [some x] []=some (.bl (isInt x),[]):=Dv (ds:=[x]) (es:=[VS.age x]) rfl (hi x hx).one (by rw[Bj,Bj]) (by rw[(WM (hi x hx).age).2,Pn])
      show VS.Ga _ [some x] []=_
      rw[Eo,CJ,c];rfl
    have c2:Am Gq [some (.tup ds),some (.int n)] []=some (.lst true (ds.filter fun x=>!isInt x),[]):=by rw[Cg,c1];rfl
    have hh:(ds.filter fun x=>!isInt x).isEmpty=ds.all isInt:=by
     rw[U3f,List.isEmpty_iff,U42,U15]
     simp
    rw[BX (by rw[G9 tt];rfl),DQ,Bb,c2,decide_eq_true z,U34,←hh]
    rfl
   .rw[decide_eq_false z,Bool.not_false] at tt
    rw[Gv (d:=.bl false) (by rw[El tt];rfl),decide_eq_false z];rfl
  |_=>cases e
end W27
end
section
namespace W27
open PySem L2 VS
def Et:D->Bool
 |.tup [.int a,.int b,.int c]=>decide (a<b)&&decide (1<=c)
 |_=>false
theorem Ti{d:D}(h:Df 3 d=true):∃a b c:Int,d=.tup [.int a,.int b,.int c]:=by
 cases d with
 |tup ds =>
  have h':(decide (ds.length=3)&&ds.all isInt)=true:=h
  rw[U0m,decide_eq_true_eq] at h'
  obtain⟨h1,h2⟩:=h'
  match ds,h1,h2 with
  |[x,y,z],_,h2 =>
   simp only[U3p,List.all_nil,Bool.and_true,U0m] at h2
   cases x<;>simp[isInt] at h2
   cases y<;>simp[isInt] at h2
   cases z<;>simp[isInt] at h2
   exact⟨_,_,_,rfl⟩
 |_=>cases h
theorem Nq{d:D}(h:Df 2 d=true):∃a b:Int,d=.tup [.int a,.int b]:=by
 cases d with
 |tup ds =>
  have h':(decide (ds.length=2)&&ds.all isInt)=true:=h
  rw[U0m,decide_eq_true_eq] at h'
  obtain⟨h1,h2⟩:=h'
  match ds,h1,h2 with
  |[x,y],_,h2 =>
   simp only[U3p,List.all_nil,Bool.and_true,U0m] at h2
   cases x<;>simp[isInt] at h2
   cases y<;>simp[isInt] at h2
   exact⟨_,_,rfl⟩
 |_=>cases h
theorem Ma{d:D}(h:Df 3 d=false):Et d=false:=by
 unfold Et
 split
 .cases h
 .rfl
theorem Sg(d:D):Et (VS.age d)=Et d:=by
 cases e:Df 3 d with
 |false=>rw[Ma e,Ma (by rw[Gh];exact e)]
 |true =>
  obtain⟨a,b,c,rfl⟩:=Ti e
  simp[VS.age,Bj]
theorem fG{d:D}(h:See d):Gx [d]=some (.bl (Et d)):=by
 have c:Bp Di (Aa (Ab 0) (Aa (eC (.int 3)) Ad)) [some d] []=some (.bl (Df 3 d),[]) :=
  Dv (ds:=[d,.int 3]) (es:=[VS.age d,.int 3]) rfl (h.two 3) (by rw[Bj,Bj,Bj,VS.age]) (by rw[show(D.int 3)=D.int ((3:Nat):Int) from rfl,Uh h.age 3,Gh])
 unfold Gx
 rw[Ew]
 simp only[U0g,U1b,U0o,U1t,U16,U17,U1c,U1n,if_true]
 unfold Sv
 rw[DQ,Jd,c]
 cases e:Df 3 d with
 |false=>rw[Ma e];rfl
 |true =>
  obtain⟨x,y,z,rfl⟩:=Ti e
  have a1:eOp oLt (eOp oIx (Ab 0) (eC (.int 0))) (eOp oIx (Ab 0) (eC (.int 1))) [some (.tup [.int x,.int y,.int z])] []=some (.bl (decide (x<y)),[]):=rfl
  have a2:eOp oGe (eOp oIx (Ab 0) (eC (.int 2))) (eC (.int 1)) [some (.tup [.int x,.int y,.int z])] []=some (.bl (decide (1<=z)),[]):=rfl
  simp only[U0a]
  show((JQ _ _ [some (.tup [.int x,.int y,.int z])] []).bind _).bind _=some (D.bl (decide (x<y)&&decide (1<=z)))
  rw[Jd,a1]
  cases decide (x<y) with
  |false=>rfl
  |true =>
   simp only[U0a]
   rw[a2,U34];rfl
def HY:D->Bool
 |.lst _ ds=>ds.all Et
 |_=>false
theorem Sd{d:D}(h:MJ d=false):HY d=false:=by
 cases d with
 |lst m ds=>cases h
 |_=>rfl
theorem Qm{d:D}(h:See d):Ck [d]=some (.bl (HY d)):=by
 have i1:=(NP h [] []).2
 unfold Ck
 rw[Ew]
 simp only[U0g,U1b,U0o,U1t,U16,U17,U1c,U1n,if_true]
 unfold Q7
 rw[DQ,Jd,i1]
 cases e:MJ d with
 |false=>rw[Sd e];rfl
 |true =>
  cases d with
  |lst m ds =>
   obtain⟨hl,hi⟩:=h.lst
   have e0:Ei (Ab 0) [some (.lst m ds)] []=some ((ds,[]),[]):=rfl
   have c1:JL [some (.lst m ds)] []=some (ds.map fun x=>D.bl (Et x),[]):=by
    unfold JL Ea
    rw[e0]
    simp only[U0a]
    rw[comp_map (by simp) (fun _=>true) (fun x=>D.bl (Et x)) ds [] (by simp;omega),U5l.mpr (by simp)]
    .rfl
    .intro x hx
     refine⟨_,Ed _ _ _,rfl,fun _=>?_⟩
     exact Dv (ds:=[x]) (es:=[VS.age x]) rfl (hi x hx).one (by rw[Bj,Bj]) (by rw[fG (hi x hx).age,Sg])
   have a2:eCB GC (Aa (Am JL) Ad) [some (.lst m ds)] []=some (.bl (ds.all Et),[]):=by
    rw[Fp,BJ,Cg,c1]
    simp only[U0a,G4,W8,U40]
   show((eCB GC _ [some (.lst m ds)] []).bind _).bind _=_
   rw[a2];rfl
  |_=>cases e
theorem scan{g:Jx}{b:Bm}(P:D->Bool)(r:D)(E:Option D->VS.Env)(S:Store)(hg:∀d y,g d (E y)=some (E (some d))):∀(ds:List D)(y:Option D),(∀d∈ds,b (E (some d)) S=if P d=true then some (.nx,E (some d),S) else some (.ret r,E (some d),S))->∃y',loop [] g b ds (E y) S=if ds.all P=true then some (.nx,E y',S) else some (.ret r,E y',S)
 |[],y,_=>⟨y,by rw[loop,if_pos (by simp)];rfl⟩
 |d::l,y,h=>by
  obtain⟨y',ih⟩:=scan P r E S hg l (some d) fun x hx=>h x (U0p _ hx)
  have hd:=h d U0s
  by_cases z:P d=true
  .refine⟨y',?_⟩
   rw[if_pos z] at hd
   rw[loop,if_pos (by simp),hg d y]
   show(b (E (some d)) S).bind _=_
   rw[hd,U3p,z,U34,←ih];rfl
  .refine⟨some d,?_⟩
   rw[if_neg z] at hd
   rw[loop,if_pos (by simp),hg d y]
   show(b (E (some d)) S).bind _=_
   rw[hd,U3p,U68.mpr z,U7o];rfl
theorem XQ{d:D}(h:See d):Cz [d]=some (.bl (HY d)):=by
 have i1:=(NP h [] [none]).2
 unfold Cz
 rw[Ew]
 simp only[U0g,U1b,U0o,U1t,U16,U17,U0t,U1c,U1y,U1z,if_true]
 unfold M7
 cases e:MJ d with
 |false =>
  rw[e] at i1
  rw[Sd e,Gv (d:=.bl false) (by rw[El (by rw[Eo,CJ,i1];rfl)];rfl)];rfl
 |true =>
  rw[e] at i1
  rw[BX (by rw[G9 (by rw[Eo,CJ,i1];rfl)];rfl)]
  cases d with
  |lst m ds =>
   obtain⟨hl,hi⟩:=h.lst
   obtain⟨y',sc⟩:=scan (g:=Pat.sem (.nm 1)) (b:=Iv) Et (.bl false) (fun y=>[some (.lst m ds),y]) [] (fun x y=>Ed _ _ _) ds none fun x hx=>by
    have hx':=hi x hx
    have c:Bp CN (Aa (Ab 1) (Aa (eC (.int 3)) Ad)) [some (.lst m ds),some x] []=some (.bl (Df 3 x),[]) :=
     Dv (ds:=[x,.int 3]) (es:=[VS.age x,.int 3]) rfl (hx'.two 3) (by rw[Bj,Bj,Bj,VS.age]) (by rw[show(D.int 3)=D.int ((3:Nat):Int) from rfl,SQ hx'.age 3,Gh])
    unfold Iv
    cases e:Df 3 x with
    |false =>
     rw[e] at c
     rw[Ma e,El (by rw[GQ,Eo,CJ,c];rfl)];rfl
    |true =>
     rw[e] at c
     obtain⟨u,v,w,rfl⟩:=Ti e
     have a1:Bd (eOp oGe (eOp oIx (Ab 1) (eC (.int 0))) (eOp oIx (Ab 1) (eC (.int 1)))) [some (.lst m ds),some (.tup [.int u,.int v,.int w])] []=some (decide (v<=u),[]):=rfl
     have a2:Bd (eOp oLt (eOp oIx (Ab 1) (eC (.int 2))) (eC (.int 1))) [some (.lst m ds),some (.tup [.int u,.int v,.int w])] []=some (decide (w<1),[]):=rfl
     have tt:VS.tOr (VS.Ga (Bd (Bp CN (Aa (Ab 1) (Aa (eC (.int 3)) Ad))))) (VS.tOr (Bd (eOp oGe (eOp oIx (Ab 1) (eC (.int 0))) (eOp oIx (Ab 1) (eC (.int 1))))) (Bd (eOp oLt (eOp oIx (Ab 1) (eC (.int 2))) (eC (.int 1))))) [some (.lst m ds),some (.tup [.int u,.int v,.int w])] []=some (decide (v<=u)||decide (w<1),[]):=by
      rw[GQ,Eo,CJ,c]
      simp only[U0a,U3m,U0w,if_false]
      show VS.tOr _ _ _ _=_
      rw[GQ,a1]
      simp only[U0a,a2]
      cases decide (v<=u)<;>rfl
     have hv:Et (.tup [.int u,.int v,.int w])=!(decide (v<=u)||decide (w<1)):=by
      show(decide (u<v)&&decide (1<=w))=_
      rw[Bool.not_or,show decide (u<v)=!decide (v<=u) by rw[←decide_not];exact decide_eq_decide.mpr (by omega),show decide (1<=w)=!decide (w<1) by rw[←decide_not];exact decide_eq_decide.mpr (by omega)]
     rw[hv]
     cases q:(decide (v<=u)||decide (w<1)) with
     |false=>rw[q] at tt;rw[G9 tt];rfl
     |true=>rw[q] at tt;rw[El tt];rfl
   have l1:Iu [some (.lst m ds),none] []=if ds.all Et=true then some (.nx,[some (.lst m ds),y'],[]) else some (.ret (.bl false),[some (.lst m ds),y'],[]):=by
    unfold Iu
    rw[IV]
    exact sc
   show _=some (D.bl (ds.all Et))
   cases q:ds.all Et with
   |false=>rw[q,if_neg (by decide)] at l1;rw[Gv l1];rfl
   |true=>rw[q,if_pos rfl] at l1;rw[BX l1];rfl
  |_=>cases e
def DR:D->Bool
 |.tup [.int _,.int b]=>decide (0<=b)
 |_=>false
theorem LK{d:D}(h:Df 2 d=false):DR d=false:=by
 unfold DR
 split
 .cases h
 .rfl
theorem Y5(d:D):DR (VS.age d)=DR d:=by
 cases e:Df 2 d with
 |false=>rw[LK e,LK (by rw[Gh];exact e)]
 |true =>
  obtain⟨a,b,rfl⟩:=Nq e
  simp[VS.age,Bj]
def pairD:D->St2
 |.tup [.int a,.int b]=>(a,b)
 |_=>(0,0)
theorem RM:∀{ds:List D},ds.all DR=true->ds=(ds.map pairD).map Ax
 |[],_=>rfl
 |d::r,h=>by
  rw[U3p,U0m] at h
  rw[U0o,U0o,←RM h.2]
  congr 1
  have h1:=h.1
  unfold DR at h1
  split at h1
  .rfl
  .cases h1
def Nm(l:List St2):Bool:=(l.zip l.tail).all fun q=>decide (q.1.1<q.2.1)&&!decide (q.1.2=q.2.2)
def Qy(l:List St2):Bool:=match l with
 |[]=>true
 |a::r=>!(decide (a.2=0)||!decide (((a::r).getLast?.map (·.2)).getD 0=0))&&Nm (a::r)
def Mp:D->Bool
 |.lst _ ds=>ds.all DR&&Qy (ds.map pairD)
 |_=>false
theorem YM{d:D}(h:MJ d=false):Mp d=false:=by
 cases d with
 |lst m ds=>cases h
 |_=>rfl
end W27
end
section
namespace W27
open PySem L2 VS
theorem jt(xs:List D):cut xs (some 1) none=xs.tail:=by
 cases xs with
 |nil=>rfl
 |cons x r =>
  rw[Wy (by decide) (by simp;omega)]
  rfl
theorem Y9(f:α->D):∀a b:List α,Ft (a.map f) (b.map f)=(a.zip b).map fun q=>D.tup [f q.1,f q.2]
 |[],_=>by simp[Ft]
 |_::_,[]=>by simp[Ft]
 |x::a,y::b=>by
  rw[U0o,U0o,Ft,List.zip_cons_cons,U0o,Y9 f a b]
theorem W9(f:α->D){m:Bool}(l:List α)(r:VS.Env)(S:Store)(k:Nat)(h:r[k]?=some (some (.lst m (l.map f)))):Rm (Aa (Ab k) (Aa (eSl oSl (Ab k) (Bq (eC (.int 1))) CP) Ad)) r S=some (((l.zip l.tail).map fun q=>D.tup [f q.1,f q.2],[]),S):=by
 have v:Ab k r S=some (.lst m (l.map f),S):=by rw[Ez,h];rfl
 have s:eSl oSl (Ab k) (Bq (eC (.int 1))) CP r S=some (.lst true ((l.tail).map f),S):=by
  rw[W4,v]
  show some (D.lst true (cut (l.map f) (some 1) none),S)=_
  rw[jt,List.map_tail]
 have a:Aa (Ab k) (Aa (eSl oSl (Ab k) (Bq (eC (.int 1))) CP) Ad) r S=some ([.lst m (l.map f),.lst true (l.tail.map f)],S):=by rw[BJ,v,U0a,BJ,s];rfl
 rw[fD,a]
 show some ((Ft (l.map f) (l.tail.map f),([]:List (Nat×List D))++[]),S)=_
 rw[Y9];rfl
theorem jX(f:St2->D)(l:List St2)(z:St2):atI ((l++[z]).map f) (-1)=some (f z):=by
 rw[U3h]
 exact Rf (l.map f) (f z)
theorem WY{d:D}(h:See d):Cj [d]=some (.bl (Mp d)):=by
 have i1:=(NP h [] []).2
 unfold Cj
 rw[Ew]
 simp only[U0g,U1b,U0o,U1t,U16,U17,U1c,U1n,if_true]
 unfold Q5
 cases e:MJ d with
 |false =>
  rw[e] at i1
  rw[YM e,Gv (d:=.bl false) (by rw[El (by rw[GQ,Eo,CJ,i1];rfl)];rfl)];rfl
 |true =>
  rw[e] at i1
  cases d with
  |lst m ds =>
   obtain⟨hl,hi⟩:=h.lst
   have e0:Ei (Ab 0) [some (.lst m ds)] []=some ((ds,[]),[]):=rfl
   have c1:HS [some (.lst m ds)] []=some (ds.map fun x=>D.bl (DR x),[]):=by
    unfold HS Ea
    rw[e0]
    simp only[U0a]
    rw[comp_map (by simp) (fun _=>true) (fun x=>D.bl (DR x)) ds [] (by simp;omega),U5l.mpr (by simp)]
    .rfl
    .intro x hx
     refine⟨_,Ed _ _ _,rfl,fun _=>?_⟩
     have hx':=hi x hx
     have c:Bp Di (Aa (Ab 0) (Aa (eC (.int 2)) Ad)) [some x] []=some (.bl (Df 2 x),[]) :=
      Dv (ds:=[x,.int 2]) (es:=[VS.age x,.int 2]) rfl (hx'.two 2) (by rw[Bj,Bj,Bj,VS.age]) (by rw[show(D.int 2)=D.int ((2:Nat):Int) from rfl,Uh hx'.age 2,Gh])
     show JQ _ _ [some x] []=_
     rw[Jd,c]
     cases e:Df 2 x with
     |false=>rw[LK e];rfl
     |true =>
      obtain⟨u,v,rfl⟩:=Nq e
      rfl
   have a2:eCB GC (Aa (Am HS) Ad) [some (.lst m ds)] []=some (.bl (ds.all DR),[]):=by
    rw[Fp,BJ,Cg,c1]
    simp only[U0a,G4,W8,U40]
   have tt:VS.tOr (VS.Ga (Bd (eCB Eb (Aa (Ab 0) (Aa (eC (.ty "list")) Ad))))) (VS.Ga (Bd (eCB GC (Aa (Am HS) Ad)))) [some (.lst m ds)] []=some (!ds.all DR,[]):=by
    rw[GQ,Eo,CJ,i1]
    simp only[U0a,U3m,U0w,if_false]
    show VS.Ga _ _ _=_
    rw[Eo,CJ,a2];rfl
   show _=some (D.bl (ds.all DR&&Qy (ds.map pairD)))
   cases q:ds.all DR with
   |false =>
    rw[q] at tt
    rw[Gv (d:=.bl false) (by rw[El tt];rfl)];rfl
   |true =>
    rw[q] at tt
    rw[BX (by rw[G9 tt];rfl)]
    have hd:=RM q
    generalize ds.map pairD=l at hd ⊢
    subst hd
    rw[U0e] at hl
    have t2:Bd (eOp (oEq false) (eCB Ej (Aa (Ab 0) Ad)) (eC (.int 0))) [some (.lst m (l.map Ax))] []=some (decide ((l.length:Int)=0),[]):=by
     show some ((false ^^ decide ((((l.map Ax).length:Nat):Int)=0)),_)=_
     rw[U5,U0e]
    cases l with
    |nil=>rw[Gv (d:=.bl true) (by rw[El (by rw[t2];rfl)];rfl)];rfl
    |cons a r =>
     rw[BX (by rw[G9 (by rw[t2,decide_eq_false (by simp;omega)])];rfl)]
     obtain⟨b,z,hz⟩:∃(b:List St2)(z:St2),a::r=b++[z]:=by
      rcases U4g (a::r) with k|⟨b,z,k⟩
      .simp at k
      .exact⟨b,z,by rw[k,U4h]⟩
     have t3:Bd (eOp (oEq false) (eOp oIx (eOp oIx (Ab 0) (eC (.int 0))) (eC (.int 1))) (eC (.int 0))) [some (.lst m ((a::r).map Ax))] []=some (decide (a.2=0),[]):=by
      have a3:eOp oIx (Ab 0) (eC (.int 0)) [some (.lst m ((a::r).map Ax))] []=some (Ax a,[]):=by
       show U06 _ (atI ((a::r).map Ax) ((0:Nat):Int))=_
       rw[Le (v:=Ax a) rfl];rfl
      have a5:eOp oIx (eOp oIx (Ab 0) (eC (.int 0))) (eC (.int 1)) [some (.lst m ((a::r).map Ax))] []=some (.int a.2,[]):=by rw[Bb,a3];rfl
      rw[CJ,Bb,a5]
      show some ((false ^^ decide (a.2=0)),_)=_
      rw[U5]
     have t4:Bd (eOp (oEq true) (eOp oIx (eOp oIx (Ab 0) (eUn Cw (eC (.int 1)))) (eC (.int 1))) (eC (.int 0))) [some (.lst m ((a::r).map Ax))] []=some (!decide (z.2=0),[]):=by
      have a3:eOp oIx (Ab 0) (eUn Cw (eC (.int 1))) [some (.lst m ((a::r).map Ax))] []=some (Ax z,[]):=by
       show U06 _ (atI ((a::r).map Ax) (-1))=_
       rw[hz,jX];rfl
      have a5:eOp oIx (eOp oIx (Ab 0) (eUn Cw (eC (.int 1)))) (eC (.int 1)) [some (.lst m ((a::r).map Ax))] []=some (.int z.2,[]):=by rw[Bb,a3];rfl
      rw[CJ,Bb,a5]
      show some ((true ^^ decide (z.2=0)),_)=_
      rw[U5i]
     have lz:((a::r).getLast?.map (·.2)).getD 0=z.2:=by rw[hz];simp
     have t5:VS.tOr (Bd (eOp (oEq false) (eOp oIx (eOp oIx (Ab 0) (eC (.int 0))) (eC (.int 1))) (eC (.int 0)))) (Bd (eOp (oEq true) (eOp oIx (eOp oIx (Ab 0) (eUn Cw (eC (.int 1)))) (eC (.int 1))) (eC (.int 0)))) [some (.lst m ((a::r).map Ax))] []=some (decide (a.2=0)||!decide (z.2=0),[]):=by
      rw[GQ,t3]
      simp only[U0a,t4]
      cases decide (a.2=0)<;>rfl
     have c2:JH [some (.lst m ((a::r).map Ax))] []=some (((a::r).zip (a::r).tail).map fun q=>D.bl (decide (q.1.1<q.2.1)&&!decide (q.1.2=q.2.2)),[]):=by
      have e:=W9 Ax (m:=m) (a::r) [some (.lst m ((a::r).map Ax))] [] 0 rfl
      unfold JH Ea
      rw[e]
      simp only[U0a]
      have hz:((a::r).zip (a::r).tail).length<=(a::r).length:=by rw[List.length_zip];omega
      rw[QT (by simp) (fun q:St2×St2=>D.tup [Ax q.1,Ax q.2]) (fun q=>.bl (decide (q.1.1<q.2.1)&&!decide (q.1.2=q.2.2))) ((a::r).zip (a::r).tail) (by omega)]
      intro q hq
      have a1:eOp oLt (eOp oIx (Ab 0) (eC (.int 0))) (eOp oIx (Ab 1) (eC (.int 0))) [some (Ax q.1),some (Ax q.2)] []=some (.bl (decide (q.1.1<q.2.1)),[]):=rfl
      have a2:eOp (oEq true) (eOp oIx (Ab 0) (eC (.int 1))) (eOp oIx (Ab 1) (eC (.int 1))) [some (Ax q.1),some (Ax q.2)] []=some (.bl (true ^^ decide (q.1.2=q.2.2)),[]):=rfl
      rw[U5i] at a2
      refine⟨[some (Ax q.1),some (Ax q.2)],by simp[Qz,Ed,Vr,RL,Pj,U0t,-U09,-U1r],?_⟩
      rw[Jd,a1]
      simp only[U0a]
      cases decide (q.1.1<q.2.1) with
      |false=>rfl
      |true=>exact a2
     have a6:eCB GC (Aa (Am JH) Ad) [some (.lst m ((a::r).map Ax))] []=some (.bl (Nm (a::r)),[]):=by
      rw[Fp,BJ,Cg,c2]
      simp only[U0a,G4]
      show U06 _ (U06 _ (GC.boolsOf (((a::r).zip (a::r).tail).map fun q=>D.bl (decide (q.1.1<q.2.1)&&!decide (q.1.2=q.2.2)))))=_
      have:=Qw (((a::r).zip (a::r).tail).map fun q=>decide (q.1.1<q.2.1)&&!decide (q.1.2=q.2.2))
      rw[U09] at this
      have this:GC.boolsOf (((a::r).zip (a::r).tail).map fun q=>D.bl (decide (q.1.1<q.2.1)&&!decide (q.1.2=q.2.2)))=_:=this
      rw[this,U40,U40,U4b];rfl
     show _=some (D.bl (true&&(!(decide (a.2=0)||!decide (((a::r).getLast?.map (·.2)).getD 0=0))&&Nm (a::r))))
     rw[lz]
     cases q5:(decide (a.2=0)||!decide (z.2=0)) with
     |true =>
      rw[q5] at t5
      rw[Gv (d:=.bl false) (by rw[El t5];rfl)];rfl
     |false =>
      rw[q5] at t5
      rw[BX (by rw[G9 t5];rfl),DQ,a6];rfl
  |_=>cases e
end W27
end
section
namespace W27
open PySem L2 VS
theorem Qt:∀a b:List Int,PyData.eqvAll (a.map U4n) (b.map U4n)=decide (a=b)
 |[],[]=>rfl
 |[],_::_=>rfl
 |_::_,[]=>rfl
 |x::a,y::b=>by
  rw[U0o,U0o,PyData.eqvAll,Qt a b]
  show(decide (x=y)&&_)=_
  by_cases h:x=y
  .subst h
   simp
  .simp[h]
theorem Wc(S:Store)(m:Bool)(ns:List Int):Cv S (.lst m (ns.map .int))=some (.list (ns.map .int)):=by
 have hf:Dj (ns.map D.int)=true:=Jh _ fun _ _=>rfl
 have ht:Dt (ns.map D.int)=some (ns.map U4n):=WT ns fun _ _=>rfl
 rw[Cv,den,FW 0 S (DX hf)]
 show toP (.lst m (ns.map D.int))=_
 rw[toP,ht];rfl
theorem Ws(ns:List Int):lev 1 (.list (ns.map U4n))=true:=by
 show(ns.map U4n).all (lev 0)=true
 rw[U4b,U15]
 exact fun _ _=>rfl
theorem Yr(neg:Bool)(S:Store)(m1 m2:Bool)(a b:List Int):oEq neg S (.lst m1 (a.map .int)) (.lst m2 (b.map .int))=some (.bl (neg ^^ decide (a=b))):=by
 show eqP neg S (.lst m1 (a.map .int)) (.lst m2 (b.map .int))=_
 unfold eqP
 rw[Wc,Wc]
 simp only[U0a]
 rw[O6 (Ws a) (by decide),O6 (Ws b) (by decide)]
 show some (D.bl (neg ^^ PyData.eqvAll (a.map U4n) (b.map U4n)))=_
 rw[Qt]
def Ks(l:List St2):Bool:=(l.zip l.tail).all fun q=>decide (q.1.1<q.2.1)
def unlike(l:List Int):Bool:=(l.zip l.tail).all fun q=>!decide (q.1=q.2)
theorem dR:∀l:List St2,Ks l=decide (l.map (·.1)=Dr (l.map (·.1))):=by
 intro l
 have key:∀l:List St2,Ks l=true↔(l.map (·.1)).Pairwise (·<·):=by
  intro l
  induction l with
  |nil=>simp[Ks]
  |cons a r ih =>
   cases r with
   |nil=>simp[Ks]
   |cons b r =>
    have e:Ks (a::b::r)=(decide (a.1<b.1)&&Ks (b::r)):=rfl
    rw[e,U0m,decide_eq_true_eq,ih]
    simp only[U0o,U27]
    constructor
    .rintro⟨h1,h2,h3⟩
     refine⟨fun x hx=>?_,h2,h3⟩
     rcases U0k.mp hx with rfl|hx
     .exact h1
     .have:=h2 x hx;omega
    .rintro⟨h1,h2,h3⟩
     exact⟨h1 _ U0s,h2,h3⟩
 rw[U3f,key,decide_eq_true_eq]
 constructor
 .intro h
  exact Ul h (O4 _) fun x=>aq.symm
 .intro h
  rw[h]
  exact O4 _
theorem aZ:∀(a:St2)(r:List St2),unlike ((a::r).map (·.2))=(((a::r).zip r).all fun q=>!decide (q.1.2=q.2.2)):=by
 intro a r
 unfold unlike
 rw[U0o,List.tail_cons,←U0o (f:=fun p:St2=>p.2),List.zip_map,U4b]
 rfl
theorem dJ(l:List St2):Qy l=(!(!decide (l.map (·.1)=Dr (l.map (·.1)))||!decide ((0::l.map (·.2)).getLast?.getD 0=0))&&unlike (0::l.map (·.2))):=by
 rw[←dR]
 cases l with
 |nil=>rfl
 |cons a r =>
  have e1:Nm (a::r)=(Ks (a::r)&&unlike ((a::r).map (·.2))):=by
   rw[aZ]
   unfold Nm Ks
   rw[List.tail_cons]
   induction (a::r).zip r with
   |nil=>rfl
   |cons q t ih =>
    rw[U3p,U3p,U3p,ih]
    cases decide (q.1.1<q.2.1)<;>cases decide (q.1.2=q.2.2)<;>simp
  have e2:unlike (0::(a::r).map (·.2))=(!decide (0=a.2)&&unlike ((a::r).map (·.2))):=rfl
  have e3:(0::(a::r).map (·.2)).getLast?.getD 0=((a::r).getLast?.map (·.2)).getD 0:=by
   rw[U0o,List.getLast?_cons_cons,←U0o (f:=fun p:St2=>p.2),List.getLast?_map]
  show(!(decide (a.2=0)||!decide (((a::r).getLast?.map (·.2)).getD 0=0))&&Nm (a::r))=_
  rw[e1,e2,e3,show decide (0=a.2)=decide (a.2=0) from decide_eq_decide.mpr ⟨Eq.symm,Eq.symm⟩]
  cases decide (a.2=0)<;>cases decide (((a::r).getLast?.map (·.2)).getD 0=0)<;>cases Ks (a::r)<;>cases unlike ((a::r).map (·.2))<;>rfl
theorem bM{d:D}(h:See d)(hf:∀m ds,d=.lst m ds->ds.length<64):Cy [d]=some (.bl (Mp d)):=by
 have i1:=(NP h [] [none,none,none]).2
 unfold Cy
 rw[Ew]
 simp only[U0g,U1b,U0o,U1t,U16,U17,U0t,U1c,U1y,U1z,if_true]
 unfold M5
 cases e:MJ d with
 |false =>
  rw[e] at i1
  rw[YM e,Gv (d:=.bl false) (by rw[El (by rw[Eo,CJ,i1];rfl)];rfl)];rfl
 |true =>
  rw[e] at i1
  rw[BX (by rw[G9 (by rw[Eo,CJ,i1];rfl)];rfl)]
  cases d with
  |lst m ds =>
   obtain⟨_,hi⟩:=h.lst
   have hl:=hf m ds rfl
   obtain⟨y',sc⟩:=scan (g:=Pat.sem (.nm 1)) (b:=Ir) DR (.bl false) (fun y=>[some (.lst m ds),y,none,none]) [] (fun x y=>Ed _ _ _) ds none fun x hx=>by
    have hx':=hi x hx
    have c:Bp CN (Aa (Ab 1) (Aa (eC (.int 2)) Ad)) [some (.lst m ds),some x,none,none] []=some (.bl (Df 2 x),[]) :=
     Dv (ds:=[x,.int 2]) (es:=[VS.age x,.int 2]) rfl (hx'.two 2) (by rw[Bj,Bj,Bj,VS.age]) (by rw[show(D.int 2)=D.int ((2:Nat):Int) from rfl,SQ hx'.age 2,Gh])
    unfold Ir
    cases e:Df 2 x with
    |false =>
     rw[e] at c
     rw[LK e,El (by rw[GQ,Eo,CJ,c];rfl)];rfl
    |true =>
     rw[e] at c
     obtain⟨u,v,rfl⟩:=Nq e
     have a1:Bd (eOp oLt (eOp oIx (Ab 1) (eC (.int 1))) (eC (.int 0))) [some (.lst m ds),some (.tup [.int u,.int v]),none,none] []=some (decide (v<0),[]):=rfl
     have tt:VS.tOr (VS.Ga (Bd (Bp CN (Aa (Ab 1) (Aa (eC (.int 2)) Ad))))) (Bd (eOp oLt (eOp oIx (Ab 1) (eC (.int 1))) (eC (.int 0)))) [some (.lst m ds),some (.tup [.int u,.int v]),none,none] []=some (decide (v<0),[]):=by
      rw[GQ,Eo,CJ,c]
      simp only[U0a,U3m,U0w,if_false]
      exact a1
     have hv:DR (.tup [.int u,.int v])=!decide (v<0):=by
      show decide (0<=v)=_
      rw[←decide_not];exact decide_eq_decide.mpr (by omega)
     rw[hv]
     cases q:decide (v<0) with
     |false=>rw[q] at tt;rw[G9 tt];rfl
     |true=>rw[q] at tt;rw[El tt];rfl
   have l1:Ip [some (.lst m ds),none,none,none] []=if ds.all DR=true then some (.nx,[some (.lst m ds),y',none,none],[]) else some (.ret (.bl false),[some (.lst m ds),y',none,none],[]):=by
    unfold Ip
    rw[IV]
    exact sc
   show _=some (D.bl (ds.all DR&&Qy (ds.map pairD)))
   cases q:ds.all DR with
   |false=>rw[q,if_neg (by decide)] at l1;rw[Gv l1];rfl
   |true =>
    rw[q,if_pos rfl] at l1
    rw[BX l1]
    have hd:=RM q
    generalize ds.map pairD=l at hd ⊢
    subst hd
    rw[U0e] at hl
    have c1:Gp [some (.lst m (l.map Ax)),y',none,none] []=some ((l.map (·.2)).map .int,[]):=by
     have e0:Ei (Ab 0) [some (.lst m (l.map Ax)),y',none,none] []=some ((l.map Ax,[]),[]):=rfl
     unfold Gp Ea
     rw[e0]
     simp only[U0a]
     rw[QT (by simp) Ax (fun p=>.int p.2) l (by omega),U09]
     .rfl
     .intro p _
      exact⟨_,Ed _ _ _,rfl⟩
    have c2:Gn [some (.lst m (l.map Ax)),y',some (.lst true ((0::l.map (·.2)).map .int)),none] []=some ((l.map (·.1)).map .int,[]):=by
     have e0:Ei (Ab 0) [some (.lst m (l.map Ax)),y',some (.lst true ((0::l.map (·.2)).map .int)),none] []=some ((l.map Ax,[]),[]):=rfl
     unfold Gn Ea
     rw[e0]
     simp only[U0a]
     rw[QT (by simp) Ax (fun p=>.int p.1) l (by omega),U09]
     .rfl
     .intro p _
      exact⟨_,Ed _ _ _,rfl⟩
    have s2:(BR 2 (eOp Aw (Am (Aa (eC (.int 0)) Ad)) (Am Gp))) [some (.lst m (l.map Ax)),y',none,none] []=some (.nx,[some (.lst m (l.map Ax)),y',some (.lst true ((0::l.map (·.2)).map .int)),none],[]):=by
     rw[Br,add_lists (xs:=[.int 0]) (ys:=(l.map (·.2)).map .int) rfl (by rw[Cg,c1];rfl) (by simp;omega)];rfl
    have s3:(BR 3 (Am Gn)) [some (.lst m (l.map Ax)),y',some (.lst true ((0::l.map (·.2)).map .int)),none] []=some (.nx,[some (.lst m (l.map Ax)),y',some (.lst true ((0::l.map (·.2)).map .int)),some (.lst true ((l.map (·.1)).map .int))],[]):=by
     rw[Br,Cg,c2];rfl
    rw[BX s2,BX s3,dJ l]
    obtain⟨r,hr⟩:∃r:VS.Env,r=[some (.lst m (l.map Ax)),y',some (.lst true ((0::l.map (·.2)).map .int)),some (.lst true ((l.map (·.1)).map .int))]:=⟨_,rfl⟩
    rw[←hr]
    have v3:Ab 3 r []=some (.lst true ((l.map (·.1)).map .int),[]):=by rw[hr];rfl
    have v2:Ab 2 r []=some (.lst true ((0::l.map (·.2)).map .int),[]):=by rw[hr];rfl
    have so:K6 (Ab 3) r []=some (.lst true ((Dr (l.map (·.1))).map .int),[]):=by
     have q:=(SetP.HJ (l.map (·.1))).2.1
     rw[U0e] at q
     rw[Y4,v3]
     show((intsOf ((l.map (·.1)).map D.int)).bind fun ns=>if ns.length<1000/\(SetP.once ns).length<64 then some (D.lst true ((Dr ns).map .int),([]:Store)) else none)=_
     rw[O7,U0a,if_pos ⟨by rw[U0e];omega,by omega⟩]
    have t1:Bd (eOp (oEq true) (Ab 3) (K6 (Ab 3))) r []=some (!decide (l.map (·.1)=Dr (l.map (·.1))),[]):=by
     rw[CJ,Bb,v3,U0a,so,U0a,Yr,U5i];rfl
    obtain⟨b,z,hz⟩:∃(b:List Int)(z:Int),0::l.map (·.2)=b++[z]:=by
     rcases U4g (0::l.map (·.2)) with k|⟨b,z,k⟩
     .simp at k
     .exact⟨b,z,by rw[k,U4h]⟩
    have lz:(0::l.map (·.2)).getLast?.getD 0=z:=by rw[hz];simp
    have t2:Bd (eOp (oEq true) (eOp oIx (Ab 2) (eUn Cw (eC (.int 1)))) (eC (.int 0))) r []=some (!decide (z=0),[]):=by
     have a3:eOp oIx (Ab 2) (eUn Cw (eC (.int 1))) r []=some (.int z,[]):=by
      rw[Bb,v2]
      show U06 _ (atI ((0::l.map (·.2)).map D.int) (-1))=_
      rw[hz,U3h]
      show U06 _ (atI (b.map D.int++[D.int z]) (-1))=_
      rw[Rf];rfl
     rw[CJ,Bb,a3]
     show some ((true ^^ decide (z=0)),_)=_
     rw[U5i]
    have t3:VS.tOr (Bd (eOp (oEq true) (Ab 3) (K6 (Ab 3)))) (Bd (eOp (oEq true) (eOp oIx (Ab 2) (eUn Cw (eC (.int 1)))) (eC (.int 0)))) r []=some (!decide (l.map (·.1)=Dr (l.map (·.1)))||!decide (z=0),[]):=by
     rw[GQ,t1]
     simp only[U0a,t2]
     cases decide (l.map (·.1)=Dr (l.map (·.1)))<;>rfl
    have c3:Gm r []=some ((((0::l.map (·.2)).zip (0::l.map (·.2)).tail).filter fun q=>decide (q.1=q.2)).map fun _=>D.int 1,[]):=by
     have e:=W9 D.int (m:=true) (0::l.map (·.2)) r [] 2 (by rw[hr];rfl)
     unfold Gm Ea
     rw[e]
     simp only[U0a]
     have hz:((0::l.map (·.2)).zip (0::l.map (·.2)).tail).length<=l.length+1:=by rw[List.length_zip];simp
     rw[QV (by simp) (fun q:Int×Int=>D.tup [.int q.1,.int q.2]) (fun q=>decide (q.1=q.2)) (fun _=>D.int 1) ((0::l.map (·.2)).zip (0::l.map (·.2)).tail) [] (by simp at *;omega)]
     .rfl
     .intro q _
      refine⟨[some (.int q.1),some (.int q.2)],by simp[Qz,Ed,Vr,RL,Pj,U0t,-U09,-U1r],?_,fun _=>rfl⟩
      show some ((false ^^ decide (q.1=q.2)),_)=_
      rw[U5]
    have hu:(((0::l.map (·.2)).zip (0::l.map (·.2)).tail).filter fun q=>decide (q.1=q.2)).isEmpty=unlike (0::l.map (·.2)):=by
     unfold unlike
     rw[U3f,List.isEmpty_iff,U42,U15]
     simp
    rw[lz]
    cases q3:(!decide (l.map (·.1)=Dr (l.map (·.1)))||!decide (z=0)) with
    |true =>
     rw[q3] at t3
     rw[Gv (d:=.bl false) (by rw[El t3];rfl)];rfl
    |false =>
     rw[q3] at t3
     have fz:∀n:Nat,oEq false [] (.lst true ((U0q n (1:Int)).map .int)) (.lst true [])=some (.bl (decide (n=0))):=fun n=>by
      have:=Yr false [] true true (U0q n 1) []
      rw[U5,show decide (U0q n (1:Int)=[])=decide (n=0) from decide_eq_decide.mpr (by simp)] at this
      exact this
     have c4:Am Gm r []=some (.lst true ((U0q (((0::l.map (·.2)).zip (0::l.map (·.2)).tail).filter fun q=>decide (q.1=q.2)).length (1:Int)).map .int),[]):=by
      rw[Cg,c3]
      show some (D.lst true _,([]:Store))=_
      rw[List.map_replicate]
      congr 3
      exact List.map_const' ..
     rw[BX (by rw[G9 t3];rfl),DQ,Bb,c4]
     show(((oEq false [] (.lst true ((U0q _ (1:Int)).map .int)) (.lst true [])).map _).bind _).bind _=_
     rw[fz,←hu]
     show some (D.bl (decide (_=0)))=some (D.bl (true&&_))
     rw[U34]
     congr 2
     cases ((0::l.map (·.2)).zip (0::l.map (·.2)).tail).filter fun q=>decide (q.1=q.2)<;>rfl
  |_=>cases e
end W27
end
section
namespace W27
open PySem L2 VS
structure Th(d:D):Prop where
 see:See d
 few:∀m ds,d=.lst m ds->ds.length<64
theorem Th.age{d:D}(h:Th d):Th (VS.age d):=⟨h.see.age,fun m ds e=>by
 cases d with
 |lst m' es =>
  rw[VS.age,Lw] at e
  cases e
  rw[U0e]
  exact h.few m' es rfl
 |_=>rw[VS.age] at e<;>cases e⟩
theorem N5(d:D):HY (VS.age d)=HY d:=by
 cases d with
 |lst m ds =>
  rw[VS.age,Lw]
  show(ds.map VS.age).all Et=ds.all Et
  rw[U4b]
  show(ds.all fun x=>Et (VS.age x))=_
  simp only[Sg]
 |_=>rw[VS.age]<;>rfl
theorem bJ(d:D):pairD (VS.age d)=pairD d:=by
 cases e:Df 2 d with
 |true =>
  obtain⟨a,b,rfl⟩:=Nq e
  simp[VS.age,Bj]
 |false =>
  have no:∀d:D,Df 2 d=false->pairD d=(0,0):=fun d h=>by
   unfold pairD
   split
   .cases h
   .rfl
  rw[no d e,no _ (by rw[Gh];exact e)]
theorem R7(d:D):Mp (VS.age d)=Mp d:=by
 cases d with
 |lst m ds =>
  rw[VS.age,Lw]
  show((ds.map VS.age).all DR&&Qy ((ds.map VS.age).map pairD))=_
  rw[U4b,U09]
  show((ds.all fun x=>DR (VS.age x))&&Qy (ds.map fun x=>pairD (VS.age x)))=_
  simp only[Y5,bJ];rfl
 |_=>rw[VS.age]<;>rfl
theorem YZ(S:Store)(a b:Bool):FN S [.lst true [.bl a,.bl b]]=some (.str (U47 (.list [.bool a,.bool b]))) :=
 YX (p:=.list [.bool a,.bool b]) (ws:=[2]) (by simp[Cv,den,Dl,toP,Dt]) (by simp[fit,K1]) (by decide) (by decide)
theorem dW{d:D}(h:Th d):Ep [d]=some (.bl true):=by
 obtain⟨x,hx⟩:=h.see.repr []
 have s1:(BR 1 (eCB FN (Aa (Ab 0) Ad))) [some d,none,none,none] []=some (.nx,[some d,some (.str x),none,none],[]):=by
  have:eCB FN (Aa (Ab 0) Ad) [some d,none,none,none] []=some (.str x,[]):=by
   show U06 _ (FN [] [d])=_
   rw[hx];rfl
  rw[Br,this];rfl
 have b1:∀(e2 z3:Option D),Jw [some d,some (.str x),e2,z3] []=some (.nx,[some d,some (.str x),e2,some (.lst true [.bl (HY d),.bl (Mp d)])],[]):=fun e2 z3=>by
  have ca:∀z3:Option D,Bp Ck (Aa (Ab 0) Ad) [some d,some (.str x),e2,z3] []=some (.bl (HY d),[]):=fun z3=>Dv (ds:=[d]) (es:=[VS.age d]) rfl h.see.one (by rw[Bj,Bj]) (by rw[Qm h.see.age,N5])
  have cb:∀z3:Option D,Bp Cj (Aa (Ab 0) Ad) [some d,some (.str x),e2,z3] []=some (.bl (Mp d),[]):=fun z3=>Dv (ds:=[d]) (es:=[VS.age d]) rfl h.see.one (by rw[Bj,Bj]) (by rw[WY h.see.age,R7])
  have cc:∀z3:Option D,Bp Cz (Aa (Ab 0) Ad) [some d,some (.str x),e2,z3] []=some (.bl (HY d),[]):=fun z3=>Dv (ds:=[d]) (es:=[VS.age d]) rfl h.see.one (by rw[Bj,Bj]) (by rw[XQ h.see.age,N5])
  have cd:∀z3:Option D,Bp Cy (Aa (Ab 0) Ad) [some d,some (.str x),e2,z3] []=some (.bl (Mp d),[]):=fun z3=>Dv (ds:=[d]) (es:=[VS.age d]) rfl h.see.one (by rw[Bj,Bj]) (by rw[bM h.see.age h.age.few,R7])
  generalize HY d=u at *
  generalize Mp d=v at *
  have s2:(BR 3 (Am (Aa (Bp Ck (Aa (Ab 0) Ad)) (Aa (Bp Cj (Aa (Ab 0) Ad)) Ad)))) [some d,some (.str x),e2,z3] []=some (.nx,[some d,some (.str x),e2,some (.lst true [.bl u,.bl v])],[]):=by
   rw[Br,Cg,BJ,ca,U0a,BJ,cb];rfl
  have d1:eCB FN (Aa (Ab 3) Ad) [some d,some (.str x),e2,some (.lst true [.bl u,.bl v])] []=some (.str (U47 (.list [.bool u,.bool v])),[]):=by
   show U06 _ (FN [] [.lst true [.bl u,.bl v]])=_
   rw[YZ];rfl
  have d2:eCB FN (Aa (Am (Aa (Bp Cz (Aa (Ab 0) Ad)) (Aa (Bp Cy (Aa (Ab 0) Ad)) Ad))) Ad) [some d,some (.str x),e2,some (.lst true [.bl u,.bl v])] []=some (.str (U47 (.list [.bool u,.bool v])),[]):=by
   rw[Fp,BJ,Cg,BJ,cc,U0a,BJ,cd]
   show U06 _ (FN [] [.lst true [.bl u,.bl v]])=_
   rw[YZ];rfl
  have d3:eCB FN (Aa (Ab 0) Ad) [some d,some (.str x),e2,some (.lst true [.bl u,.bl v])] []=some (.str x,[]):=by
   show U06 _ (FN [] [d])=_
   rw[hx];rfl
  have v1:Ab 1 [some d,some (.str x),e2,some (.lst true [.bl u,.bl v])] []=some (.str x,[]):=rfl
  have k1:Bd (eOp (Ol true) (eCB FN (Aa (Ab 3) Ad)) (eCB FN (Aa (Am (Aa (Bp Cz (Aa (Ab 0) Ad)) (Aa (Bp Cy (Aa (Ab 0) Ad)) Ad))) Ad))) [some d,some (.str x),e2,some (.lst true [.bl u,.bl v])] []=some (false,[]):=by
   rw[CJ,Bb,d1,U0a,d2,U0a]
   simp[Ol]
  have k2:Bd (eOp (Ol true) (eCB FN (Aa (Ab 0) Ad)) (Ab 1)) [some d,some (.str x),e2,some (.lst true [.bl u,.bl v])] []=some (false,[]):=by
   rw[CJ,Bb,d3,U0a,v1,U0a]
   simp[Ol]
  unfold Jw
  rw[BX s2,G9 (by
   rw[GQ,k1]
   simp only[U0a,U0w,if_false]
   exact k2)]
  rfl
 have er:Ie (Aa (eC (.int 2)) Ad) [some d,some (.str x),none,none] []=some ((upD 0 2,[]),[]):=Vp (j:=2) 2 rfl (by decide) (by decide) (by decide)
 obtain⟨env',S',e3,y2,y3,he,hS⟩:=JZ (w:=[]) (g:=Pat.sem (.nm 2)) (b:=Jw) (ds:=upD 0 2) (env:=[some d,some (.str x),none,none]) (S:=[])
  (fun _ env S=>∃(y2 y3:Option D),env=[some d,some (.str x),y2,y3]/\S=[]) ⟨none,none,rfl,rfl⟩ (fun i env S _=>by simp) (fun i e env S hd q=>by
   obtain⟨y2,y3,he,hS⟩:=q
   subst he hS
   exact⟨_,Ed _ _ _,_,_,b1 _ _,_,_,rfl,rfl⟩)
 subst he hS
 have l1:Ly [some d,some (.str x),none,none] []=some (.nx,[some d,some (.str x),y2,y3],[]):=by
  unfold Ly
  rw[IV,er]
  exact e3
 unfold Ep
 rw[Ew]
 simp only[U0g,U1b,U0o,U1t,U16,U17,U0t,U1c,U1y,U1z,if_true]
 unfold Qo
 rw[BX s1,BX l1];rfl
end W27
end
section
namespace W27
open PySem L2 VS
structure Lf(ws:List Nat)(d:D):Prop where
 pu:BK d=true
 sh:∃p,toP d=some p/\fit ws p=true
theorem Lf.int{ws:List Nat}{i:Int}(h:i.natAbs<10^41):Lf ws (.int i):=⟨by rw[BK]<;>(intro _<;>intros<;>contradiction),.int i,by rw[toP],by cases ws<;>exact decide_eq_true h⟩
theorem Lf.bl{ws:List Nat}(b:Bool):Lf ws (.bl b):=⟨by simp[BK],.bool b,by rw[toP],by cases ws<;>rfl⟩
theorem Lf.non{ws:List Nat}:Lf ws .non:=⟨by simp[BK],.none,by rw[toP],by cases ws<;>rfl⟩
theorem RG:∀{ds:List D},(∀d∈ds,BK d=true)->BZ ds=true
 |[],_=>by rw[BZ]
 |d::r,h=>by rw[BZ,h d U0s,RG fun x hx=>h x (U0p _ hx)];rfl
theorem Tj{ws:List Nat}:∀{ds:List D},(∀d∈ds,Lf ws d)->∃ps,Dt ds=some ps/\ps.length=ds.length/\∀p∈ps,fit ws p=true
 |[],_=>⟨[],by rw[Dt],rfl,fun p hp=>by cases hp⟩
 |d::r,h=>by
  obtain⟨ps,h1,h2,h3⟩:=Tj fun x hx=>h x (U0p _ hx)
  obtain⟨p,g1,g2⟩:=(h d U0s).sh
  refine⟨p::ps,by rw[Dt,g1,U0a,h1];rfl,by simp[h2],fun q hq=>?_⟩
  rcases U0k.mp hq with rfl|hq
  .exact g2
  .exact h3 q hq
theorem Lf.tup{ws:List Nat}{w:Nat}{ds:List D}(hl:ds.length<=w)(h:∀d∈ds,Lf ws d):Lf (w::ws) (.tup ds):=by
 obtain⟨ps,h1,h2,h3⟩:=Tj h
 refine⟨by rw[BK];exact RG fun d hd=>(h d hd).pu,.tuple ps,by rw[toP,h1];rfl,(Yq ws w ps (by omega) h3).2⟩
theorem Lf.lst{ws:List Nat}{w:Nat}{m:Bool}{ds:List D}(hl:ds.length<=w)(h:∀d∈ds,Lf ws d):Lf (w::ws) (.lst m ds):=by
 obtain⟨ps,h1,h2,h3⟩:=Tj h
 refine⟨by rw[BK];exact RG fun d hd=>(h d hd).pu,.list ps,by rw[toP,h1];rfl,(Yq ws w ps (by omega) h3).1⟩
theorem Lf.see{ws:List Nat}{d:D}(h:Lf ws d)(h1:ws.length<=50)(h2:bnd ws<=1000000):See d:=by
 obtain⟨p,e1,e2⟩:=h.sh
 exact⟨h.pu,p,ws,e1,e2,h1,h2⟩
theorem Ht{m:Bool}{ds:List D}(hl:ds.length<=62)(h:∀d∈ds,Lf [4,3,1] d):Th (.lst m ds):=⟨(Lf.lst (w:=62) hl h).see (by decide) (by decide),fun m' es e=>by cases e;omega⟩
theorem mq{ds:List D}(hl:ds.length<=62)(h:∀d∈ds,Lf [4,3,1] d):Th (.tup ds):=⟨(Lf.tup (w:=62) hl h).see (by decide) (by decide),fun m' es e=>by cases e⟩
def Mq:List D:=[.non,.bl true,.bl false,.str "",.str "0",.lst true [],.lst true [.int 0],.tup [],.tup [.int 0],.emp,.int 0,.int (-1),.int 4,.int (10^39),.int (-(10^39)),.lst true [.lst true []],.tup [.int 0,.int 0],.tup [.int 0,.int 1,.int 1]]
structure Odd(d:D):Prop where
 th:Th d
 lf:Lf [3,1] d
 it:Lf [4,3,1] d
 inn:∃p,toP d=some p/\okIn p=true
theorem Nf{d:D}(h:d∈Mq):Odd d:=by
 have key:∀(d:D)(p:PyData),BK d=true->toP d=some p->fit [3,1] p=true->fit [4,3,1] p=true->okIn p=true->(∀m ds,d=.lst m ds->ds.length<64)->Odd d:=fun d p h1 h2 h3 h4 h5 h6 =>
  ⟨⟨⟨h1,p,[3,1],h2,h3,by decide,by decide⟩,h6⟩,⟨h1,p,h2,h3⟩,⟨h1,p,h2,h4⟩,p,h2,h5⟩
 have b39:(10^39:Int).natAbs<10^41:=by decide
 have c39:(-(10^39):Int).natAbs<10^41:=by decide
 unfold Mq at h
 simp only[U0k,U1m,or_false] at h
 rcases h with rfl|rfl|rfl|rfl|rfl|rfl|rfl|rfl|rfl|rfl|rfl|rfl|rfl|rfl|rfl|rfl|rfl|rfl
 .exact key _ .none (by simp[BK]) (by simp[toP]) rfl rfl (by decide +kernel) (by intro m ds e;cases e)
 .exact key _ (.bool true) (by simp[BK]) (by simp[toP]) rfl rfl (by decide +kernel) (by intro m ds e;cases e)
 .exact key _ (.bool false) (by simp[BK]) (by simp[toP]) rfl rfl (by decide +kernel) (by intro m ds e;cases e)
 .exact key _ (.str "") (by simp[BK]) (by simp[toP]) (by decide +kernel) (by decide +kernel) (by decide +kernel) (by intro m ds e;cases e)
 .exact key _ (.str "0") (by simp[BK]) (by simp[toP]) (by decide +kernel) (by decide +kernel) (by decide +kernel) (by intro m ds e;cases e)
 .exact key _ (.list []) (by simp[BK,BZ]) (by simp[toP,Dt]) (by decide +kernel) (by decide +kernel) (by decide +kernel) (by intro m ds e;cases e;decide)
 .exact key _ (.list [.int 0]) (by simp[BK,BZ]) (by simp[toP,Dt]) (by decide +kernel) (by decide +kernel) (by decide +kernel) (by intro m ds e;cases e;decide)
 .exact key _ (.tuple []) (by simp[BK,BZ]) (by simp[toP,Dt]) (by decide +kernel) (by decide +kernel) (by decide +kernel) (by intro m ds e;cases e)
 .exact key _ (.tuple [.int 0]) (by simp[BK,BZ]) (by simp[toP,Dt]) (by decide +kernel) (by decide +kernel) (by decide +kernel) (by intro m ds e;cases e)
 .exact key _ (.dict []) (by simp[BK]) (by simp[toP]) (by decide +kernel) (by decide +kernel) (by decide +kernel) (by intro m ds e;cases e)
 .exact key _ (.int 0) (by simp[BK]) (by simp[toP]) (by decide +kernel) (by decide +kernel) (by decide +kernel) (by intro m ds e;cases e)
 .exact key _ (.int (-1)) (by simp[BK]) (by simp[toP]) (by decide +kernel) (by decide +kernel) (by decide +kernel) (by intro m ds e;cases e)
 .exact key _ (.int 4) (by simp[BK]) (by simp[toP]) (by decide +kernel) (by decide +kernel) (by decide +kernel) (by intro m ds e;cases e)
 .exact key _ (.int (10^39)) (by simp[BK]) (by simp[toP]) (decide_eq_true b39) (decide_eq_true b39) (by decide +kernel) (by intro m ds e;cases e)
 .exact key _ (.int (-(10^39))) (by simp[BK]) (by simp[toP]) (decide_eq_true c39) (decide_eq_true c39) (by decide +kernel) (by intro m ds e;cases e)
 .exact key _ (.list [.list []]) (by simp[BK,BZ]) (by simp[toP,Dt]) (by decide +kernel) (by decide +kernel) (by decide +kernel) (by intro m ds e;cases e;decide)
 .exact key _ (.tuple [.int 0,.int 0]) (by simp[BK,BZ]) (by simp[toP,Dt]) (by decide +kernel) (by decide +kernel) (by decide +kernel) (by intro m ds e;cases e)
 .exact key _ (.tuple [.int 0,.int 1,.int 1]) (by simp[BK,BZ]) (by simp[toP,Dt]) (by decide +kernel) (by decide +kernel) (by decide +kernel) (by intro m ds e;cases e)
theorem QX{l:List D}{k:Int}(h0:0<=k)(h1:k<l.length):∃d∈l,atI l k=some d:=by
 have hk:k.toNat<l.length:=by omega
 refine⟨l[k.toNat],U37 hk,?_⟩
 have:=Le (U02 hk)
 rw[show((k.toNat:Nat):Int)=k by omega] at this
 exact this
theorem gD(env:VS.Env)(S:Store):eOp Cm (eC (.int 10)) (eC (.int 39)) env S=some (.int (10^39),S):=by
 have h:Kl 10 (39:Int)=true:=by decide +kernel
 rw[Bb,J8,U0a,J8,U0a]
 show(if Kl 10 (39:Int)=true then some (D.int (10^(39:Int).toNat)) else none).map _=_
 rw[if_pos h];rfl
theorem Vt{a:Az}{env:VS.Env}{S:Store}{i:Int}(h:a env S=some (.int i,S)):eUn Cw a env S=some (.int (-i),S):=by rw[W2,h];rfl
theorem Rv(x y z:Int)(z0:0<=z)(z1:z<10000000):∃(o:D)(x' z':Int),CG [x,y,z] []=some (o,[x',y,z'])/\o∈Mq/\z<=z'/\z'<=z+1:=by
 obtain⟨k,x',z',d1,⟨k0,k1⟩,g1,g2⟩:=Dg x y z 18 (by decide) (by decide) z0 (by omega)
 obtain⟨o,ho,e1⟩:=QX (l:=Mq) k0 (by show k<18;exact k1)
 refine⟨o,x',z',?_,ho,g1,g2⟩
 have s1:(BR 1 (Am (Aa (eC .non) (Aa (eC (.bl true)) (Aa (eC (.bl false)) (Aa (eC (.str "")) (Aa (eC (.str "0")) (Aa (Am Ad) (Aa (Am (Aa (eC (.int 0)) Ad)) (Aa (Ay Ad) (Aa (Ay (Aa (eC (.int 0)) Ad)) (Aa (eC .emp) (Aa (eC (.int 0)) (Aa (eUn Cw (eC (.int 1))) (Aa (eC (.int 4)) (Aa (eOp Cm (eC (.int 10)) (eC (.int 39))) (Aa (eUn Cw (eOp Cm (eC (.int 10)) (eC (.int 39)))) (Aa (Am (Aa (Am Ad) Ad)) (Aa (Ay (Aa (eC (.int 0)) (Aa (eC (.int 0)) Ad))) (Aa (Ay (Aa (eC (.int 0)) (Aa (eC (.int 1)) (Aa (eC (.int 1)) Ad)))) Ad)))))))))))))))))))) [some (.ref 0),none] [some [.int x,.int y,.int z]]=some (.nx,[some (.ref 0),some (.lst true Mq)],[some [.int x,.int y,.int z]]):=by
  have p:=gD [some (.ref 0),none] [some [.int x,.int y,.int z]]
  have n:=Vt p
  have t:(Aa (eOp Cm (eC (.int 10)) (eC (.int 39))) (Aa (eUn Cw (eOp Cm (eC (.int 10)) (eC (.int 39)))) (Aa (Am (Aa (Am Ad) Ad)) (Aa (Ay (Aa (eC (.int 0)) (Aa (eC (.int 0)) Ad))) (Aa (Ay (Aa (eC (.int 0)) (Aa (eC (.int 1)) (Aa (eC (.int 1)) Ad)))) Ad))))) [some (.ref 0),none] [some [.int x,.int y,.int z]]=some ([.int (10^39),.int (-(10^39)),.lst true [.lst true []],.tup [.int 0,.int 0],.tup [.int 0,.int 1,.int 1]],[some [.int x,.int y,.int z]]):=by
   rw[BJ,p,U0a,BJ,n];rfl
  have c:∀(d:D)(a:Bs)(ds:List D)(S:Store)(env:VS.Env)(e:Az),e env S=some (d,S)->a env S=some (ds,S)->Aa e a env S=some (d::ds,S):=fun d a ds S env e h1 h2=>by rw[BJ,h1,U0a,h2];rfl
  rw[Br,Cg,c .non _ _ _ _ _ rfl (c (.bl true) _ _ _ _ _ rfl (c (.bl false) _ _ _ _ _ rfl (c (.str "") _ _ _ _ _ rfl (c (.str "0") _ _ _ _ _ rfl (c (.lst true []) _ _ _ _ _ rfl (c (.lst true [.int 0]) _ _ _ _ _ rfl (c (.tup []) _ _ _ _ _ rfl (c (.tup [.int 0]) _ _ _ _ _ rfl (c .emp _ _ _ _ _ rfl (c (.int 0) _ _ _ _ _ rfl (c (.int (-1)) _ _ _ _ _ rfl (c (.int 4) _ _ _ _ _ rfl t))))))))))))]
  rfl
 have c1:Ak Ai (Aa (Ab 0) (Aa (eC (.int 18)) Ad)) [some (.ref 0),some (.lst true Mq)] [some [.int x,.int y,.int z]]=some (.int k,[some [.int x',.int y,.int z']]):=Dh d1 rfl rfl
 have v1:Ab 1 [some (.ref 0),some (.lst true Mq)] [some [.int x,.int y,.int z]]=some (.lst true Mq,[some [.int x,.int y,.int z]]):=rfl
 have r1:eOp oIx (Ab 1) (Ak Ai (Aa (Ab 0) (Aa (eC (.int 18)) Ad))) [some (.ref 0),some (.lst true Mq)] [some [.int x,.int y,.int z]]=some (o,[some [.int x',.int y,.int z']]):=by
  rw[Bb,v1,U0a,c1,U0a]
  show U06 _ (atI Mq k)=_
  rw[e1];rfl
 unfold CG
 rw[IW]
 simp only[U0g,U1b,U0o,U1t,U16,U17,U0t,U1c,U1y,U1z,if_true]
 unfold Us
 rw[BX s1,DQ,r1]
 have hp:=(Nf ho).lf.pu
 simp only[U0a]
 show((intsOf [D.int x',D.int y,D.int z']).bind fun ms=>(den 1 [some [.int x',.int y,.int z']] o).map fun r=>(r,ms))=_
 rw[Gd 1 _ hp];rfl
end W27
end
section
namespace W27
open PySem L2 VS
def Ao(r:List Int):D:=.tup (r.map .int)
structure Rw(r:List Int):Prop where
 two:2<=r.length
 few:r.length<=3
 near:∀n∈r,-10000000000<=n/\n<=10000000000
theorem QF{n:Int}(h:-100000000000<=n/\n<=100000000000):n.natAbs<10^41:=U4x (m:=100000000000) (by omega) (by decide)
theorem Tw{ws:List Nat}{r:List Int}(h:∀n∈r,-10000000000<=n/\n<=10000000000):∀d∈r.map D.int,Lf ws d:=fun d hd=>by
 obtain⟨n,hn,rfl⟩:=U2u.mp hd
 exact Lf.int (QF (by have:=h n hn;omega))
theorem Vu{r:List Int}(h:Rw r):Lf [4,3,1] (Ao r):=Lf.tup (by rw[U0e];have:=h.few;omega) (Tw h.near)
def bE(RD:List D)(a2 a3 a4 a5 a6 a7 a8 a9 a10:Option D):VS.Env:=[some (.ref 0),some (.lst false RD),a2,a3,a4,a5,a6,a7,a8,a9,a10]
theorem Hf(ds:List D)(a b:Option Int):(cut ds a b).length<=ds.length/\∀d∈cut ds a b,d∈ds:=by
 unfold cut
 exact⟨by rw[U1l,U1w];omega,fun d hd=>List.mem_of_mem_drop (List.mem_of_mem_take hd)⟩
theorem G3{a b:Az}{env:VS.Env}{S:Store}{m1 m2:Bool}{xs ys:List D}(ha:a env S=some (.lst m1 xs,S))(hb:b env S=some (.lst m2 ys,S))(hl:xs.length+ys.length<=1000000):eOp Aw a b env S=some (.lst true (xs++ys),S):=by
 rw[Bb,ha,U0a,hb,U0a]
 show(U06 _ (if xs.length+ys.length<=1000000 then some (D.lst true (xs++ys)) else none))=_
 rw[if_pos hl];rfl
theorem Qa{a b:Az}{env:VS.Env}{S:Store}{xs ys:List D}(ha:a env S=some (.tup xs,S))(hb:b env S=some (.tup ys,S))(hl:xs.length+ys.length<=1000000):eOp Aw a b env S=some (.tup (xs++ys),S):=by
 rw[Bb,ha,U0a,hb,U0a]
 show(U06 _ (if xs.length+ys.length<=1000000 then some (D.tup (xs++ys)) else none))=_
 rw[if_pos hl];rfl
theorem Lj{a:Az}{lo hi:Np}{env:VS.Env}{S:Store}{m:Bool}{xs:List D}{l h:Option Int}(ha:a env S=some (.lst m xs,S))(hl:lo env S=some (l,S))(hh:hi env S=some (h,S)):eSl oSl a lo hi env S=some (.lst true (cut xs l h),S):=by
 rw[W4,ha,U0a,hl,U0a,hh];rfl
theorem Rp{a:Az}{lo hi:Np}{env:VS.Env}{S:Store}{xs:List D}{l h:Option Int}(ha:a env S=some (.tup xs,S))(hl:lo env S=some (l,S))(hh:hi env S=some (h,S)):eSl oSl a lo hi env S=some (.tup (cut xs l h),S):=by
 rw[W4,ha,U0a,hl,U0a,hh];rfl
theorem Ci{e:Az}{a:Bs}{env:VS.Env}{S:Store}{d:D}{ds:List D}(h1:e env S=some (d,S))(h2:a env S=some (ds,S)):Aa e a env S=some (d::ds,S):=by rw[BJ,h1,U0a,h2];rfl
theorem NQ{a:Bs}{env:VS.Env}{S S':Store}{ds:List D}(h:a env S=some (ds,S')):Am a env S=some (.lst true ds,S'):=by rw[Cg,h];rfl
theorem pH{R:List (List Int)}(hR:∀r∈R,Rw r)(hl:R.length<=20)(x y z:Int)(z0:0<=z)(z1:z<1000000):∃(at_ to:Nat)(h:List Int)(t:Int)(o:D)(x' z':Int),at_<=R.length/\Rw h/\to<h.length/\t∈h/\Lf [3,1] o/\z<=z'/\z'<=z+10 /\
  ∀b:Bm,Bh (BR 2 (eOp oIx (Am (Aa (Ak Ai (Aa (Ab 0) (Aa (eOp Aw (eCB Ej (Aa (Ab 1) Ad)) (eC (.int 1))) Ad))) (Aa (eC (.int 0)) (Aa (eCB JB (Aa (eC (.int 0)) (Aa (eOp Jk (eCB Ej (Aa (Ab 1) Ad)) (eC (.int 1))) Ad))) Ad)))) (Ak Ai (Aa (Ab 0) (Aa (eC (.int 3)) Ad)))))
  (Bh (BR 3 (eOp oIx (eOp Aw (Ab 1) (Am (Aa (Ay (Aa (eC (.int 0)) (Aa (eC (.int 1)) (Aa (eC (.int 1)) Ad)))) Ad))) (Ab 2)))
  (Bh (BR 4 (Ak Ai (Aa (Ab 0) (Aa (eCB Ej (Aa (Ab 3) Ad)) Ad))))
  (Bh (BR 5 (eOp oIx (Ab 3) (Ab 4)))
  (Bh (BR 6 (Ak CG (Aa (Ab 0) Ad)))
  (Bh (sIf (Bd (eOp Td (Ab 6) (Ay (Aa (eOp Cm (eC (.int 10)) (eC (.int 39))) (Aa (eUn Cw (eOp Cm (eC (.int 10)) (eC (.int 39)))) Ad)))))
  (BR 6 (eC .non))
  FQ)
  (Bh (BR 6 (Am (Aa (Ab 6) (Aa (eCB J9 (Aa (eOp Cm (eC (.int 10)) (eC (.int 9))) (Aa (eOp Aw (Ab 5) (eC (.int 1))) Ad))) (Aa (eCB JB (Aa (eUn Cw (eOp Cm (eC (.int 10)) (eC (.int 9)))) (Aa (eOp Jk (Ab 5) (eC (.int 1))) Ad))) (Aa (eC (.int 0)) Ad))))))
  (Bh (BR 6 (eOp oIx (eOp Aw (Ab 6) (Am (Aa (eUn Cw (eC (.int 1))) (Aa (eCB QB (Aa (Ab 5) Ad)) (Aa (eOp oIx (Ab 3) (eC (.int 0))) Ad))))) (Ak Ai (Aa (Ab 0) (Aa (eC (.int 7)) Ad)))))
  b))))))) (bE (R.map Ao) none none none none none none none none none) [some [.int x,.int y,.int z]]=b (bE (R.map Ao) (some (.int at_)) (some (Ao h)) (some (.int to)) (some (.int t)) (some o) none none none none) [some [.int x',.int y,.int z']]:=by
 obtain⟨f1,x1,w1,d1,⟨f10,f11⟩,k1,k2⟩:=Dg x y z ((R.length:Int)+1) (by omega) (by omega) z0 (by omega)
 obtain⟨f2,x2,w2,d2,⟨f20,f21⟩,k3,k4⟩:=Dg x1 y w1 3 (by decide) (by decide) (by omega) (by omega)
 obtain⟨at_,ea,ha⟩:∃a:Nat,atI [D.int f1,.int 0,.int (if (0:Int)<(R.length:Int)-1 then (R.length:Int)-1 else 0)] f2=some (.int a)/\a<=R.length:=by
  have:f2=0∨f2=1∨f2=2:=by omega
  rcases this with rfl|rfl|rfl
  .exact⟨f1.toNat,by rw[show((f1.toNat:Nat):Int)=f1 by omega];rfl,by omega⟩
  .exact⟨0,rfl,U2w _⟩
  .refine⟨R.length-1,?_,by omega⟩
   rw[show(((R.length-1:Nat):Int))=(if (0:Int)<(R.length:Int)-1 then (R.length:Int)-1 else 0) by split<;>omega];rfl
 have hA:at_<(R++[[0,1,1]]).length:=by simp;omega
 obtain⟨h,eh,hh⟩:∃h,(R++[[0,1,1]])[at_]?=some h/\Rw h:=by
  refine⟨_,U02 hA,?_⟩
  have:=U37 hA
  rcases U1h.mp this with w|w
  .exact hR _ w
  .rw[U1k.mp w];exact⟨by decide,by decide,by decide⟩
 have two:=hh.two
 have few:=hh.few
 obtain⟨f3,x3,w3,d3,⟨f30,f31⟩,k5,k6⟩:=Dg x2 y w2 (h.length:Int) (by omega) (by omega) (by omega) (by omega)
 have hto:f3.toNat<h.length:=by omega
 obtain⟨t,et,ht⟩:∃t,h[f3.toNat]?=some t/\t∈h:=⟨_,U02 hto,U37 hto⟩
 have bt:=hh.near t ht
 obtain⟨o,x4,w4,d4,ho,k7,k8⟩:=Rv x3 y w3 (by omega) (by omega)
 obtain⟨f5,x5,w5,d5,⟨f50,f51⟩,k9,k10⟩:=Dg x4 y w4 7 (by decide) (by decide) (by omega) (by omega)
 -- the steps
 have v1:∀(a2 a3 a4 a5 a6:Option D)(S:Store),Ab 1 (bE (R.map Ao) a2 a3 a4 a5 a6 none none none none) S=some (.lst false (R.map Ao),S):=fun _ _ _ _ _ _=>rfl
 have ln:∀(S:Store),eCB Ej (Aa (Ab 1) Ad) (bE (R.map Ao) none none none none none none none none none) S=some (.int R.length,S):=fun S=>by
  show some (D.int (((R.map Ao).length:Nat):Int),S)=_
  rw[U0e]
 have a1:eOp Aw (eCB Ej (Aa (Ab 1) Ad)) (eC (.int 1)) (bE (R.map Ao) none none none none none none none none none) [some [.int x,.int y,.int z]]=some (.int ((R.length:Int)+1),[some [.int x,.int y,.int z]]):=by rw[Bb,ln];rfl
 have c1:Ak Ai (Aa (Ab 0) (Aa (eOp Aw (eCB Ej (Aa (Ab 1) Ad)) (eC (.int 1))) Ad)) (bE (R.map Ao) none none none none none none none none none) [some [.int x,.int y,.int z]]=some (.int f1,[some [.int x1,.int y,.int w1]]):=Dh d1 rfl a1
 have c2:Ak Ai (Aa (Ab 0) (Aa (eC (.int 3)) Ad)) (bE (R.map Ao) none none none none none none none none none) [some [.int x1,.int y,.int w1]]=some (.int f2,[some [.int x2,.int y,.int w2]]):=Dh d2 rfl rfl
 have m1:eCB JB (Aa (eC (.int 0)) (Aa (eOp Jk (eCB Ej (Aa (Ab 1) Ad)) (eC (.int 1))) Ad)) (bE (R.map Ao) none none none none none none none none none) [some [.int x1,.int y,.int w1]]=some (.int (if (0:Int)<(R.length:Int)-1 then (R.length:Int)-1 else 0),[some [.int x1,.int y,.int w1]]):=by
  have q:eOp Jk (eCB Ej (Aa (Ab 1) Ad)) (eC (.int 1)) (bE (R.map Ao) none none none none none none none none none) [some [.int x1,.int y,.int w1]]=some (.int ((R.length:Int)-1),[some [.int x1,.int y,.int w1]]):=by rw[Bb,ln];rfl
  rw[Fp,Ci (d:=.int 0) rfl (Ci q rfl)];rfl
 have s1:(BR 2 (eOp oIx (Am (Aa (Ak Ai (Aa (Ab 0) (Aa (eOp Aw (eCB Ej (Aa (Ab 1) Ad)) (eC (.int 1))) Ad))) (Aa (eC (.int 0)) (Aa (eCB JB (Aa (eC (.int 0)) (Aa (eOp Jk (eCB Ej (Aa (Ab 1) Ad)) (eC (.int 1))) Ad))) Ad)))) (Ak Ai (Aa (Ab 0) (Aa (eC (.int 3)) Ad))))) (bE (R.map Ao) none none none none none none none none none) [some [.int x,.int y,.int z]]=some (.nx,bE (R.map Ao) (some (.int at_)) none none none none none none none none,[some [.int x2,.int y,.int w2]]):=by
  rw[Br,Bb,Cg,BJ,c1,U0a,Ci (d:=.int 0) rfl (Ci m1 rfl),U0a,U0a,U0a,c2,U0a]
  show(U06 _ (atI [D.int f1,.int 0,.int (if (0:Int)<(R.length:Int)-1 then (R.length:Int)-1 else 0)] f2)).bind _=_
  rw[ea];rfl
 have s2:(BR 3 (eOp oIx (eOp Aw (Ab 1) (Am (Aa (Ay (Aa (eC (.int 0)) (Aa (eC (.int 1)) (Aa (eC (.int 1)) Ad)))) Ad))) (Ab 2))) (bE (R.map Ao) (some (.int at_)) none none none none none none none none) [some [.int x2,.int y,.int w2]]=some (.nx,bE (R.map Ao) (some (.int at_)) (some (Ao h)) none none none none none none none,[some [.int x2,.int y,.int w2]]):=by
  have q:eOp Aw (Ab 1) (Am (Aa (Ay (Aa (eC (.int 0)) (Aa (eC (.int 1)) (Aa (eC (.int 1)) Ad)))) Ad)) (bE (R.map Ao) (some (.int at_)) none none none none none none none none) [some [.int x2,.int y,.int w2]]=some (.lst true ((R++[[0,1,1]]).map Ao),[some [.int x2,.int y,.int w2]]):=by
   rw[G3 (v1 ..) (ys:=[Ao [0,1,1]]) (m2:=true) rfl (by simp;omega),U3h];rfl
  rw[Br,Bb,q,U0a]
  show(U06 _ (atI ((R++[[0,1,1]]).map Ao) (at_:Int))).bind _=_
  rw[Le (v:=Ao h) (by rw[U01,eh];rfl)];rfl
 have v3:∀(a4 a5 a6:Option D)(S:Store),Ab 3 (bE (R.map Ao) (some (.int at_)) (some (Ao h)) a4 a5 a6 none none none none) S=some (Ao h,S):=fun _ _ _ _=>rfl
 have ln3:eCB Ej (Aa (Ab 3) Ad) (bE (R.map Ao) (some (.int at_)) (some (Ao h)) none none none none none none none) [some [.int x2,.int y,.int w2]]=some (.int h.length,[some [.int x2,.int y,.int w2]]):=by
  show some (D.int (((h.map D.int).length:Nat):Int),_)=_
  rw[U0e]
 have c3:Ak Ai (Aa (Ab 0) (Aa (eCB Ej (Aa (Ab 3) Ad)) Ad)) (bE (R.map Ao) (some (.int at_)) (some (Ao h)) none none none none none none none) [some [.int x2,.int y,.int w2]]=some (.int f3,[some [.int x3,.int y,.int w3]]):=Dh d3 rfl ln3
 have s3:(BR 4 (Ak Ai (Aa (Ab 0) (Aa (eCB Ej (Aa (Ab 3) Ad)) Ad)))) (bE (R.map Ao) (some (.int at_)) (some (Ao h)) none none none none none none none) [some [.int x2,.int y,.int w2]]=some (.nx,bE (R.map Ao) (some (.int at_)) (some (Ao h)) (some (.int f3)) none none none none none none,[some [.int x3,.int y,.int w3]]):=by rw[Br,c3];rfl
 rw[show f3=((f3.toNat:Nat):Int) by omega] at s3
 generalize f3.toNat=to at *
 have s4:(BR 5 (eOp oIx (Ab 3) (Ab 4))) (bE (R.map Ao) (some (.int at_)) (some (Ao h)) (some (.int to)) none none none none none none) [some [.int x3,.int y,.int w3]]=some (.nx,bE (R.map Ao) (some (.int at_)) (some (Ao h)) (some (.int to)) (some (.int t)) none none none none none,[some [.int x3,.int y,.int w3]]):=by
  rw[Br,Bb,v3,U0a]
  show(U06 _ (atI (h.map D.int) (to:Int))).bind _=_
  rw[Le (v:=.int t) (by rw[U01,et];rfl)];rfl
 have c5:Ak CG (Aa (Ab 0) Ad) (bE (R.map Ao) (some (.int at_)) (some (Ao h)) (some (.int to)) (some (.int t)) none none none none none) [some [.int x3,.int y,.int w3]]=some (o,[some [.int x4,.int y,.int w4]]) :=
  Gg (ns:=[x3,y,w3]) (rest:=[]) (es:=[]) (i:=0) (S':=[some [.int x3,.int y,.int w3]]) rfl rfl (by simp[BZ]) (by simp[Bj]) d4
 have s5:(BR 6 (Ak CG (Aa (Ab 0) Ad))) (bE (R.map Ao) (some (.int at_)) (some (Ao h)) (some (.int to)) (some (.int t)) none none none none none) [some [.int x3,.int y,.int w3]]=some (.nx,bE (R.map Ao) (some (.int at_)) (some (Ao h)) (some (.int to)) (some (.int t)) (some o) none none none none,[some [.int x4,.int y,.int w4]]):=by rw[Br,c5];rfl
 have od:=Nf ho
 obtain⟨o1,lo1,s6⟩:∃o1:D,Lf [3,1] o1/\(sIf (Bd (eOp Td (Ab 6) (Ay (Aa (eOp Cm (eC (.int 10)) (eC (.int 39))) (Aa (eUn Cw (eOp Cm (eC (.int 10)) (eC (.int 39)))) Ad))))) (BR 6 (eC .non)) FQ) (bE (R.map Ao) (some (.int at_)) (some (Ao h)) (some (.int to)) (some (.int t)) (some o) none none none none) [some [.int x4,.int y,.int w4]]=some (.nx,bE (R.map Ao) (some (.int at_)) (some (Ao h)) (some (.int to)) (some (.int t)) (some o1) none none none none,[some [.int x4,.int y,.int w4]]):=by
  obtain⟨p,ep,ip⟩:=od.inn
  have hs:Cv [some [.int x4,.int y,.int w4]] o=some p:=by rw[Cv,Gd 0 _ od.lf.pu];exact ep
  have p39:=gD (bE (R.map Ao) (some (.int at_)) (some (Ao h)) (some (.int to)) (some (.int t)) (some o) none none none none) [some [.int x4,.int y,.int w4]]
  have tt:Bd (eOp Td (Ab 6) (Ay (Aa (eOp Cm (eC (.int 10)) (eC (.int 39))) (Aa (eUn Cw (eOp Cm (eC (.int 10)) (eC (.int 39)))) Ad)))) (bE (R.map Ao) (some (.int at_)) (some (Ao h)) (some (.int to)) (some (.int t)) (some o) none none none none) [some [.int x4,.int y,.int w4]]=some (([10^39,-(10^39)]:List Int).any (fun n=>U3c (.int n) p),[some [.int x4,.int y,.int w4]]):=by
   have v6:Ab 6 (bE (R.map Ao) (some (.int at_)) (some (Ao h)) (some (.int to)) (some (.int t)) (some o) none none none none) [some [.int x4,.int y,.int w4]]=some (o,[some [.int x4,.int y,.int w4]]):=rfl
   rw[CJ,Bb,v6,U0a,QS,Ci p39 (Ci (Vt p39) rfl)]
   simp only[U0a]
   have:Td [some [.int x4,.int y,.int w4]] o (.tup [.int (10^39),.int (-(10^39))])=some (.bl (([10^39,-(10^39)]:List Int).any (fun n=>U3c (.int n) p))):=by
    show((Cv _ o).bind fun p=>if okIn p=true then (intsOf [D.int (10^39),.int (-(10^39))]).map fun ns=>D.bl (ns.any fun n=>U3c (.int n) p) else none)=_
    rw[hs,U0a,if_pos ip];rfl
   rw[this];rfl
  cases q:([10^39,-(10^39)]:List Int).any (fun n=>U3c (.int n) p) with
  |true=>rw[q] at tt;exact⟨.non,.non,by rw[El tt];rfl⟩
  |false=>rw[q] at tt;exact⟨o,od.lf,by rw[G9 tt];rfl⟩
 have e9:∀(S:Store)(env:VS.Env),eOp Cm (eC (.int 10)) (eC (.int 9)) env S=some (.int 1000000000,S):=fun S env=>p9 env S
 have s7:(BR 6 (Am (Aa (Ab 6) (Aa (eCB J9 (Aa (eOp Cm (eC (.int 10)) (eC (.int 9))) (Aa (eOp Aw (Ab 5) (eC (.int 1))) Ad))) (Aa (eCB JB (Aa (eUn Cw (eOp Cm (eC (.int 10)) (eC (.int 9)))) (Aa (eOp Jk (Ab 5) (eC (.int 1))) Ad))) (Aa (eC (.int 0)) Ad)))))) (bE (R.map Ao) (some (.int at_)) (some (Ao h)) (some (.int to)) (some (.int t)) (some o1) none none none none) [some [.int x4,.int y,.int w4]]=some (.nx,bE (R.map Ao) (some (.int at_)) (some (Ao h)) (some (.int to)) (some (.int t)) (some (.lst true [o1,.int (if t+1<1000000000 then t+1 else 1000000000),.int (if (-1000000000:Int)<t-1 then t-1 else -1000000000),.int 0])) none none none none,[some [.int x4,.int y,.int w4]]):=by
  have q1:eCB J9 (Aa (eOp Cm (eC (.int 10)) (eC (.int 9))) (Aa (eOp Aw (Ab 5) (eC (.int 1))) Ad)) (bE (R.map Ao) (some (.int at_)) (some (Ao h)) (some (.int to)) (some (.int t)) (some o1) none none none none) [some [.int x4,.int y,.int w4]]=some (.int (if t+1<1000000000 then t+1 else 1000000000),[some [.int x4,.int y,.int w4]]):=by
   rw[Fp,Ci (e9 _ _) (Ci (d:=.int (t+1)) rfl rfl)];rfl
  have q2:eCB JB (Aa (eUn Cw (eOp Cm (eC (.int 10)) (eC (.int 9)))) (Aa (eOp Jk (Ab 5) (eC (.int 1))) Ad)) (bE (R.map Ao) (some (.int at_)) (some (Ao h)) (some (.int to)) (some (.int t)) (some o1) none none none none) [some [.int x4,.int y,.int w4]]=some (.int (if (-1000000000:Int)<t-1 then t-1 else -1000000000),[some [.int x4,.int y,.int w4]]):=by
   rw[Fp,Ci (Vt (e9 _ _)) (Ci (d:=.int (t-1)) rfl rfl)];rfl
  rw[Br,NQ (Ci (d:=o1) rfl (Ci q1 (Ci q2 (Ci (d:=.int 0) rfl rfl))))];rfl
 obtain⟨h0,e0,hm0⟩:∃h0,h[0]?=some h0/\h0∈h:=⟨_,U02 (by omega:0<h.length),U37 _⟩
 have bh:=hh.near h0 hm0
 obtain⟨o2,lo2,e2⟩:∃o2:D,Lf [3,1] o2/\atI ([o1,D.int (if t+1<1000000000 then t+1 else 1000000000),.int (if (-1000000000:Int)<t-1 then t-1 else -1000000000),.int 0]++[.int (-1),.bl (t != 0),.int h0]) f5=some o2:=by
  obtain⟨d,hd,e⟩:=QX (l:=[o1,D.int (if t+1<1000000000 then t+1 else 1000000000),.int (if (-1000000000:Int)<t-1 then t-1 else -1000000000),.int 0]++[.int (-1),.bl (t != 0),.int h0]) f50 (by show f5<7;exact f51)
  refine⟨d,?_,e⟩
  simp only[U1y,U1z,U0k,U1m,or_false] at hd
  rcases hd with rfl|rfl|rfl|rfl|rfl|rfl|rfl
  .exact lo1
  .exact Lf.int (QF (by split<;>omega))
  .exact Lf.int (QF (by split<;>omega))
  .exact Lf.int (by decide)
  .exact Lf.int (by decide)
  .exact Lf.bl _
  .exact Lf.int (QF (by omega))
 have s8:(BR 6 (eOp oIx (eOp Aw (Ab 6) (Am (Aa (eUn Cw (eC (.int 1))) (Aa (eCB QB (Aa (Ab 5) Ad)) (Aa (eOp oIx (Ab 3) (eC (.int 0))) Ad))))) (Ak Ai (Aa (Ab 0) (Aa (eC (.int 7)) Ad))))) (bE (R.map Ao) (some (.int at_)) (some (Ao h)) (some (.int to)) (some (.int t)) (some (.lst true [o1,.int (if t+1<1000000000 then t+1 else 1000000000),.int (if (-1000000000:Int)<t-1 then t-1 else -1000000000),.int 0])) none none none none) [some [.int x4,.int y,.int w4]]=some (.nx,bE (R.map Ao) (some (.int at_)) (some (Ao h)) (some (.int to)) (some (.int t)) (some o2) none none none none,[some [.int x5,.int y,.int w5]]):=by
  have q0:eOp oIx (Ab 3) (eC (.int 0)) (bE (R.map Ao) (some (.int at_)) (some (Ao h)) (some (.int to)) (some (.int t)) (some (.lst true [o1,.int (if t+1<1000000000 then t+1 else 1000000000),.int (if (-1000000000:Int)<t-1 then t-1 else -1000000000),.int 0])) none none none none) [some [.int x4,.int y,.int w4]]=some (.int h0,[some [.int x4,.int y,.int w4]]):=by
   show U06 _ (atI (h.map D.int) ((0:Nat):Int))=_
   rw[Le (v:=.int h0) (by rw[U01,e0];rfl)];rfl
  have q1:=G3 (a:=Ab 6) (m1:=true) (xs:=[o1,D.int (if t+1<1000000000 then t+1 else 1000000000),.int (if (-1000000000:Int)<t-1 then t-1 else -1000000000),.int 0]) rfl (NQ (Ci (d:=.int (-1)) (e:=eUn Cw (eC (.int 1))) rfl (Ci (d:=.bl (t != 0)) (e:=eCB QB (Aa (Ab 5) Ad)) rfl (Ci q0 (a:=Ad) (ds:=[]) rfl)))) (by simp)
  have c6:Ak Ai (Aa (Ab 0) (Aa (eC (.int 7)) Ad)) (bE (R.map Ao) (some (.int at_)) (some (Ao h)) (some (.int to)) (some (.int t)) (some (.lst true [o1,.int (if t+1<1000000000 then t+1 else 1000000000),.int (if (-1000000000:Int)<t-1 then t-1 else -1000000000),.int 0])) none none none none) [some [.int x4,.int y,.int w4]]=some (.int f5,[some [.int x5,.int y,.int w5]]):=Dh d5 rfl rfl
  rw[Br,Bb,q1,U0a,c6,U0a]
  show(U06 _ (atI ([o1,D.int (if t+1<1000000000 then t+1 else 1000000000),.int (if (-1000000000:Int)<t-1 then t-1 else -1000000000),.int 0]++[.int (-1),.bl (t != 0),.int h0]) f5)).bind _=_
  rw[e2];rfl
 refine⟨at_,to,h,t,o2,x5,w5,ha,hh,hto,ht,lo2,by omega,by omega,fun b=>?_⟩
 rw[BX s1,BX s2,BX s3,BX s4,BX s5,BX s6,BX s7,BX s8]
end W27
end
section
namespace W27
open PySem L2 VS
theorem GR{ws:List Nat}{a b:List D}(ha:∀d∈a,Lf ws d)(hb:∀d∈b,Lf ws d):∀d∈a++b,Lf ws d:=fun d hd=>by
 rcases U1h.mp hd with w|w
 .exact ha d w
 .exact hb d w
theorem Jq{ws:List Nat}{a:List D}(ha:∀d∈a,Lf ws d)(l h:Option Int):∀d∈cut a l h,Lf ws d:=fun d hd=>ha d ((Hf a l h).2 d hd)
theorem NK{ws:List Nat}{d:D}(h:Lf ws d):∀e∈[d],Lf ws e:=fun e he=>by rw[U1k.mp he];exact h
theorem Yx{R:List (List Int)}(hR:∀r∈R,Rw r)(hl:R.length<=20)(x y z:Int)(z0:0<=z)(z1:z<1000000):∃(d:D)(x' z':Int),Dn [x,y,z] [.lst false (R.map Ao)]=some (d,[x',y,z'])/\Th d/\z<=z'/\z'<=z+20:=by
 obtain⟨at_,to,h,t,o,x1,w1,ha,hh,hto,ht,lo,k1,k2,step⟩:=pH hR hl x y z z0 z1
 have two:=hh.two
 have few:=hh.few
 obtain⟨oo,x2,w2,d2,hoo,k3,k4⟩:=Rv x1 y w1 (by omega) (by omega)
 obtain⟨f3,x3,w3,d3,⟨f30,f31⟩,k5,k6⟩:=Dg x2 y w2 8 (by decide) (by decide) (by omega) (by omega)
 obtain⟨o4,x4,w4,d4,ho4,k7,k8⟩:=Rv x3 y w3 (by omega) (by omega)
 obtain⟨f5,x5,w5,d5,⟨f50,f51⟩,k9,k10⟩:=Dg x4 y w4 15 (by decide) (by decide) (by omega) (by omega)
 have lh:∀ws:List Nat,∀d∈h.map D.int,Lf ws d:=fun ws=>Tw hh.near
 have lR:∀d∈R.map Ao,Lf [4,3,1] d:=fun d hd=>by
  obtain⟨r,hr,rfl⟩:=U2u.mp hd
  exact Vu (hR r hr)
 have lR':(R.map Ao).length<=20:=by rw[U0e];exact hl
 have lh':(h.map D.int).length<=3:=by rw[U0e];exact few
 generalize hRD:R.map Ao=RD at *
 -- the row
 obtain⟨A,hA⟩:∃A,A=cut (h.map D.int) none (some (to:Int)):=⟨_,rfl⟩
 obtain⟨B,hB⟩:∃B,B=cut (h.map D.int) (some ((to:Int)+1)) none:=⟨_,rfl⟩
 have cA:=Hf (h.map D.int) none (some (to:Int))
 have cB:=Hf (h.map D.int) (some ((to:Int)+1)) none
 have lA:∀ws:List Nat,∀d∈A,Lf ws d:=fun ws=>by rw[hA];exact Jq (lh ws) _ _
 have lB:∀ws:List Nat,∀d∈B,Lf ws d:=fun ws=>by rw[hB];exact Jq (lh ws) _ _
 have nAB:A.length+B.length<=3:=by
  rw[hA,hB,pC (by omega) (by rw[U0e];omega),Wy (by omega) (by rw[U0e];omega),U1l,U1w]
  omega
 have e3:∀(a7 a8 a9 a10:Option D)(S:Store),Ab 3 (bE RD (some (.int at_)) (some (Ao h)) (some (.int to)) (some (.int t)) (some o) a7 a8 a9 a10) S=some (.tup (h.map .int),S):=fun _ _ _ _ _=>rfl
 have eA:∀(a7 a8 a9 a10:Option D)(S:Store),eSl oSl (Ab 3) CP (Bq (Ab 4)) (bE RD (some (.int at_)) (some (Ao h)) (some (.int to)) (some (.int t)) (some o) a7 a8 a9 a10) S=some (.tup A,S):=fun a7 a8 a9 a10 S=>by rw[hA];exact Rp (e3 ..) rfl rfl
 have eB:∀(a7 a8 a9 a10:Option D)(S:Store),eSl oSl (Ab 3) (Bq (eOp Aw (Ab 4) (eC (.int 1)))) CP (bE RD (some (.int at_)) (some (Ao h)) (some (.int to)) (some (.int t)) (some o) a7 a8 a9 a10) S=some (.tup B,S):=fun a7 a8 a9 a10 S=>by rw[hB];exact Rp (e3 ..) rfl rfl
 have s9:(BR 7 (eOp Aw (eOp Aw (eSl oSl (Ab 3) CP (Bq (Ab 4))) (Ay (Aa (Ab 6) Ad))) (eSl oSl (Ab 3) (Bq (eOp Aw (Ab 4) (eC (.int 1)))) CP))) (bE RD (some (.int at_)) (some (Ao h)) (some (.int to)) (some (.int t)) (some o) none none none none) [some [.int x1,.int y,.int w1]]=some (.nx,bE RD (some (.int at_)) (some (Ao h)) (some (.int to)) (some (.int t)) (some o) (some (.tup (A++[o]++B))) none none none,[some [.int x1,.int y,.int w1]]):=by
  rw[Br,Qa (Qa (eA ..) (ys:=[o]) rfl (by simp;omega)) (eB ..) (by simp;omega)];rfl
 have it1:Lf [4,3,1] (.tup (A++[o]++B)):=Lf.tup (by simp;omega) (GR (GR (lA _) (NK lo)) (lB _))
 have it4:Lf [4,3,1] (.tup (A++B)):=Lf.tup (by simp;omega) (GR (lA _) (lB _))
 have it5:Lf [4,3,1] (.tup (h.map .int++[.int 1])):=Lf.tup (by rw[U0j];simp at lh' ⊢;omega) (GR (lh _) (NK (Lf.int (by decide))))
 have it6:Lf [4,3,1] (.lst true (h.map .int)):=Lf.lst (by omega) (lh _)
 have it7:Lf [4,3,1] (.tup (h.map .int).reverse):=Lf.tup (by rw[U5m];omega) fun d hd=>lh _ d (U7f.mp hd)
 have c10:∀(S0:Store),Ak CG (Aa (Ab 0) Ad) (bE RD (some (.int at_)) (some (Ao h)) (some (.int to)) (some (.int t)) (some o) (some (.tup (A++[o]++B))) none none none) [some [.int x1,.int y,.int w1]]=some (oo,[some [.int x2,.int y,.int w2]]):=fun _ =>
  Gg (ns:=[x1,y,w1]) (rest:=[]) (es:=[]) (i:=0) (S':=[some [.int x1,.int y,.int w1]]) rfl rfl (by simp[BZ]) (by simp[Bj]) d2
 obtain⟨ones,hones⟩:∃ones:List D,ones=[.tup (A++[o]++B),.tup (A++[o]++B),.tup (A++[o]++B),.tup (A++B),.tup (h.map .int++[.int 1]),.lst true (h.map .int),.tup (h.map .int).reverse,oo]:=⟨_,rfl⟩
 have s10:(BR 8 (Am (Aa (Ab 7) (Aa (Ab 7) (Aa (Ab 7) (Aa (eOp Aw (eSl oSl (Ab 3) CP (Bq (Ab 4))) (eSl oSl (Ab 3) (Bq (eOp Aw (Ab 4) (eC (.int 1)))) CP)) (Aa (eOp Aw (Ab 3) (Ay (Aa (eC (.int 1)) Ad))) (Aa (Rn nList (Aa (Ab 3) Ad)) (Aa (eUn J5 (Ab 3)) (Aa (Ak CG (Aa (Ab 0) Ad)) Ad)))))))))) (bE RD (some (.int at_)) (some (Ao h)) (some (.int to)) (some (.int t)) (some o) (some (.tup (A++[o]++B))) none none none) [some [.int x1,.int y,.int w1]]=some (.nx,bE RD (some (.int at_)) (some (Ao h)) (some (.int to)) (some (.int t)) (some o) (some (.tup (A++[o]++B))) (some (.lst true ones)) none none,[some [.int x2,.int y,.int w2]]):=by
  have v7:Ab 7 (bE RD (some (.int at_)) (some (Ao h)) (some (.int to)) (some (.int t)) (some o) (some (.tup (A++[o]++B))) none none none) [some [.int x1,.int y,.int w1]]=some (.tup (A++[o]++B),[some [.int x1,.int y,.int w1]]):=rfl
  have q4:=Qa (eA (some (.tup (A++[o]++B))) none none none [some [.int x1,.int y,.int w1]]) (eB (some (.tup (A++[o]++B))) none none none [some [.int x1,.int y,.int w1]]) (by omega)
  have q5:=Qa (e3 (some (.tup (A++[o]++B))) none none none [some [.int x1,.int y,.int w1]]) (b:=Ay (Aa (eC (.int 1)) Ad)) (ys:=[.int 1]) rfl (by rw[U0e];simp;omega)
  have q6:Rn nList (Aa (Ab 3) Ad) (bE RD (some (.int at_)) (some (Ao h)) (some (.int to)) (some (.int t)) (some o) (some (.tup (A++[o]++B))) none none none) [some [.int x1,.int y,.int w1]]=some (.lst true (h.map .int),[some [.int x1,.int y,.int w1]]):=rfl
  have q7:eUn J5 (Ab 3) (bE RD (some (.int at_)) (some (Ao h)) (some (.int to)) (some (.int t)) (some o) (some (.tup (A++[o]++B))) none none none) [some [.int x1,.int y,.int w1]]=some (.tup (h.map .int).reverse,[some [.int x1,.int y,.int w1]]):=rfl
  have q8:Aa (Ak CG (Aa (Ab 0) Ad)) Ad (bE RD (some (.int at_)) (some (Ao h)) (some (.int to)) (some (.int t)) (some o) (some (.tup (A++[o]++B))) none none none) [some [.int x1,.int y,.int w1]]=some ([oo],[some [.int x2,.int y,.int w2]]):=by rw[BJ,c10 []];rfl
  rw[Br,Cg,BJ,v7,U0a,BJ,v7,U0a,BJ,v7,U0a,BJ,q4,U0a,BJ,q5,U0a,BJ,q6,U0a,BJ,q7,U0a,q8,hones];rfl
 obtain⟨one,l1,e1⟩:∃one:D,Lf [4,3,1] one/\atI ones f3=some one:=by
  obtain⟨d,hd,e⟩:=QX (l:=ones) f30 (by rw[hones];show f3<8;exact f31)
  refine⟨d,?_,e⟩
  rw[hones] at hd
  simp only[U0k,U1m,or_false] at hd
  rcases hd with rfl|rfl|rfl|rfl|rfl|rfl|rfl|rfl
  .exact it1
  .exact it1
  .exact it1
  .exact it4
  .exact it5
  .exact it6
  .exact it7
  .exact(Nf hoo).it
 have s11:(BR 7 (eOp oIx (Ab 8) (Ak Ai (Aa (Ab 0) (Aa (eC (.int 8)) Ad))))) (bE RD (some (.int at_)) (some (Ao h)) (some (.int to)) (some (.int t)) (some o) (some (.tup (A++[o]++B))) (some (.lst true ones)) none none) [some [.int x2,.int y,.int w2]]=some (.nx,bE RD (some (.int at_)) (some (Ao h)) (some (.int to)) (some (.int t)) (some o) (some one) (some (.lst true ones)) none none,[some [.int x3,.int y,.int w3]]):=by
  have v8:Ab 8 (bE RD (some (.int at_)) (some (Ao h)) (some (.int to)) (some (.int t)) (some o) (some (.tup (A++[o]++B))) (some (.lst true ones)) none none) [some [.int x2,.int y,.int w2]]=some (.lst true ones,[some [.int x2,.int y,.int w2]]):=rfl
  have c:Ak Ai (Aa (Ab 0) (Aa (eC (.int 8)) Ad)) (bE RD (some (.int at_)) (some (Ao h)) (some (.int to)) (some (.int t)) (some o) (some (.tup (A++[o]++B))) (some (.lst true ones)) none none) [some [.int x2,.int y,.int w2]]=some (.int f3,[some [.int x3,.int y,.int w3]]):=Dh d3 rfl rfl
  rw[Br,Bb,v8,U0a,c,U0a]
  show(U06 _ (atI ones f3)).bind _=_
  rw[e1];rfl
 -- the list
 obtain⟨AH,hAH⟩:∃AH,AH=cut RD none (some (at_:Int)):=⟨_,rfl⟩
 obtain⟨BH,hBH⟩:∃BH,BH=cut RD (some (at_:Int)) none:=⟨_,rfl⟩
 obtain⟨B1,hB1⟩:∃B1,B1=cut RD (some ((at_:Int)+1)) none:=⟨_,rfl⟩
 obtain⟨B2,hB2⟩:∃B2,B2=cut RD (some ((at_:Int)+2)) none:=⟨_,rfl⟩
 obtain⟨MM,hMM⟩:∃MM,MM=cut RD (some (at_:Int)) (some ((at_:Int)+2)):=⟨_,rfl⟩
 have nAH:AH.length<=20:=by rw[hAH];exact U00 (Hf RD _ _).1 lR'
 have nBH:BH.length<=20:=by rw[hBH];exact U00 (Hf RD _ _).1 lR'
 have nB1:B1.length<=20:=by rw[hB1];exact U00 (Hf RD _ _).1 lR'
 have nB2:B2.length<=20:=by rw[hB2];exact U00 (Hf RD _ _).1 lR'
 have nM:MM.length<=20:=by rw[hMM];exact U00 (Hf RD _ _).1 lR'
 have lAH:∀d∈AH,Lf [4,3,1] d:=by rw[hAH];exact Jq lR _ _
 have lBH:∀d∈BH,Lf [4,3,1] d:=by rw[hBH];exact Jq lR _ _
 have lB1:∀d∈B1,Lf [4,3,1] d:=by rw[hB1];exact Jq lR _ _
 have lB2:∀d∈B2,Lf [4,3,1] d:=by rw[hB2];exact Jq lR _ _
 have lM:∀d∈MM,Lf [4,3,1] d:=by rw[hMM];exact Jq lR _ _
 have v1:∀(a7 a8 a9 a10:Option D)(S:Store),Ab 1 (bE RD (some (.int at_)) (some (Ao h)) (some (.int to)) (some (.int t)) (some o) a7 a8 a9 a10) S=some (.lst false RD,S):=fun _ _ _ _ _=>rfl
 have iB:∀(a7 a8 a9 a10:Option D)(S:Store),eSl oSl (Ab 1) (Bq (Ab 2)) CP (bE RD (some (.int at_)) (some (Ao h)) (some (.int to)) (some (.int t)) (some o) a7 a8 a9 a10) S=some (.lst true BH,S):=fun a7 a8 a9 a10 S=>by rw[hBH];exact Lj (v1 ..) rfl rfl
 have i1:∀(a7 a8 a9 a10:Option D)(S:Store),eSl oSl (Ab 1) (Bq (eOp Aw (Ab 2) (eC (.int 1)))) CP (bE RD (some (.int at_)) (some (Ao h)) (some (.int to)) (some (.int t)) (some o) a7 a8 a9 a10) S=some (.lst true B1,S):=fun a7 a8 a9 a10 S=>by rw[hB1];exact Lj (v1 ..) rfl rfl
 have i2:∀(a7 a8 a9 a10:Option D)(S:Store),eSl oSl (Ab 1) (Bq (eOp Aw (Ab 2) (eC (.int 2)))) CP (bE RD (some (.int at_)) (some (Ao h)) (some (.int to)) (some (.int t)) (some o) a7 a8 a9 a10) S=some (.lst true B2,S):=fun a7 a8 a9 a10 S=>by rw[hB2];exact Lj (v1 ..) rfl rfl
 have iM:∀(a7 a8 a9 a10:Option D)(S:Store),eUn J5 (eSl oSl (Ab 1) (Bq (Ab 2)) (Bq (eOp Aw (Ab 2) (eC (.int 2))))) (bE RD (some (.int at_)) (some (Ao h)) (some (.int to)) (some (.int t)) (some o) a7 a8 a9 a10) S=some (.lst true MM.reverse,S):=fun a7 a8 a9 a10 S=>by
  have q:eSl oSl (Ab 1) (Bq (Ab 2)) (Bq (eOp Aw (Ab 2) (eC (.int 2)))) (bE RD (some (.int at_)) (some (Ao h)) (some (.int to)) (some (.int t)) (some o) a7 a8 a9 a10) S=some (.lst true MM,S):=by rw[hMM];exact Lj (v1 ..) rfl rfl
  rw[W2,q];rfl
 have s12:(BR 9 (eSl oSl (Ab 1) CP (Bq (Ab 2)))) (bE RD (some (.int at_)) (some (Ao h)) (some (.int to)) (some (.int t)) (some o) (some one) (some (.lst true ones)) none none) [some [.int x3,.int y,.int w3]]=some (.nx,bE RD (some (.int at_)) (some (Ao h)) (some (.int to)) (some (.int t)) (some o) (some one) (some (.lst true ones)) (some (.lst true AH)) none,[some [.int x3,.int y,.int w3]]):=by
  rw[Br,Lj (v1 ..) (l:=none) (h:=some (at_:Int)) rfl rfl,←hAH];rfl
 have v9:∀(a10:Option D)(S:Store),Ab 9 (bE RD (some (.int at_)) (some (Ao h)) (some (.int to)) (some (.int t)) (some o) (some one) (some (.lst true ones)) (some (.lst true AH)) a10) S=some (.lst true AH,S):=fun _ _=>rfl
 have f7:∀(a10:Option D)(S:Store),Am (Aa (Ab 7) Ad) (bE RD (some (.int at_)) (some (Ao h)) (some (.int to)) (some (.int t)) (some o) (some one) (some (.lst true ones)) (some (.lst true AH)) a10) S=some (.lst true [one],S):=fun _ _=>rfl
 have f3':∀(a10:Option D)(S:Store),Am (Aa (Ab 3) Ad) (bE RD (some (.int at_)) (some (Ao h)) (some (.int to)) (some (.int t)) (some o) (some one) (some (.lst true ones)) (some (.lst true AH)) a10) S=some (.lst true [Ao h],S):=fun _ _=>rfl
 have g1:∀(a10:Option D)(S:Store),eOp Aw (eOp Aw (Ab 9) (Am (Aa (Ab 7) Ad))) (eSl oSl (Ab 1) (Bq (eOp Aw (Ab 2) (eC (.int 1)))) CP) (bE RD (some (.int at_)) (some (Ao h)) (some (.int to)) (some (.int t)) (some o) (some one) (some (.lst true ones)) (some (.lst true AH)) a10) S=some (.lst true (AH++[one]++B1),S):=fun a10 S=>G3 (G3 (v9 ..) (f7 ..) (by simp;omega)) (i1 ..) (by simp;omega)
 have g2:∀(a10:Option D)(S:Store),eOp Aw (eOp Aw (Ab 9) (Am (Aa (Ab 7) Ad))) (eSl oSl (Ab 1) (Bq (Ab 2)) CP) (bE RD (some (.int at_)) (some (Ao h)) (some (.int to)) (some (.int t)) (some o) (some one) (some (.lst true ones)) (some (.lst true AH)) a10) S=some (.lst true (AH++[one]++BH),S):=fun a10 S=>G3 (G3 (v9 ..) (f7 ..) (by simp;omega)) (iB ..) (by simp;omega)
 have g3:∀(a10:Option D)(S:Store),eOp Aw (Ab 9) (eSl oSl (Ab 1) (Bq (eOp Aw (Ab 2) (eC (.int 1)))) CP) (bE RD (some (.int at_)) (some (Ao h)) (some (.int to)) (some (.int t)) (some o) (some one) (some (.lst true ones)) (some (.lst true AH)) a10) S=some (.lst true (AH++B1),S):=fun a10 S=>G3 (v9 ..) (i1 ..) (by omega)
 have g4:∀(a10:Option D)(S:Store),eOp Aw (eOp Aw (Ab 9) (eUn J5 (eSl oSl (Ab 1) (Bq (Ab 2)) (Bq (eOp Aw (Ab 2) (eC (.int 2))))))) (eSl oSl (Ab 1) (Bq (eOp Aw (Ab 2) (eC (.int 2)))) CP) (bE RD (some (.int at_)) (some (Ao h)) (some (.int to)) (some (.int t)) (some o) (some one) (some (.lst true ones)) (some (.lst true AH)) a10) S=some (.lst true (AH++MM.reverse++B2),S):=fun a10 S=>G3 (G3 (v9 ..) (iM ..) (by simp;omega)) (i2 ..) (by simp;omega)
 have g5:∀(a10:Option D)(S:Store),eOp Aw (Ab 1) (Ab 1) (bE RD (some (.int at_)) (some (Ao h)) (some (.int to)) (some (.int t)) (some o) (some one) (some (.lst true ones)) (some (.lst true AH)) a10) S=some (.lst true (RD++RD),S):=fun a10 S=>G3 (v1 ..) (v1 ..) (by omega)
 have g6:∀(a10:Option D)(S:Store),eSl oSl (Ab 1) (Bq (eC (.int 1))) CP (bE RD (some (.int at_)) (some (Ao h)) (some (.int to)) (some (.int t)) (some o) (some one) (some (.lst true ones)) (some (.lst true AH)) a10) S=some (.lst true (cut RD (some 1) none),S):=fun a10 S=>Lj (v1 ..) rfl rfl
 have g7:∀(a10:Option D)(S:Store),eOp Aw (eOp Aw (Ab 9) (Am (Aa (Ab 3) Ad))) (eSl oSl (Ab 1) (Bq (Ab 2)) CP) (bE RD (some (.int at_)) (some (Ao h)) (some (.int to)) (some (.int t)) (some o) (some one) (some (.lst true ones)) (some (.lst true AH)) a10) S=some (.lst true (AH++[Ao h]++BH),S):=fun a10 S=>G3 (G3 (v9 ..) (f3' ..) (by simp;omega)) (iB ..) (by simp;omega)
 have g8:∀(a10:Option D)(S:Store),eSl oSl (Ab 1) CP (Bq (eUn Cw (eC (.int 1)))) (bE RD (some (.int at_)) (some (Ao h)) (some (.int to)) (some (.int t)) (some o) (some one) (some (.lst true ones)) (some (.lst true AH)) a10) S=some (.lst true (cut RD none (some (-1))),S):=fun a10 S=>Lj (v1 ..) rfl rfl
 have lrow:Lf [4,3,1] (Ao h):=Vu hh
 have T1:Th (.lst true (AH++[one]++B1)):=Ht (by simp;omega) (GR (GR lAH (NK l1)) lB1)
 have T2:Th (.lst true (AH++[one]++BH)):=Ht (by simp;omega) (GR (GR lAH (NK l1)) lBH)
 have T3:Th (.lst true (AH++B1)):=Ht (by simp;omega) (GR lAH lB1)
 have T4:Th (.lst true (AH++MM.reverse++B2)):=Ht (by simp;omega) (GR (GR lAH fun d hd=>lM d (U7f.mp hd)) lB2)
 have T5:Th (.lst true (RD++RD)):=Ht (by simp;omega) (GR lR lR)
 have T6:Th (.lst true (cut RD (some 1) none)):=Ht (by have:=(Hf RD (some 1) none).1;omega) (Jq lR _ _)
 have T7:Th (.lst true (AH++[Ao h]++BH)):=Ht (by simp;omega) (GR (GR lAH (NK lrow)) lBH)
 have T8:Th (.lst true (cut RD none (some (-1)))):=Ht (by have:=(Hf RD none (some (-1))).1;omega) (Jq lR _ _)
 have T9:Th (.lst true RD.reverse):=Ht (by rw[U5m];omega) fun d hd=>lR d (U7f.mp hd)
 have T10:Th (.tup RD):=mq (by omega) lR
 have T11:Th (.lst true [.lst false RD]):=⟨(Lf.lst (w:=1) (ws:=[20,4]) (by simp) (NK (Lf.lst lR' fun d hd=>by
   rw[←hRD] at hd
   obtain⟨r,hr,rfl⟩:=U2u.mp hd
   exact Lf.tup (by rw[U0e];have:=(hR r hr).few;omega) (Tw (hR r hr).near)))).see (by decide) (by decide),fun m' es e=>by cases e;show 1<64;decide⟩
 have T12:Th o4:=(Nf ho4).th
 -- the store
 obtain⟨W3,hW3⟩:∃W:Option (List D),W=some [.int x3,.int y,.int w3]:=⟨_,rfl⟩
 obtain⟨q1,hq1⟩:∃q:D,q=.lst true (AH++[one]++B1):=⟨_,rfl⟩
 have s13:(BR 10 (Vc (Am (Aa (eOp Aw (eOp Aw (Ab 9) (Am (Aa (Ab 7) Ad))) (eSl oSl (Ab 1) (Bq (eOp Aw (Ab 2) (eC (.int 1)))) CP)) Ad)) (eC (.int 4)))) (bE RD (some (.int at_)) (some (Ao h)) (some (.int to)) (some (.int t)) (some o) (some one) (some (.lst true ones)) (some (.lst true AH)) none) [some [.int x3,.int y,.int w3]]=some (.nx,bE RD (some (.int at_)) (some (Ao h)) (some (.int to)) (some (.int t)) (some o) (some one) (some (.lst true ones)) (some (.lst true AH)) (some (.ref 1)),[some [.int x3,.int y,.int w3],some [q1,q1,q1,q1]]):=by
  rw[Br,fM,NQ (Ci (g1 ..) (a:=Ad) (ds:=[]) rfl),←hq1];rfl
 obtain⟨q2,hq2⟩:∃q:D,q=.lst true (AH++[one]++BH):=⟨_,rfl⟩
 obtain⟨q3,hq3⟩:∃q:D,q=.lst true (AH++B1):=⟨_,rfl⟩
 have s14:(BR 10 (Q9 (Ab 10) (Am (Aa (eOp Aw (eOp Aw (Ab 9) (Am (Aa (Ab 7) Ad))) (eSl oSl (Ab 1) (Bq (Ab 2)) CP)) (Aa (eOp Aw (Ab 9) (eSl oSl (Ab 1) (Bq (eOp Aw (Ab 2) (eC (.int 1)))) CP)) Ad))))) (bE RD (some (.int at_)) (some (Ao h)) (some (.int to)) (some (.int t)) (some o) (some one) (some (.lst true ones)) (some (.lst true AH)) (some (.ref 1))) [some [.int x3,.int y,.int w3],some [q1,q1,q1,q1]]=some (.nx,bE RD (some (.int at_)) (some (Ao h)) (some (.int to)) (some (.int t)) (some o) (some one) (some (.lst true ones)) (some (.lst true AH)) (some (.ref 2)),[some [.int x3,.int y,.int w3],some [q1,q1,q1,q1],some [q1,q1,q1,q1,q2,q3]]):=by
  have v10:Ab 10 (bE RD (some (.int at_)) (some (Ao h)) (some (.int to)) (some (.int t)) (some o) (some one) (some (.lst true ones)) (some (.lst true AH)) (some (.ref 1))) [some [.int x3,.int y,.int w3],some [q1,q1,q1,q1]]=some (.ref 1,[some [.int x3,.int y,.int w3],some [q1,q1,q1,q1]]):=rfl
  rw[Br,Wx,v10,U0a,NQ (Ci (g2 ..) (Ci (g3 ..) (a:=Ad) (ds:=[]) rfl)),←hq2,←hq3];rfl
 obtain⟨q4,hq4⟩:∃q:D,q=.lst true (AH++MM.reverse++B2):=⟨_,rfl⟩
 have s15:(Lh (Hz Fz (Ab 10) (Aa (eOp Aw (eOp Aw (Ab 9) (eUn J5 (eSl oSl (Ab 1) (Bq (Ab 2)) (Bq (eOp Aw (Ab 2) (eC (.int 2))))))) (eSl oSl (Ab 1) (Bq (eOp Aw (Ab 2) (eC (.int 2)))) CP)) Ad))) (bE RD (some (.int at_)) (some (Ao h)) (some (.int to)) (some (.int t)) (some o) (some one) (some (.lst true ones)) (some (.lst true AH)) (some (.ref 2))) [some [.int x3,.int y,.int w3],some [q1,q1,q1,q1],some [q1,q1,q1,q1,q2,q3]]=some (.nx,bE RD (some (.int at_)) (some (Ao h)) (some (.int to)) (some (.int t)) (some o) (some one) (some (.lst true ones)) (some (.lst true AH)) (some (.ref 2)),[some [.int x3,.int y,.int w3],some [q1,q1,q1,q1],some [q1,q1,q1,q1,q2,q3,q4]]):=by
  have e:=g4 (some (.ref 2)) [some [.int x3,.int y,.int w3],some [q1,q1,q1,q1],some [q1,q1,q1,q1,q2,q3]]
  rw[←hq4] at e
  exact QZ (i:=2) rfl rfl e (by simp) rfl
 obtain⟨S3,hS3⟩:∃S:Store,S=[some [q1,q1,q1,q1],some [q1,q1,q1,q1,q2,q3,q4]]:=⟨_,rfl⟩
 have cat:∀{a b:Az} {env:VS.Env} {S:Store} {i:Nat} {xs ys:List D},a env S=some (.ref i,S)->S[i]?=some (some xs)->b env S=some (.lst true ys,S)->xs.length+ys.length<=1000000->eOp Aw a b env S=some (.lst true (xs++ys),S):=fun {a b env S i xs ys} h1 h2 h3 h4=>by
  rw[Bb,h1,U0a,h3,U0a]
  have:listOf S (.ref i)=some xs:=by rw[VS.listOf,h2];rfl
  show U06 _ ((listOf S (.ref i)).bind fun a=>(some ys).bind fun b=>if a.length+b.length<=1000000 then some (D.lst true (a++b)) else none)=_
  rw[this,U0a,U0a,if_pos h4];rfl
 obtain⟨L1,hL1⟩:∃L:List D,L=[q1,q1,q1,q1,q2,q3,q4]++[.lst true RD.reverse,.tup RD,.lst true [.lst false RD],.lst true (cut RD none (some (-1)))]:=⟨_,rfl⟩
 have s16:(BR 10 (eOp Aw (Ab 10) (Am (Aa (eUn J5 (Ab 1)) (Aa (eCB Vj (Aa (Ab 1) Ad)) (Aa (Am (Aa (Ab 1) Ad)) (Aa (eSl oSl (Ab 1) CP (Bq (eUn Cw (eC (.int 1))))) Ad))))))) (bE RD (some (.int at_)) (some (Ao h)) (some (.int to)) (some (.int t)) (some o) (some one) (some (.lst true ones)) (some (.lst true AH)) (some (.ref 2))) [some [.int x3,.int y,.int w3],some [q1,q1,q1,q1],some [q1,q1,q1,q1,q2,q3,q4]]=some (.nx,bE RD (some (.int at_)) (some (Ao h)) (some (.int to)) (some (.int t)) (some o) (some one) (some (.lst true ones)) (some (.lst true AH)) (some (.lst true L1)),[some [.int x3,.int y,.int w3],some [q1,q1,q1,q1],some [q1,q1,q1,q1,q2,q3,q4]]):=by
  rw[Br,cat (i:=2) rfl rfl (NQ (Ci (d:=.lst true RD.reverse) (e:=eUn J5 (Ab 1)) rfl (Ci (d:=.tup RD) (e:=eCB Vj (Aa (Ab 1) Ad)) rfl (Ci (d:=.lst true [.lst false RD]) (e:=Am (Aa (Ab 1) Ad)) rfl (Ci (g8 ..) (a:=Ad) (ds:=[]) rfl))))) (by simp),←hL1];rfl
 obtain⟨L2,hL2⟩:∃L:List D,L=L1++[.lst true (RD++RD),.lst true (cut RD (some 1) none),.lst true (AH++[Ao h]++BH)]:=⟨_,rfl⟩
 have nL1:L1.length=11:=by rw[hL1];rfl
 have s17:(BR 10 (eOp Aw (Ab 10) (Am (Aa (eOp Aw (Ab 1) (Ab 1)) (Aa (eSl oSl (Ab 1) (Bq (eC (.int 1))) CP) (Aa (eOp Aw (eOp Aw (Ab 9) (Am (Aa (Ab 3) Ad))) (eSl oSl (Ab 1) (Bq (Ab 2)) CP)) Ad)))))) (bE RD (some (.int at_)) (some (Ao h)) (some (.int to)) (some (.int t)) (some o) (some one) (some (.lst true ones)) (some (.lst true AH)) (some (.lst true L1))) [some [.int x3,.int y,.int w3],some [q1,q1,q1,q1],some [q1,q1,q1,q1,q2,q3,q4]]=some (.nx,bE RD (some (.int at_)) (some (Ao h)) (some (.int to)) (some (.int t)) (some o) (some one) (some (.lst true ones)) (some (.lst true AH)) (some (.lst true L2)),[some [.int x3,.int y,.int w3],some [q1,q1,q1,q1],some [q1,q1,q1,q1,q2,q3,q4]]):=by
  rw[Br,G3 (m1:=true) (xs:=L1) rfl (NQ (Ci (g5 ..) (Ci (g6 ..) (Ci (g7 ..) (a:=Ad) (ds:=[]) rfl)))) (by rw[nL1];simp),←hL2];rfl
 have nL2:L2.length=14:=by rw[hL2,U0j,nL1];rfl
 have c18:Ak CG (Aa (Ab 0) Ad) (bE RD (some (.int at_)) (some (Ao h)) (some (.int to)) (some (.int t)) (some o) (some one) (some (.lst true ones)) (some (.lst true AH)) (some (.lst true L2))) [some [.int x3,.int y,.int w3],some [q1,q1,q1,q1],some [q1,q1,q1,q1,q2,q3,q4]]=some (o4,[some [.int x4,.int y,.int w4],some [q1,q1,q1,q1],some [q1,q1,q1,q1,q2,q3,q4]]) :=
  Gg (ns:=[x3,y,w3]) (rest:=[]) (es:=[]) (i:=0) (S':=[some [.int x3,.int y,.int w3],some [q1,q1,q1,q1],some [q1,q1,q1,q1,q2,q3,q4]]) rfl rfl (by simp[BZ]) (by simp[Bj]) d4
 have c19:Ak Ai (Aa (Ab 0) (Aa (eC (.int 15)) Ad)) (bE RD (some (.int at_)) (some (Ao h)) (some (.int to)) (some (.int t)) (some o) (some one) (some (.lst true ones)) (some (.lst true AH)) (some (.lst true L2))) [some [.int x4,.int y,.int w4],some [q1,q1,q1,q1],some [q1,q1,q1,q1,q2,q3,q4]]=some (.int f5,[some [.int x5,.int y,.int w5],some [q1,q1,q1,q1],some [q1,q1,q1,q1,q2,q3,q4]]):=Dh d5 rfl rfl
 obtain⟨res,hT,er⟩:∃res:D,Th res/\atI (L2++[o4]) f5=some res:=by
  obtain⟨d,hd,e⟩:=QX (l:=L2++[o4]) f50 (by rw[U0j,nL2];show f5<15;exact f51)
  refine⟨d,?_,e⟩
  rw[hL2,hL1,hq1,hq2,hq3,hq4] at hd
  simp only[U1y,U1z,U0k,U1m,or_false] at hd
  rcases hd with rfl|rfl|rfl|rfl|rfl|rfl|rfl|rfl|rfl|rfl|rfl|rfl|rfl|rfl|rfl
  .exact T1
  .exact T1
  .exact T1
  .exact T1
  .exact T2
  .exact T3
  .exact T4
  .exact T9
  .exact T10
  .exact T11
  .exact T8
  .exact T5
  .exact T6
  .exact T7
  .exact T12
 have ret:(DK (eOp oIx (eOp Aw (Ab 10) (Am (Aa (Ak CG (Aa (Ab 0) Ad)) Ad))) (Ak Ai (Aa (Ab 0) (Aa (eC (.int 15)) Ad))))) (bE RD (some (.int at_)) (some (Ao h)) (some (.int to)) (some (.int t)) (some o) (some one) (some (.lst true ones)) (some (.lst true AH)) (some (.lst true L2))) [some [.int x3,.int y,.int w3],some [q1,q1,q1,q1],some [q1,q1,q1,q1,q2,q3,q4]]=some (.ret res,bE RD (some (.int at_)) (some (Ao h)) (some (.int to)) (some (.int t)) (some o) (some one) (some (.lst true ones)) (some (.lst true AH)) (some (.lst true L2)),[some [.int x5,.int y,.int w5],some [q1,q1,q1,q1],some [q1,q1,q1,q1,q2,q3,q4]]):=by
  have v10:Ab 10 (bE RD (some (.int at_)) (some (Ao h)) (some (.int to)) (some (.int t)) (some o) (some one) (some (.lst true ones)) (some (.lst true AH)) (some (.lst true L2))) [some [.int x3,.int y,.int w3],some [q1,q1,q1,q1],some [q1,q1,q1,q1,q2,q3,q4]]=some (.lst true L2,[some [.int x3,.int y,.int w3],some [q1,q1,q1,q1],some [q1,q1,q1,q1,q2,q3,q4]]):=rfl
  have fo:Am (Aa (Ak CG (Aa (Ab 0) Ad)) Ad) (bE RD (some (.int at_)) (some (Ao h)) (some (.int to)) (some (.int t)) (some o) (some one) (some (.lst true ones)) (some (.lst true AH)) (some (.lst true L2))) [some [.int x3,.int y,.int w3],some [q1,q1,q1,q1],some [q1,q1,q1,q1,q2,q3,q4]]=some (.lst true [o4],[some [.int x4,.int y,.int w4],some [q1,q1,q1,q1],some [q1,q1,q1,q1,q2,q3,q4]]):=by rw[Cg,BJ,c18];rfl
  have ad:eOp Aw (Ab 10) (Am (Aa (Ak CG (Aa (Ab 0) Ad)) Ad)) (bE RD (some (.int at_)) (some (Ao h)) (some (.int to)) (some (.int t)) (some o) (some one) (some (.lst true ones)) (some (.lst true AH)) (some (.lst true L2))) [some [.int x3,.int y,.int w3],some [q1,q1,q1,q1],some [q1,q1,q1,q1,q2,q3,q4]]=some (.lst true (L2++[o4]),[some [.int x4,.int y,.int w4],some [q1,q1,q1,q1],some [q1,q1,q1,q1,q2,q3,q4]]):=by
   rw[Bb,v10,U0a,fo,U0a]
   show(U06 _ (if L2.length+1<=1000000 then some (D.lst true (L2++[o4])) else none))=_
   rw[if_pos (by rw[nL2];decide)];rfl
  rw[DQ,Bb,ad,U0a,c19,U0a]
  show(U06 _ (atI (L2++[o4]) f5)).bind _=_
  rw[er];rfl
 refine⟨res,x5,w5,?_,hT,by omega,by omega⟩
 unfold Dn
 rw[IW]
 simp only[U0g,U1b,U0o,U1t,U16,U17,U0t,U1c,U1y,U1z,if_true]
 unfold Sq
 show((Bh _ _ (bE RD none none none none none none none none none) [some [.int x,.int y,.int z]]).bind _)=_
 rw[step,BX s9,BX s10,BX s11,BX s12,BX s13,BX s14,BX s15,BX s16,BX s17,ret]
 simp only[U0a]
 show((intsOf [D.int x5,D.int y,D.int w5]).bind fun ms=>(den 1 _ res).map fun r=>(r,ms))=_
 rw[Gd 1 _ hT.see.pu];rfl
end W27
end
section
namespace W27
open PySem L2 VS
theorem rD{r0 r1:Int}{k:Nat}{hs:List T3}(q0:-1000000000<=r0)(hl:hs.length<=40)(hb:∀t∈hs,InT r0 r1 k t):Hs hs:=⟨by omega,fun t ht=>by
 obtain⟨g1,g2,g3,g4,g5,g6⟩:=hb t ht
 omega⟩
def Vf(t:T3):List Int:=[t.1,t.2.1,t.2.2]
def Vg(p:St2):List Int:=[p.1,p.2]
theorem Vn(hs:List T3):(hs.map Vf).map Ao=hs.map Aj:=by rw[U09];rfl
theorem Vo(l:List St2):(l.map Vg).map Ao=l.map Ax:=by rw[U09];rfl
theorem cG{hs:List T3}(h:Hs hs):∀r∈hs.map Vf,Rw r:=fun r hr=>by
 obtain⟨t,ht,rfl⟩:=U2u.mp hr
 have:=h.all t ht
 refine⟨by simp[Vf],by simp[Vf],fun n hn=>?_⟩
 simp only[Vf,U0k,U1m,or_false] at hn
 rcases hn with rfl|rfl|rfl<;>omega
theorem cH{l:List St2}(h:ZL l):∀r∈l.map Vg,Rw r:=fun r hr=>by
 obtain⟨p,hp,rfl⟩:=U2u.mp hr
 have:=h p hp
 refine⟨by simp[Vg],by simp[Vg],fun n hn=>?_⟩
 simp only[Vg,U0k,U1m,or_false] at hn
 rcases hn with rfl|rfl<;>omega
theorem QC{m:Bool}{R:List (List Int)}(hR:∀r∈R,Rw r)(hl:R.length<=20):Th (.lst m (R.map Ao)):=Ht (by rw[U0e];omega) fun d hd=>by
 obtain⟨r,hr,rfl⟩:=U2u.mp hd
 exact Vu (hR r hr)
theorem Xz{m:Bool}{hs:List T3}(h:Hs hs):HY (.lst m (hs.map Aj))=true:=by
 show(hs.map Aj).all Et=true
 rw[U4b,U15]
 intro t ht
 have:=h.all t ht
 show(decide (t.1<t.2.1)&&decide (1<=t.2.2))=true
 rw[decide_eq_true (by omega),decide_eq_true (by omega)];rfl
theorem jF(l:List St2):(l.map Ax).map pairD=l:=by
 rw[U09]
 show l.map (fun p=>(p.1,p.2))=l
 simp
theorem dI{m:Bool}{l:List St2}(h:SkB l):Mp (.lst m (l.map Ax))=true:=by
 show((l.map Ax).all DR&&Qy ((l.map Ax).map pairD))=true
 have e1:(l.map Ax).all DR=true:=by
  rw[U4b,U15]
  exact fun p hp=>decide_eq_true (h.ok.hts p hp)
 rw[e1,jF,U34]
 cases l with
 |nil=>rfl
 |cons a r =>
  obtain⟨b,z,hz⟩:∃(b:List St2)(z:St2),a::r=b++[z]:=by
   rcases U4g (a::r) with k|⟨b,z,k⟩
   .simp at k
   .exact⟨b,z,by rw[k,U4h]⟩
  have h0:a.2≠0:=h.ok.head a rfl
  have h9:z.2=0:=h.ok.last z (by rw[hz];simp)
  have lz:((a::r).getLast?.map (·.2)).getD 0=z.2:=by rw[hz];simp
  show(!(decide (a.2=0)||!decide (((a::r).getLast?.map (·.2)).getD 0=0))&&Nm (a::r))=true
  have ad:Nm (a::r)=true:=by
   unfold Nm
   rw[U15]
   intro q hq
   obtain⟨k1,k2⟩:=h.ok.adj q hq
   rw[decide_eq_true k1,decide_eq_false k2];rfl
  rw[lz,decide_eq_false h0,decide_eq_true h9,ad];rfl
theorem Uc(d:D):Bj [d]=[VS.age d]:=by rw[Bj,Bj]
theorem SN{d:D}(h:Th d){env:VS.Env}{S:Store}{k:Nat}(hv:env[k]?=some (some d)):Bp Ep (Aa (Ab k) Ad) env S=some (.bl true,S) :=
 Dv (ds:=[d]) (es:=[VS.age d]) (by
  have:Ab k env S=some (d,S):=by rw[Ez,hv];rfl
  rw[BJ,this];rfl) h.see.one (Uc d) (dW h.age)
def lE(ns:List Int)(c:Option D)(S:Store)(hs:List T3)(l:List St2)(a5 a6:Option D):VS.Env:=[some (.scr ns),c,some (.ref S.length),some (.lst true (hs.map Aj)),some (.lst true (l.map Ax)),a5,a6,none]
theorem iG(ns:List Int)(c:Int)(hs:List T3)(l:List St2)(h:Hs hs)(hl:hs.length<=20)(hk:SkB l)(kl:l.length<=20)(x z:Int)(z0:0<=z)(z1:z<900000)(S:Store)(a5 z6:Option D):∃(x' z':Int)(y6:Option D),z<=z'/\z'<=z+60 /\
  Ry (lE ns (some (.int c)) S hs l a5 z6) (S++[some [.int x,.int c,.int z]])=some (.nx,lE ns (some (.int c)) S hs l a5 y6,S++[some [.int x',.int c,.int z']]):=by
 have nS:ZL l:=fun p hp=>by
  have:=hk.inn p hp
  have:=hk.ok.hts p hp
  omega
 obtain⟨t1,x1,w1,d1,T1,k1,k2⟩:=Yx (cG h) (by rw[U0e];exact hl) x c z z0 (by omega)
 obtain⟨t2,x2,w2,d2,T2,k3,k4⟩:=Yx (cH nS) (by rw[U0e];exact kl) x1 c w1 (by omega) (by omega)
 obtain⟨t3,x3,w3,d3,ho,k5,k6⟩:=Rv x2 c w2 (by omega) (by omega)
 have T3:=(Nf ho).th
 have T4:Th (.lst true (hs.map Aj)):=by rw[←Vn];exact QC (cG h) (by rw[U0e];exact hl)
 have T5:Th (.lst true (l.map Ax)):=by rw[←Vo];exact QC (cH nS) (by rw[U0e];exact kl)
 rw[Vn] at d1
 rw[Vo] at d2
 have c1:Ak Dn (Aa (Ab 2) (Aa (Ab 3) Ad)) (lE ns (some (.int c)) S hs l a5 z6) (S++[some [.int x,.int c,.int z]])=some (t1,S++[some [.int x1,.int c,.int w1]]):=by
  rw[Gg (ns:=[x,c,z]) (rest:=[.lst true (hs.map Aj)]) (es:=[.lst false (hs.map Aj)]) (i:=S.length) (S':=S++[some [.int x,.int c,.int z]]) rfl (Nj S _ []) (Yd ..) (aY ..) d1,TY];rfl
 have c2:Ak Dn (Aa (Ab 2) (Aa (Ab 4) Ad)) (lE ns (some (.int c)) S hs l a5 z6) (S++[some [.int x1,.int c,.int w1]])=some (t2,S++[some [.int x2,.int c,.int w2]]):=by
  rw[Gg (ns:=[x1,c,w1]) (rest:=[.lst true (l.map Ax)]) (es:=[.lst false (l.map Ax)]) (i:=S.length) (S':=S++[some [.int x1,.int c,.int w1]]) rfl (Nj S _ []) (by rw[BZ,BK,DX (UL l),BZ];rfl) (by rw[Bj,age,Gz (UL l),Bj]) d2,TY];rfl
 have c3:Ak CG (Aa (Ab 2) Ad) (lE ns (some (.int c)) S hs l a5 z6) (S++[some [.int x2,.int c,.int w2]])=some (t3,S++[some [.int x3,.int c,.int w3]]):=by
  rw[Gg (ns:=[x2,c,w2]) (rest:=[]) (es:=[]) (i:=S.length) (S':=S++[some [.int x2,.int c,.int w2]]) rfl (Nj S _ []) (by simp[BZ]) (by simp[Bj]) d3,TY];rfl
 have e:Ei (Am (Aa (Ak Dn (Aa (Ab 2) (Aa (Ab 3) Ad))) (Aa (Ak Dn (Aa (Ab 2) (Aa (Ab 4) Ad))) (Aa (Ak CG (Aa (Ab 2) Ad)) (Aa (Ab 3) (Aa (Ab 4) Ad)))))) (lE ns (some (.int c)) S hs l a5 z6) (S++[some [.int x,.int c,.int z]])=some (([t1,t2,t3,.lst true (hs.map Aj),.lst true (l.map Ax)],[]),S++[some [.int x3,.int c,.int w3]]):=by
  rw[QM,Cg,BJ,c1,U0a,BJ,c2,U0a,BJ,c3];rfl
 have all:∀d∈[t1,t2,t3,D.lst true (hs.map Aj),.lst true (l.map Ax)],Th d:=fun d hd=>by
  simp only[U0k,U1m,or_false] at hd
  rcases hd with rfl|rfl|rfl|rfl|rfl
  .exact T1
  .exact T2
  .exact T3
  .exact T4
  .exact T5
 generalize [t1,t2,t3,D.lst true (hs.map Aj),.lst true (l.map Ax)]=G at *
 obtain⟨env',S',e3,y6,he,hS⟩:=JZ (w:=[]) (g:=Pat.sem (.nm 6)) (b:=Vy) (ds:=G) (env:=lE ns (some (.int c)) S hs l a5 z6) (S:=S++[some [.int x3,.int c,.int w3]])
  (fun _ env S'=>∃(y6:Option D),env=lE ns (some (.int c)) S hs l a5 y6/\S'=S++[some [.int x3,.int c,.int w3]]) ⟨_,rfl,rfl⟩ (fun i env S _=>by simp) (fun i d env S' hd q=>by
   obtain⟨y6,he,hS⟩:=q
   subst he hS
   have T:=all d (U2c hd)
   refine⟨lE ns (some (.int c)) S hs l a5 (some d),Ed _ _ _,lE ns (some (.int c)) S hs l a5 (some d),S++[some [.int x3,.int c,.int w3]],?_,some d,rfl,rfl⟩
   unfold Vy
   rw[G9 (by rw[Eo,CJ,SN T rfl];rfl)];rfl)
 subst he hS
 refine⟨x3,w3,y6,by omega,by omega,?_⟩
 unfold Ry aH
 rw[IV,e]
 exact e3
theorem iD(ns:List Int)(c:Int)(z2 z3 z4 z5 z6:Option D)(S:Store):∃(S':Store)(y2 y3 y4 y5 y6:Option D),Rx [some (.scr ns),some (.int c),z2,z3,z4,z5,z6,none] S=some (.nx,[some (.scr ns),some (.int c),y2,y3,y4,y5,y6,none],S'):=by
 obtain⟨x0,p0⟩:=gq c
 have s1:(BR 2 (PL FZ (Aa (Ab 1) Ad))) [some (.scr ns),some (.int c),z2,z3,z4,z5,z6,none] S=some (.nx,[some (.scr ns),some (.int c),some (.ref S.length),z3,z4,z5,z6,none],S++[some [.int x0,.int c,.int 0]]):=by
  rw[Br,dF (d':=.ref S.length) (cs:=[.int x0,.int c,.int 0]) (Dv (ds:=[.int c]) (es:=[.int c]) (S':=S) rfl (by simp[BZ,BK]) (by simp[Bj,age]) p0) (by simp[Qx,Dj,CK])]
  rfl
 obtain⟨r0,r1,x1,w1,d1,⟨h1,h2,h3⟩,k1,k2⟩:=dX x0 c 0 (by decide) (by decide)
 obtain⟨hs,x2,w2,e1,bl,bb,k3,k4⟩:=bR x1 c w1 r0 r1 10 (by decide) (by decide) h1 h2 h3 (by omega) (by omega)
 have hH:=rD h1 (by omega) bb
 have hK:=n6 hH (by omega)
 have kl:(sky hs).length<=20:=by
  have q:=(SetP.HJ (hs.map (·.1)++hs.map (·.2.1))).2.1
  have:=W5 ((ends hs).map fun x=>(x,hgt hs x)) ([],0)
  have e:(ends hs).length<=20:=by
   unfold ends Dr
   rw[(U3j _ _).length_eq]
   simp at q
   omega
  unfold sky
  simp at *
  omega
 have c1:Ak Dp (Aa (Ab 2) Ad) [some (.scr ns),some (.int c),some (.ref S.length),z3,z4,z5,z6,none] (S++[some [.int x0,.int c,.int 0]])=some (.tup [.int r0,.int r1],S++[some [.int x1,.int c,.int w1]]):=by
  rw[Gg (ns:=[x0,c,0]) (rest:=[]) (es:=[]) (i:=S.length) (S':=S++[some [.int x0,.int c,.int 0]]) rfl (Nj S _ []) (by simp[BZ]) (by simp[Bj]) d1,TY];rfl
 have a2:Aa (Ab 2) (Aa (Ak Dp (Aa (Ab 2) Ad)) (Aa (eC (.int 10)) Ad)) [some (.scr ns),some (.int c),some (.ref S.length),z3,z4,z5,z6,none] (S++[some [.int x0,.int c,.int 0]])=some ([.ref S.length,.tup [.int r0,.int r1],.int 10],S++[some [.int x1,.int c,.int w1]]):=by
  have v2:Ab 2 [some (.scr ns),some (.int c),some (.ref S.length),z3,z4,z5,z6,none] (S++[some [.int x0,.int c,.int 0]])=some (.ref S.length,S++[some [.int x0,.int c,.int 0]]):=rfl
  rw[BJ,v2,U0a,BJ,c1];rfl
 have c2:Ak Eh (Aa (Ab 2) (Aa (Ak Dp (Aa (Ab 2) Ad)) (Aa (eC (.int 10)) Ad))) [some (.scr ns),some (.int c),some (.ref S.length),z3,z4,z5,z6,none] (S++[some [.int x0,.int c,.int 0]])=some (.lst true (hs.map Aj),S++[some [.int x2,.int c,.int w2]]):=by
  rw[Gg (ns:=[x1,c,w1]) (rest:=[.tup [.int r0,.int r1],.int 10]) (es:=[.tup [.int r0,.int r1],.int 10]) (i:=S.length) (S':=S++[some [.int x1,.int c,.int w1]]) a2 (Nj S _ []) (by simp[BZ,BK]) (by simp[Bj,age]) e1,TY];rfl
 have s2:(BR 3 (Ak Eh (Aa (Ab 2) (Aa (Ak Dp (Aa (Ab 2) Ad)) (Aa (eC (.int 10)) Ad))))) [some (.scr ns),some (.int c),some (.ref S.length),z3,z4,z5,z6,none] (S++[some [.int x0,.int c,.int 0]])=some (.nx,[some (.scr ns),some (.int c),some (.ref S.length),some (.lst true (hs.map Aj)),z4,z5,z6,none],S++[some [.int x2,.int c,.int w2]]):=by rw[Br,c2];rfl
 have c3:Bp Fb (Aa (Ab 3) Ad) [some (.scr ns),some (.int c),some (.ref S.length),some (.lst true (hs.map Aj)),z4,z5,z6,none] (S++[some [.int x2,.int c,.int w2]])=some (.lst true ((sky hs).map Ax),S++[some [.int x2,.int c,.int w2]]):=Dv (ds:=[.lst true (hs.map Aj)]) (es:=[.lst false (hs.map Aj)]) rfl (Yd ..) (aY ..) (jR hH)
 have s3:(BR 4 (Bp Fb (Aa (Ab 3) Ad))) [some (.scr ns),some (.int c),some (.ref S.length),some (.lst true (hs.map Aj)),z4,z5,z6,none] (S++[some [.int x2,.int c,.int w2]])=some (.nx,lE ns (some (.int c)) S hs (sky hs) z5 z6,S++[some [.int x2,.int c,.int w2]]):=by rw[Br,c3];rfl
 generalize sky hs=l at *
 have nS:ZL l:=fun p hp=>by
  have:=hK.inn p hp
  have:=hK.ok.hts p hp
  omega
 have T4:Th (.lst true (hs.map Aj)):=by rw[←Vn];exact QC (cG hH) (by rw[U0e];omega)
 have T5:Th (.lst true (l.map Ax)):=by rw[←Vo];exact QC (cH nS) (by rw[U0e];exact kl)
 have q1:Bp Ck (Aa (Ab 3) Ad) (lE ns (some (.int c)) S hs l z5 z6) (S++[some [.int x2,.int c,.int w2]])=some (.bl true,S++[some [.int x2,.int c,.int w2]]):=Dv (ds:=[.lst true (hs.map Aj)]) (es:=[VS.age (.lst true (hs.map Aj))]) rfl T4.see.one (Uc _) (by rw[Qm T4.see.age,N5,Xz hH])
 have q2:Bp Cj (Aa (Ab 4) Ad) (lE ns (some (.int c)) S hs l z5 z6) (S++[some [.int x2,.int c,.int w2]])=some (.bl true,S++[some [.int x2,.int c,.int w2]]):=Dv (ds:=[.lst true (l.map Ax)]) (es:=[VS.age (.lst true (l.map Ax))]) rfl T5.see.one (Uc _) (by rw[WY T5.see.age,R7,dI hK])
 have s4:(sIf (VS.tOr (Bd (eOp (Oj true) (Bp Ck (Aa (Ab 3) Ad)) (eC (.bl true)))) (Bd (eOp (Oj true) (Bp Cj (Aa (Ab 4) Ad)) (eC (.bl true))))) (DK (eC (.bl false))) FQ) (lE ns (some (.int c)) S hs l z5 z6) (S++[some [.int x2,.int c,.int w2]])=some (.nx,lE ns (some (.int c)) S hs l z5 z6,S++[some [.int x2,.int c,.int w2]]):=by
  have u1:Bd (eOp (Oj true) (Bp Ck (Aa (Ab 3) Ad)) (eC (.bl true))) (lE ns (some (.int c)) S hs l z5 z6) (S++[some [.int x2,.int c,.int w2]])=some (false,S++[some [.int x2,.int c,.int w2]]):=by rw[CJ,Bb,q1];rfl
  have u2:Bd (eOp (Oj true) (Bp Cj (Aa (Ab 4) Ad)) (eC (.bl true))) (lE ns (some (.int c)) S hs l z5 z6) (S++[some [.int x2,.int c,.int w2]])=some (false,S++[some [.int x2,.int c,.int w2]]):=by rw[CJ,Bb,q2];rfl
  rw[G9 (by
   rw[GQ,u1]
   simp only[U0a,U0w,if_false]
   exact u2)]
  rfl
 have er:Ie (Aa (eC (.int 4)) Ad) (lE ns (some (.int c)) S hs l z5 z6) (S++[some [.int x2,.int c,.int w2]])=some ((upD 0 4,[]),S++[some [.int x2,.int c,.int w2]]):=Vp (j:=4) 4 rfl (by decide) (by decide) (by decide)
 obtain⟨env',S',e3,y5,y6,x',z',he,hS,_⟩:=JZ (w:=[]) (g:=Pat.sem (.nm 5)) (b:=Ry) (ds:=upD 0 4) (env:=lE ns (some (.int c)) S hs l z5 z6) (S:=S++[some [.int x2,.int c,.int w2]])
  (fun i env S'=>∃(y5 y6:Option D)(x' z':Int),env=lE ns (some (.int c)) S hs l y5 y6/\S'=S++[some [.int x',.int c,.int z']]/\w2<=z'/\z'<=w2+60*i) ⟨_,_,x2,w2,rfl,rfl,by omega,by omega⟩ (fun i env S _=>by simp) (fun i d env S' hd q=>by
   obtain⟨y5,y6,x',z',he,hS,g1,g2⟩:=q
   obtain⟨hi,_⟩:=YF hd
   subst he hS
   obtain⟨x5,z5',y6',g3,g4,b⟩:=iG ns c hs l hH (by omega) hK kl x' z' (by omega) (by omega) S (some d) y6
   exact⟨_,Ed _ _ _,_,_,b,_,_,x5,z5',rfl,rfl,by omega,by omega⟩)
 subst he hS
 refine⟨S++[some [.int x',.int c,.int z']],some (.ref S.length),some (.lst true (hs.map Aj)),some (.lst true (l.map Ax)),y5,y6,?_⟩
 unfold Rx
 rw[BX s1,BX s2,BX s3,BX s4]
 unfold aG
 rw[IV,er]
 exact e3
def six:List D:=[.lst true [.tup [.int 0,.int 0]],.lst true [.tup [.int 0,.int 1]],.lst true [.tup [.int 0,.int 1],.tup [.int 1,.int 0]],.lst true [.tup [.int 0,.int 1],.tup [.int 0,.int 0]],.lst true [.tup [.int 0,.int 1],.tup [.int 1,.int 1],.tup [.int 2,.int 0]],.lst true [.tup [.int 0,.int 0],.tup [.int 1,.int 1],.tup [.int 2,.int 0]]]
def five:List D:=[.lst true [.tup [.int 0,.int 1,.int 1]],.lst true [.tup [.int 0,.int 0,.int 1]],.lst true [.tup [.int 1,.int 0,.int 1]],.lst true [.tup [.int 0,.int 1,.int 0]],.lst true [.tup [.bl true,.int 1],.tup [.int 2,.int 0]]]
def Ku:D:=.lst true [.tup [.int 0,.int 2],.tup [.int 1,.int 0],.tup [.int 2,.int 1],.tup [.int 3,.int 0]]
def Zv:D->Bool
 |.int i=>decide (i.natAbs<10)
 |.bl _=>true
 |_=>false
def lZ:D->Bool
 |.tup ds=>decide (ds.length<=4)&&ds.all Zv
 |_=>false
theorem dG{m:Bool}{ds:List D}(hl:ds.length<=60)(h:ds.all lZ=true):Th (.lst m ds):=Ht (by omega) fun d hd=>by
 have:=U15.mp h d hd
 cases d with
 |tup es =>
  have q:(decide (es.length<=4)&&es.all Zv)=true:=this
  rw[U0m,decide_eq_true_eq] at q
  refine Lf.tup q.1 fun e he=>?_
  have:=U15.mp q.2 e he
  cases e with
  |int i=>exact Lf.int (U3w (of_decide_eq_true this) (by decide))
  |bl b=>exact Lf.bl b
  |_=>cases this
 |_=>cases this
theorem eU(ns:List Int)(hns:ns.length<=63):Tp [.scr ns]=some (.bl true):=by
 obtain⟨l,e⟩:∃l:List Int,Ei (eOp Aw (Am (Aa (eC (.int 0)) Ad)) (eSl oSl (Ab 0) CP (Bq (eC (.int 20))))) [some (.scr ns),none,none,none,none,none,none,none] []=some ((l.map .int,[]),[]):=by
  obtain⟨cs,hc,hl⟩:∃cs:List Int,cut (ns.map D.int) none (some 20)=cs.map D.int/\cs.length<=63:=by
   unfold cut
   rw[←List.map_drop,←List.map_take]
   exact⟨_,rfl,by rw[U1l,U1w];omega⟩
  refine⟨0::cs,?_⟩
  have a1:eSl oSl (Ab 0) CP (Bq (eC (.int 20))) [some (.scr ns),none,none,none,none,none,none,none] []=some (.lst true (cs.map .int),[]):=by
   show(some (D.lst true (cut (ns.map D.int) none (some 20)),([]:Store)):Option (D×Store))=_
   rw[hc]
  have a2:Am (Aa (eC (.int 0)) Ad) [some (.scr ns),none,none,none,none,none,none,none] []=some (.lst true [.int 0],[]):=rfl
  rw[QM,add_lists a2 a1 (by rw[U0e];simp;omega)]
  rfl
 have l3:∃env' S',Vw [some (.scr ns),none,none,none,none,none,none,none] []=some (.nx,env',S')/\∃y1 y2 y3 y4 y5 y6,env'=[some (.scr ns),y1,y2,y3,y4,y5,y6,none]:=by
  unfold Vw
  rw[IV,e]
  exact JZ (w:=[]) (g:=Pat.sem (.nm 1)) (b:=Rx) (ds:=l.map .int) (env:=[some (.scr ns),none,none,none,none,none,none,none]) (S:=[])
   (fun _ env S=>∃y1 y2 y3 y4 y5 y6,env=[some (.scr ns),y1,y2,y3,y4,y5,y6,none]) ⟨_,_,_,_,_,_,rfl⟩ (fun i env S _=>by simp) (fun j d env S hd q=>by
    obtain⟨y1,y2,y3,y4,y5,y6,he⟩:=q
    rw[U01] at hd
    obtain⟨c,hc,rfl⟩:=U2m.mp hd
    subst he
    obtain⟨S',w2,w3,w4,w5,w6,e3⟩:=iD ns c y2 y3 y4 y5 y6 S
    exact⟨_,Ed _ _ _,_,_,e3,_,_,_,_,_,_,rfl⟩)
 obtain⟨env',S,l3,y1,y2,y3,y4,y5,y6,he⟩:=l3
 subst he
 have s1:(BR 7 (Mr (Aa (Am (Aa (Ay (Aa (eC (.int 0)) (Aa (eC (.int 0)) Ad))) Ad)) (Aa (Am (Aa (Ay (Aa (eC (.int 0)) (Aa (eC (.int 1)) Ad))) Ad)) (Aa (Am (Aa (Ay (Aa (eC (.int 0)) (Aa (eC (.int 1)) Ad))) (Aa (Ay (Aa (eC (.int 1)) (Aa (eC (.int 0)) Ad))) Ad))) (Aa (Am (Aa (Ay (Aa (eC (.int 0)) (Aa (eC (.int 1)) Ad))) (Aa (Ay (Aa (eC (.int 0)) (Aa (eC (.int 0)) Ad))) Ad))) (Aa (Am (Aa (Ay (Aa (eC (.int 0)) (Aa (eC (.int 1)) Ad))) (Aa (Ay (Aa (eC (.int 1)) (Aa (eC (.int 1)) Ad))) (Aa (Ay (Aa (eC (.int 2)) (Aa (eC (.int 0)) Ad))) Ad)))) (Aa (Am (Aa (Ay (Aa (eC (.int 0)) (Aa (eC (.int 0)) Ad))) (Aa (Ay (Aa (eC (.int 1)) (Aa (eC (.int 1)) Ad))) (Aa (Ay (Aa (eC (.int 2)) (Aa (eC (.int 0)) Ad))) Ad)))) Ad)))))))) [some (.scr ns),y1,y2,y3,y4,y5,y6,none] S=some (.nx,[some (.scr ns),y1,y2,y3,y4,y5,y6,some (.ref S.length)],S++[some six]):=rfl
 have s2:(BR 7 (Q9 (Ab 7) (Am (Aa (Am (Aa (Ay (Aa (eC (.int 0)) (Aa (eC (.int 1)) (Aa (eC (.int 1)) Ad)))) Ad)) (Aa (Am (Aa (Ay (Aa (eC (.int 0)) (Aa (eC (.int 0)) (Aa (eC (.int 1)) Ad)))) Ad)) (Aa (Am (Aa (Ay (Aa (eC (.int 1)) (Aa (eC (.int 0)) (Aa (eC (.int 1)) Ad)))) Ad)) (Aa (Am (Aa (Ay (Aa (eC (.int 0)) (Aa (eC (.int 1)) (Aa (eC (.int 0)) Ad)))) Ad)) (Aa (Am (Aa (Ay (Aa (eC (.bl true)) (Aa (eC (.int 1)) Ad))) (Aa (Ay (Aa (eC (.int 2)) (Aa (eC (.int 0)) Ad))) Ad))) Ad)))))))) [some (.scr ns),y1,y2,y3,y4,y5,y6,some (.ref S.length)] (S++[some six])=some (.nx,[some (.scr ns),y1,y2,y3,y4,y5,y6,some (.ref (S++[some six]).length)],(S++[some six])++[some (six++five)]):=by
  have v7:Ab 7 [some (.scr ns),y1,y2,y3,y4,y5,y6,some (.ref S.length)] (S++[some six])=some (.ref S.length,S++[some six]):=rfl
  have f5:(Am (Aa (Am (Aa (Ay (Aa (eC (.int 0)) (Aa (eC (.int 1)) (Aa (eC (.int 1)) Ad)))) Ad)) (Aa (Am (Aa (Ay (Aa (eC (.int 0)) (Aa (eC (.int 0)) (Aa (eC (.int 1)) Ad)))) Ad)) (Aa (Am (Aa (Ay (Aa (eC (.int 1)) (Aa (eC (.int 0)) (Aa (eC (.int 1)) Ad)))) Ad)) (Aa (Am (Aa (Ay (Aa (eC (.int 0)) (Aa (eC (.int 1)) (Aa (eC (.int 0)) Ad)))) Ad)) (Aa (Am (Aa (Ay (Aa (eC (.bl true)) (Aa (eC (.int 1)) Ad))) (Aa (Ay (Aa (eC (.int 2)) (Aa (eC (.int 0)) Ad))) Ad))) Ad)))))) [some (.scr ns),y1,y2,y3,y4,y5,y6,some (.ref S.length)] (S++[some six])=some (.lst true five,S++[some six]):=rfl
  have li:listOf (S++[some six]) (.ref S.length)=some six:=by rw[VS.listOf,Nj];rfl
  rw[Br,Wx,v7,U0a,f5,U0a]
  show(((listOf (S++[some six]) (.ref S.length)).bind fun xs=>(some five).bind fun ys=>if xs.length+ys.length<=1000000 then some (D.ref (S++[some six]).length,(S++[some six])++[some (xs++ys)]) else none).bind _)=_
  rw[li];rfl
 generalize S++[some six]=U at *
 have s3:(Lh (Hz Fz (Ab 7) (Aa (Am (Aa (Ay (Aa (eC (.int 0)) (Aa (eC (.int 2)) Ad))) (Aa (Ay (Aa (eC (.int 1)) (Aa (eC (.int 0)) Ad))) (Aa (Ay (Aa (eC (.int 2)) (Aa (eC (.int 1)) Ad))) (Aa (Ay (Aa (eC (.int 3)) (Aa (eC (.int 0)) Ad))) Ad))))) Ad))) [some (.scr ns),y1,y2,y3,y4,y5,y6,some (.ref U.length)] (U++[some (six++five)])=some (.nx,[some (.scr ns),y1,y2,y3,y4,y5,y6,some (.ref U.length)],U++[some (six++five++[Ku])]):=QZ (i:=U.length) (d:=Ku) rfl (Nj ..) rfl (by decide) (TY ..)
 have all:∀d∈six++five++[Ku],Th d:=by
  have key:∀d∈six++five++[Ku],∃m ds,d=.lst m ds/\ds.length<=60/\ds.all lZ=true:=by
   intro d hd
   simp only[six,five,Ku,U1y,U1z,U0k,U1m,or_false] at hd
   rcases hd with rfl|rfl|rfl|rfl|rfl|rfl|rfl|rfl|rfl|rfl|rfl|rfl<;>exact⟨true,_,rfl,by decide,by decide⟩
  intro d hd
  obtain⟨m,ds,rfl,h1,h2⟩:=key d hd
  exact dG h1 h2
 have c1:Vx [some (.scr ns),y1,y2,y3,y4,y5,y6,some (.ref U.length)] (U++[some (six++five++[Ku])])=some ([],U++[some (six++five++[Ku])]):=by
  have nl:(six++five++[Ku]).length<=12:=by decide
  generalize six++five++[Ku]=G at *
  have e0:Ei (Ab 7) [some (.scr ns),y1,y2,y3,y4,y5,y6,some (.ref U.length)] (U++[some G])=some ((G,[(U.length,G)]),U++[some G]):=by
   have v7:Ab 7 [some (.scr ns),y1,y2,y3,y4,y5,y6,some (.ref U.length)] (U++[some G])=some (.ref U.length,U++[some G]):=rfl
   rw[QM,v7]
   have li:Fv (U++[some G]) (.ref U.length)=some G:=by
    show listOf (U++[some G]) (.ref U.length)=some G
    rw[VS.listOf,Nj];rfl
   show((Fv (U++[some G]) (.ref U.length)).map _)=_
   rw[li];rfl
  unfold Vx Ea
  rw[e0]
  simp only[U0a]
  rw[comp_map (fun p hp=>by rw[U1k.mp hp];exact Nj ..) (fun _=>false) (fun d=>d) G [] (by simp;omega),U42.mpr (by simp)]
  .rfl
  .intro d hd
   refine⟨_,Ed _ _ _,?_,fun h=>by cases h⟩
   rw[Eo,CJ,SN (all d hd) rfl];rfl
 unfold Tp
 rw[Ew]
 simp only[U0g,U1b,U0o,U1t,U16,U17,U0t,U1c,U1y,U1z,if_true]
 unfold gJ
 rw[BX l3,BX s1,BX s2,BX s3,DQ,Bb,Cg,c1]
 rfl
end W27
end
section
namespace W27
open PySem PySem.Spec L2 VS
theorem Kh:∀{us:List Value},us.length=1->∃a0,us=[a0]
 |[a0],_=>⟨a0,rfl⟩
theorem TX:∀{us:List Value},us.length=2->∃a0 a1,us=[a0,a1]
 |[a0,a1],_=>⟨a0,a1,rfl⟩
theorem lQ:∀{us:List Value},us.length=3->∃a0 a1 a2,us=[a0,a1,a2]
 |[a0,a1,a2],_=>⟨a0,a1,a2,rfl⟩
theorem tops{l:U6h}{w:World}{K:U0b}{h:Heap}{mg:Str->Option Value}{fa:Addr}{f1 f2 f3 f4 f5 f6 f7 f8 f9 f10 f11 f12 f13 f14 f15 f16 f17 f18 f19 f20 f21:Addr}(X:K.In h)(G:h.Ns mainGlobals mg)(hfa:mg "law"=some (.ref fa))
  {od1 an1 od2 an2 od3 an3 od4 an4 od5 an5 od6 an6 od7 an7 od8 an8 od9 an9 od10 an10 od11 an11 od12 an12 od13 an13 od14 an14 od15 an15 od16 an16 od17 an17 od18 an18 od19 an19 od20 an20 od21 an21:Option Addr} {sl1 sl2 sl3 sl4 sl5 sl6 sl7 sl8 sl9 sl10 sl11 sl12 sl13 sl14 sl15 sl16 sl17 sl18 sl19 sl20 sl21:Array (Option Value)} {oc1 kV1 dc1 pm1 cd1 ct1 oc2 kV2 dc2 pm2 cd2 ct2 oc3 kV3 dc3 pm3 cd3 ct3 oc4 kV4 dc4 pm4 cd4 ct4 oc5 kV5 dc5 pm5 cd5 ct5 oc6 kV6 dc6 pm6 cd6 ct6 oc7 kV7 dc7 pm7 cd7 ct7 oc8 kV8 dc8 pm8 cd8 ct8 oc9 kV9 dc9 pm9 cd9 ct9 oc10 kV10 dc10 pm10 cd10 ct10 oc11 kV11 dc11 pm11 cd11 ct11 oc12 kV12 dc12 pm12 cd12 ct12 oc13 kV13 dc13 pm13 cd13 ct13 oc14 kV14 dc14 pm14 cd14 ct14 oc15 kV15 dc15 pm15 cd15 ct15 oc16 kV16 dc16 pm16 cd16 ct16 oc17 kV17 dc17 pm17 cd17 ct17 oc18 kV18 dc18 pm18 cd18 ct18 oc19 kV19 dc19 pm19 cd19 ct19 oc20 kV20 dc20 pm20 cd20 ct20 oc21 kV21 dc21 pm21 cd21 ct21:Value}
  (a1:U0v K mainGlobals "is_whole"=some (some (.ref f1))) (l1:K.lookup f1=some ⟨oc1,od1,.func (U1e "is_whole" "is_whole" (Cr Ik) (Ca Ik) (Av Ik) .none kV1 dc1 pm1 an1 cd1 ct1),sl1⟩) (c1:U1f K cd1 "is_whole"=true) (k1:U04 K (.ref f1)=true)
  (a2:U0v K mainGlobals "are_wholes"=some (some (.ref f2))) (l2:K.lookup f2=some ⟨oc2,od2,.func (U1e "are_wholes" "are_wholes" (Cr G6) (Ca G6) (Av G6) .none kV2 dc2 pm2 an2 cd2 ct2),sl2⟩) (c2:U1f K cd2 "are_wholes"=true) (k2:U04 K (.ref f2)=true)
  (a3:U0v K mainGlobals "is_house"=some (some (.ref f3))) (l3:K.lookup f3=some ⟨oc3,od3,.func (U1e "is_house" "is_house" (Cr Il) (Ca Il) (Av Il) .none kV3 dc3 pm3 an3 cd3 ct3),sl3⟩) (c3:U1f K cd3 "is_house"=true) (k3:U04 K (.ref f3)=true)
  (a4:U0v K mainGlobals "are_houses"=some (some (.ref f4))) (l4:K.lookup f4=some ⟨oc4,od4,.func (U1e "are_houses" "are_houses" (Cr G7) (Ca G7) (Av G7) .none kV4 dc4 pm4 an4 cd4 ct4),sl4⟩) (c4:U1f K cd4 "are_houses"=true) (k4:U04 K (.ref f4)=true)
  (a5:U0v K mainGlobals "is_skyline"=some (some (.ref f5))) (l5:K.lookup f5=some ⟨oc5,od5,.func (U1e "is_skyline" "is_skyline" (Cr Fd) (Ca Fd) (Av Fd) .none kV5 dc5 pm5 an5 cd5 ct5),sl5⟩) (c5:U1f K cd5 "is_skyline"=true) (k5:U04 K (.ref f5)=true)
  (a6:U0v K mainGlobals "_law_mixed"=some (some (.ref f6))) (l6:K.lookup f6=some ⟨oc6,od6,.func (U1e "_law_mixed" "_law_mixed" (Cr Hj) (Ca Hj) (Av Hj) .none kV6 dc6 pm6 an6 cd6 ct6),sl6⟩) (c6:U1f K cd6 "_law_mixed"=true) (k6:U04 K (.ref f6)=true)
  (a7:U0v K mainGlobals "_law_well"=some (some (.ref f7))) (l7:K.lookup f7=some ⟨oc7,od7,.func (U1e "_law_well" "_law_well" (Cr Ih) (Ca Ih) (Av Ih) .none kV7 dc7 pm7 an7 cd7 ct7),sl7⟩) (c7:U1f K cd7 "_law_well"=true) (k7:U04 K (.ref f7)=true)
  (a8:U0v K mainGlobals "_law_draw"=some (some (.ref f8))) (l8:K.lookup f8=some ⟨oc8,od8,.func (U1e "_law_draw" "_law_draw" (Cr Ii) (Ca Ii) (Av Ii) .none kV8 dc8 pm8 an8 cd8 ct8),sl8⟩) (c8:U1f K cd8 "_law_draw"=true) (k8:U04 K (.ref f8)=true)
  (a9:U0v K mainGlobals "_law_reach"=some (some (.ref f9))) (l9:K.lookup f9=some ⟨oc9,od9,.func (U1e "_law_reach" "_law_reach" (Cr Hi) (Ca Hi) (Av Hi) .none kV9 dc9 pm9 an9 cd9 ct9),sl9⟩) (c9:U1f K cd9 "_law_reach"=true) (k9:U04 K (.ref f9)=true)
  (a10:U0v K mainGlobals "_law_stretch"=some (some (.ref f10))) (l10:K.lookup f10=some ⟨oc10,od10,.func (U1e "_law_stretch" "_law_stretch" (Cr GK) (Ca GK) (Av GK) .none kV10 dc10 pm10 an10 cd10 ct10),sl10⟩) (c10:U1f K cd10 "_law_stretch"=true) (k10:U04 K (.ref f10)=true)
  (a11:U0v K mainGlobals "_law_house"=some (some (.ref f11))) (l11:K.lookup f11=some ⟨oc11,od11,.func (U1e "_law_house" "_law_house" (Cr Hl) (Ca Hl) (Av Hl) .none kV11 dc11 pm11 an11 cd11 ct11),sl11⟩) (c11:U1f K cd11 "_law_house"=true) (k11:U04 K (.ref f11)=true)
  (a12:U0v K mainGlobals "_law_houses"=some (some (.ref f12))) (l12:K.lookup f12=some ⟨oc12,od12,.func (U1e "_law_houses" "_law_houses" (Cr Gy) (Ca Gy) (Av Gy) .none kV12 dc12 pm12 an12 cd12 ct12),sl12⟩) (c12:U1f K cd12 "_law_houses"=true) (k12:U04 K (.ref f12)=true)
  (a13:U0v K mainGlobals "_law_line"=some (some (.ref f13))) (l13:K.lookup f13=some ⟨oc13,od13,.func (U1e "_law_line" "_law_line" (Cr GX) (Ca GX) (Av GX) .none kV13 dc13 pm13 an13 cd13 ct13),sl13⟩) (c13:U1f K cd13 "_law_line"=true) (k13:U04 K (.ref f13)=true)
  (a14:U0v K mainGlobals "_law_whole"=some (some (.ref f14))) (l14:K.lookup f14=some ⟨oc14,od14,.func (U1e "_law_whole" "_law_whole" (Cr Hg) (Ca Hg) (Av Hg) .none kV14 dc14 pm14 an14 cd14 ct14),sl14⟩) (c14:U1f K cd14 "_law_whole"=true) (k14:U04 K (.ref f14)=true)
  (a15:U0v K mainGlobals "_law_are_wholes"=some (some (.ref f15))) (l15:K.lookup f15=some ⟨oc15,od15,.func (U1e "_law_are_wholes" "_law_are_wholes" (Cr Ec) (Ca Ec) (Av Ec) .none kV15 dc15 pm15 an15 cd15 ct15),sl15⟩) (c15:U1f K cd15 "_law_are_wholes"=true) (k15:U04 K (.ref f15)=true)
  (a16:U0v K mainGlobals "_law_are_houses"=some (some (.ref f16))) (l16:K.lookup f16=some ⟨oc16,od16,.func (U1e "_law_are_houses" "_law_are_houses" (Cr FJ) (Ca FJ) (Av FJ) .none kV16 dc16 pm16 an16 cd16 ct16),sl16⟩) (c16:U1f K cd16 "_law_are_houses"=true) (k16:U04 K (.ref f16)=true)
  (a17:U0v K mainGlobals "_law_is_skyline"=some (some (.ref f17))) (l17:K.lookup f17=some ⟨oc17,od17,.func (U1e "_law_is_skyline" "_law_is_skyline" (Cr DY) (Ca DY) (Av DY) .none kV17 dc17 pm17 an17 cd17 ct17),sl17⟩) (c17:U1f K cd17 "_law_is_skyline"=true) (k17:U04 K (.ref f17)=true)
  (a18:U0v K mainGlobals "_law_odd"=some (some (.ref f18))) (l18:K.lookup f18=some ⟨oc18,od18,.func (U1e "_law_odd" "_law_odd" (Cr Je) (Ca Je) (Av Je) .none kV18 dc18 pm18 an18 cd18 ct18),sl18⟩) (c18:U1f K cd18 "_law_odd"=true) (k18:U04 K (.ref f18)=true)
  (a19:U0v K mainGlobals "_law_bent"=some (some (.ref f19))) (l19:K.lookup f19=some ⟨oc19,od19,.func (U1e "_law_bent" "_law_bent" (Cr Ij) (Ca Ij) (Av Ij) .none kV19 dc19 pm19 an19 cd19 ct19),sl19⟩) (c19:U1f K cd19 "_law_bent"=true) (k19:U04 K (.ref f19)=true)
  (a20:U0v K mainGlobals "_law_right"=some (some (.ref f20))) (l20:K.lookup f20=some ⟨oc20,od20,.func (U1e "_law_right" "_law_right" (Cr Hh) (Ca Hh) (Av Hh) .none kV20 dc20 pm20 an20 cd20 ct20),sl20⟩) (c20:U1f K cd20 "_law_right"=true) (k20:U04 K (.ref f20)=true)
  (a21:U0v K mainGlobals "law"=some (some (.ref f21))) (l21:K.lookup f21=some ⟨oc21,od21,.func (U1e "law" "law" (Cr K8) (Ca K8) (Av K8) .none kV21 dc21 pm21 an21 cd21 ct21),sl21⟩) (c21:U1f K cd21 "law"=true) (k21:U04 K (.ref f21)=true)
  (z1:U0v K mainGlobals "len"=some none)
  (z2:U0v K mainGlobals "isinstance"=some none)
  (z3:U0v K mainGlobals "all"=some none)
  (z4:U0v K mainGlobals "sorted"=some none)
  (z5:U0v K mainGlobals "min"=some none)
  (z6:U0v K mainGlobals "max"=some none)
  (z7:U0v K mainGlobals "abs"=some none)
  (z8:U0v K mainGlobals "repr"=some none)
  (z9:U0v K mainGlobals "set"=some none)
  (z10:U0v K mainGlobals "list"=some none)
  (z11:U0v K mainGlobals "tuple"=some none)
  (z12:U0v K mainGlobals "range"=some none)
  (z13:U0v K mainGlobals "int"=some none)
  (z14:U0v K mainGlobals "bool"=some none)
  (z15:U0v K mainGlobals "str"=some none)
  (zBz:U0v K mainGlobals "zip"=some none)
  : ∃fd:FuncData,(∀(s:Shared)(v:Value),BindsTo s fd ⟨[v],[]⟩ [("script",v)])/\∀base:Heap,K.In base->base.Ns mainGlobals mg->DW l.prog w K mg base CX0 6 fa fd ["script"] (Ro K):=by
 have e:=hfa.symm.trans (U1v X G a21)
 cases e
 have F1:=EY (st:=Ik) l1 c1 k1
 have b1:=F1.binds (ps:=["thing"]) fun _ _ _ _ _ _ us hl=>by obtain⟨_,rfl⟩:=Kh hl;rfl
 have F2:=EY (st:=G6) l2 c2 k2
 have b2:=F2.binds (ps:=["thing","many"]) fun _ _ _ _ _ _ us hl=>by obtain⟨_,_,rfl⟩:=TX hl;rfl
 have F3:=EY (st:=Il) l3 c3 k3
 have b3:=F3.binds (ps:=["thing"]) fun _ _ _ _ _ _ us hl=>by obtain⟨_,rfl⟩:=Kh hl;rfl
 have F4:=EY (st:=G7) l4 c4 k4
 have b4:=F4.binds (ps:=["thing"]) fun _ _ _ _ _ _ us hl=>by obtain⟨_,rfl⟩:=Kh hl;rfl
 have F5:=EY (st:=Fd) l5 c5 k5
 have b5:=F5.binds (ps:=["thing"]) fun _ _ _ _ _ _ us hl=>by obtain⟨_,rfl⟩:=Kh hl;rfl
 have F6:=EY (st:=Hj) l6 c6 k6
 have b6:=F6.binds (ps:=["cell","k"]) fun _ _ _ _ _ _ us hl=>by obtain⟨_,_,rfl⟩:=TX hl;rfl
 have F7:=EY (st:=Ih) l7 c7 k7
 have b7:=F7.binds (ps:=["cell"]) fun _ _ _ _ _ _ us hl=>by obtain⟨_,rfl⟩:=Kh hl;rfl
 have F8:=EY (st:=Ii) l8 c8 k8
 have b8:=F8.binds (ps:=["well","many"]) fun _ _ _ _ _ _ us hl=>by obtain⟨_,_,rfl⟩:=TX hl;rfl
 have F9:=EY (st:=Hi) l9 c9 k9
 have b9:=F9.binds (ps:=["well"]) fun _ _ _ _ _ _ us hl=>by obtain⟨_,rfl⟩:=Kh hl;rfl
 have F10:=EY (st:=GK) l10 c10 k10
 have b10:=F10.binds (ps:=["well","reach"]) fun _ _ _ _ _ _ us hl=>by obtain⟨_,_,rfl⟩:=TX hl;rfl
 have F11:=EY (st:=Hl) l11 c11 k11
 have b11:=F11.binds (ps:=["well","reach","houses"]) fun _ _ _ _ _ _ us hl=>by obtain⟨_,_,_,rfl⟩:=lQ hl;rfl
 have F12:=EY (st:=Gy) l12 c12 k12
 have b12:=F12.binds (ps:=["well","reach","most"]) fun _ _ _ _ _ _ us hl=>by obtain⟨_,_,_,rfl⟩:=lQ hl;rfl
 have F13:=EY (st:=GX) l13 c13 k13
 have b13:=F13.binds (ps:=["houses"]) fun _ _ _ _ _ _ us hl=>by obtain⟨_,rfl⟩:=Kh hl;rfl
 have F14:=EY (st:=Hg) l14 c14 k14
 have b14:=F14.binds (ps:=["thing"]) fun _ _ _ _ _ _ us hl=>by obtain⟨_,rfl⟩:=Kh hl;rfl
 have F15:=EY (st:=Ec) l15 c15 k15
 have b15:=F15.binds (ps:=["thing","many"]) fun _ _ _ _ _ _ us hl=>by obtain⟨_,_,rfl⟩:=TX hl;rfl
 have F16:=EY (st:=FJ) l16 c16 k16
 have b16:=F16.binds (ps:=["thing"]) fun _ _ _ _ _ _ us hl=>by obtain⟨_,rfl⟩:=Kh hl;rfl
 have F17:=EY (st:=DY) l17 c17 k17
 have b17:=F17.binds (ps:=["thing"]) fun _ _ _ _ _ _ us hl=>by obtain⟨_,rfl⟩:=Kh hl;rfl
 have F18:=EY (st:=Je) l18 c18 k18
 have b18:=F18.binds (ps:=["well"]) fun _ _ _ _ _ _ us hl=>by obtain⟨_,rfl⟩:=Kh hl;rfl
 have F19:=EY (st:=Ij) l19 c19 k19
 have b19:=F19.binds (ps:=["well","rows"]) fun _ _ _ _ _ _ us hl=>by obtain⟨_,_,rfl⟩:=TX hl;rfl
 have F20:=EY (st:=Hh) l20 c20 k20
 have b20:=F20.binds (ps:=["thing"]) fun _ _ _ _ _ _ us hl=>by obtain⟨_,rfl⟩:=Kh hl;rfl
 have F21:=EY (st:=K8) l21 c21 k21
 have B:Blt mg:=fun x hx=>by
  simp only[Rc,U0k,U1m,or_false] at hx
  rcases hx with rfl|rfl|rfl|rfl|rfl|rfl|rfl|rfl|rfl|rfl|rfl|rfl|rfl|rfl|rfl
  .exact U1q X G z1
  .exact U1q X G z2
  .exact U1q X G z3
  .exact U1q X G z4
  .exact U1q X G z5
  .exact U1q X G z6
  .exact U1q X G z7
  .exact U1q X G z8
  .exact U1q X G z9
  .exact U1q X G z10
  .exact U1q X G z11
  .exact U1q X G z12
  .exact U1q X G z13
  .exact U1q X G z14
  .exact U1q X G z15
 have Bz:mg "zip"=none:=U1q X G zBz
 refine⟨U1e "law" "law" (Cr K8) (Ca K8) (Av K8) .none kV21 dc21 pm21 an21 cd21 ct21,fun s v=>.of_eq rfl,fun base _ _=>?_⟩
 have C_is_whole:Dz l.prog w K mg base "is_whole" 1 Gw:=⟨⟨["thing"],⟨_,_,Xu F1 B,b1,k1,U1v X G a1⟩,fun ds r h=>Fy h⟩⟩
 have C_are_wholes:Dz l.prog w K mg base "are_wholes" 2 Di:=⟨⟨["thing","many"],⟨_,_,VB F2 B C_is_whole,b2,k2,U1v X G a2⟩,fun ds r h=>Fy h⟩⟩
 have C_is_house:Dz l.prog w K mg base "is_house" 3 Gx:=⟨⟨["thing"],⟨_,_,Xv F3 B C_are_wholes,b3,k3,U1v X G a3⟩,fun ds r h=>Fy h⟩⟩
 have C_are_houses:Dz l.prog w K mg base "are_houses" 4 Ck:=⟨⟨["thing"],⟨_,_,VD F4 B C_is_house,b4,k4,U1v X G a4⟩,fun ds r h=>Fy h⟩⟩
 have C_is_skyline:Dz l.prog w K mg base "is_skyline" 3 Cj:=⟨⟨["thing"],⟨_,_,V9 F5 B Bz C_are_wholes,b5,k5,U1v X G a5⟩,fun ds r h=>Fy h⟩⟩
 have C_law_mixed:Dz l.prog w K mg base "_law_mixed" 1 GJ:=⟨⟨["cell","k"],⟨_,_,XJ F6 B,b6,k6,U1v X G a6⟩,fun ds r h=>Fy h⟩⟩
 have C_law_well:Dz l.prog w K mg base "_law_well" 1 FZ:=⟨⟨["cell"],⟨_,_,Xo F7 B,b7,k7,U1v X G a7⟩,fun ds r h=>Fy h⟩⟩
 have C_law_draw:Gb l.prog w K mg base "_law_draw" 2 Ai:=⟨⟨["well","many"],⟨_,_,Xq F8 B C_law_mixed,b8,k8,U1v X G a8⟩,fun ns ds r h=>Jz h⟩⟩
 have C_law_reach:Gb l.prog w K mg base "_law_reach" 3 Dp:=⟨⟨["well"],⟨_,_,XH F9 B C_law_draw,b9,k9,U1v X G a9⟩,fun ns ds r h=>Jz h⟩⟩
 have C_law_stretch:Gb l.prog w K mg base "_law_stretch" 3 Dw:=⟨⟨["well","reach"],⟨_,_,Ud F10 B C_law_draw,b10,k10,U1v X G a10⟩,fun ns ds r h=>Jz h⟩⟩
 have C_law_house:Gb l.prog w K mg base "_law_house" 4 Es:=⟨⟨["well","reach","houses"],⟨_,_,XM F11 B C_law_stretch C_law_draw,b11,k11,U1v X G a11⟩,fun ns ds r h=>Jz h⟩⟩
 have C_law_houses:Gb l.prog w K mg base "_law_houses" 5 Eh:=⟨⟨["well","reach","most"],⟨_,_,V8 F12 B C_law_draw C_law_house,b12,k12,U1v X G a12⟩,fun ns ds r h=>Jz h⟩⟩
 have C_law_line:Dz l.prog w K mg base "_law_line" 1 Fb:=⟨⟨["houses"],⟨_,_,Xp F13 B,b13,k13,U1v X G a13⟩,fun ds r h=>Fy h⟩⟩
 have C_law_whole:Dz l.prog w K mg base "_law_whole" 1 Fi:=⟨⟨["thing"],⟨_,_,XD F14 B,b14,k14,U1v X G a14⟩,fun ds r h=>Fy h⟩⟩
 have C_law_are_wholes:Dz l.prog w K mg base "_law_are_wholes" 2 CN:=⟨⟨["thing","many"],⟨_,_,Qf F15 B C_law_whole,b15,k15,U1v X G a15⟩,fun ds r h=>Fy h⟩⟩
 have C_law_are_houses:Dz l.prog w K mg base "_law_are_houses" 3 Cz:=⟨⟨["thing"],⟨_,_,Qg F16 B C_law_are_wholes,b16,k16,U1v X G a16⟩,fun ds r h=>Fy h⟩⟩
 have C_law_is_skyline:Dz l.prog w K mg base "_law_is_skyline" 3 Cy:=⟨⟨["thing"],⟨_,_,Qd F17 B Bz C_law_are_wholes,b17,k17,U1v X G a17⟩,fun ds r h=>Fy h⟩⟩
 have C_law_odd:Gb l.prog w K mg base "_law_odd" 3 CG:=⟨⟨["well"],⟨_,_,Zc F18 B C_law_draw,b18,k18,U1v X G a18⟩,fun ns ds r h=>Jz h⟩⟩
 have C_law_bent:Gb l.prog w K mg base "_law_bent" 4 Dn:=⟨⟨["well","rows"],⟨_,_,Xr F19 B C_law_draw C_law_odd,b19,k19,U1v X G a19⟩,fun ns ds r h=>Jz h⟩⟩
 have C_law_right:Dz l.prog w K mg base "_law_right" 5 Ep:=⟨⟨["thing"],⟨_,_,XF F20 B C_is_skyline C_are_houses C_law_is_skyline C_law_are_houses,b20,k20,U1v X G a20⟩,fun ds r h=>Fy h⟩⟩
 exact(oG F21 B C_law_well C_law_houses C_law_reach C_law_line C_are_houses C_is_skyline C_law_odd C_law_bent C_law_right).imp (oN eU)
theorem walk{l:U6h}{q:Program}{loose:List Str}{XP:(Str->Option Value)->Heap->Prop}{YP:World->Heap->Prop}{d:DefRec}{K:Params->U0b}(hn:l.most=some 63)(hdf:d.params.defaults=[])
  (hY:∀(w:World)(h:Heap),YP w h->(K w.params).In h)
  (F:∀(w:World)(mg:Str->Option Value)(fa:Addr)(h:Heap),(K w.params).In h->h.Ns mainGlobals mg->mg d.name=some (.ref fa) ->
   ∃fd:FuncData,(∀(s:Shared)(u:Value),BindsTo s fd ⟨[u],[]⟩ [("script",u)])/\∀base:Heap,(K w.params).In base->base.Ns mainGlobals mg->DW l.prog w (K w.params) mg base CX0 6 fa fd ["script"] (Ro (K w.params))) :
  U7y q loose XP YP l.row.toRowW d [] (fun f vs=>U7w f vs) :=
 L2.cZ (n:=63) (k:=6) (x:="script") (CX:=CX0) (sp:=Ro) hn (by decide) hdf ⟨rfl,by decide,by decide,rfl⟩ hY F (fun _ _ a ns hl hO hS=>⟨a,ns,rfl,hO,hl,hS,fun _=>rfl⟩) fun _ _ _ _ z=>z
end W27
open PySem PySem.W PyProof.Rows
set_option maxRecDepth 100000 in
set_option maxHeartbeats 0 in
theorem PySem.Challenge.cw_boxcover_k27_what_are_houses_and_skyline_holds : PySem.Challenge.rw_boxcover_k27_what_are_houses_and_skyline.Holds := by
 w_on;o_law;k_head;(case hw=>w_witness2)
 k_fill
 refine W27.walk (l := PySem.Challenge.rw_boxcover_k27_what_are_houses_and_skyline) rfl rfl (fun w h Y => PySem.W.kIn_of Y) ?F
 case F =>
  intro w mg fa h KX G hmg
  refine' W27.tops KX G hmg ?a1 ?l1 ?c1 ?k1 ?a2 ?l2 ?c2 ?k2 ?a3 ?l3 ?c3 ?k3 ?a4 ?l4 ?c4 ?k4 ?a5 ?l5 ?c5 ?k5 ?a6 ?l6 ?c6 ?k6 ?a7 ?l7 ?c7 ?k7 ?a8 ?l8 ?c8 ?k8 ?a9 ?l9 ?c9 ?k9 ?a10 ?l10 ?c10 ?k10 ?a11 ?l11 ?c11 ?k11 ?a12 ?l12 ?c12 ?k12 ?a13 ?l13 ?c13 ?k13 ?a14 ?l14 ?c14 ?k14 ?a15 ?l15 ?c15 ?k15 ?a16 ?l16 ?c16 ?k16 ?a17 ?l17 ?c17 ?k17 ?a18 ?l18 ?c18 ?k18 ?a19 ?l19 ?c19 ?k19 ?a20 ?l20 ?c20 ?k20 ?a21 ?l21 ?c21 ?k21 ?z1 ?z2 ?z3 ?z4 ?z5 ?z6 ?z7 ?z8 ?z9 ?z10 ?z11 ?z12 ?z13 ?z14 ?z15 ?zBz
  (case a1=>k_is);(case l1=>k_is);(case c1=>k_is);(case k1=>k_is)
  (case a2=>k_is);(case l2=>k_is);(case c2=>k_is);(case k2=>k_is)
  (case a3=>k_is);(case l3=>k_is);(case c3=>k_is);(case k3=>k_is)
  (case a4=>k_is);(case l4=>k_is);(case c4=>k_is);(case k4=>k_is)
  (case a5=>k_is);(case l5=>k_is);(case c5=>k_is);(case k5=>k_is)
  (case a6=>k_is);(case l6=>k_is);(case c6=>k_is);(case k6=>k_is)
  (case a7=>k_is);(case l7=>k_is);(case c7=>k_is);(case k7=>k_is)
  (case a8=>k_is);(case l8=>k_is);(case c8=>k_is);(case k8=>k_is)
  (case a9=>k_is);(case l9=>k_is);(case c9=>k_is);(case k9=>k_is)
  (case a10=>k_is);(case l10=>k_is);(case c10=>k_is);(case k10=>k_is)
  (case a11=>k_is);(case l11=>k_is);(case c11=>k_is);(case k11=>k_is)
  (case a12=>k_is);(case l12=>k_is);(case c12=>k_is);(case k12=>k_is)
  (case a13=>k_is);(case l13=>k_is);(case c13=>k_is);(case k13=>k_is)
  (case a14=>k_is);(case l14=>k_is);(case c14=>k_is);(case k14=>k_is)
  (case a15=>k_is);(case l15=>k_is);(case c15=>k_is);(case k15=>k_is)
  (case a16=>k_is);(case l16=>k_is);(case c16=>k_is);(case k16=>k_is)
  (case a17=>k_is);(case l17=>k_is);(case c17=>k_is);(case k17=>k_is)
  (case a18=>k_is);(case l18=>k_is);(case c18=>k_is);(case k18=>k_is)
  (case a19=>k_is);(case l19=>k_is);(case c19=>k_is);(case k19=>k_is)
  (case a20=>k_is);(case l20=>k_is);(case c20=>k_is);(case k20=>k_is)
  (case a21=>k_is);(case l21=>k_is);(case c21=>k_is);(case k21=>k_is)
  (case z1=>k_is);(case z2=>k_is);(case z3=>k_is);(case z4=>k_is);(case z5=>k_is);(case z6=>k_is);(case z7=>k_is);(case z8=>k_is);(case z9=>k_is);(case z10=>k_is);(case z11=>k_is);(case z12=>k_is);(case z13=>k_is);(case z14=>k_is);(case z15=>k_is)
  (case zBz=>k_is)
end
