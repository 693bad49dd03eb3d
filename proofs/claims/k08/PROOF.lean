import PyProof.Rows.All
import Wide.All
import OpenK.AllK
import Wide.FinOn
import Lean
import PyProof.EqAt
import PyProof.EqKinds
import PyProof.TupleCall
import PyProof.SetKind
import PyProof.SetNew
import PyProof.SetRoads
import PyProof.Walks
import PyProof.Rows.SetListFold
import PyProof.Seq
import PyProof.Rows.SortShell
import PyProof.TupleIter
import PyProof.CollectWalk
import PyProof.ReprRoads
import PyProof.EqLayable
import PyProof.ReprLen
import PyProof.WalkInts
import PyProof.SeqI3
import PyProof.ListMulRoad
import PyProof.ZipIter
import PyProof.EnumFor
import PyProof.EnumMake
import PyProof.Draws
import PyProof.Rows.ZipGen
import PyProof.LayNew
import PyProof.WalksMore
import PyProof.IsiTupleAll
import PyProof.Rows.Range3
import PyProof.Rows.SumAny
import PyProof.Rows.CallKwBuiltin
import PyProof.MinMaxWalk
import PySem.Challenge.RW_boxcover_k08_pieces_and_gaps_far
open PySem renaming wpAny_bind → U0, wpAny_pure → U0d, wpAny_holding → U19, wpAny_newObj_type → U2d, wpAny_call_entry → U2k, wpAny_field → U2m, wpAny_seqItems → U2n, mem_of_lookup → U22, wpAny_updateSeq → U26, wpAny_setField → U3b, wpAny_truthy_bool → U3c, wpAny_setField_rec → U30, wpAny_passesOwn → U4b, wpAny_setState_of → U4k, wpAny_mono → U4l, wpAny_rule → U4p, wpAny_typeOf → U4v, wpAny_askSetting → U4y, wpAny_isInstance → U4z, wpAny_Call_Name_kw → U5, wpAny_letGo → U5g, wpAny_pyIter_list → U5k, wpAny_attempt → U5o, wpAny_specialOf → U5w, wpAny_pyIter_tuple → U51, wpAny_tryCatch → U54, wpAny_onRaise → U6g, wpAny_execs_nil → U6k, wpAny_updateSeq_pair → U6q, wpAny_setEntries_of → U6r, wpAny_pyIter_slot → U7, wpAny_ite_false → U7k, wpAny_runValue → U7q, call → U7t
open PySem.W renaming Frag → U0a, nsIn → U00, keepIn → U02, codeIn → U05, mg_of → U06, fnOf → U08, mg_none_of → U1u, kia_one → U25, kitOne → U3p, findIn → U52, cellsFrom_some → U6a, OpenLaw → U6m, methodObj → U65, instObj → U7i, lookIn → U7p, WalkO → U7w
open Option renaming bind_some → U0b, map_bind → U0f, some → U1i, map_eq_some_iff → U1y, map → U17, toList_some → U32, isSome_iff_exists → U33, isSome_some → U6z
open PySem.Heap renaming get?_push_of_some → U0c, lt_size → U0m, get?_push_size → U0v, get?_update_other → U04, SameBut → U07, get?_update_self → U1o, size_push → U18, ExtBut → U5p, IsTuple → U50
open List renaming map_map → U0e, length_cons → U0g, replicate → U0h, length_map → U0i, map_cons → U0j, range → U0k, mem_cons_self → U0l, getElem?_eq_getElem → U0n, getElem?_eq_some_iff → U0o, mem_cons_of_mem → U0p, replicate_succ → U0q, getD_eq_getElem?_getD → U0r, length_append → U0s, mem_cons → U0t, size_toArray → U0x, getElem?_map → U0z, mem_singleton → U01, replicate_zero → U09, length_nil → U1a, mem_append_right → U1d, length_replicate → U1e, getElem?_append_left → U1f, mem_of_getElem? → U1h, map_nil → U1j, nil_append → U1n, map_append → U1p, mem_map → U1v, not_mem_nil → U13, lookup_cons → U14, cons_append → U15, foldl_cons → U16, getElem?_append_right → U2a, sum_cons → U2b, mem_append → U2c, pairwise_cons → U2f, length_take → U2j, getElem?_set_ne → U2p, append_nil → U2u, Nodup → U2w, getElem?_set_self → U21, mem_append_left → U28, take_length → U29, mem_range → U3, mergeSort_perm → U3d, mem_filter → U3e, drop_eq_getElem_cons → U3g, find?_cons → U3h, getElem_mem → U3k, all_eq_true → U3m, take_succ → U3q, length_eq_zero_iff → U3r, length_singleton → U3y, length_filter_le → U31, flatten_cons → U34, append_assoc → U35, foldl_append → U36, getElem?_replicate → U38, length_pos_iff → U39, nodup_cons → U4c, length_set → U4d, mem_iff_getElem? → U4e, forIn_cons → U4f, eq_nil_or_concat → U4h, concat_eq_append → U4i, pairwise_append → U4o, dropLast_concat → U4r, Perm → U4s, map_congr_left → U42, pairwise_mergeSort → U44, lookup_append → U5a, length_zip → U5c, length → U5d, length_eq_one_iff → U5i, length_range → U5l, getElem?_toArray → U5m, filterMap_cons → U5r, filter_eq_self → U5t, of_mem_zip → U5u, forIn_nil → U53, pairwise_singleton → U56, take_of_length_le → U6d, Pairwise → U6f, filter_cons → U6h, getElem?_eq_none → U6i, foldl → U6l, getElem_of_mem → U6t, mem_map_of_mem → U6u, find?_eq_none → U60, all_cons → U62, map_tail → U64, take_sublist → U67, filter_congr → U7a, flatMap_cons → U7b, length_drop → U7c, isEmpty_nil → U7f, lookup → U7o, drop_zero → U7s, any_cons → U7x, cons → U72, range' → U75, map_id → U76
open Nat renaming le_refl → U0u, lt_of_lt_of_le → U0w, ne_of_lt → U0y, le_trans → U1c, le_add_right → U1m, ne_of_gt → U1q, reduceAdd → U1w, reduceSub → U1x, le_of_lt → U2i, lt_trans → U2q, lt_succ_of_lt → U24, zero_le → U3a, lt_irrefl → U3u, lt_of_le_of_lt → U3z, lt_succ_self → U4x, le_succ → U5e, mul_le_mul_right → U5n, add_lt_add_left → U6s, mul_comm → U7d, not_lt_zero → U7j, not_lt → U7u, le_of_eq → U7z
open Option.some renaming inj → U03
open Bool renaming and_eq_true → U1b, false_ne_true → U1g, false_eq_true → U1t, eq_iff_iff → U3f, or_false → U45, not_true → U46, or_eq_true → U6n, true_or → U73
open PySem.Builtin.SmallTypes renaming nextOf → U1k, ownedTupleIsFree → U11
open Ne renaming symm → U1l
open PySem.Obj renaming mapSeq → U1r, mapFields → U37
open PySem.SetTable renaming below → U1s, grown → U4t, probe → U6w
open Array renaming length_toList → U1z, getElem?_eq_getElem → U2g, getD_eq_getD_getElem? → U27, getElem?_toList → U3i
open PySem.Heap.SameBut renaming update → U10
open PySem.Value renaming ref → U12, none → U2h, type → U23, int → U3x, bool → U48, str → U7h
open PySem.F renaming plainAttrs_list → U2e, slot_list_append → U2r, type_list_append → U2s, slot_zip_next → U2y, slot_tuple_iterator_next → U3w, plain_max_loop → U4, plain_extend_loop → U4q, called_set → U40, args_zip_next_1 → U43, slot_tuple_mul → U5f, entry_zip_next → U5h, args_tuple_add_2 → U5y, entry_tuple_add → U55, plain_list_iadd → U58, slot_tuple_add → U6b, slot_dict_get → U6j, entry_max_loop → U7g
open PySem.Around renaming under_plainId → U2l
open PySem.NameKind renaming free → U2o, cell → U3v
open PySem.PassesOwn renaming never → U2t
open PySem.SeqAt renaming shaped → U2v
open PySem.Builtin.List renaming listExtendWith → U2x, listSameRef → U3l, listLengthHint → U3t, listTooLong → U5z, listTouch → U6e
open Int renaming toNat_natCast → U2z, le_refl → U5q, mul_one → U6, emod_lt_of_pos → U61, le_antisymm → U7l, emod_nonneg → U7m, le_of_lt → U71, zero_add → U74
open PyProof.Rows renaming slot_tuple_getitem → U20, callWith_type1 → U3s, IntTab → U5s
open PySem.Str renaming ofString → U3j
open PySem.PyData renaming depth → U3n, depthAll → U4g, canLay0 → U4u, shown → U41, shownAll → U5b, canLayAll0 → U59, showable → U6p, eqv → U7v
open Sum renaming inl → U3o, inr → U6v
open PySem.Manifest renaming ParamKind → U4a, Receiver → U57
open PySem.Manifest.ParamKind renaming posOnly → U4j
open False renaming elim → U4m
open PySem.Builtin.Slice renaming slicePlaces → U4n, sliceAdjust → U5v
open PySem.Builtin.Tuple renaming tupleExact → U4w
open PySem.Shared renaming TypeIs → U47, heap → U6y
open True renaming intro → U49
open PySem.SetTable.below renaming go → U5j
open PySem.Calls renaming spliced_cons → U5x, callWith_builtin → U6c, spliced_nil → U66
open ForInStep renaming yield → U6o
open List.Perm renaming refl → U6x, cons → U7r
open List.cons renaming inj → U63
open List.Pairwise renaming nil → U68
open PySem.SetTable.probe renaming go → U69
open Or renaming inr → U7e, inl → U70
open Sum.inl renaming inj → U7n
open Function renaming comp → U7y
noncomputable section
set_option Elab.async false
set_option maxRecDepth 10000
set_option linter.all false
set_option maxHeartbeats 4000000
namespace PySem.W.Fast
def tw10729643307653129288:=0
def tw5711401125772495688:=0
def tw1813373421131884173:=0
def tw413908350681639072:=0
def tw14622157710636778581:=0
def tw6524559162196516484:=0
def tw13952951756700324381:=0
def tw173599210699902527:=0
def tw11862803979673897763:=0
def tw3404307072931149579:=0
def tw8939679843758798839:=0
def tw9503983057087439353:=0
def tw13193835418124167549:=0
def tw3238476383303498307:=0
def tw18387694311246671835:=0
def tw9452931881499262283:=0
def tw14724133417494632765:=0
def tw13176931940440024666:=0
def tw15610524823010224634:=0
def tw11339860318174922298:=0
def tw10621541544877851289:=0
def tw1995588541701290319:=0
def tw1563363203535418100:=0
def tw1092161961645112736:=0
def tw15787176475456324491:=0
def tw9603234926075769753:=0
def tw12612913551804064863:=0
def tw3194192268644642728:=0
def tw3701013747556897414:=0
def tw18371621544126942133:=0
def tw8869396698725759276:=0
def tw17643909315366630882:=0
def tw11912176524903503608:=0
def tw2331680006806455324:=0
def tw1499912090595762141:=0
def tw12853611382468111134:=0
def tw5548143127442325938:=0
def tw155807188255020911:=0
def tw11657666210061152990:=0
def tw9467694514476541988:=0
def tw6879835480485319844:=0
def tw5216909134273012742:=0
def tw12872272775092069215:=0
def tw10730132710460487045:=0
def tw4899684698056684621:=0
def tw9214369523863504506:=0
def tw172108103179050609:=0
def tw10318826205080715442:=0
def tw12764748756711968637:=0
def tw9415615973693199424:=0
def tw17527713091211459634:=0
def tw16378495971497999321:=0
def tw7285443395296376541:=0
def tw11525691266662117099:=0
def tw3835795563391636989:=0
def tw679186173041441362:=0
def tw18025888249144498817:=0
def tw3255226402473186411:=0
def tw2774503060585179030:=0
def tw4418952584211226050:=0
def tw12273266323463978616:=0
def tw981234072528275052:=0
def tw1387635176358091323:=0
def tw15627973849232991594:=0
def tw10051929584560810772:=0
def tw3454976809057601253:=0
def tw11950224372250257231:=0
def tw2156177860305943499:=0
def tw8799098907761497969:=0
def tw5939651728302367522:=0
def tw17918712578811153516:=0
def tw17344388138278352079:=0
def tw2075898795133528717:=0
def tw11571394663859143036:=0
def tw11093906825876116475:=0
def tw18151772365513178047:=0
def tw12889971716422507142:=0
def tw1569465771057653597:=0
def tw1770052875626887111:=0
def tw12935503329499096184:=0
def tw356374356357899478:=0
def tw1242630185170843212:=0
def tw5489614625380797616:=0
def tw8352918585060994109:=0
def tw10248739104355153064:=0
def tw18425027939031366389:=0
def tw16431692945506193180:=0
def tw10949170446823802798:=0
def tw9111872738088139616:=0
def tw4226083735050069048:=0
def tw9434419656680455272:=0
def tw7268913992522943012:=0
def tw9829502289016147441:=0
def tw9102758590791015915:=0
def tw8940772548107371819:=0
def tw158947343076762996:=0
def tw5881421647365078281:=0
def tw2912717295602847768:=0
def tw16893682722520550425:=0
def tw15158521119916945281:=0
def tw11723025865552303796:=0
def tw6622462694084263469:=0
def tw8992589097833741979:=0
def tw4533115837447407587:=0
def tw14894665533752998614:=0
def tw10648692748279903281:=0
def tw2205765189033552998:=0
def tw3263501466596679868:=0
def tw799746230749959243:=0
def tw13846090490986906132:=0
end PySem.W.Fast
section
set_option maxRecDepth 100000
namespace L2
open PySem PySem.Spec PyProof.Rows
abbrev Key:=Sum Int Str
def Pu:Key->Value->Bool
 |.inl k,v=>Value.isInt k v
 |.inr x,v=>Value.isStrOf x v
def Jag(w:World):Key->Int
 |.inl k=>hashInt k
 |.inr x=>hashStr w x
theorem Fg:∀{k:Key} {v:Value},Pu k v=true->(∃i t,k=U3o i/\v=U3x i t)∨(∃x t,k=U6v x/\v=U7h x t)
 |.inl i,v,h=>by
  obtain⟨t,e⟩:=Value.isInt_shape (k:=i) (v:=v) h
  exact .inl ⟨i,t,rfl,e⟩
 |.inr x,v,h=>by
  obtain⟨t,e⟩:=Value.isStrOf_shape (x:=x) (v:=v) h
  exact .inr ⟨x,t,rfl,e⟩
theorem iR(i:Int)(t:Tok):Pu (.inl i) (.int i t)=true:=by simp[Pu,Value.isInt]
theorem iQ(x:Str)(t:Tok):Pu (.inr x) (.str x t)=true:=by simp[Pu,Value.isStrOf]
theorem wL(a b:Int):decide ((U3o a:Key)=U3o b)=(a==b):=by
 by_cases e:a=b
 .subst e;simp
 .have h:¬(U3o a:Key)=U3o b:=fun q=>e (U7n q)
  rw[decide_eq_false h]
  exact(beq_eq_false_iff_ne.mpr e).symm
theorem wI(a b:Str):decide ((U6v a:Key)=U6v b)=decide (a=b):=by
 by_cases e:a=b
 .subst e;simp
 .have h:¬(U6v a:Key)=U6v b:=fun q=>e (U6v.inj q)
  rw[decide_eq_false h,decide_eq_false e]
theorem wK(a:Int)(b:Str):decide ((U3o a:Key)=U6v b)=false:=decide_eq_false (fun q=>nomatch q)
theorem wJ(a:Str)(b:Int):decide ((U6v a:Key)=U3o b)=false:=decide_eq_false (fun q=>nomatch q)
def Fx(prog:Program)(w:World):PySem.KeyKind prog w Key where
 is:=Pu
 hash:=Jag w
 inj:=fun v a b ha hb=>by
  rcases Fg ha with ⟨i,t,rfl,rfl⟩|⟨x,t,rfl,rfl⟩
  .rcases Fg hb with ⟨j,u,rfl,e⟩|⟨y,u,rfl,e⟩
   .injection e with e1 _;rw[e1]
   .exact nomatch e
  .rcases Fg hb with ⟨j,u,rfl,e⟩|⟨y,u,rfl,e⟩
   .exact nomatch e
   .injection e with e1 _;rw[e1]
 byValue:=fun k v h=>by
  rcases Fg h with ⟨i,t,rfl,rfl⟩|⟨x,t,rfl,rfl⟩<;>rfl
 pyHash:=fun hv h=>by
  rcases Fg hv with ⟨i,t,rfl,rfl⟩|⟨x,t,rfl,rfl⟩
  .exact wpAny_pyHash_int h
  .exact wpAny_pyHash_str h
 eqBool:=fun hu hv h=>by
  rcases Fg hu with ⟨i,t,rfl,rfl⟩|⟨x,t,rfl,rfl⟩
  .rcases Fg hv with ⟨j,u,rfl,rfl⟩|⟨y,u,rfl,rfl⟩
   .rw[wL] at h;exact wpAny_eqBool_int h
   .rw[wK] at h;exact SeqAt.EqAt.int_str i t y u _ _ _ _ h
  .rcases Fg hv with ⟨j,u,rfl,rfl⟩|⟨y,u,rfl,rfl⟩
   .rw[wJ] at h;exact SeqAt.EqAt.str_int x t j u _ _ _ _ h
   .rw[wI] at h;exact wpAny_eqBool_str h
 «strs»:=fun k x t v h=>by
  rcases Fg h with ⟨i,u,rfl,e⟩|⟨y,u,rfl,e⟩
  .exact nomatch e
  .injection e with e1 _
   subst e1
   cases v<;>rfl
theorem Zw(prog:Program)(w:World)(i:Int)(t:Tok):(Fx prog w).is (.inl i) (.int i t)=true:=iR i t
theorem Zv(prog:Program)(w:World)(x:Str)(t:Tok):(Fx prog w).is (.inr x) (.str x t)=true:=iQ x t
end L2
namespace L2
open PySem PySem.Spec PyProof.Rows
inductive V where
 |non|bl (b:Bool)|int (i:Int)|str (x:Str)|byt (b:Array UInt8)|flt (b:UInt64)|ref (a:Addr)|ty (n:String)
 deriving DecidableEq
def RelV:V->Value->Prop
 |.non,u=>u=U2h
 |.bl b,u=>u=U48 b
 |.int i,u=>∃t,u=U3x i t
 |.str x,u=>∃t,u=U7h x t
 |.byt b,u=>∃t,u=Value.bytes b t
 |.flt b,u=>∃t,u=Value.float b t
 |.ref a,u=>u=U12 a
 |.ty n,u=>u=U23 n
abbrev Vals:List V->List Value->Prop:=Paired RelV
theorem Vals.length{xs:List V}{us:List Value}(r:Vals xs us):xs.length=us.length:=Paired.length r
theorem Vals.get:∀{xs:List V} {us:List Value} {i:Nat} {x:V},Vals xs us->xs[i]?=some x->∃u,us[i]?=some u/\RelV x u
 |_,_,_,_,.nil,e=>by simp at e
 |_,_,0,_,.cons r _,e=>by simp at e;subst e;exact⟨_,rfl,r⟩
 |_,_,i+1,x,.cons _ t,e=>by
  obtain⟨u,h1,h2⟩:=Vals.get (i:=i) (x:=x) t (by simpa using e)
  exact⟨u,by simpa using h1,h2⟩
theorem Vals.set{x:V}{u:Value}(r:RelV x u):∀{xs:List V} {us:List Value} (i:Nat),Vals xs us->Vals (xs.set i x) (us.set i u)
 |_,_,_,.nil=>.nil
 |_,_,0,.cons _ t=>.cons r t
 |_,_,i+1,.cons q t=>.cons q (Vals.set r i t)
theorem Vals.append:∀{xs ys:List V} {us ws:List Value},Vals xs us->Vals ys ws->Vals (xs++ys) (us++ws)
 |_,_,_,_,.nil,s=>s
 |_,_,_,_,.cons r t,s=>.cons r (Vals.append t s)
theorem Vals.take:∀{xs:List V} {us:List Value} (n:Nat),Vals xs us->Vals (xs.take n) (us.take n)
 |_,_,0,_=>.nil
 |_,_,_+1,.nil=>.nil
 |_,_,n+1,.cons r t=>.cons r (Vals.take n t)
theorem Vals.drop:∀{xs:List V} {us:List Value} (n:Nat),Vals xs us->Vals (xs.drop n) (us.drop n)
 |_,_,0,r=>r
 |_,_,_+1,.nil=>.nil
 |_,_,n+1,.cons _ t=>Vals.drop n t
def LR:Option V->Option Value->Prop
 |some v,some u=>RelV v u
 |none,none=>True
 |_,_=>False
def KV{κ:Type}:List (κ×V)->List (κ×Value)->Prop:=Paired fun(p:κ×V) (q:κ×Value)=>p.1=q.1/\RelV p.2 q.2
def kV:Key->V
 |.inl i=>.int i
 |.inr x=>.str x
inductive HO where
  /-- a list -/
 |lst (xs:List V)
  /-- a tuple (never changes) -/
 |tup (xs:List V)
  /-- a dict whose keys are ints and texts; one whose keys are tuples of ints and texts (the empty one is both) -/
 |dK (kvs:List (Key×V))|dT (kvs:List (List Key×V))
  /-- a set of ints: its members, its size -/
 |set (S:Int->Bool) (n:Nat)
  /-- an instance of the class at C, its dict at dx, its attributes -/
 |ins (C dx:Addr) (fs:List (Str×V))
  /-- the dict of the instance at x -/
 |own (x:Addr)
  /-- the dict of an exception -/
 |xd (fs:List (Str×V))
  /-- a bound method, f of x -/
 |met (f x:Addr)
  /-- a range object lo, lo + 1, .. below hi -/
 |rng (lo hi:Int)
  /-- a thing that is known to the object (the script; a dict while a loop walks it): read, never written while it is so -/
 |frz (o:Obj) (u:HO)
  /-- a code object's table -/
 |tbl (ps:Array Value)
  /-- any other thing, by what is true of its one object (a def of one's own: SetO a S n := HO.ext fun h => ..) -/
 |ext (φ:Heap->Prop)
abbrev Hp:=Addr->Option HO
def upd(H:Hp)(a:Addr)(o:HO):Hp:=fun b=>if b=a then some o else H b
theorem CK{H:Hp}{a:Addr}{o:HO}:upd H a o a=some o:=by unfold upd;rw[if_pos rfl]
theorem Bl{H:Hp}{a b:Addr}{o:HO}(h:b≠a):upd H a o b=H b:=by unfold upd;rw[if_neg h]
theorem yw{H:Hp}{a b:Addr}{o u:HO}(h:H a=some o)(h':H b=some u)(d:o≠u):a≠b:=by
 intro e;subst e;rw[h] at h';exact d (U03 h')
theorem Du{H:Hp}{a b:Addr}{o:HO}(h:H a=some o)(h':H b=none):a≠b:=by
 intro e;subst e;rw[h] at h';cases h'
section
variable(P:Program)(w:World)
def Dh(H:Hp)(h:Heap)(a:Addr):HO->Prop
 |.lst xs=>xs.length<=sizeLine/\∃(its:List Value)(n:Nat),Vals xs its/\h.get? a=some { cls:=.type "list",data:=.seq its.toArray n }
 |.tup xs=>xs.length<=sizeLine/\∃its:List Value,Vals xs its/\IsTup h a its.toArray
 |.dK kvs=>kvs.length<=sizeLine/\(a==sysModules)=false/\∃vs,KV kvs vs/\h.DictOf (Fx P w) a vs
 |.dT kvs=>kvs.length<=sizeLine/\(a==sysModules)=false/\∃xs:List (List Key×Addr×Value),
   Paired (fun(p:List Key×V) (q:List Key×Addr×Value)=>p.1=q.1/\H q.2.1=some (.tup (p.1.map kV))/\RelV p.2 q.2.2) kvs xs /\
   ∃o es ep,h.get? a=some o/\o.ExactDict/\o.data=.dict es ep/\es.toList=xs.map (entryOfKey (tupleKind (Fx P w)))/\(xs.map (·.1)).Nodup
 |.set S n=>h.SetOf (intKind P w) a S n
 |.ins C dx fs=>H dx=some (.own a)/\fs.length<=1000/\dx≠a/\h.get? a=some (U7i C dx) /\
   ∃mA,h.Ns1 dx mA/\(∀f,LR (fs.lookup f) (mA f))/\PySem.Within mA (fs.map (·.1))
 |.own _=>∃o,h.get? a=some o
 |.xd fs=>∃mA,h.Ns1 a mA/\∀f,LR (fs.lookup f) (mA f)
 |.rng lo hi=>∃t u v,h.get? a=some { cls:=.type "range",data:=.fields #[.int lo t,.int hi u,.int 1 v] }
 |.frz o u=>h.get? a=some o/\Dh H h a u
 |.tbl ps=>h.get? a=some { cls:=.none,data:=.fields ps }
 |.met f x=>h.get? a=some (U65 (.ref f) (.ref x))
 |.ext φ=>φ h/\(∃o,h.get? a=some o)/\∀h1 h2:Heap,φ h1->(∀o,h1.get? a=some o->h2.get? a=some o)->φ h2
def HOk(H:Hp)(h:Heap):Prop:=∀a o,H a=some o->Dh P w H h a o
end
section
variable{P:Program}{w:World}{H H':Hp}{h h':Heap}{a:Addr}{o:HO}
theorem Dh.lt(x:Dh P w H h a o):a<h.objs.size:=by
 cases o with
 |lst xs=>obtain⟨_,_,_,_,e⟩:=x;exact U0m e
 |tup xs=>obtain⟨_,_,_,p⟩:=x;exact p.lt
 |dK kvs=>obtain⟨_,_,_,_,o,_,_,e,_⟩:=x;exact U0m e
 |dT kvs=>obtain⟨_,_,_,_,o,_,_,e,_⟩:=x;exact U0m e
 |set S n=>obtain⟨o,_,_,_,e,_⟩:=x;exact U0m e
 |ins C dx fs=>obtain⟨_,_,_,e,_⟩:=x;exact U0m e
 |own y=>obtain⟨_,e⟩:=x;exact U0m e
 |xd fs=>obtain⟨_,⟨_,_,_,e,_⟩,_⟩:=x;exact U0m e
 |rng lo hi=>obtain⟨_,_,_,e⟩:=x;exact U0m e
 |frz ob u=>obtain⟨e,_⟩:=x;exact U0m e
 |tbl ps=>exact U0m (show h.get? a=some _ from x)
 |met f y=>exact U0m (show h.get? a=some _ from x)
 |ext φ=>obtain⟨_,⟨_,e⟩,_⟩:=x;exact U0m e
theorem Paired.jO{α β:Type}{F G:α->β->Prop}:∀{l₁:List α} {l₂:List β},Paired F l₁ l₂->(∀a b,F a b->G a b)->Paired G l₁ l₂
 |_,_,.nil,_=>.nil
 |_,_,.cons r t,f=>.cons (f _ _ r) (Paired.jO t f)
theorem Dh.stay(x:Dh P w H h a o)(k:∀b u,(b=a∨H b=some (.own a))->h.get? b=some u->h'.get? b=some u)
  (ho:∀b,H b=some (.own a)->H' b=some (.own a)) (ht:∀b xs,H b=some (.tup xs)->H' b=some (.tup xs)):Dh P w H' h' a o:=by
 induction o with
 |lst xs=>obtain⟨z,its,n,r,e⟩:=x;exact⟨z,its,n,r,k _ _ (.inl rfl) e⟩
 |tup xs=>obtain⟨z,its,r,ob,e,c⟩:=x;exact⟨z,its,r,ob,k _ _ (.inl rfl) e,c⟩
 |dK kvs=>obtain⟨z,y,vs,r,ob,es,ep,e,c⟩:=x;exact⟨z,y,vs,r,ob,es,ep,k _ _ (.inl rfl) e,c⟩
 |dT kvs =>
  obtain⟨z,y,xs,r,ob,es,ep,e,c⟩:=x
  exact⟨z,y,xs,Paired.jO r fun p q z=>⟨z.1,ht _ _ z.2.1,z.2.2⟩,ob,es,ep,k _ _ (.inl rfl) e,c⟩
 |set S n=>obtain⟨ob,es,ep,t,e,c⟩:=x;exact⟨ob,es,ep,t,k _ _ (.inl rfl) e,c⟩
 |ins C dx fs =>
  obtain⟨d,z,ne,e,mA,⟨od,es,ep,e2,c⟩,r⟩:=x
  exact⟨ho _ d,z,ne,k _ _ (.inl rfl) e,mA,⟨od,es,ep,k _ _ (.inr d) e2,c⟩,r⟩
 |own y=>obtain⟨ob,e⟩:=x;exact⟨ob,k _ _ (.inl rfl) e⟩
 |xd fs=>obtain⟨mA,⟨od,es,ep,e,c⟩,r⟩:=x;exact⟨mA,⟨od,es,ep,k _ _ (.inl rfl) e,c⟩,r⟩
 |rng lo hi=>obtain⟨t,u,v,e⟩:=x;exact⟨t,u,v,k _ _ (.inl rfl) e⟩
 |frz ob u ih=>obtain⟨e,q⟩:=x;exact⟨k _ _ (.inl rfl) e,ih q⟩
 |tbl ps =>
  have e:h.get? a=some { cls:=.none,data:=.fields ps }:=x
  show h'.get? a=some { cls:=.none,data:=.fields ps }
  exact k a _ (.inl rfl) e
 |met f y =>
  have e:h.get? a=some (U65 (.ref f) (.ref y)):=x
  show h'.get? a=some (U65 (.ref f) (.ref y))
  exact k a _ (.inl rfl) e
 |ext φ=>obtain⟨p,⟨o,e⟩,st⟩:=x;exact⟨st _ _ p fun o q=>k _ _ (.inl rfl) q,⟨o,k _ _ (.inl rfl) e⟩,st⟩
theorem HOk.lt(x:HOk P w H h)(e:H a=some o):a<h.objs.size:=(x a o e).lt
theorem HOk.fresh(x:HOk P w H h)(e:h.objs.size<=a):H a=none:=by
 cases q:H a with
 |none=>rfl
 |some u=>exact absurd (U0w (x.lt q) e) (U3u _)
theorem HOk.kept(x:HOk P w H h)(k:∀b u,h.get? b=some u->h'.get? b=some u):HOk P w H h':=fun a o e =>
 (x a o e).stay (fun b u _ q=>k b u q) (fun _ q=>q) fun _ _ q=>q
theorem HOk.laid(x:HOk P w H h)(k:∀b u,h.get? b=some u->h'.get? b=some u)(hp:h.objs.size<=a)(new:Dh P w (upd H a o) h' a o):HOk P w (upd H a o) h':=fun b u e=>by
 have hn:=x.fresh hp
 by_cases hb:b=a
 .subst hb;rw[CK] at e;cases e;exact new
 .rw[Bl hb] at e
  exact(x b u e).stay (fun c v _ q=>k c v q) (fun c q=>by rw[Bl (Du q hn)];exact q) fun c xs q=>by rw[Bl (Du q hn)];exact q
end
def Rd(H:Hp)(a:Addr)(u:HO):Prop:=H a=some u∨∃o,H a=some (.frz o u)
theorem Rd.ok{P:Program}{w:World}{H:Hp}{h:Heap}{a:Addr}{u:HO}(r:Rd H a u)(x:HOk P w H h):Dh P w H h a u:=by
 rcases r with r|⟨o,r⟩
 .exact x a u r
 .obtain⟨_,q⟩:=x a _ r
  exact q
def Mut:Option HO->Prop
 |some (.lst _)=>True
 |some (.dK _)=>True
 |some (.dT _)=>True
 |some (.set _ _)=>True
 |some (.ins _ _ _)=>True
 |some (.ext _)=>True
 |_=>False
section
variable{P:Program}{w:World}{H:Hp}{h h':Heap}{x e:Addr}{o':HO}
theorem HOk.write(ok:HOk P w H h)(mu:Mut (H x))(he:e=x∨H e=some (.own x))(k:∀b u,b≠e->h.get? b=some u->h'.get? b=some u)(heo:∃u,h'.get? e=some u)
  (new:Dh P w (upd H x o') h' x o'):HOk P w (upd H x o') h':=fun b u q=>by
 have nown:∀c y,H c=some (.own y)->c≠x:=fun c y r z=>by subst z;rw[r] at mu;exact mu
 have ntup:∀c xs,H c=some (.tup xs)->c≠x:=fun c xs r z=>by subst z;rw[r] at mu;exact mu
 by_cases hb:b=x
 .subst hb;rw[CK] at q;cases q;exact new
 .rw[Bl hb] at q
  by_cases hbe:b=e
  .have q':H b=some (.own x):=by
    rcases he with z|z
    .exact absurd (hbe.trans z) hb
    .rw[hbe];exact z
   rw[q] at q';cases q'
   obtain⟨v,hv⟩:=heo
   exact⟨v,by rw[hbe];exact hv⟩
  .refine(ok b u q).stay (fun c v hc r=>k c v ?_ r) (fun c r=>by rw[Bl (nown c b r)];exact r) fun c xs r=>by rw[Bl (ntup c xs r)];exact r
   rcases hc with rfl|hc
   .exact hbe
   .rintro rfl
    rcases he with z|z
    .exact nown c b hc z
    .rw[hc] at z;cases z;exact hb rfl
end
structure Un(fs ex:List Addr)(H H':Hp)(h h':Heap):Prop where
 keep:∀b o,h.get? b=some o->H b=none->b ∉ fs->b ∉ ex->h'.get? b=some o
 slot:∀b o,h.get? b=some o->H b=none->b∈fs->b ∉ ex->∃sl,h'.get? b=some { o with slots:=sl }
 free:∀b o,h.get? b=some o->H b=none->b ∉ ex->H' b=none
 there:∀b o,h.get? b=some o->b ∉ ex->∃o',h'.get? b=some o'
 tups:∀b xs,H b=some (.tup xs)->H' b=some (.tup xs)
 frzs:∀b o u,H b=some (.frz o u)->H' b=some (.frz o u)
 tbls:∀b ps,H b=some (.tbl ps)->∃more,H' b=some (.tbl (ps++more))
 sy:H sysModules=none->H' sysModules=none
section
variable{fs fs' ex ex':List Addr}{H H1 H2:Hp}{h h1 h2 h':Heap}{a x e:Addr}{o:HO}
theorem Un.any(u:Un fs ex H H1 h h1){b:Addr}{ob:Obj}(q:h.get? b=some ob)(n:H b=none)(hx:b ∉ ex):∃sl,h1.get? b=some { ob with slots:=sl }:=by
 by_cases hb:b∈fs
 .exact u.slot b ob q n hb hx
 .exact⟨ob.slots,u.keep b ob q n hb hx⟩
theorem Un.kept(k:∀b u,h.get? b=some u->h'.get? b=some u):Un fs ex H H h h' :=
 ⟨fun b ob q _ _ _=>k b ob q,fun b ob q _ _ _=>⟨ob.slots,k b ob q⟩,fun _ _ _ n _=>n,fun b ob q _=>⟨ob,k b ob q⟩,fun _ _ q=>q,fun _ _ _ q=>q,fun _ ps q=>⟨#[],by rw[q];simp⟩,id⟩
theorem Un.refl:Un fs ex H H h h:=Un.kept fun _ _ q=>q
theorem Un.laid(k:∀b u,h.get? b=some u->h'.get? b=some u)(hp:h.objs.size<=a)(hn:H a=none)(hsy:sysModules≠a):Un fs ex H (upd H a o) h h' where
 sy:=fun n=>by rw[Bl hsy];exact n
 keep:=fun b u q _ _ _=>k b u q
 slot:=fun b u q _ _ _=>⟨u.slots,k b u q⟩
 free:=fun b u q n _=>by rw[Bl (U0y (U0w (U0m q) hp))];exact n
 there:=fun b u q _=>⟨u,k b u q⟩
 tups:=fun b xs q=>by rw[Bl (Du q hn)];exact q
 frzs:=fun b u xs q=>by rw[Bl (Du q hn)];exact q
 tbls:=fun b ps q=>⟨#[],by rw[Bl (Du q hn),q];simp⟩
theorem Un.write(mu:Mut (H x))(he:e=x∨H e=some (.own x))(k:∀b u,b≠e->h.get? b=some u->h'.get? b=some u)(heo:∃u,h'.get? e=some u):Un fs ex H (upd H x o) h h':=by
 have hx:∀b,H b=none->b≠x:=fun b n z=>by subst z;rw[n] at mu;exact mu
 have hb:∀b,H b=none->b≠e:=fun b n z=>by
  subst z
  rcases he with r|r
  .exact hx b n r
  .rw[n] at r;cases r
 have hm:∀b u,H b=some u->¬Mut (some u)->b≠x:=fun b u q nm z=>by subst z;rw[q] at mu;exact nm mu
 refine⟨fun b u q n _ _=>k b u (hb b n) q,fun b u q n _ _=>⟨u.slots,k b u (hb b n) q⟩,fun b u q n _=>by rw[Bl (hx b n)];exact n,fun b u q _=>?_,
  fun b xs q=>by rw[Bl (hm b _ q fun z=>z)];exact q,fun b u xs q=>by rw[Bl (hm b _ q fun z=>z)];exact q,fun b ps q=>⟨#[],by rw[Bl (hm b _ q fun z=>z),q];simp⟩,fun n=>by rw[Bl (hx _ n)];exact n⟩
 by_cases hbe:b=e
 .subst hbe;exact heo
 .exact⟨u,k b u hbe q⟩
end
def trk(h:Heap)(H:Hp):List Addr:=(U0k h.objs.size).filter fun a=>(H a).isSome
def Pk(h:Heap)(H:Hp):Heap:=PySem.W.hideAll h (trk h H)
theorem iZ(h:Heap)(H:Hp):(Pk h H).objs.size=h.objs.size:=PySem.W.hideAll_size _ _
theorem n8{h:Heap}{H:Hp}{b:Addr}{o:Obj}(e:h.get? b=some o)(n:H b=none):(Pk h H).get? b=some o :=
 PySem.W.hideAll_get _ e fun hm=>by
  have q:(H b).isSome=true:=(U3e.mp hm).2
  rw[n] at q;simp at q
theorem qZ{h:Heap}{H:Hp}{b:Addr}{o:Obj}(e:(Pk h H).get? b=some o):h.get? b=some o/\H b=none:=by
 have e':h.get? b=some o:=PySem.W.of_hideAll (trk h H) e
 refine⟨e',?_⟩
 cases q:H b with
 |none=>rfl
 |some x =>
  have hm:b∈trk h H:=U3e.mpr ⟨U3.mpr (U0m e'),by simp[q]⟩
  have z:(Pk h H).get? b=none:=PySem.W.hideAll_none (trk h H) hm
  rw[z] at e;cases e
def sW(g h:Heap)(L:Addr):List (Addr×Obj):=(U0k h.objs.size).filterMap fun a=>if a=L∨(g.get? a).isSome=true then none else (h.get? a).map fun o=>(a,o)
def rest(g h:Heap)(L d:Addr):List (Addr×Obj):=(sW g h L).filter fun p=>decide (p.1≠d)
end L2
namespace L2
open PySem PySem.Spec PyProof.Rows
structure Mod(K:U0a)(mg:Str->Option Value)(base:Heap):Prop where
 kin:K.In base
 glob:base.Ns mainGlobals mg
 blt:∃mb,base.Ns builtinsNs mb/\∀x:Str,x≠"__name__"->mb x=bootBuiltins x
 nolimit:base.NoLimit
/-- the context: a def's body (or a comprehension's block) running. base: fixed through the whole law; s₀, H₀: the entry; outer: the frames whose slots others may change (a def's callers); stack: all frames that run;
   ex: iterators that were made ahead of the entry and are walked here (a comprehension's); fn: the names whose cells were made at the entry (a def: all; a comprehension's block: its own); calm: not within an except suite; pn: pins that every state bears; xe: what is wanted of an exception that leaves the code -/
structure Cx where
 prog:Program
 w:World
 K:U0a
 mg:Str->Option Value
 base:Heap
 A:Around
 N:List Str
 s₀:Shared
 H₀:Hp
 env:Env
 outer:List Env
 stack:List Env
 ex:List Addr
 fn:Str->Bool
 calm:Bool
 pn:List (Addr×Obj)
 xe:Value->Shared->Prop
def frs(l:List Env):List Addr:=l.filterMap (·.frame)
abbrev Cx.fs(X:Cx):List Addr:=frs X.outer
def Vis(sc:Scope)(x:Str):Prop:=sc.names.lookup x=some .local∨sc.names.lookup x=some .cell∨sc.names.lookup x=some .free
def Loc(sc:Scope)(x:Str):Prop:=sc.names.lookup x=some .local∨sc.names.lookup x=some .cell
def Look(env:Env)(h:Heap)(m:Str->Option Value)(x:Str)(u:Value):Prop :=
 (env.kindOf x=some .local/\m x=some u)∨((env.kindOf x=some .cell∨env.kindOf x=some .free)/\∃c,env.cells.lookup x=some c/\h.IsCell c (some u))
structure Cx.Ok(X:Cx):Prop where
 mod:Mod X.K X.mg X.base
 kind:X.env.scope.kind=.function
 glob:X.env.globals=mainGlobals
 blt:X.env.builtins=builtinsNs
 above:X.s₀.heap.objs.size<=X.env.locals
 inj:∀x y c,X.env.cells.lookup x=some c->X.env.cells.lookup y=some c->x=y
 has:∀x,(X.env.kindOf x=some .cell∨X.env.kindOf x=some .free)->∃c,X.env.cells.lookup x=some c
 cab:∀x c,X.fn x=true->X.env.cells.lookup x=some c->X.s₀.heap.objs.size<=c
 hd:X.calm=true->X.A.handled=none
 frames:X.A.frames=some X.stack
 stk:X.stack=X.outer∨(X.stack=X.env::X.outer/\X.env.frame=some X.env.locals)
 exf:∀b∈X.ex,b≠X.env.locals/\∀x c,X.env.cells.lookup x=some c->c≠b
 bs:∀b o,X.base.get? b=some o->X.s₀.heap.get? b=some o/\X.H₀ b=none
 bsz:X.base.objs.size<=X.s₀.heap.objs.size
 noex:∀b o,X.base.get? b=some o->b ∉ X.ex
 exfs:∀b∈X.ex,b ∉ X.fs
 N8:X.s₀.heap.FunFrames X.base X.outer
 frf:∀b∈X.fs,X.H₀ b=none
 sy:X.H₀ sysModules=none
structure Inv(X:Cx)(pins:List (Addr×Obj))(σ:List (Option V))(H:Hp)(s:Shared):Prop where
 ok:X.Ok
 os:s.os=X.s₀.os
 bare:AllBare s.gens
 base:Un X.fs X.ex X.H₀ H X.s₀.heap s.heap
 loc:∃m,s.heap.Ns X.env.locals m/\∀(i:Nat)(x:Str)(v:V),X.N[i]?=some x->σ[i]?=some (some v)->Vis X.env.scope x->∃u,RelV v u/\Look X.env s.heap m x u
 cell:∀x c,X.env.cells.lookup x=some c->∃v,s.heap.IsCell c v
 free:H X.env.locals=none
 freeC:∀x c,X.env.cells.lookup x=some c->H c=none
 pin:∀p∈X.pn++pins,s.heap.get? p.1=some p.2/\H p.1=none/\p.1≠X.env.locals/\p.1 ∉ X.fs/\∀v,p.2.data≠.cell v
 hok:HOk X.prog X.w H s.heap
 len:σ.length=X.N.length
section
variable{X:Cx}{pins:List (Addr×Obj)}{σ:List (Option V)}{H H':Hp}{s:Shared}{h':Heap}
theorem Cx.Ok.Jae(ok:X.Ok){b:Addr}{o:Obj}(e:X.base.get? b=some o):b ∉ X.fs:=fun hb=>by
 have:=(ok.N8.mem hb).1
 rw[e] at this;cases this
theorem Inv.bs(I:Inv X pins σ H s):∀b o,X.base.get? b=some o->s.heap.get? b=some o/\H b=none:=fun b o e =>
 ⟨I.base.keep b o (I.ok.bs b o e).1 (I.ok.bs b o e).2 (I.ok.Jae e) (I.ok.noex b o e),I.base.free b o (I.ok.bs b o e).1 (I.ok.bs b o e).2 (I.ok.noex b o e)⟩
theorem Inv.bk(I:Inv X pins σ H s):∀b o,X.base.get? b=some o->s.heap.get? b=some o:=fun b o e=>(I.bs b o e).1
theorem Inv.mod(I:Inv X pins σ H s):Mod X.K X.mg X.base:=I.ok.mod
theorem Inv.kIn(I:Inv X pins σ H s):X.K.In s.heap:=I.ok.mod.kin.keeps I.bk
theorem Inv.fr(I:Inv X pins σ H s):∃m,Fr X.base X.env.locals s.heap m :=
 let ⟨m,hn,_⟩:=I.loc
 ⟨m,hn,I.bk,U1c I.ok.bsz I.ok.above⟩
theorem Inv.lt(I:Inv X pins σ H s):X.env.locals<s.heap.objs.size:=let ⟨_,hn,_⟩:=I.loc;hn.lt
theorem Inv.sz(I:Inv X pins σ H s):X.s₀.heap.objs.size<=s.heap.objs.size:=U1c I.ok.above (U2i I.lt)
theorem Inv.jN(I:Inv X pins σ H s){a:Addr}(h:s.heap.objs.size<=a):a ∉ X.fs:=fun hb=>by
 obtain⟨_,o,ho,_⟩:=I.ok.N8.mem hb
 exact absurd (U0w (U0m ho) (U1c I.sz h)) (U3u _)
theorem Inv.cne(I:Inv X pins σ H s):∀x c,X.env.cells.lookup x=some c->c≠X.env.locals:=fun x c e z=>by
 obtain⟨v,o,ho,hd⟩:=I.cell x c e
 obtain⟨m,⟨o',es,ep,ho',hd',_⟩,_⟩:=I.loc
 rw[z,ho'] at ho;cases ho;rw[hd'] at hd;cases hd
theorem Inv.N8(I:Inv X pins σ H s):s.heap.FunFrames X.base X.outer:=by
 have all:∀(l:List Env),(∀b∈frs l,b∈X.fs)->X.s₀.heap.FunFrames X.base l->s.heap.FunFrames X.base l:=by
  intro l
  induction l with
  |nil=>intro _ _;trivial
  |cons env r ih =>
   intro hs hl
   obtain⟨hk,⟨L,o,hf,hn,ho,hd⟩,hr⟩:=hl
   have hL:L∈X.fs:=hs L (by unfold frs;rw[U5r,hf];exact U0l)
   obtain⟨sl,e⟩:=I.base.slot L o ho (I.ok.frf L hL) hL fun z=>I.ok.exfs L z hL
   exact⟨hk,⟨L,_,hf,hn,e,hd⟩,ih (fun b hb=>hs b (by unfold frs;rw[U5r,hf];exact U0p _ hb)) hr⟩
 exact all X.outer (fun _ hb=>hb) I.ok.N8
theorem Inv.stack(I:Inv X pins σ H s):s.heap.FunFrames X.base X.stack:=by
 rcases I.ok.stk with e|⟨e,hf⟩
 .rw[e];exact I.N8
 .rw[e]
  obtain⟨m,hn,_⟩:=I.loc
  refine .cons (by rw[I.ok.kind];decide) hf hn ?_ I.N8
  exact Heap.get?_none_of_le (U1c I.ok.bsz I.ok.above)
theorem Inv.Qo(I:Inv X pins σ H s):∀b∈frs X.stack,b∈X.env.locals::X.fs:=fun b hb=>by
 rcases I.ok.stk with e|⟨e,hf⟩
 .rw[e] at hb;exact U0p _ hb
 .rw[e] at hb
  unfold frs at hb
  rw[U5r,hf] at hb
  exact hb
theorem Inv.aY(I:Inv X pins σ H s):∀b∈frs X.stack,H b=none:=fun b hb=>by
 rcases U0t.mp (I.Qo b hb) with e|hb
 .rw[e];exact I.free
 .obtain⟨_,o,ho,_⟩:=I.ok.N8.mem hb
  exact I.base.free b o ho (I.ok.frf b hb) fun z=>I.ok.exfs b z hb
theorem Inv.cL(I:Inv X pins σ H s):sysModules<s.heap.objs.size:=by
 obtain⟨o,_,_,e,_⟩:=I.ok.mod.glob
 exact U2q (by decide:(1:Nat)<3) (U0m (I.bk _ _ e))
theorem Inv.TF(I:Inv X pins σ H s):H sysModules=none:=I.base.sy I.ok.sy
theorem Inv.step{g':Array GenState}{t':Nat}{d':Drawn}{ch:List Addr}(I:Inv X pins σ H s)
  (hch:∀b∈ch,(b∈X.ex∨X.s₀.heap.objs.size<=b)/\b≠X.env.locals/\(∀x c,X.env.cells.lookup x=some c->c≠b)/\∀p∈X.pn++pins,p.1≠b)
  (keep:∀b o,b≠X.env.locals->b ∉ X.fs->b ∉ ch->s.heap.get? b=some o->H b=none->h'.get? b=some o)
  (slot:∀b o,b≠X.env.locals->b∈X.fs->b ∉ ch->s.heap.get? b=some o->H b=none->∃sl,h'.get? b=some { o with slots:=sl }) (free:∀b o,b ∉ ch->s.heap.get? b=some o->H b=none->H' b=none)
  (there:∀b o,b ∉ ch->s.heap.get? b=some o->∃o',h'.get? b=some o')
  (tups:∀b xs,H b=some (.tup xs)->H' b=some (.tup xs)) (frzs:∀b o u,H b=some (.frz o u)->H' b=some (.frz o u)) (tbls:∀b ps,H b=some (.tbl ps)->∃more,H' b=some (.tbl (ps++more)))
  (ns:∀m,s.heap.Ns X.env.locals m->h'.Ns X.env.locals m) (hok:HOk X.prog X.w H' h') (hg:AllBare g') (sy:H sysModules=none->H' sysModules=none) :
  Inv X pins σ H' { s with heap:=h',gens:=g',drawn:=d',toks:=t' }:=by
 have neL:∀b o,X.s₀.heap.get? b=some o->b≠X.env.locals:=fun b o e=>U0y (U0w (U0m e) I.ok.above)
 have neC:∀b o,X.s₀.heap.get? b=some o->b ∉ X.ex->b ∉ ch:=fun b o e hx hb=>by
  rcases(hch b hb).1 with z|z
  .exact hx z
  .exact absurd (U0w (U0m e) z) (U3u _)
 have cellK:∀x c,X.env.cells.lookup x=some c->∀v,s.heap.IsCell c v->h'.IsCell c v:=fun x c e v ⟨o,ho,hd⟩=>by
  have nch:c ∉ ch:=fun z=>(hch c z).2.2.1 x c e rfl
  by_cases hc:c∈X.fs
  .obtain⟨sl,q⟩:=slot c o (I.cne x c e) hc nch ho (I.freeC x c e)
   exact⟨_,q,hd⟩
  .exact⟨o,keep c o (I.cne x c e) hc nch ho (I.freeC x c e),hd⟩
 refine⟨I.ok,I.os,hg,⟨fun b o e n hb hx=>?_,fun b o e n hb hx=>?_,fun b o e n hx=>?_,fun b o e hx=>?_,fun b xs e=>tups b xs (I.base.tups b xs e),fun b o xs e=>frzs b o xs (I.base.frzs b o xs e),fun b ps e=>?_,fun n=>sy (I.base.sy n)⟩,?_,fun x c e=>?_,?_,fun x c e=>?_,fun p hp=>?_,hok,I.len⟩
 .exact keep b o (neL b o e) hb (neC b o e hx) (I.base.keep b o e n hb hx) (I.base.free b o e n hx)
 .obtain⟨sl,e1⟩:=I.base.slot b o e n hb hx
  obtain⟨sl',e2⟩:=slot b _ (neL b o e) hb (neC b o e hx) e1 (I.base.free b o e n hx)
  exact⟨sl',e2⟩
 .obtain⟨o',e1⟩:=I.base.there b o e hx
  exact free b o' (neC b o e hx) e1 (I.base.free b o e n hx)
 .obtain⟨o',e1⟩:=I.base.there b o e hx
  exact there b o' (neC b o e hx) e1
 .obtain⟨m1,e1⟩:=I.base.tbls b ps e
  obtain⟨m2,e2⟩:=tbls b _ e1
  exact⟨m1++m2,by rw[e2,Array.append_assoc]⟩
 .obtain⟨m,hn,hl⟩:=I.loc
  refine⟨m,ns m hn,fun i x v e1 e2 e3=>?_⟩
  obtain⟨u,r,l⟩:=hl i x v e1 e2 e3
  refine⟨u,r,?_⟩
  rcases l with l|⟨k,c,e,z⟩
  .exact .inl l
  .exact .inr ⟨k,c,e,cellK x c e _ z⟩
 .obtain⟨v,z⟩:=I.cell x c e
  exact⟨v,cellK x c e v z⟩
 .obtain⟨m,⟨o,_,_,ho,_⟩,_⟩:=I.loc
  exact free _ o (fun z=>(hch _ z).2.1 rfl) ho I.free
 .obtain⟨v,o,ho,hd⟩:=I.cell x c e
  exact free c o (fun z=>(hch c z).2.2.1 x c e rfl) ho (I.freeC x c e)
 .obtain⟨e,n,ne,nf,d⟩:=I.pin p hp
  have nch:p.1 ∉ ch:=fun z=>(hch p.1 z).2.2.2 p hp rfl
  exact⟨keep p.1 p.2 ne nf nch e n,free p.1 p.2 nch e n,ne,nf,d⟩
theorem Inv.un{t':Nat}(I:Inv X pins σ H s)(u:Un X.fs [] H H' s.heap h')(hok:HOk X.prog X.w H' h'):Inv X pins σ H' { s with heap:=h',toks:=t' }:=by
 obtain⟨m,⟨o,es,ep,ho,r⟩,_⟩:=id I.loc
 obtain⟨sl,hL⟩:=u.any ho I.free (by simp)
 exact I.step (g':=s.gens) (d':=s.drawn) (ch:=[]) (fun _ z=>nomatch z) (fun b o _ hb _ e n=>u.keep b o e n hb (by simp)) (fun b o _ hb _ e n=>u.slot b o e n hb (by simp)) (fun b o _ e n=>u.free b o e n (by simp)) (fun b o _ e=>u.there b o e (by simp)) u.tups u.frzs u.tbls (fun m' hm=>by
  obtain⟨o',es',ep',ho',r'⟩:=hm
  rw[ho] at ho';cases ho'
  exact⟨_,es',ep',hL,r'⟩) hok I.bare u.sy
theorem Inv.call{g':Array GenState}{t':Nat}{d':Drawn}{ch:List Addr}(I:Inv X pins σ H s)(u:Un (frs X.stack) ch H H' s.heap h')(hok:HOk X.prog X.w H' h')(hg:AllBare g')
  (hch:∀b∈ch,(b∈X.ex∨X.s₀.heap.objs.size<=b)/\b≠X.env.locals/\(∀x c,X.env.cells.lookup x=some c->c≠b)/\∀p∈X.pn++pins,p.1≠b) :
  Inv X pins σ H' { s with heap:=h',gens:=g',drawn:=d',toks:=t' }:=by
 obtain⟨m,⟨o,es,ep,ho,r⟩,_⟩:=id I.loc
 obtain⟨sl,hL⟩:=u.any ho I.free fun z=>(hch _ z).2.1 rfl
 exact I.step (ch:=ch) hch (fun b o hL hb hc e n=>u.keep b o e n (fun z=>(U0t.mp (I.Qo b z)).elim hL hb) hc) (fun b o _ _ hc e n=>u.any e n hc) (fun b o hc e n=>u.free b o e n hc) (fun b o hc e=>u.there b o e hc) u.tups u.frzs u.tbls (fun m' hm=>by
  obtain⟨o',es',ep',ho',r'⟩:=hm
  rw[ho] at ho';cases ho'
  exact⟨_,es',ep',hL,r'⟩) hok hg u.sy
theorem Inv.turned{t':Nat}{it:Addr}(I:Inv X pins σ H s)(k:∀b o,b≠it->s.heap.get? b=some o->h'.get? b=some o)(hn:H it=none)(hL:it≠X.env.locals)
  (h1:it∈X.ex∨X.s₀.heap.objs.size<=it) (h2:∀x c,X.env.cells.lookup x=some c->c≠it) (h3:∀p∈X.pn++pins,p.1≠it):Inv X pins σ H { s with heap:=h',toks:=t' }:=by
 have nit:∀b u,H b=some u->b≠it:=fun b u e z=>by rw[z,hn] at e;cases e
 refine I.step (g':=s.gens) (d':=s.drawn) (ch:=[it]) (fun b hb=>?_) (fun b o _ _ hc e _=>k b o (fun z=>hc (by simp[z])) e) (fun b o _ _ hc e _=>⟨o.slots,k b o (fun z=>hc (by simp[z])) e⟩) (fun _ _ _ _ n=>n)
  (fun b o hc e=>⟨o,k b o (fun z=>hc (by simp[z])) e⟩) (fun _ _ e=>e) (fun _ _ _ e=>e) (fun b ps e=>⟨#[],by rw[e];simp⟩) (fun m hm=>?_) (fun b u e=>?_) I.bare id
 .have e:b=it:=by simpa using hb
  subst e
  exact⟨h1,hL,h2,h3⟩
 .obtain⟨o,es,ep,ho,r⟩:=hm
  exact⟨o,es,ep,k _ o (U1l hL) ho,r⟩
 .refine(I.hok b u e).stay (fun c v hc q=>k c v ?_ q) (fun _ q=>q) fun _ _ q=>q
  rcases hc with z|z
  .rw[z];exact nit b u e
  .exact nit c _ z
theorem Inv.tok(I:Inv X pins σ H s)(t:Nat):Inv X pins σ H { s with toks:=t }:=I.un (h':=s.heap) (t':=t) Un.refl I.hok
theorem Inv.kept{t':Nat}(I:Inv X pins σ H s)(k:∀b u,s.heap.get? b=some u->h'.get? b=some u):Inv X pins σ H { s with heap:=h',toks:=t' }:=I.un (Un.kept k) (I.hok.kept k)
theorem Inv.laid{a:Addr}{o:HO}{t':Nat}(I:Inv X pins σ H s)(k:∀b u,s.heap.get? b=some u->h'.get? b=some u)(hp:s.heap.objs.size<=a)(new:Dh X.prog X.w (upd H a o) h' a o) :
  Inv X pins σ (upd H a o) { s with heap:=h',toks:=t' }:=I.un (Un.laid k hp (I.hok.fresh hp) (U0y (U0w I.cL hp))) (I.hok.laid k hp new)
theorem Inv.write{x e:Addr}{o:HO}{t':Nat}(I:Inv X pins σ H s)(mu:Mut (H x))(he:e=x∨H e=some (.own x))(k:∀b u,b≠e->s.heap.get? b=some u->h'.get? b=some u)(heo:∃u,h'.get? e=some u)
  (new:Dh X.prog X.w (upd H x o) h' x o):Inv X pins σ (upd H x o) { s with heap:=h',toks:=t' }:=I.un (Un.write mu he k heo) (I.hok.write mu he k heo new)
theorem Inv.weak{σ':List (Option V)}(I:Inv X pins σ H s)(hl:σ'.length=σ.length)(w:∀(i:Nat) v,σ'[i]?=some (some v)->σ[i]?=some (some v)):Inv X pins σ' H s :=
 ⟨I.ok,I.os,I.bare,I.base,let ⟨m,hn,hl'⟩:=I.loc;⟨m,hn,fun i x v e1 e2 e3=>hl' i x v e1 (w i v e2) e3⟩,I.cell,I.free,I.freeC,I.pin,I.hok,hl.trans I.len⟩
theorem Inv.Ro{pins':List (Addr×Obj)}(I:Inv X pins σ H s)(h:∀p∈pins',s.heap.get? p.1=some p.2/\H p.1=none/\p.1≠X.env.locals/\p.1 ∉ X.fs/\∀v,p.2.data≠.cell v):Inv X pins' σ H s :=
 ⟨I.ok,I.os,I.bare,I.base,I.loc,I.cell,I.free,I.freeC,fun p hp=>(U2c.mp hp).elim (fun z=>I.pin p (U28 _ z)) (h p),I.hok,I.len⟩
theorem Yc{N:List Str}(hN:N.Nodup){i j:Nat}{x:Str}(a:N[i]?=some x)(b:N[j]?=some x):i=j:=by
 obtain⟨h1,e1⟩:=U0o.mp a
 obtain⟨h2,e2⟩:=U0o.mp b
 exact(List.getElem_inj hN).mp (e1.trans e2.symm)
theorem W8{M:Model}{A:Around}{E:Value->Shared->Prop}{i:Nat}{x:Str}{v:V}{u:Value}{Q:Unit->Shared->Prop}(I:Inv X pins σ H s)(hN:X.N.Nodup)(hi:X.N[i]?=some x)(hx:Loc X.env.scope x)(r:RelV v u)
  (h:∀s',Inv X pins (σ.set i (some v)) H s'->(∃a,U07 a s.heap s'.heap/\(a=X.env.locals∨X.env.cells.lookup x=some a))->Q () s') (hf:X.fn x=true∨X.env.scope.names.lookup x=some .local:=by first|exact .inl rfl|exact .inr rfl|assumption):wpAny M A (storeName X.env x u) Q E s:=by
 obtain⟨m,hn,hl⟩:=id I.loc
 have hcls:(X.env.scope.kind==.class||(X.env.scope.kind==.module&&X.env.locals != X.env.globals))=false:=by rw[I.ok.kind];rfl
 have hiσ:i<σ.length:=by rw[I.len];exact(U0o.mp hi).1
 have cne:=I.cne
 have tracked:∀{a:Addr} {h':Heap},(∃o,s.heap.get? a=some o/\H a=none)->U07 a s.heap h'->HOk X.prog X.w H h':=fun {a h'} ha hs b ob e=>by
  obtain⟨_,_,hfree⟩:=ha
  refine(I.hok b ob e).stay (fun c w' hc q=>(hs.2 c ?_).trans q) (fun _ q=>q) fun _ _ q=>q
  rintro rfl
  rcases hc with rfl|hc
  .rw[hfree] at e;cases e
  .rw[hfree] at hc;cases hc
 rcases hx with hk|hk
 .refine wpAny_storeName_local hk hn (fun h' hn' hs=>?_) hcls
  obtain⟨oL,_,_,hoL,_⟩:=id hn
  refine h _ ⟨I.ok,I.os,I.bare,⟨fun b o e n hb hx=>?_,fun b o e n hb hx=>?_,I.base.free,fun b o e hx=>?_,I.base.tups,I.base.frzs,I.base.tbls,I.base.sy⟩,⟨_,hn',fun j y v' e1 e2 e3=>?_⟩,fun y c e=>?_,I.free,I.freeC,fun p hp=>?_,tracked ⟨oL,hoL,I.free⟩ hs,by simpa using I.len⟩ ⟨_,hs,.inl rfl⟩
  .exact(hs.2 b (U0y (U0w (U0m e) I.ok.above))).trans (I.base.keep b o e n hb hx)
  .obtain⟨sl,e1⟩:=I.base.slot b o e n hb hx
   exact⟨sl,(hs.2 b (U0y (U0w (U0m e) I.ok.above))).trans e1⟩
  .obtain⟨o',e1⟩:=I.base.there b o e hx
   exact⟨o',(hs.2 b (U0y (U0w (U0m e) I.ok.above))).trans e1⟩
  .by_cases hj:j=i
   .subst hj
    rw[hi] at e1;cases e1
    rw[U21 hiσ] at e2
    cases e2
    exact⟨u,r,.inl ⟨hk,by simp⟩⟩
   .rw[U2p (U1l hj)] at e2
    obtain⟨u',r',q⟩:=hl j y v' e1 e2 e3
    refine⟨u',r',?_⟩
    rcases q with ⟨k,e⟩|⟨k,c,e,z⟩
    .refine .inl ⟨k,?_⟩
     have:y≠x:=fun e=>hj (Yc hN e1 (e ▸ hi))
     simp[this,e]
    .exact .inr ⟨k,c,e,z.sameBut hs (cne y c e)⟩
  .obtain⟨w',z⟩:=I.cell y c e
   exact⟨w',z.sameBut hs (cne y c e)⟩
  .obtain⟨e,n,ne,nf,d⟩:=I.pin p hp
   exact⟨(hs.2 p.1 ne).trans e,n,ne,nf,d⟩
 .have hfn:X.fn x=true:=by
   rcases hf with z|z
   .exact z
   .rw[z] at hk;cases hk
  obtain⟨c,hc⟩:=I.ok.has x (.inl hk)
  obtain⟨w',z⟩:=I.cell x c hc
  refine wpAny_storeName_cell I.ok.kind hk hc z (fun h' hc' hs=>?_)
  obtain⟨oc,hoc,hocd⟩:=id z
  refine h { s with heap:=h' } ⟨I.ok,I.os,I.bare,⟨fun b o e n hb hx=>?_,fun b o e n hb hx=>?_,I.base.free,fun b o e hx=>?_,I.base.tups,I.base.frzs,I.base.tbls,I.base.sy⟩,⟨m,hn.sameBut hs (U1l (cne x c hc)),fun j y v' e1 e2 e3=>?_⟩,fun y c' e=>?_,I.free,I.freeC,fun p hp=>?_,tracked ⟨oc,hoc,I.freeC x c hc⟩ hs,by simpa using I.len⟩ ⟨c,hs,.inr hc⟩
  .exact(hs.2 b (U0y (U0w (U0m e) (I.ok.cab x c hfn hc)))).trans (I.base.keep b o e n hb hx)
  .obtain⟨sl,e1⟩:=I.base.slot b o e n hb hx
   exact⟨sl,(hs.2 b (U0y (U0w (U0m e) (I.ok.cab x c hfn hc)))).trans e1⟩
  .obtain⟨o',e1⟩:=I.base.there b o e hx
   exact⟨o',(hs.2 b (U0y (U0w (U0m e) (I.ok.cab x c hfn hc)))).trans e1⟩
  .by_cases hj:j=i
   .subst hj
    rw[hi] at e1;cases e1
    rw[U21 hiσ] at e2
    cases e2
    exact⟨u,r,.inr ⟨.inl hk,c,hc,hc'⟩⟩
   .rw[U2p (U1l hj)] at e2
    obtain⟨u',r',q⟩:=hl j y v' e1 e2 e3
    refine⟨u',r',?_⟩
    rcases q with q|⟨k,c',e,z'⟩
    .exact .inl q
    .refine .inr ⟨k,c',e,z'.sameBut hs ?_⟩
     rintro rfl
     exact hj (Yc hN e1 (I.ok.inj _ _ _ e hc ▸ hi))
  .by_cases hcc:c'=c
   .subst hcc;exact⟨_,hc'⟩
   .obtain⟨w2,z2⟩:=I.cell y c' e
    exact⟨w2,z2.sameBut hs hcc⟩
  .obtain⟨e,n,ne,nf,d⟩:=I.pin p hp
   refine⟨(hs.2 p.1 ?_).trans e,n,ne,nf,d⟩
   intro q
   rw[q,hoc] at e
   have q':oc=p.2:=U03 e
   exact d w' (by rw[←q'];exact hocd)
theorem YL{M:Model}{A:Around}{E:Value->Shared->Prop}{i:Nat}{x:Str}{v:V}{u:Value}{Q:Unit->Shared->Prop}(I:Inv X pins σ H s)(hN:X.N.Nodup)(hi:X.N[i]?=some x)(hx:Loc X.env.scope x)(r:RelV v u)
  (h:∀s',Inv X pins (σ.set i (some v)) H s'->Q () s') (hf:X.fn x=true∨X.env.scope.names.lookup x=some .local:=by first|exact .inl rfl|exact .inr rfl|assumption):wpAny M A (storeName X.env x u) Q E s :=
 W8 I hN hi hx r (fun s' I' _=>h s' I') hf
theorem Inv.call'{s':Shared}{ch:List Addr}(I:Inv X pins σ H s)(ho:s'.os=s.os)(u:Un (frs X.stack) ch H H' s.heap s'.heap)(hok:HOk X.prog X.w H' s'.heap)(hg:AllBare s'.gens)
  (hch:∀b∈ch,(b∈X.ex∨X.s₀.heap.objs.size<=b)/\b≠X.env.locals/\(∀x c,X.env.cells.lookup x=some c->c≠b)/\∀p∈X.pn++pins,p.1≠b):Inv X pins σ H' s':=by
 obtain⟨h',g',d',t',o'⟩:=s'
 have e:o'=s.os:=ho
 subst e
 exact I.call (g':=g') (t':=t') (d':=d') u hok hg hch
end
abbrev XK:=Value->Option Addr->Hp->Prop
abbrev St:=List (Option V)
abbrev VK:=V->Hp->Prop
abbrev TE:=St->Hp->VK->Prop
abbrev TT:=St->Hp->(Bool->Hp->Prop)->Prop
abbrev TA:=St->Hp->(List V->Hp->Prop)->Prop
structure Ends where
 nx:St->Hp->Prop
 rt:VK
 bk:St->Hp->Prop:=fun _ _=>False
 ct:St->Hp->Prop:=fun _ _=>False
abbrev TS:=Ends->St->Hp->Prop
def EP(X:Cx)(pins:List (Addr×Obj))(σ:St)(Q:VK)(u:Value)(s':Shared):Prop:=∃v H',Inv X pins σ H' s'/\RelV v u/\Q v H'
def TP(X:Cx)(pins:List (Addr×Obj))(σ:St)(Q:Bool->Hp->Prop)(b:Bool)(s':Shared):Prop:=∃H',Inv X pins σ H' s'/\Q b H'
def AP(X:Cx)(pins:List (Addr×Obj))(σ:St)(Q:List V->Hp->Prop)(us:List Value)(s':Shared):Prop:=∃vs H',Inv X pins σ H' s'/\Vals vs us/\Q vs H'
def SP(X:Cx)(pins:List (Addr×Obj))(D:Ends)(f:Flow)(s':Shared):Prop :=
 match f with
 |.next=>∃σ' H',Inv X pins σ' H' s'/\D.nx σ' H'
 |.brk=>∃σ' H',Inv X pins σ' H' s'/\D.bk σ' H'
 |.cont=>∃σ' H',Inv X pins σ' H' s'/\D.ct σ' H'
 |.ret u=>∃v σ' H',Inv X pins σ' H' s'/\RelV v u/\D.rt v H'
def PE(X:Cx)(e:Expr)(t:TE):Prop :=
 ∀(pins:List (Addr×Obj))(s:Shared)(σ:St)(H:Hp)(Q:VK),Inv X pins σ H s->t σ H Q->wpAny (model X.prog X.w) X.A (eval e X.env) (EP X pins σ Q) X.xe s
def PT(X:Cx)(e:Expr)(t:TT):Prop :=
 ∀(pins:List (Addr×Obj))(s:Shared)(σ:St)(H:Hp)(Q:Bool->Hp->Prop),Inv X pins σ H s->t σ H Q->wpAny (model X.prog X.w) X.A (isTrue e X.env (eval e X.env)) (TP X pins σ Q) X.xe s
def PW(X:Cx)(e:Expr)(t:TT):Prop :=
 ∀(whole:Sem Value)(pins:List (Addr×Obj))(s:Shared)(σ:St)(H:Hp)(Q:Bool->Hp->Prop),Inv X pins σ H s->t σ H Q->wpAny (model X.prog X.w) X.A (isTrue e X.env whole) (TP X pins σ Q) X.xe s
theorem PW.pt{X:Cx}{e:Expr}{t:TT}(h:PW X e t):PT X e t:=h _
def PA(X:Cx)(es:List Expr)(t:TA):Prop :=
 ∀(pos:Pos)(pins:List (Addr×Obj))(s:Shared)(σ:St)(H:Hp)(Q:List V->Hp->Prop),Inv X pins σ H s->t σ H Q->wpAny (model X.prog X.w) X.A (spliced (backTo pos (starEach es X.env))) (AP X pins σ Q) X.xe s
def PS(X:Cx)(st:Stmt)(t:TS):Prop :=
 ∀(pins:List (Addr×Obj))(s:Shared)(σ:St)(H:Hp)(D:Ends),Inv X pins σ H s->t D σ H->wpAny (model X.prog X.w) X.A (exec st X.env) (SP X pins D) X.xe s
def PSs(X:Cx)(st:List Stmt)(t:TS):Prop :=
 ∀(pins:List (Addr×Obj))(s:Shared)(σ:St)(H:Hp)(D:Ends),Inv X pins σ H s->t D σ H->wpAny (model X.prog X.w) X.A (execs st X.env) (SP X pins D) X.xe s
theorem thn{α:Type}{t:Sem α}{Q Q':α->Shared->Prop}{M:Model}{A:Around}{E:Value->Shared->Prop}{s:Shared}(h:wpAny M A t Q E s)(hQ:∀a s,Q a s->Q' a s):wpAny M A t Q' E s:=U4l h hQ fun _ _ x=>x
end L2
namespace L2
open PySem PySem.Spec PyProof.Rows
section
variable{X:Cx}
theorem bin{a b:Expr}{ta tb:TE}(ha:PE X a ta)(hb:PE X b tb){pins:List (Addr×Obj)}{s:Shared}{σ:St}{H:Hp}{R:V->V->Hp->Prop}(I:Inv X pins σ H s)(h:ta σ H fun x H1=>tb σ H1 fun y H2=>R x y H2)
  {α:Type} {Q:α->Shared->Prop} {f:Value->Value->Sem α}
  (hf:∀v u s2 x y H2,Inv X pins σ H2 s2->RelV x v->RelV y u->R x y H2->wpAny (model X.prog X.w) X.A (f v u) Q X.xe s2) :
  wpAny (model X.prog X.w) X.A (eval a X.env) (fun v s₁=>wpAny (model X.prog X.w) X.A (eval b X.env) (fun u s₂=>wpAny (model X.prog X.w) X.A (f v u) Q X.xe s₂) X.xe s₁) X.xe s:=by
 refine thn (ha pins s σ H _ I h) fun v s1 ⟨x,H1,I1,r1,q1⟩=>?_
 refine thn (hb pins s1 σ H1 _ I1 q1) fun u s2 ⟨y,H2,I2,r2,q2⟩=>?_
 exact hf v u s2 x y H2 I2 r1 r2 q2
def u5(i:Nat):TE:=fun σ H Q=>∃v,σ[i]?=some (some v)/\Q v H
def tC(v:V):TE:=fun _ H Q=>Q v H
theorem fD{i:Nat}{x:Str}{pos:Pos}(hN:X.N[i]?=some x)(hv:Vis X.env.scope x)(hd:(x==("__debug__":Str))=false:=by decide)(hcd:(x==("__classdict__":Str))=false:=by decide):PE X (.Name x pos) (u5 i):=by
 intro pins s σ H Q I h
 obtain⟨v,e,h⟩:=h
 obtain⟨m,hn,hl⟩:=I.loc
 obtain⟨u,r,l⟩:=hl i x v hN e hv
 have fin:EP X pins σ Q u s:=⟨v,H,I,r,h⟩
 rcases l with ⟨hk,hm⟩|⟨hk,c,hc,hcell⟩
 .exact wpAny_Name (wpAny_loadName_local I.ok.kind hk hn hm fin) hd
 .rcases hk with hk|hk
  .exact wpAny_Name (wpAny_loadName_cell I.ok.kind hk hc hcell fin) hd
  .exact wpAny_Name (wpAny_loadName_free I.ok.kind hk hc hcell fin hcd) hd
theorem fH{i j pos}:PE X (.Constant (.int i) j pos) (tC (.int i)):=fun _ _ _ H _ I h=>wpAny_Constant_int ⟨.int i,H,I.tok _,⟨_,rfl⟩,h⟩
theorem yh{b j pos}:PE X (.Constant (.bool b) j pos) (tC (.bl b)):=fun _ _ _ H _ I h=>Constant_bool ⟨.bl b,H,I,rfl,h⟩
theorem vW{j pos}:PE X (.Constant .none j pos) (tC .non):=fun _ _ _ H _ I h=>Constant_none ⟨.non,H,I,rfl,h⟩
def Gl(X:Cx)(x:Str):Prop:=X.env.kindOf x=some .globalImplicit
theorem bJ{E:Value->Shared->Prop}{pins:List (Addr×Obj)}{s:Shared}{σ:St}{H:Hp}{x:Str}{u:Value}{pos:Pos}{Q:Value->Shared->Prop}(I:Inv X pins σ H s)(hg:Gl X x)(hm:X.mg x=some u)(h:Q u s)
  (hd:(x==("__debug__":Str))=false:=by decide):wpAny (model X.prog X.w) X.A (eval (.Name x pos) X.env) Q E s :=
 Calls.Name_function_global I.ok.kind hg (Calls.loadGlobal_global (by rw[I.ok.glob];exact I.mod.glob.keeps I.bk) hm h) hd
theorem Ls{E:Value->Shared->Prop}{pins:List (Addr×Obj)}{s:Shared}{σ:St}{H:Hp}{x:Str}{u:Value}{pos:Pos}{Q:Value->Shared->Prop}(I:Inv X pins σ H s)(hg:Gl X x)(hm:X.mg x=none)(hv:bootBuiltins x=some u)(h:Q u s)
  (hn:x≠"__name__":=by decide) (hd:(x==("__debug__":Str))=false:=by decide):wpAny (model X.prog X.w) X.A (eval (.Name x pos) X.env) Q E s:=by
 obtain⟨mb,h1,h2⟩:=I.mod.blt
 exact Calls.Name_function_global I.ok.kind hg (Calls.loadGlobal_builtin (by rw[I.ok.glob];exact I.mod.glob.keeps I.bk) hm (by rw[I.ok.blt];exact h1.keeps I.bk) ((h2 x hn).trans hv) h) hd
theorem bD{x:Str}{v:V}{u:Value}{pos:Pos}(hg:Gl X x)(hm:X.mg x=some u)(r:RelV v u)(hd:(x==("__debug__":Str))=false:=by decide):PE X (.Name x pos) (tC v) :=
 fun _ _ _ H _ I h=>bJ I hg hm ⟨v,H,I,r,h⟩ hd
theorem qT{x:Str}{v:V}{u:Value}{pos:Pos}(hg:Gl X x)(hm:X.mg x=none)(hv:bootBuiltins x=some u)(r:RelV v u)(hn:x≠"__name__":=by decide)(hd:(x==("__debug__":Str))=false:=by decide):PE X (.Name x pos) (tC v) :=
 fun _ _ _ H _ I h=>Ls I hg hm hv ⟨v,H,I,r,h⟩ hn hd
variable{a b:Expr}{ta tb:TE}{pos:Pos}
def PC(X:Cx)(op:CmpOp)(a b:Expr)(t:TE):Prop :=
 ∀(pins:List (Addr×Obj))(s:Shared)(σ:St)(H:Hp)(Q:VK),Inv X pins σ H s->t σ H Q ->
  wpAny (model X.prog X.w) X.A (eval a X.env) (fun v s₁=>wpAny (model X.prog X.w) X.A (eval b X.env) (fun u s₂=>wpAny (model X.prog X.w) X.A (compareOp op v u) (EP X pins σ Q) X.xe s₂) X.xe s₁) X.xe s
theorem m9(b:Expr){op:CmpOp}(h:op≠.In)(h2:op≠.NotIn):behindInMarks op b=false:=by
 have e1:(op==CmpOp.In)=false:=by cases op<;>first|rfl|exact absurd rfl h
 have e2:(op==CmpOp.NotIn)=false:=by cases op<;>first|rfl|exact absurd rfl h2
 cases b<;>simp[behindInMarks,e1,e2]
def tB(t:TE):TT:=fun σ H Q=>t σ H fun x H1=>∃c,x=.bl c/\Q c H1
theorem Ja5{op:CmpOp}{t:TE}(h:PC X op a b t)(h1:behindInMarks op b=false:=by first|exact m9 _ (by decide) (by decide)|rfl):PT X (.Compare a [op] [b] pos) (tB t):=by
 intro pins s σ H Q I hw
 refine wpAny_isTrue_Compare1 (thn (h pins s σ H _ I hw) fun v s1 h1=>thn h1 fun u s2 h2=>thn h2 fun c s3 ⟨x,H1,I1,r1,q1⟩=>?_) h1
 obtain⟨d,rfl,q⟩:=q1
 cases r1
 exact U3c ⟨H1,I1,q⟩
theorem vJ{e:Expr}{t:TE}(h:PE X e t)(he:∀whole,isTrue e X.env whole=(do let v ←whole;standAt e.pos;holding [v] (truthy v)):=by intro _;rfl):PT X e (tB t):=by
 intro pins s σ H Q I hw
 refine isTrue_plain (thn (h pins s σ H _ I hw) fun v s1 ⟨x,H1,I1,r1,q1⟩=>?_) (he _)
 obtain⟨d,rfl,q⟩:=q1
 cases r1
 exact U3c ⟨H1,I1,q⟩
variable{tA tB':TT}{rest:List Expr}
def LQ(t u:TT):TT:=fun σ H Q=>t σ H fun c H1=>if c=true then u σ H1 Q else Q false H1
def tOr(t u:TT):TT:=fun σ H Q=>t σ H fun c H1=>if c=true then Q true H1 else u σ H1 Q
def Jl(t:TT):TT:=fun σ H Q=>t σ H fun c H1=>Q (!c) H1
theorem pY(ha:PT X a tA):PW X (.BoolOp .And [a] pos) tA:=by
 intro wh pins s σ H Q I h
 refine isTrue_and (thn (ha pins s σ H Q I h) fun c s1 e=>?_)
 cases c with
 |true=>exact isTrue_and_nil e
 |false=>exact e
theorem vH(ha:PT X a tA):PW X (.BoolOp .Or [a] pos) tA:=by
 intro wh pins s σ H Q I h
 refine isTrue_or (thn (ha pins s σ H Q I h) fun c s1 e=>?_)
 cases c with
 |false=>exact isTrue_or_nil e
 |true=>exact e
theorem vI(ha:PT X a tA)(hb:PW X (.BoolOp .And (b::rest) pos) tB'):PW X (.BoolOp .And (a::b::rest) pos) (LQ tA tB'):=by
 intro wh pins s σ H Q I h
 refine isTrue_and (thn (ha pins s σ H _ I h) fun c s1 ⟨H1,I1,q1⟩=>?_)
 cases c with
 |true=>exact hb wh pins s1 σ H1 Q I1 q1
 |false=>exact⟨H1,I1,q1⟩
theorem yX(ha:PT X a tA)(hb:PW X (.BoolOp .Or (b::rest) pos) tB'):PW X (.BoolOp .Or (a::b::rest) pos) (tOr tA tB'):=by
 intro wh pins s σ H Q I h
 refine isTrue_or (thn (ha pins s σ H _ I h) fun c s1 ⟨H1,I1,q1⟩=>?_)
 cases c with
 |true=>exact⟨H1,I1,q1⟩
 |false=>exact hb wh pins s1 σ H1 Q I1 q1
theorem vK(ha:PT X a tA):PT X (.UnaryOp .Not a pos) (Jl tA):=by
 intro pins s σ H Q I h
 exact isTrue_not (ha pins s σ H (fun c H1=>Q (!c) H1) I h)
def yO(ta tb:TE):TE:=fun σ H Q=>ta σ H fun x H1=>∃c,x=.bl c/\if c=true then tb σ H1 Q else Q (.bl false) H1
def yJ(ta:TE):TE:=fun σ H Q=>ta σ H fun x H1=>∃c,x=.bl c/\Q (.bl (!c)) H1
theorem vU{op}{t:TE}(h:PE X a t):PE X (.BoolOp op [a] pos) t:=fun pins s σ H Q I hw=>BoolOp_one (h pins s σ H Q I hw)
theorem vY(ha:PE X a ta)(hb:PE X (.BoolOp .And (b::rest) pos) tb):PE X (.BoolOp .And (a::b::rest) pos) (yO ta tb):=by
 intro pins s σ H Q I h
 refine BoolOp_and (thn (ha pins s σ H _ I h) fun v s1 ⟨x,H1,I1,r1,q1⟩=>?_)
 obtain⟨c,rfl,q1⟩:=q1
 cases r1
 refine U3c ?_
 cases c with
 |true=>exact hb pins s1 σ H1 Q I1 q1
 |false=>exact⟨.bl false,H1,I1,rfl,q1⟩
theorem vV(ha:PE X a ta):PE X (.UnaryOp .Not a pos) (yJ ta):=by
 intro pins s σ H Q I h
 refine UnaryOp_ (thn (ha pins s σ H _ I h) fun v s1 ⟨x,H1,I1,r1,q1⟩=>?_)
 obtain⟨c,rfl,q1⟩:=q1
 cases r1
 exact not_of (U3c ⟨.bl (!c),H1,I1,rfl,q1⟩)
end
end L2
namespace L2
open PySem PySem.Spec PyProof.Rows
def SqL(K:U0a)(H:Hp)(a:Addr)(xs:List V):Prop :=
 Rd H a (.lst xs) ∨
  ∃(o:Obj)(its:Array Value)(n:Nat),K.lookup a=some o/\o.cls=.type "list"/\o.dict=none/\o.data=.seq its n/\its.size<=sizeLine/\Vals xs its.toList
def SqT(K:U0a)(H:Hp)(a:Addr)(xs:List V):Prop :=
 Rd H a (.tup xs) ∨
  ∃(o:Obj)(its:Array Value)(n:Nat),K.lookup a=some o/\o.cls=.type "tuple"/\o.data=.seq its n/\its.size<=sizeLine/\Vals xs its.toList
def Jak:Value->Option V
 |.none=>some .non
 |.bool b=>some (.bl b)
 |.int i _=>some (.int i)
 |.str x _=>some (.str x)
 |.bytes b _=>some (.byt b)
 |.float b _=>some (.flt b)
 |.ref a=>some (.ref a)
 |.type n=>some (.ty n)
 |_=>none
theorem RelV.abs{x:V}{u:Value}(r:RelV x u):Jak u=some x:=by
 cases x with
 |non=>cases r;rfl
 |bl _=>cases r;rfl
 |int _=>obtain⟨t,rfl⟩:=r;rfl
 |str _=>obtain⟨t,rfl⟩:=r;rfl
 |byt _=>obtain⟨t,rfl⟩:=r;rfl
 |flt _=>obtain⟨t,rfl⟩:=r;rfl
 |ref _=>cases r;rfl
 |ty _=>cases r;rfl
theorem RelV.inj{x y:V}{u:Value}(r:RelV x u)(q:RelV y u):x=y:=U03 (r.abs.symm.trans q.abs)
theorem Vals.inj:∀{xs ys:List V} {us:List Value},Vals xs us->Vals ys us->xs=ys
 |_,_,_,.nil,.nil=>rfl
 |_,_,_,.cons r t,.cons r' t'=>by rw[r.inj r',Vals.inj t t']
section
variable{X:Cx}{pins:List (Addr×Obj)}{σ:St}{H:Hp}{s:Shared}{a:Addr}{xs ys:List V}
theorem SqL.of{K:U0a}(h:H a=some (.lst xs)):SqL K H a xs:=.inl (.inl h)
theorem SqT.of{K:U0a}(h:H a=some (.tup xs)):SqT K H a xs:=.inl (.inl h)
theorem Inv.list(I:Inv X pins σ H s)(h:SqL X.K H a xs):∃its:List Value,Vals xs its/\PlainL s.heap a its.toArray/\xs.length<=sizeLine:=by
 rcases h with h|⟨o,its,n,hk,hc,hd,hs,hz,r⟩
 .obtain⟨z,its,n,r,e⟩:=h.ok I.hok
  exact⟨its,r,⟨_,n,e,rfl,rfl,rfl⟩,z⟩
 .refine⟨its.toList,r,⟨o,n,I.kIn a o hk,hc,hd,by simpa using hs⟩,?_⟩
  have e:=r.length
  simp only[U1z] at e
  omega
theorem Inv.tuple(I:Inv X pins σ H s)(h:SqT X.K H a xs):∃its:List Value,Vals xs its/\IsTup s.heap a its.toArray/\xs.length<=sizeLine:=by
 rcases h with h|⟨o,its,n,hk,hc,hs,hz,r⟩
 .obtain⟨z,its,r,p⟩:=h.ok I.hok
  exact⟨its,r,p,z⟩
 .refine⟨its.toList,r,⟨o,I.kIn a o hk,hc,n,by simpa using hs⟩,?_⟩
  have e:=r.length
  simp only[U1z] at e
  omega
theorem Inv.mH(I:Inv X pins σ H s)(h:SqL X.K H a xs)(h':SqL X.K H a ys):xs=ys:=by
 obtain⟨its,r,⟨o,n,e,_,_,d⟩,_⟩:=I.list h
 obtain⟨its',r',⟨o',n',e',_,_,d'⟩,_⟩:=I.list h'
 rw[e] at e';cases e'
 rw[d] at d'
 injection d' with d1 _
 have:its=its':=by simpa using congrArg Array.toList d1
 subst this
 exact r.inj r'
theorem Inv.gG(I:Inv X pins σ H s)(h:SqT X.K H a xs)(h':SqT X.K H a ys):xs=ys:=by
 obtain⟨its,r,⟨o,e,_,n,d⟩,_⟩:=I.tuple h
 obtain⟨its',r',⟨o',e',_,n',d'⟩,_⟩:=I.tuple h'
 rw[e] at e';cases e'
 rw[d] at d'
 injection d' with d1 _
 have:its=its':=by simpa using congrArg Array.toList d1
 subst this
 exact r.inj r'
end
abbrev Cx.wish(X:Cx)(E:Value->Shared->Prop):Cx:={ X with xe:=E }
abbrev Cx.nox(X:Cx):Cx:=X.wish fun _ _=>False
theorem Cx.Ok.wish{X:Cx}(ok:X.Ok)(E:Value->Shared->Prop):(X.wish E).Ok :=
 ⟨ok.mod,ok.kind,ok.glob,ok.blt,ok.above,ok.inj,ok.has,ok.cab,ok.hd,ok.frames,ok.stk,ok.exf,ok.bs,ok.bsz,ok.noex,ok.exfs,ok.N8,ok.frf,ok.sy⟩
theorem Cx.Ok.Lp{X:Cx}{E:Value->Shared->Prop}(ok:(X.wish E).Ok):X.Ok :=
 ⟨ok.mod,ok.kind,ok.glob,ok.blt,ok.above,ok.inj,ok.has,ok.cab,ok.hd,ok.frames,ok.stk,ok.exf,ok.bs,ok.bsz,ok.noex,ok.exfs,ok.N8,ok.frf,ok.sy⟩
section
variable{X:Cx}{pins:List (Addr×Obj)}{σ:St}{H:Hp}{s:Shared}{E:Value->Shared->Prop}
theorem Inv.wish(I:Inv X pins σ H s)(E:Value->Shared->Prop):Inv (X.wish E) pins σ H s:=⟨I.ok.wish E,I.os,I.bare,I.base,I.loc,I.cell,I.free,I.freeC,I.pin,I.hok,I.len⟩
theorem Inv.Lp(I:Inv (X.wish E) pins σ H s):Inv X pins σ H s:=⟨I.ok.Lp,I.os,I.bare,I.base,I.loc,I.cell,I.free,I.freeC,I.pin,I.hok,I.len⟩
theorem SP.Lp{D:Ends}{f:Flow}{s':Shared}(h:SP (X.wish E) pins D f s'):SP X pins D f s':=by
 cases f with
 |next=>obtain⟨σ',H',I,q⟩:=h;exact⟨σ',H',I.Lp,q⟩
 |brk=>obtain⟨σ',H',I,q⟩:=h;exact⟨σ',H',I.Lp,q⟩
 |cont=>obtain⟨σ',H',I,q⟩:=h;exact⟨σ',H',I.Lp,q⟩
 |ret u=>obtain⟨v,σ',H',I,r,q⟩:=h;exact⟨v,σ',H',I.Lp,r,q⟩
theorem PSs.nox{st:List Stmt}{t:TS}(h:PSs X.nox st t):PSs X st t:=fun pins s σ H D I hw =>
 U4l (h pins s σ H D (I.wish _) hw) (fun _ _ q=>q.Lp) fun _ _ z=>U4m z
end
section
variable{X:Cx}{st:Stmt}{rest:List Stmt}{t u:TS}{e:Expr}{te:TE}{pos:Pos}
def yK:TS:=fun D σ H=>D.nx σ H
def zj(t u:TS):TS:=fun D σ H=>t { D with nx:=u D } σ H
theorem qG:PSs X [] yK:=fun _ _ σ H _ I h=>U6k ⟨σ,H,I,h⟩
theorem lF(h1:PS X st t)(h2:PSs X rest u):PSs X (st::rest) (zj t u):=by
 intro pins s σ H D I h
 refine wpAny_execs_cons (thn (h1 pins s σ H { D with nx:=u D } I h) fun f s1 q=>?_)
 cases f with
 |next =>
  obtain⟨σ',H',I',q⟩:=q
  exact h2 pins s1 σ' H' D I' q
 |ret v=>exact q
 |brk=>exact q
 |cont=>exact q
theorem qF(h1:PS X st t):PSs X [st] t:=by
 intro pins s σ H D I h
 refine wpAny_execs_cons (thn (h1 pins s σ H D I h) fun f s1 q=>?_)
 cases f with
 |next=>exact U6k q
 |ret v=>exact q
 |brk=>exact q
 |cont=>exact q
theorem Inv.quiet{pins:List (Addr×Obj)}{σ:St}{H:Hp}{s:Shared}(I:Inv X pins σ H s):interactive X.env=false:=by simp[interactive,I.ok.kind]
def yM(te:TE):TS:=fun D σ H=>te σ H fun _ H1=>D.nx σ H1
theorem qI(he:PE X e te)(hs:swapsWith e none pos.line X.env=pure false:=by rfl):PS X (.Expr e pos) (yM te):=by
 intro pins s σ H D I h
 exact wpAny_Expr_any (thn (he pins s σ H _ I h) fun v s1 ⟨x,H1,I1,r1,q1⟩=>⟨σ,H1,I1,q1⟩) I.quiet hs
def zm(te:TE):TS:=fun D σ H=>te σ H D.rt
theorem vM(he:PE X e te):PS X (.Return (some e) pos) (zm te):=by
 intro pins s σ H D I h
 exact wpAny_Return_some (thn (he pins s σ H _ I h) fun v s1 ⟨x,H1,I1,r1,q1⟩=>⟨x,σ,H1,I1,r1,q1⟩)
def zq(c:TT)(t u:TS):TS:=fun D σ H=>c σ H fun b H1=>if b=true then t D σ H1 else u D σ H1
theorem yZ{c:Expr}{a b:List Stmt}{tc:TT}(hc:PT X c tc)(ha:PSs X a t)(hb:PSs X b u):PS X (.If c a b pos) (zq tc t u):=by
 intro pins s σ H D I h
 refine wpAny_If (thn (hc pins s σ H _ I h) fun d s1 ⟨H1,I1,q1⟩=>?_)
 cases d with
 |true=>exact ha pins s1 σ H1 D I1 q1
 |false=>exact hb pins s1 σ H1 D I1 q1
def uo:TS:=fun _ _ _=>False
theorem lH:PS X st uo:=fun _ _ _ _ _ _ h=>h.elim
end
abbrev TG:=V->St->Hp->(St->Hp->Prop)->Prop
abbrev TGs:=List V->St->Hp->(St->Hp->Prop)->Prop
def PG(X:Cx)(target:Expr)(t:TG):Prop :=
 ∀(pins:List (Addr×Obj))(s:Shared)(σ:St)(H:Hp)(v:V)(u:Value)(Q:St->Hp->Prop),Inv X pins σ H s->RelV v u->t v σ H Q ->
  wpAny (model X.prog X.w) X.A (assign target X.env u) (fun _ s'=>∃σ' H',Inv X pins σ' H' s'/\Q σ' H') X.xe s
def PGs(X:Cx)(ts:List Expr)(t:TGs):Prop :=
 ∀(pins:List (Addr×Obj))(s:Shared)(σ:St)(H:Hp)(vs:List V)(us:List Value)(Q:St->Hp->Prop),Inv X pins σ H s->Vals vs us->t vs σ H Q ->
  wpAny (model X.prog X.w) X.A (assignInOrder ((assignEach ts X.env).map (·.2)) us) (fun _ s'=>∃σ' H',Inv X pins σ' H' s'/\Q σ' H') X.xe s
abbrev jU:=V->V->V->Hp->(Hp->Prop)->Prop
def uc(X:Cx)(t:jU):Prop :=
 ∀(pins:List (Addr×Obj))(s:Shared)(σ:St)(H:Hp)(o i v:V)(ov iv u:Value)(Q:Hp->Prop),Inv X pins σ H s->RelV o ov->RelV i iv->RelV v u->t o i v H Q ->
  wpAny (model X.prog X.w) X.A (setItem ov iv u) (fun _ s'=>∃H',Inv X pins σ H' s'/\Q H') X.xe s
section
variable{X:Cx}{pos:Pos}
def XM(i:Nat):TG:=fun v σ H Q=>Q (σ.set i (some v)) H
theorem qN{i:Nat}{x:Str}(hN:X.N.Nodup)(hi:X.N[i]?=some x)(hx:Loc X.env.scope x)(hf:X.fn x=true∨X.env.scope.names.lookup x=some .local:=by first|exact .inl rfl|exact .inr rfl|assumption):PG X (.Name x pos) (XM i):=by
 intro pins s σ H v u Q I r h
 exact wpAny_assign_Name (YL I hN hi hx r (fun s' I'=>⟨_,H,I',h⟩) hf)
def jQ:TGs:=fun vs σ H Q=>vs=[]/\Q σ H
def cg(t:TG)(u:TGs):TGs:=fun vs σ H Q=>∃v r,vs=v::r/\t v σ H fun σ' H'=>u r σ' H' Q
theorem qM:PGs X [] jQ:=by
 intro pins s σ H vs us Q I r h
 obtain⟨e,h⟩:=h
 subst e
 cases r
 exact assignInOrder_nil ⟨σ,H,I,h⟩
theorem lK{e:Expr}{es:List Expr}{t:TG}{u:TGs}(h1:PG X e t)(h2:PGs X es u)
  (hs:(assignEach (e::es) X.env).map (·.2)=assign e X.env::(assignEach es X.env).map (·.2):=by rfl):PGs X (e::es) (cg t u):=by
 intro pins s σ H vs us Q I r h
 obtain⟨v,vr,e1,h⟩:=h
 subst e1
 cases r with
 |cons r rr =>
  rw[hs]
  refine assignInOrder_cons (thn (h1 pins s σ H _ _ _ I r h) fun _ s1 ⟨σ1,H1,I1,q1⟩=>?_)
  exact h2 pins s1 σ1 H1 _ _ Q I1 rr q1
def jP(K:U0a)(n:Nat)(t:TGs):TG:=fun v σ H Q=>∃a xs,v=.ref a/\SqT K H a xs/\xs.length=n/\t xs σ H Q
theorem vP{es:List Expr}{k:Nat}{t:TGs}{n:Nat}(hc:X.calm=true)(h:PGs X es t)
  (hn:(assignEach es X.env).length=n:=by rfl) (hst:(assignEach es X.env).findIdx? (·.1)=none:=by rfl):PG X (.Tuple es k pos) (jP X.K n t):=by
 intro pins s σ H v u Q I r hw
 obtain⟨a,xs,e1,hq,hl,hw⟩:=hw
 subst e1
 cases r
 obtain⟨its,rv,ht,hz⟩:=I.tuple hq
 refine assign_Tuple_tuple (I.ok.hd hc) ht (by simp[hn,←hl,rv.length]) hst fun h' hx=>?_
 have I1:Inv X pins σ H { s with heap:=h' }:=I.kept (t':=s.toks) fun b o e=>hx b o (U0y (U0m e)) e
 exact h pins _ σ H xs _ Q I1 (by simpa using rv) hw
def Jai(to ti:TE)(t:jU):TG:=fun v σ H Q=>to σ H fun o H1=>ti σ H1 fun i H2=>t o i v H2 fun H3=>Q σ H3
theorem vQ{o i:Expr}{to ti:TE}{t:jU}(ho:PE X o to)(hi:PE X i ti)(hs:uc X t)
  (ha:∀v,assign (.Subscript o i pos) X.env v=(do
   let ov ←holding [v] (eval o X.env)
   let iv ←holding [v,ov] (eval i X.env)
   standAt pos
   holding [v,ov,iv] (setItem ov iv v)
   release [v,ov,iv] []):=by intro _;rfl):PG X (.Subscript o i pos) (Jai to ti t):=by
 intro pins s σ H v u Q I r h
 rw[ha]
 refine U0 (U19 (thn (ho pins s σ H _ I h) fun ov s1 ⟨x,H1,I1,r1,q1⟩=>?_))
 refine U0 (U19 (thn (hi pins s1 σ H1 _ I1 q1) fun iv s2 ⟨y,H2,I2,r2,q2⟩=>?_))
 refine U0 (wpAny_standAt (U0 (U19 (thn (hs pins s2 σ H2 x y v ov iv u _ I2 r1 r2 r q2) fun _ s3 ⟨H3,I3,q3⟩=>?_))))
 exact wpAny_release ⟨σ,H3,I3,q3⟩
def uE(te:TE)(g:TG):TS:=fun D σ H=>te σ H fun x H1=>g x σ H1 D.nx
theorem fC{tg e:Expr}{te:TE}{g:TG}(he:PE X e te)(hg:PG X tg g)(hs:swapsWithSole [tg] e pos.line X.env=pure false:=by rfl)(hw:swappedStores [tg] e X.env=pure none:=by rfl)
  (h1:(assignEach [tg] X.env).map (·.2)=[assign tg X.env]:=by rfl):PS X (.Assign [tg] e pos) (uE te g):=by
 intro pins s σ H D I h
 refine wpAny_Assign_stores (thn (he pins s σ H _ I h) fun v s1 ⟨x,H1,I1,r1,q1⟩=>?_) hs hw
 rw[h1]
 exact thn (hg pins s1 σ H1 x v _ I1 r1 q1) fun _ s2 q=>q
theorem vL{i:Nat}{x:Str}{e:Expr}{te:TE}{pos':Pos}(hN:X.N.Nodup)(hi:X.N[i]?=some x)(hx:Loc X.env.scope x)(he:PE X e te)(hs:swapsWith e (some (.Name x pos')) pos.line X.env=pure false:=by rfl)(hf:X.fn x=true∨X.env.scope.names.lookup x=some .local:=by first|exact .inl rfl|exact .inr rfl|assumption) :
  PS X (.Assign [.Name x pos'] e pos) (uE te (XM i)):=by
 intro pins s σ H D I h
 refine wpAny_Assign_Name (thn (he pins s σ H _ I h) fun v s1 ⟨y,H1,I1,r1,q1⟩=>?_) hs
 exact YL I1 hN hi hx r1 (fun s2 I2=>⟨_,H1,I2,q1⟩) hf
end
section
variable{X:Cx}{pos:Pos}
def um(c:TT)(tb:TS):TS:=fun D σ H=>∃W:Nat->St->Hp->Prop,(∃m,W m σ H)/\∀m σ H,W m σ H ->
 c σ H fun b H1=>if b=true then ∃N:St->Hp->Prop,(∀σ' H',N σ' H'->∃m',m'<m/\W m' σ' H')/\tb { D with nx:=N,ct:=N,bk:=D.nx } σ H1 else D.nx σ H1
theorem lG{c:Expr}{body:List Stmt}{tc:TT}{tb:TS}(hp:PassesOwn (model X.prog X.w) X.A X.env X.xe)(hc:PT X c tc)(hb:PSs X body tb):PS X (.While c body [] pos) (um tc tb):=by
 intro pins s σ H D I h
 obtain⟨W,⟨m0,w0⟩,turn⟩:=h
 refine wpAny_While (codeAny_whileLoop (fun n s'=>∃σ' H',Inv X pins σ' H' s'/\W n σ' H') ?_ m0 ⟨σ,H,I,w0⟩)
 rintro n s1 ⟨σ1,H1,I1,w1⟩
 refine U4b hp (thn (hc pins s1 σ1 H1 _ I1 (turn n σ1 H1 w1)) fun b s2 ⟨H2,I2,q2⟩=>?_)
 cases b with
 |true =>
  obtain⟨N,hN,q2⟩:=q2
  rw[if_pos rfl]
  refine U4b hp (thn (hb pins s2 σ1 H2 _ I2 q2) fun f s3 q3=>?_)
  cases f with
  |next =>
   obtain⟨σ3,H3,I3,n3⟩:=q3
   obtain⟨m',hm,w3⟩:=hN σ3 H3 n3
   exact⟨m',hm,σ3,H3,I3,w3⟩
  |cont =>
   obtain⟨σ3,H3,I3,n3⟩:=q3
   obtain⟨m',hm,w3⟩:=hN σ3 H3 n3
   exact⟨m',hm,σ3,H3,I3,w3⟩
  |brk=>exact q3
  |ret v=>exact q3
 |false =>
  rw[if_neg U1g]
  exact U6k ⟨σ1,H2,I2,q2⟩
end
structure It where
 go:Nat->Hp->Prop
 yld:Nat->Hp->V->Hp->Prop
 stop:Nat->Hp->Prop
def Ow(X:Cx)(pins:List (Addr×Obj))(H:Hp)(b:Addr):Prop :=
 H b=none/\b≠X.env.locals/\b ∉ X.fs/\(b∈X.ex∨X.s₀.heap.objs.size<=b)/\(∀x c,X.env.cells.lookup x=some c->c≠b)/\∀p∈X.pn++pins,p.1≠b
theorem Inv.cI{X:Cx}{pins:List (Addr×Obj)}{σ:St}{H H':Hp}{s:Shared}{b:Addr}(I:Inv X pins σ H s)(hb:s.heap.objs.size<=b)(hn:H' b=none):Ow X pins H' b:=by
 refine⟨hn,U1q (U0w I.lt hb),I.jN hb,.inr (U1c I.sz hb),fun x c e z=>?_,fun p hp z=>?_⟩
 .obtain⟨v,q⟩:=I.cell x c e
  exact absurd (U0w q.lt (by rw[z];exact hb)) (U3u _)
 .exact absurd (U0w (U0m (I.pin p hp).1) (by rw[z];exact hb)) (U3u _)
structure Turn(P:Program)(w:World)(K:U0a)(tg:Expr)(J:It)(fp:List Addr)(it:Addr)(tn:Nat->Heap->Prop):Prop where
 mem:it∈fp
 obj:∀i h,tn i h->∀b∈fp,∃o,h.get? b=some o/\∀v,o.data≠.cell v
 keep:∀i h h',tn i h->(∀b∈fp,∀o,h.get? b=some o->h'.get? b=some o)->tn i h'
 item:∀(X:Cx),X.prog=P->X.w=w->X.K=K->X.calm=true->∀(i:Nat)(pins:List (Addr×Obj))(s:Shared)(σ:St)(H:Hp)(E:Value->Shared->Prop),Inv X pins σ H s->(∀b∈fp,Ow X pins H b)->tn i s.heap->J.go i H ->
  wpAny (model P w) X.A (pyNext (.ref it)) (fun r s1=>∃u,r=some u /\
   wpAny (model P w) X.A (letOwnedTupleGo tg (.ref it) u) (fun _ s2=>∃x H',Inv X pins σ H' s2/\RelV x u/\J.yld i H x H'/\tn (i+1) s2.heap/\∀b∈fp,H' b=none) E s1) E s
 done:∀(X:Cx),X.prog=P->X.w=w->X.K=K->X.calm=true->∀(i:Nat)(pins:List (Addr×Obj))(s:Shared)(σ:St)(H:Hp)(E:Value->Shared->Prop),Inv X pins σ H s->(∀b∈fp,Ow X pins H b)->tn i s.heap->J.stop i H ->
  wpAny (model P w) X.A (pyNext (.ref it)) (fun r s1=>r=none/\Inv X pins σ H s1) E s
 self:∀(A:Around)(i:Nat)(s:Shared)(Q:Value->Shared->Prop)(E:Value->Shared->Prop),tn i s.heap->Q (.ref it) s->wpAny (model P w) A (pyIter (.ref it)) Q E s
abbrev TI:=St->Hp->(It->Hp->Prop)->Prop
def PIE(X:Cx)(pins:List (Addr×Obj))(σ:St)(tg:Expr)(R:It->Hp->Prop)(itv:Value)(s2:Shared):Prop :=
 ∃(it:Addr)(fp:List Addr)(tn:Nat->Heap->Prop)(J:It)(H':Hp),itv=.ref it/\Inv X pins σ H' s2/\Turn X.prog X.w X.K tg J fp it tn/\tn 0 s2.heap/\(∀b∈fp,Ow X pins H' b)/\R J H'
def PI(X:Cx)(tg iter:Expr)(wi:TI):Prop :=
 ∀(pins:List (Addr×Obj))(s:Shared)(σ:St)(H:Hp)(R:It->Hp->Prop),Inv X pins σ H s->wi σ H R ->
  wpAny (model X.prog X.w) X.A (eval iter X.env) (fun v s1=>wpAny (model X.prog X.w) X.A (pyIter v) (PIE X pins σ tg R) X.xe s1) X.xe s
theorem cZ{M:Model}{A:Around}{E:Value->Shared->Prop}{s:Shared}{tg:Expr}{it:Addr}{u:Value}{o:Obj}{n:String}{vs:Array Value}{Q:Unit->Shared->Prop}(ho:s.heap.get? it=some o)(hc:o.cls=.type n)(hd:o.data=.fields vs)
  (hn:["enumerate","zip","dict_itemiterator","dict_reverseitemiterator","odict_iterator","itertools.zip_longest","itertools.pairwise"].contains n=false) (hQ:Q () s):wpAny M A (letOwnedTupleGo tg (.ref it) u) Q E s:=by
 unfold letOwnedTupleGo
 cases tg<;>first
  |exact U0d hQ
  |(cases u<;>first
    |exact U0d hQ
    |(refine U0 (wpAny_load ho ?_)
      rw[hc,hd]
      show wpAny M A (if (["enumerate","zip","dict_itemiterator","dict_reverseitemiterator","odict_iterator","itertools.zip_longest","itertools.pairwise"].contains n&&vs[0]?==some (rawInt _))=true then _ else _) Q E s
      rw[if_neg (by intro h;rw[hn,Bool.false_and] at h;cases h)]
      exact U0d hQ))
def Itl(K:U0a)(a:Addr):It :=
 ⟨fun i H=>∃xs x,SqL K H a xs/\xs[i]?=some x,fun i H x H'=>H'=H/\∀xs,SqL K H a xs->xs[i]?=some x,fun i H=>∃xs,SqL K H a xs/\xs.length<=i⟩
def Itt(K:U0a)(a:Addr):It :=
 ⟨fun i H=>∃xs x,SqT K H a xs/\xs[i]?=some x,fun i H x H'=>H'=H/\∀xs,SqT K H a xs->xs[i]?=some x,fun i H=>∃xs,SqT K H a xs/\xs.length<=i⟩
def Itr(lo:Int)(n:Nat):It:=⟨fun i _=>i<n,fun i H x H'=>H'=H/\x=.int (lo+i),fun i _=>n<=i⟩
theorem gF{P:Program}{w:World}{K:U0a}{tg:Expr}(a it:Addr):Turn P w K tg (Itl K a) [it] it (fun i h=>h.IsListIter it a i) where
 mem:=by simp
 obj:=fun i h st b hb=>by
  have e:b=it:=by simpa using hb
  subst e
  obtain⟨o,e,c,d⟩:=st
  exact⟨o,e,fun v z=>by rw[d] at z;cases z⟩
 keep:=fun i h h' st k=>st.at fun o e=>k it (by simp) o e
 item:=by
  intro X hP hw hK hc i pins s σ H E I hf st hg
  subst hP hw hK
  obtain⟨xs,x,hq,hx⟩:=hg
  obtain⟨its,rv,p,hz⟩:=I.list hq
  obtain⟨u,hu,ru⟩:=rv.get hx
  obtain⟨f0,f1,f2,f3,f4,f5⟩:=hf it (by simp)
  refine wpAny_pyNext_list_item st p.isList (x:=u) (by simpa using hu) fun h' st' sb=>?_
  have I1:Inv X pins σ H { s with heap:=h' }:=I.turned (t':=s.toks) (fun b o hb e=>(sb.2 b hb).trans e) f0 f1 f3 f4 f5
  obtain⟨o,e,c,d⟩:=id st'
  exact⟨u,rfl,cZ (s:={ s with heap:=h' }) e c d (by decide) ⟨x,H,I1,ru,⟨rfl,fun ys hy=>by rw[I.mH hy hq];exact hx⟩,st',fun b hb=>(hf b hb).1⟩⟩
 done:=by
  intro X hP hw hK hc i pins s σ H E I hf st hg
  subst hP hw hK
  obtain⟨xs,hq,hx⟩:=hg
  obtain⟨its,rv,p,hz⟩:=I.list hq
  obtain⟨f0,f1,f2,f3,f4,f5⟩:=hf it (by simp)
  have hl:=rv.length
  exact wpAny_pyNext_list_end (I.ok.hd hc) st p.isList (by simp;omega) fun h' eb=>⟨rfl,I.turned (t':=s.toks) (fun b o hb e=>eb b o hb e) f0 f1 f3 f4 f5⟩
 self:=fun _ _ _ _ _ st h=>wpAny_pyIter_listiter st h
theorem cu{P:Program}{w:World}{K:U0a}{tg:Expr}(a it:Addr):Turn P w K tg (Itt K a) [it] it (fun i h=>h.IsTupleIter it a i) where
 mem:=by simp
 obj:=fun i h st b hb=>by
  have e:b=it:=by simpa using hb
  subst e
  obtain⟨o,e,c,d⟩:=st
  exact⟨o,e,fun v z=>by rw[d] at z;cases z⟩
 keep:=fun i h h' st k=>st.at fun o e=>k it (by simp) o e
 item:=by
  intro X hP hw hK hc i pins s σ H E I hf st hg
  subst hP hw hK
  obtain⟨xs,x,hq,hx⟩:=hg
  obtain⟨its,rv,p,hz⟩:=I.tuple hq
  obtain⟨u,hu,ru⟩:=rv.get hx
  obtain⟨f0,f1,f2,f3,f4,f5⟩:=hf it (by simp)
  refine wpAny_pyNext_tuple_item st (show s.heap.IsTuple a its.toArray from p) (x:=u) (by simpa using hu) fun h' st' sb=>?_
  have I1:Inv X pins σ H { s with heap:=h' }:=I.turned (t':=s.toks) (fun b o hb e=>(sb.2 b hb).trans e) f0 f1 f3 f4 f5
  obtain⟨o,e,c,d⟩:=id st'
  exact⟨u,rfl,cZ (s:={ s with heap:=h' }) e c d (by decide) ⟨x,H,I1,ru,⟨rfl,fun ys hy=>by rw[I.gG hy hq];exact hx⟩,st',fun b hb=>(hf b hb).1⟩⟩
 done:=by
  intro X hP hw hK hc i pins s σ H E I hf st hg
  subst hP hw hK
  obtain⟨xs,hq,hx⟩:=hg
  obtain⟨its,rv,p,hz⟩:=I.tuple hq
  obtain⟨f0,f1,f2,f3,f4,f5⟩:=hf it (by simp)
  have hl:=rv.length
  exact wpAny_pyNext_tuple_end (I.ok.hd hc) st (show s.heap.IsTuple a its.toArray from p) (by simp;omega) fun h' eb=>⟨rfl,I.turned (t':=s.toks) (fun b o hb e=>eb b o hb e) f0 f1 f3 f4 f5⟩
 self:=fun _ _ _ _ _ st h=>wpAny_pyIter_tupleiter st h
theorem d7{P:Program}{w:World}{K:U0a}{tg:Expr}(it:Addr)(lo:Int)(n:Nat):Turn P w K tg (Itr lo n) [it] it (fun i h=>IsRangeIter h it (lo+(i:Nat)*1) ((n:Int)-(i:Nat)) 1) where
 mem:=by simp
 obj:=fun i h st b hb=>by
  have e:b=it:=by simpa using hb
  subst e
  exact⟨_,st,fun v z=>by
   have z':Data.fields _=Data.cell v:=z
   cases z'⟩
 keep:=fun i h h' st k=>k it (by simp) _ st
 item:=by
  intro X hP hw hK hc i pins s σ H E I hf st hg
  subst hP hw hK
  obtain⟨f0,f1,f2,f3,f4,f5⟩:=hf it (by simp)
  have W:=Walks.range (prog:=X.prog) (w:=X.w) (I.ok.hd hc) it lo 1 n
  refine W.item i s _ _ hg st fun v h' tk hv st' kk=>?_
  obtain⟨t,rfl⟩:=hv
  have I1:Inv X pins σ H { s with heap:=h',toks:=tk }:=I.turned (fun b o hb e=>kk b o (by simpa using hb) e) f0 f1 f3 f4 f5
  refine⟨_,rfl,cZ (s:={ s with heap:=h',toks:=tk }) (n:="range_iterator") st' rfl rfl (by decide) ⟨.int (lo+i),H,I1,⟨t,?_⟩,⟨rfl,rfl⟩,st',fun b hb=>(hf b hb).1⟩⟩
  rw[U6]
 done:=by
  intro X hP hw hK hc i pins s σ H E I hf st hg
  subst hP hw hK
  obtain⟨f0,f1,f2,f3,f4,f5⟩:=hf it (by simp)
  exact wpAny_pyNext_range_end (I.ok.hd hc) st (by have:n<=i:=hg;omega) fun h' eb=>⟨rfl,I.turned (t':=s.toks) (fun b o hb e=>eb b o hb e) f0 f1 f3 f4 f5⟩
 self:=fun _ _ _ _ _ st h=>wpAny_pyIter_rangeiter st h
end L2
namespace L2
open PySem PySem.Spec PyProof.Rows
section
variable{X:Cx}{tg:Expr}
theorem lB{pins:List (Addr×Obj)}{σ:St}{H:Hp}{s:Shared}{R:It->Hp->Prop}{E:Value->Shared->Prop}{lo hi:Int}{t u v:Tok}{tk:Nat}(I:Inv X pins σ H s)(h1:-(2^62)<=lo)(h2:lo<2^62)(h3:-(2^62)<=hi)(h4:hi<2^62)
  (q:R (Itr lo (hi-lo).toNat) H):wpAny (model X.prog X.w) X.A (pyIter (.ref s.heap.objs.size)) (PIE X pins σ tg R) E { s with heap:=s.heap.push { cls:=.type "range",data:=.fields #[.int lo t,.int hi u,.int 1 v] },toks:=tk }:=by
 refine wpAny_pyIter_range (IsRange.new ..) (small_one h1 h2 h3 h4) ?_
 have I1:Inv X pins σ H { s with heap:=s.heap.push { cls:=.type "range",data:=.fields #[.int lo t,.int hi u,.int 1 v] },toks:=tk }:=I.kept fun b o e=>U0c _ e
 refine⟨(s.heap.push { cls:=.type "range",data:=.fields #[.int lo t,.int hi u,.int 1 v] }).objs.size,[(s.heap.push { cls:=.type "range",data:=.fields #[.int lo t,.int hi u,.int 1 v] }).objs.size],_,_,H,rfl,
  I1.kept (t':=tk) fun b o e=>U0c _ e,d7 _ lo (hi-lo).toNat,?_,fun b hb=>?_,q⟩
 .have e1:lo+((0:Nat):Int)*1=lo:=by simp
  have e2:(((hi-lo).toNat:Nat):Int)-((0:Nat):Int)=Builtin.Range.rangeSize lo hi 1:=by rw[rangeSize_one];split<;>omega
  show IsRangeIter _ _ (lo+((0:Nat):Int)*1) ((((hi-lo).toNat:Nat):Int)-((0:Nat):Int)) 1
  rw[e1,e2]
  exact U0v _ rfl
 .have e:b=(s.heap.push { cls:=.type "range",data:=.fields #[.int lo t,.int hi u,.int 1 v] }).objs.size:=by simpa using hb
  subst e
  exact I1.cI (U0u _) (I1.hok.fresh (U0u _))
def zH(ta:TA):TI:=fun σ H R=>ta σ H fun vs H1=>∃j:Int,vs=[.int j]/\-(2^62)<=j/\j<2^62/\R (Itr 0 j.toNat) H1
theorem gq{a:Expr}{ta:TA}{p pos:Pos}(hg:Gl X "range")(hm:X.mg "range"=none)(ha:PA X [a] ta)(hs:starEach [a] X.env=[(false,eval a X.env)]:=by rfl):PI X tg (.Call (.Name "range" p) [a] [] pos) (zH ta):=by
 intro pins s σ H R I h
 refine Call_ (Ls I hg hm boot_range (U3s (thn (ha pos pins s σ H _ I h) fun us s1 ⟨vs,H1,I1,r1,q1⟩=>?_) hs rfl))
 obtain⟨j,e,q1,q2,q⟩:=q1
 subst e
 cases r1 with
 |cons r rr =>
  cases rr
  obtain⟨t,rfl⟩:=r
  exact call_range_1 (lB I1 (by omega) (by omega) q1 q2 (by simpa using q))
def zu(wi:TI)(g:TG)(tb:TS):TS:=fun D σ H=>wi σ H fun J H1=>∃W:Nat->Nat->St->Hp->Prop,(∃m,W 0 m σ H1)/\∀i m σ H,W i m σ H ->
 (J.stop i H/\D.nx σ H)∨(J.go i H/\∃N:St->Hp->Prop,(∀σ' H',N σ' H'->∃m',m'<m/\W (i+1) m' σ' H')/\∀x H',J.yld i H x H'->g x σ H' fun σ2 H2=>tb { D with nx:=N,ct:=N,bk:=D.nx } σ2 H2)
def Lr(fp:List Addr)(h:Heap):List (Addr×Obj):=fp.filterMap fun b=>(h.get? b).map fun o=>(b,o)
theorem Mh{fp:List Addr}{h:Heap}{b:Addr}{o:Obj}(hb:b∈fp)(e:h.get? b=some o):(b,o)∈Lr fp h:=List.mem_filterMap.mpr ⟨b,hb,by rw[e];rfl⟩
theorem WX{fp:List Addr}{h:Heap}{p:Addr×Obj}(hp:p∈Lr fp h):p.1∈fp/\h.get? p.1=some p.2:=by
 obtain⟨b,hb,e⟩:=List.mem_filterMap.mp hp
 cases q:h.get? b with
 |none=>rw[q] at e;cases e
 |some o =>
  rw[q] at e
  have e':(b,o)=p:=U03 e
  subst e'
  exact⟨hb,q⟩
theorem Inv.pinned{pins:List (Addr×Obj)}{σ:St}{H:Hp}{s:Shared}{fp:List Addr}(I:Inv X pins σ H s)(hf:∀b∈fp,Ow X pins H b)(ho:∀b∈fp,∃o,s.heap.get? b=some o/\∀v,o.data≠.cell v):Inv X (pins++Lr fp s.heap) σ H s :=
 I.Ro fun p hp=>(U2c.mp hp).elim (fun z=>I.pin p (U1d _ z)) fun z=>by
  obtain⟨hb,e⟩:=WX z
  obtain⟨f0,f1,f2,_⟩:=hf p.1 hb
  obtain⟨o,e',d⟩:=ho p.1 hb
  rw[e] at e';cases e'
  exact⟨e,f0,f1,f2,d⟩
theorem Inv.Pz{pins pl:List (Addr×Obj)}{σ:St}{H:Hp}{s:Shared}(I:Inv X (pins++pl) σ H s):Inv X pins σ H s:=I.Ro fun p hp=>I.pin p (U1d _ (U28 _ hp))
theorem vN{iter:Expr}{body:List Stmt}{wi:TI}{g:TG}{tb:TS}{pos:Pos}(hp:PassesOwn (model X.prog X.w) X.A X.env X.xe)(hc:X.calm=true)(hi:PI X tg iter wi)(hg:PG X tg g)(hb:PSs X body tb)
  (hs:∀x,foldedSetIterable iter X.env x=pure x:=by intro _;rfl):PS X (.For tg iter body [] pos) (zu wi g tb):=by
 intro pins s σ H D I h
 refine wpAny_For (thn (hi pins s σ H _ I h) fun v s1 h1=>thn h1 fun itv s2 h2=>?_) hs
 obtain⟨it,fp,tn,J,H2,e,I2,T,st2,f2,W,⟨m0,w0⟩,turn⟩:=h2
 subst e
 -- what stays true of the iterator's objects through the loop
 have stat:∀{H':Hp},(∀b∈fp,H' b=none)->∀b∈fp,Ow X pins H' b:=fun hn b hb=>⟨hn b hb,(f2 b hb).2⟩
 refine codeAny_forLoop_any (fun n s'=>∃i σ' H',Inv X pins σ' H' s'/\tn i s'.heap/\(∀b∈fp,H' b=none)/\W i n σ' H') ?_ m0 ⟨0,σ,H2,I2,st2,fun b hb=>(f2 b hb).1,w0⟩
 rintro n s3 ⟨i,σ3,H3,I3,st3,fr3,w3⟩
 rcases turn i n σ3 H3 w3 with ⟨stop,qn⟩|⟨go,N,hN,step⟩
 .refine U4b hp (thn (T.done X rfl rfl rfl hc i pins s3 σ3 H3 X.xe I3 (stat fr3) st3 stop) fun r s4 ⟨hr,I4⟩=>?_)
  subst hr
  exact U6k ⟨σ3,H3,I4,qn⟩
 .refine U4b hp (thn (T.item X rfl rfl rfl hc i pins s3 σ3 H3 X.xe I3 (stat fr3) st3 go) fun r s4 ⟨u,hr,h4⟩=>?_)
  subst hr
  refine U4b hp (thn h4 fun _ s5 ⟨x,H5,I5,r5,y5,st5,fr5⟩=>?_)
  have I5':=I5.pinned (stat fr5) (T.obj _ _ st5)
  refine U4b hp (thn (hg _ s5 σ3 H5 x u _ I5' r5 (step x H5 y5)) fun _ s6 ⟨σ6,H6,I6,q6⟩=>?_)
  refine U4b hp (thn (hb _ s6 σ6 H6 _ I6 q6) fun f s7 q7=>?_)
  have again:∀{σ7:St} {H7:Hp},Inv X (pins++Lr fp s5.heap) σ7 H7 s7->N σ7 H7->∃m,m<n/\∃i σ' H',Inv X pins σ' H' s7/\tn i s7.heap/\(∀b∈fp,H' b=none)/\W i m σ' H':=fun {σ7 H7} I7 n7=>by
   obtain⟨m',hm,w7⟩:=hN σ7 H7 n7
   refine⟨m',hm,i+1,σ7,H7,I7.Pz,T.keep _ _ _ st5 fun b hb o e=>(I7.pin (b,o) (U1d _ (U1d _ (Mh hb e)))).1,fun b hb=>?_,w7⟩
   obtain⟨o,e,d⟩:=T.obj _ _ st5 b hb
   exact(I7.pin (b,o) (U1d _ (U1d _ (Mh hb e)))).2.1
  cases f with
  |next=>obtain⟨σ7,H7,I7,n7⟩:=q7;exact again I7 n7
  |cont=>obtain⟨σ7,H7,I7,n7⟩:=q7;exact again I7 n7
  |brk=>obtain⟨σ7,H7,I7,q7⟩:=q7;exact⟨σ7,H7,I7.Pz,q7⟩
  |ret v=>obtain⟨x7,σ7,H7,I7,r7,q7⟩:=q7;exact⟨x7,σ7,H7,I7.Pz,r7,q7⟩
end
end L2
namespace L2
open PySem PySem.Spec PyProof.Rows
abbrev R2:=V->V->Hp->VK->Prop
def OpR(X:Cx)(f:Value->Value->Sem Value)(r:R2):Prop :=
 ∀(pins:List (Addr×Obj))(s:Shared)(σ:St)(H:Hp)(x y:V)(v u:Value)(Q:VK),Inv X pins σ H s->RelV x v->RelV y u->r x y H Q ->
  wpAny (model X.prog X.w) X.A (f v u) (EP X pins σ Q) X.xe s
def UnR(X:Cx)(f:Value->Sem Value)(r:V->Hp->VK->Prop):Prop :=
 ∀(pins:List (Addr×Obj))(s:Shared)(σ:St)(H:Hp)(x:V)(v:Value)(Q:VK),Inv X pins σ H s->RelV x v->r x H Q ->
  wpAny (model X.prog X.w) X.A (f v) (EP X pins σ Q) X.xe s
def Dn(X:Cx)(f:Value)(r:List V->Hp->VK->Prop):Prop :=
 ∀(pins:List (Addr×Obj))(s:Shared)(σ:St)(H:Hp)(xs:List V)(us:List Value)(Q:VK),Inv X pins σ H s->Vals xs us->r xs H Q ->
  wpAny (model X.prog X.w) X.A (call f us) (EP X pins σ Q) X.xe s
def tOp(r:R2)(ta tb:TE):TE:=fun σ H Q=>ta σ H fun x H1=>tb σ H1 fun y H2=>r x y H2 Q
def tUn(r:V->Hp->VK->Prop)(ta:TE):TE:=fun σ H Q=>ta σ H fun x H1=>r x H1 Q
def rI(C:Int->Int->Prop)(g:Int->Int->V):R2:=fun x y H Q=>∃i j,x=.int i/\y=.int j/\C i j/\Q (g i j) H
def rI0(g:Int->Int->V):R2:=fun x y H Q=>∃i j,x=.int i/\y=.int j/\Q (g i j) H
def rU(g:Int->V):V->Hp->VK->Prop:=fun x H Q=>∃i,x=.int i/\Q (g i) H
section
variable{X:Cx}{a b c:Expr}{ta tb tc:TE}{pos:Pos}
theorem cJ(ha:PE X a ta)(hb:PE X b tb){pins:List (Addr×Obj)}{s:Shared}{σ:St}{H:Hp}{R:V->V->Hp->Prop}(I:Inv X pins σ H s)
  (h:ta σ H fun x H1=>tb σ H1 fun y H2=>R x y H2) {Q:Value->Shared->Prop} {f:Value->Value->Sem Value}
  (hf:∀v u s2 x y H2,Inv X pins σ H2 s2->RelV x v->RelV y u->R x y H2->wpAny (model X.prog X.w) X.A (f v u) Q X.xe s2) :
  wpAny (model X.prog X.w) X.A (eval a X.env) (fun v s₁=>wpAny (model X.prog X.w) X.A (eval b X.env) (fun u s₂=>wpAny (model X.prog X.w) X.A (f v u) Q X.xe s₂) X.xe s₁) X.xe s:=by
 refine thn (ha pins s σ H _ I h) fun v s1 ⟨x,H1,I1,r1,q1⟩=>?_
 refine thn (hb pins s1 σ H1 _ I1 q1) fun u s2 ⟨y,H2,I2,r2,q2⟩=>?_
 exact hf v u s2 x y H2 I2 r1 r2 q2
theorem oM{op:Operator}{r:R2}(ho:OpR X (binaryOp op) r)(ha:PE X a ta)(hb:PE X b tb):PE X (.BinOp a op b pos) (tOp r ta tb):=by
 intro pins s σ H Q I h
 exact wpAny_BinOp (cJ ha hb I h fun v u s2 x y H2 I2 rx ry q=>ho pins s2 σ H2 x y v u Q I2 rx ry q)
theorem yc{op:UnaryOp}{r:V->Hp->VK->Prop}(ho:UnR X (unaryOp op) r)(ha:PE X a ta):PE X (.UnaryOp op a pos) (tUn r ta):=by
 intro pins s σ H Q I h
 exact UnaryOp_ (thn (ha pins s σ H _ I h) fun v s1 ⟨x,H1,I1,r1,q1⟩=>ho pins s1 σ H1 x v Q I1 r1 q1)
theorem opI{f:Value->Value->Sem Value}{C:Int->Int->Prop}{g:Int->Int->Int}
  (rule:∀(i j:Int)(t u:Tok)(s:Shared)(Q:Value->Shared->Prop)(E:Value->Shared->Prop),C i j->Q (.int (g i j) s.toks) { s with toks:=s.toks+1 }->wpAny (model X.prog X.w) X.A (f (.int i t) (.int j u)) Q E s) :
  OpR X f (rI C fun i j=>.int (g i j)):=by
 intro pins s σ H x y v u Q I rx ry h
 obtain⟨i,j,rfl,rfl,hc,q⟩:=h
 obtain⟨t,rfl⟩:=rx
 obtain⟨t',rfl⟩:=ry
 exact rule i j t t' s _ _ hc ⟨.int (g i j),H,I.tok _,⟨_,rfl⟩,q⟩
theorem uU{f:Value->Value->Sem Value}{g:Int->Int->Int}
  (rule:∀(i j:Int)(t u:Tok)(s:Shared)(Q:Value->Shared->Prop)(E:Value->Shared->Prop),Q (.int (g i j) s.toks) { s with toks:=s.toks+1 }->wpAny (model X.prog X.w) X.A (f (.int i t) (.int j u)) Q E s) :
  OpR X f (rI0 fun i j=>.int (g i j)):=by
 intro pins s σ H x y v u Q I rx ry h
 obtain⟨i,j,rfl,rfl,q⟩:=h
 obtain⟨t,rfl⟩:=rx
 obtain⟨t',rfl⟩:=ry
 exact rule i j t t' s _ _ ⟨.int (g i j),H,I.tok _,⟨_,rfl⟩,q⟩
theorem cF{f:Value->Value->Sem Value}{g:Int->Int->Bool}
  (rule:∀(i j:Int)(t u:Tok)(s:Shared)(Q:Value->Shared->Prop)(E:Value->Shared->Prop),Q (.bool (g i j)) s->wpAny (model X.prog X.w) X.A (f (.int i t) (.int j u)) Q E s) :
  OpR X f (rI0 fun i j=>.bl (g i j)):=by
 intro pins s σ H x y v u Q I rx ry h
 obtain⟨i,j,rfl,rfl,q⟩:=h
 obtain⟨t,rfl⟩:=rx
 obtain⟨t',rfl⟩:=ry
 exact rule i j t t' s _ _ ⟨.bl (g i j),H,I,rfl,q⟩
def jY(i j:Int):Prop:=0<=j/\j<=1000000/\i.natAbs<2^64
def Xg(i j:Int):Prop:=(-(2^64)<i/\i<2^64)∨(-(2^64)<j/\j<2^64)
theorem Xg.ok{i j:Int}(h:Xg i j):IntMulOk i j:=by
 rcases h with ⟨h1,h2⟩|⟨h1,h2⟩
 .exact .of_left (intBits_le_64 h1 h2)
 .exact .of_right (intBits_le_64 h1 h2)
theorem vh:OpR X (binaryOp .Add) (rI0 fun i j=>.int (i+j)):=uU fun _ _ _ _ _ _ _ q=>add_int q
theorem Jt:OpR X (binaryOp .Sub) (rI0 fun i j=>.int (i-j)):=uU fun _ _ _ _ _ _ _ q=>sub_int q
theorem vd:OpR X (binaryOp .Mult) (rI Xg fun i j=>.int (i*j)):=opI fun _ _ _ _ _ _ _ hc q=>mul_int q hc.ok
theorem PK:OpR X (binaryOp .Mod) (rI (fun _ j=>0<j) fun i j=>.int (i%j)):=opI fun i j _ _ _ _ _ hc q=>by
 have h1:(0:Int)<j:=hc
 exact mod_int' (by omega) (by rw[Int.fmod_eq_emod_of_nonneg i (by omega)];exact q)
theorem PJ:OpR X (binaryOp .Pow) (rI jY fun i j=>.int (i^j.toNat)):=opI fun _ _ _ _ _ _ _ hc q=>pow_int_small hc.1 hc.2.1 hc.2.2 q
theorem unI{f:Value->Sem Value}{g:Int->Int}
  (rule:∀(i:Int)(t:Tok)(s:Shared)(Q:Value->Shared->Prop)(E:Value->Shared->Prop),Q (.int (g i) s.toks) { s with toks:=s.toks+1 }->wpAny (model X.prog X.w) X.A (f (.int i t)) Q E s) :
  UnR X f (rU fun i=>.int (g i)):=by
 intro pins s σ H x v Q I rx h
 obtain⟨i,rfl,q⟩:=h
 obtain⟨t,rfl⟩:=rx
 exact rule i t s _ _ ⟨.int (g i),H,I.tok _,⟨_,rfl⟩,q⟩
theorem Lq:UnR X (unaryOp .USub) (rU fun i=>.int (-i)):=unI fun _ _ _ _ _ q=>neg_int q
end
def uF:V->V->Bool
 |.non,.non=>true|.non,.int _=>true|.int _,.non=>true|.non,.bl _=>true|.bl _,.non=>true|.non,.str _=>true|.str _,.non=>true
 |.int _,.int _=>true|.bl _,.bl _=>true|.str _,.str _=>true|.byt _,.byt _=>true
 |.int _,.str _=>true|.str _,.int _=>true|.bl _,.str _=>true|.str _,.bl _=>true
 |_,_=>false
def rEq:R2:=fun x y H Q=>uF x y=true/\Q (.bl (decide (x=y))) H
def rNe:R2:=fun x y H Q=>uF x y=true/\Q (.bl (!decide (x=y))) H
theorem bT{i j:Int}:decide (V.int i=V.int j)=(i==j):=by
 rw[U3f]
 simp
theorem fW{i j:Bool}:decide (V.bl i=V.bl j)=(i==j):=by
 rw[U3f]
 simp
theorem bR{i j:Str}:decide (V.str i=V.str j)=(i==j):=by
 rw[U3f]
 simp
theorem bU{i j:Array UInt8}:decide (V.byt i=V.byt j)=(i.toList==j.toList):=by
 rw[U3f]
 cases i
 cases j
 simp
section
variable{X:Cx}{a b c:Expr}{ta tb tc:TE}{pos:Pos}
theorem Dj{pins:List (Addr×Obj)}{σ:St}{H:Hp}{s:Shared}{Q:VK}{k k':Bool}(I:Inv X pins σ H s)(q:Q (.bl k) H)(e:k=k'):EP X pins σ Q (.bool k') s:=by
 subst e
 exact⟨.bl k,H,I,rfl,q⟩
theorem yt:OpR X (compareOp .Eq) rEq:=by
 intro pins s σ H x y v u Q I rx ry h
 obtain⟨hs,q⟩:=h
 cases x with
 |non =>
  cases rx
  cases y with
  |non=>cases ry;exact PySem.EqNone.eq_none_none (Dj I q (by simp))
  |bl j=>cases ry;exact PySem.EqNone.eq_none_bool (Dj I q (by simp))
  |int j=>obtain⟨t',rfl⟩:=ry;exact PySem.EqNone.eq_none_int (Dj I q (by simp))
  |str j=>obtain⟨t',rfl⟩:=ry;exact PySem.EqNone.eq_none_str (Dj I q (by simp))
  |_=>exact absurd (show false=true from hs) U1g
 |bl i =>
  cases rx
  cases y with
  |non=>cases ry;exact PySem.EqNone.eq_bool_none (Dj I q (by simp))
  |bl j=>cases ry;exact eq_bool (Dj I q fW)
  |str j=>obtain⟨t',rfl⟩:=ry;exact PySem.EqMixed.eq_bool_str (Dj I q (by simp))
  |_=>exact absurd (show false=true from hs) U1g
 |int i =>
  obtain⟨t,rfl⟩:=rx
  cases y with
  |non=>cases ry;exact PySem.EqNone.eq_int_none (Dj I q (by simp))
  |int j=>obtain⟨t',rfl⟩:=ry;exact eq_int (Dj I q bT)
  |str j=>obtain⟨t',rfl⟩:=ry;exact PySem.EqMixed.eq_int_str (Dj I q (by simp))
  |_=>exact absurd (show false=true from hs) U1g
 |str i =>
  obtain⟨t,rfl⟩:=rx
  cases y with
  |non=>cases ry;exact PySem.EqNone.eq_str_none (Dj I q (by simp))
  |bl j=>cases ry;exact PySem.EqMixed.eq_str_bool (Dj I q (by simp))
  |int j=>obtain⟨t',rfl⟩:=ry;exact PySem.EqMixed.eq_str_int (Dj I q (by simp))
  |str j=>obtain⟨t',rfl⟩:=ry;exact eq_str (Dj I q bR)
  |_=>exact absurd (show false=true from hs) U1g
 |byt i =>
  obtain⟨t,rfl⟩:=rx
  cases y with
  |byt j=>obtain⟨t',rfl⟩:=ry;exact PySem.W.eq_bytes (Dj I q bU)
  |_=>exact absurd (show false=true from hs) U1g
 |_=>cases y<;>exact absurd (show false=true from hs) U1g
theorem yq:OpR X (compareOp .NotEq) rNe:=by
 intro pins s σ H x y v u Q I rx ry h
 obtain⟨hs,q⟩:=h
 cases x with
 |non =>
  cases rx
  cases y with
  |non=>cases ry;exact PySem.EqNone.ne_none_none (Dj I q (by simp))
  |bl j=>cases ry;exact PySem.EqNone.ne_none_bool (Dj I q (by simp))
  |int j=>obtain⟨t',rfl⟩:=ry;exact PySem.EqNone.ne_none_int (Dj I q (by simp))
  |str j=>obtain⟨t',rfl⟩:=ry;exact PySem.EqNone.ne_none_str (Dj I q (by simp))
  |_=>exact absurd (show false=true from hs) U1g
 |bl i =>
  cases rx
  cases y with
  |non=>cases ry;exact PySem.EqNone.ne_bool_none (Dj I q (by simp))
  |bl j=>cases ry;exact ne_bool (Dj I q (congrArg not fW))
  |str j=>obtain⟨t',rfl⟩:=ry;exact PySem.EqMixed.ne_bool_str (Dj I q (by simp))
  |_=>exact absurd (show false=true from hs) U1g
 |int i =>
  obtain⟨t,rfl⟩:=rx
  cases y with
  |non=>cases ry;exact PySem.EqNone.ne_int_none (Dj I q (by simp))
  |int j=>obtain⟨t',rfl⟩:=ry;exact ne_int (Dj I q (congrArg not bT))
  |str j=>obtain⟨t',rfl⟩:=ry;exact PySem.EqMixed.ne_int_str (Dj I q (by simp))
  |_=>exact absurd (show false=true from hs) U1g
 |str i =>
  obtain⟨t,rfl⟩:=rx
  cases y with
  |non=>cases ry;exact PySem.EqNone.ne_str_none (Dj I q (by simp))
  |bl j=>cases ry;exact PySem.EqMixed.ne_str_bool (Dj I q (by simp))
  |int j=>obtain⟨t',rfl⟩:=ry;exact PySem.EqMixed.ne_str_int (Dj I q (by simp))
  |str j=>obtain⟨t',rfl⟩:=ry;exact ne_str (Dj I q (congrArg not bR))
  |_=>exact absurd (show false=true from hs) U1g
 |byt i =>
  obtain⟨t,rfl⟩:=rx
  cases y with
  |byt j=>obtain⟨t',rfl⟩:=ry;exact PySem.W.ne_bytes (Dj I q (congrArg not bU))
  |_=>exact absurd (show false=true from hs) U1g
 |_=>cases y<;>exact absurd (show false=true from hs) U1g
theorem cV:OpR X (compareOp .Lt) (rI0 fun i j=>.bl (decide (i<j))):=cF fun _ _ _ _ _ _ _ q=>lt_int q
theorem yr:OpR X (compareOp .LtE) (rI0 fun i j=>.bl (decide (i<=j))):=cF fun _ _ _ _ _ _ _ q=>le_int q
theorem Pr:OpR X (compareOp .Gt) (rI0 fun i j=>.bl (decide (j<i))):=cF fun _ _ _ _ _ _ _ q=>gt_int q
theorem cW:OpR X (compareOp .GtE) (rI0 fun i j=>.bl (decide (j<=i))):=cF fun _ _ _ _ _ _ _ q=>ge_int q
theorem OpR.or{f:Value->Value->Sem Value}{r r':R2}(h:OpR X f r)(h':OpR X f r'):OpR X f (fun x y H Q=>r x y H Q∨r' x y H Q):=by
 intro pins s σ H x y v u Q I rx ry q
 rcases q with q|q
 .exact h pins s σ H x y v u Q I rx ry q
 .exact h' pins s σ H x y v u Q I rx ry q
theorem Df(b:Expr){op:CmpOp}(h:op≠.In:=by decide)(h2:op≠.NotIn:=by decide):behindInMarks op b=false:=by
 have e1:(op==CmpOp.In)=false:=by cases op<;>first|rfl|exact absurd rfl h
 have e2:(op==CmpOp.NotIn)=false:=by cases op<;>first|rfl|exact absurd rfl h2
 cases b<;>simp[behindInMarks,e1,e2]
theorem bF{op:CmpOp}{r:R2}(ho:OpR X (compareOp op) r)(ha:PE X a ta)(hb:PE X b tb)(hm:behindInMarks op b=false):PE X (.Compare a [op] [b] pos) (tOp r ta tb):=by
 intro pins s σ H Q I h
 exact wpAny_Compare1 (cJ ha hb I h fun v u s2 x y H2 I2 rx ry q=>ho pins s2 σ H2 x y v u Q I2 rx ry q) hm
def cQ(t:TE):TT:=fun σ H Q=>t σ H fun x H'=>∃k,x=.bl k/\Q k H'
theorem qC{op:CmpOp}{r:R2}(ho:OpR X (compareOp op) r)(ha:PE X a ta)(hb:PE X b tb)(hm:behindInMarks op b=false):PT X (.Compare a [op] [b] pos) (cQ (tOp r ta tb)):=by
 intro pins s σ H Q I h
 refine wpAny_isTrue_Compare1 (thn (ha pins s σ H _ I h) fun v s1 ⟨x,H1,I1,r1,q1⟩=>thn (hb pins s1 σ H1 _ I1 q1) fun u s2 ⟨y,H2,I2,r2,q2⟩ =>
  thn (ho pins s2 σ H2 x y v u _ I2 r1 r2 q2) fun c s3 ⟨z,H3,I3,r3,k,e,q3⟩=>?_) hm
 subst e
 cases r3
 exact U3c ⟨H3,I3,q3⟩
def eV(r r':R2)(ta tb tc:TE):TE:=fun σ H Q=>ta σ H fun x H1=>tb σ H1 fun y H2=>r x y H2 fun z H3=>∃k,z=.bl k /\
 (if k=true then tc σ H3 fun w' H4=>r' y w' H4 Q else Q (.bl false) H3)
theorem lE{op op':CmpOp}{r r':R2}(ho:OpR X (compareOp op) r)(ho':OpR X (compareOp op') r')(ha:PE X a ta)(hb:PE X b tb)(hc:PE X c tc)
  (hm:lastMarks [op,op'] [b,c]=false:=by with_unfolding_all rfl):PT X (.Compare a [op,op'] [b,c] pos) (cQ (eV r r' ta tb tc)):=by
 intro pins s σ H Q I h
 refine isTrue_chain (thn (ha pins s σ H _ I h) fun v s1 ⟨x,H1,I1,r1,q1⟩=>test_link (thn (hb pins s1 σ H1 _ I1 q1) fun u s2 ⟨y,H2,I2,r2,q2⟩ =>
  thn (ho pins s2 σ H2 x y v u _ I2 r1 r2 q2) fun d s3 ⟨z,H3,I3,r3,k,e,q3⟩=>?_)) hm
 subst e
 cases r3
 refine U3c ?_
 cases k with
 |false =>
  obtain⟨k',e',q'⟩:=q3
  cases e'
  exact ite_ff ⟨H3,I3,q'⟩
 |true =>
  refine ite_tt (test_last (thn (hc pins s3 σ H3 _ I3 q3) fun w' s4 ⟨z',H4,I4,r4,q4⟩=>thn (ho' pins s4 σ H4 y z' u w' _ I4 r2 r4 q4) fun d' s5 ⟨z2,H5,I5,r5,k2,e2,q5⟩=>?_))
  subst e2
  cases r5
  exact U3c ⟨H5,I5,q5⟩
theorem Qs:(sizeLine:Nat)<2^63:=by rw[sizeLine_eq];decide
theorem dG:OpR X (binaryOp .Add) (fun x y H Q=>∃i j,x=.str i/\y=.str j/\i.length+j.length<=sizeLine/\Q (.str (i++j)) H):=by
 intro pins s σ H x y v u Q I rx ry h
 obtain⟨i,j,rfl,rfl,hz,q⟩:=h
 obtain⟨t,rfl⟩:=rx
 obtain⟨t',rfl⟩:=ry
 exact add_str (fun t' tk=>⟨.str (i++j),H,I.tok _,⟨_,rfl⟩,q⟩) hz
theorem vals1{x:V}{us:List Value}(r:Vals [x] us):∃u,us=[u]/\RelV x u:=by
 cases r with
 |cons r1 r2=>cases r2;exact⟨_,rfl,r1⟩
theorem vals2{x y:V}{us:List Value}(r:Vals [x,y] us):∃u w',us=[u,w']/\RelV x u/\RelV y w':=by
 cases r with
 |cons r1 r2 =>
  cases r2 with
  |cons r3 r4=>cases r4;exact⟨_,_,rfl,r1,r3⟩
theorem jD(hc:X.calm=true):Dn X (.builtin "max") (fun xs H Q=>∃i j,xs=[.int i,.int j]/\Q (.int (if j>i then j else i)) H):=by
 intro pins s σ H xs us Q I r h
 obtain⟨i,j,rfl,q⟩:=h
 obtain⟨u,w',rfl,⟨t,rfl⟩,⟨t',rfl⟩⟩:=vals2 r
 refine max_two_ints (I.ok.hd hc) fun h' tk k=>⟨_,H,I.kept k,?_,q⟩
 by_cases hj:j>i
 .rw[if_pos hj,if_pos hj];exact⟨_,rfl⟩
 .rw[if_neg hj,if_neg hj];exact⟨_,rfl⟩
theorem jB(hc:X.calm=true):Dn X (.builtin "min") (fun xs H Q=>∃i j,xs=[.int i,.int j]/\Q (.int (if j<i then j else i)) H):=by
 intro pins s σ H xs us Q I r h
 obtain⟨i,j,rfl,q⟩:=h
 obtain⟨u,w',rfl,⟨t,rfl⟩,⟨t',rfl⟩⟩:=vals2 r
 refine min_two_ints (I.ok.hd hc) fun h' tk k=>⟨_,H,I.kept k,?_,q⟩
 by_cases hj:j<i
 .rw[if_pos hj,if_pos hj];exact⟨_,rfl⟩
 .rw[if_neg hj,if_neg hj];exact⟨_,rfl⟩
theorem Wn:Dn X (.type "int") (fun xs H Q=>(∃i,xs=[.int i]/\Q (.int i) H)∨∃k,xs=[.bl k]/\Q (.int (if k then 1 else 0)) H):=by
 intro pins s σ H xs us Q I r h
 rcases h with ⟨i,rfl,q⟩|⟨k,rfl,q⟩
 .obtain⟨u,rfl,t,rfl⟩:=vals1 r
  exact call_int_int ⟨.int i,H,I,⟨_,rfl⟩,q⟩
 .obtain⟨u,rfl,r1⟩:=vals1 r
  cases r1
  exact call_int_bool ⟨.int (if k then 1 else 0),H,I.tok _,⟨_,rfl⟩,q⟩
end
end L2
namespace L2
open PySem PySem.Spec PyProof.Rows
structure jW(h:Heap)(x dx C:Addr)(mA:Str->Option Value):Prop where
 obj:h.get? x=some (U7i C dx)
 ns:h.Ns1 dx mA
 ne:dx≠x
theorem iK{h:Heap}{dx:Addr}{mA:Str->Option Value}(n:h.Ns1 dx mA):∃od,h.get? dx=some od/\∀name,U7p name od=some (mA name):=by
 obtain⟨o,es,ep,ho,hd,hk,_,hm⟩:=n
 refine⟨o,ho,fun name=>?_⟩
 have e:=hm name
 unfold nsFind findBy at e
 rw[←Array.find?_toList] at e
 unfold U7p
 rw[hd]
 dsimp only
 split
 .rename_i y q
  rw[q] at e
  exact congrArg some e
 .rename_i q
  rw[q] at e
  have a:es.toList.any (·.refKey)=false:=by
   rw[List.any_eq_false]
   intro y hy
   obtain⟨z,t,hkey⟩:=hk y (Array.mem_toList_iff.mp hy)
   simp[DictEntry.refKey,hkey]
  have a':¬es.toList.any (·.refKey)=true:=by rw[a];exact U1g
  rw[if_neg a']
  exact congrArg some e
theorem jW.look{h:Heap}{x dx C:Addr}{mA:Str->Option Value}(I:jW h x dx C mA):∃od,PySem.W.InstAt h x (U7i C dx) C (some od)/\∀name,U7p name od=some (mA name) :=
 let ⟨od,ho,hl⟩:=iK I.ns
 ⟨od,⟨I.obj,rfl,rfl,ho⟩,hl⟩
section
variable{prog:Program}{w:World}{A:Around}{E:Value->Shared->Prop}{s:Shared}{K:U0a}{x dx C f:Addr}{mA:Str->Option Value}{name:Str}{v:Value}
end
theorem LR.some_of{v:V}{o:Option Value}(r:LR (some v) o):∃u,o=some u/\RelV v u:=by
 cases o with
 |none=>exact(show False from r).elim
 |some u=>exact⟨u,rfl,r⟩
section
variable{P:Program}{w:World}{H H':Hp}{h h':Heap}{a C dx:Addr}{fs fs':List (Str×V)}
theorem rG(hok:HOk P w H h)(e:H a=some (.ins C dx fs)):∃mA,jW h a dx C mA/\(∀f,LR (fs.lookup f) (mA f))/\PySem.Within mA (fs.map (·.1))/\fs.length<=1000/\H dx=some (.own a):=by
 obtain⟨d,z,ne,ob,mA,n,r,q⟩:=(show Dh P w H h a (.ins C dx fs) from hok a _ e)
 exact⟨mA,⟨ob,n,ne⟩,r,q,z,d⟩
end
structure Cls(K:U0a)(C:Addr):Prop where
 pg:PySem.W.plainGet K C Str.empty=true
 hd:PySem.W.hasDictIn K C=true
 po:PySem.W.plainOver K C=true
 sa:U52 K (.ref C) "__setattr__"=some (some (.builtin "object.__setattr__"))
theorem Cls.get{K:U0a}{C:Addr}(c:Cls K C)(f:Str):PySem.W.plainGet K C f=true:=c.pg
structure Con(K:U0a)(C:Addr)(f:Str)(v:V)(u:Value):Prop where
 at_:U52 K (.ref C) f=some (some u)
 rel:RelV v u
 get:PySem.W.specialIn K u "__get__"=some none
 cp:PySem.W.copiedNames.contains f=false
structure Meth(K:U0a)(C:Addr)(m:Str)(f:Addr):Prop where
 at_:U52 K (.ref C) m=some (some (.ref f))
 fn:PySem.W.isFn K (.ref f)=true
 kp:U02 K (.ref f)=true
section
variable{X:Cx}{pins:List (Addr×Obj)}{σ:St}{H:Hp}{s:Shared}{a C dx:Addr}{fs:List (Str×V)}{f:Str}{v:V}{A:Around}{E:Value->Shared->Prop}
end
section
variable{X:Cx}{o e value:Expr}{f:Str}{pos pos' tpos:Pos}{ta tv:TE}
end
section
variable{X:Cx}{pins:List (Addr×Obj)}{σ:St}{H:Hp}{s:Shared}{A:Around}{E:Value->Shared->Prop}{Q:Value->Shared->Prop}{c:Value}{b:Bool}
inductive K9 (K:U0a) (H:Hp):V->Value->Prop where
 |non:K9 K H .non (.type "NoneType")
 |bl (x:Bool):K9 K H (.bl x) (.type "bool")
 |int (i:Int):K9 K H (.int i) (.type "int")
 |str (x:Str):K9 K H (.str x) (.type "str")
 |flt (x:UInt64):K9 K H (.flt x) (.type "float")
 |lst {a:Addr} {xs:List V} (e:H a=some (.lst xs)):K9 K H (.ref a) (.type "list")
 |frz {a:Addr} {o:Obj} {xs:List V} (e:H a=some (.frz o (.lst xs))):K9 K H (.ref a) (.type "list")
 |tup {a:Addr} {xs:List V} (e:H a=some (.tup xs)):K9 K H (.ref a) (.type "tuple")
 |dK {a:Addr} {kvs:List (Key×V)} (e:H a=some (.dK kvs)):K9 K H (.ref a) (.type "dict")
 |dT {a:Addr} {kvs:List (List Key×V)} (e:H a=some (.dT kvs)):K9 K H (.ref a) (.type "dict")
 |ins {a C dx:Addr} {fs:List (Str×V)} (e:H a=some (.ins C dx fs)) (cl:Cls K C) (ha:U52 K (.ref C) "__class__"=some (some (.builtin "object.__class__")))
   (hn:PySem.W.specialIn K (.builtin "object.__class__") "__get__"=some (some (.builtin "getset_descriptor.__get__"))) (htk:PySem.W.takesIn K (.builtin "object.__class__")=some true)
   (hm:PySem.W.mroIn K C (.type "object")=some true):K9 K H (.ref a) (.ref C)
theorem iT{x:V}{u t:Value}(I:Inv X pins σ H s)(rx:RelV x u)(ty:K9 X.K H x t)(e:U3p X.K t c=some b)(h:∀tk,Q (.bool b) { s with toks:=tk }) :
  wpAny (model X.prog X.w) A (call (.builtin "isinstance") [u,c]) Q E s:=by
 cases ty with
 |non=>cases (show u=U2h from rx);exact U25 PySem.W.kitx_none I.kIn U49 e (fun z=>nomatch z) h
 |bl y=>cases (show u=U48 y from rx);exact U25 PySem.W.kitx_bool I.kIn U49 e (fun z=>nomatch z) h
 |int i=>obtain⟨t,q⟩:=(show ∃t,u=U3x i t from rx);cases q;exact U25 PySem.W.kitx_int I.kIn U49 e (fun z=>nomatch z) h
 |str y=>obtain⟨t,q⟩:=(show ∃t,u=U7h y t from rx);cases q;exact U25 PySem.W.kitx_str I.kIn U49 e (fun z=>nomatch z) h
 |flt y=>obtain⟨t,q⟩:=(show ∃t,u=Value.float y t from rx);cases q;exact U25 PySem.W.kitx_float I.kIn U49 e (fun z=>nomatch z) h
 |@lst a xs ea =>
  cases (show u=U12 a from rx)
  obtain⟨_,_,n,_,h1⟩:=(show Dh X.prog X.w H s.heap a (.lst xs) from I.hok a _ ea)
  exact U25 PySem.W.kitx_list I.kIn ⟨_,h1,rfl⟩ e (fun z=>nomatch z) h
 |@frz a ob xs ea =>
  cases (show u=U12 a from rx)
  obtain⟨_,_,_,n,_,h1⟩:=(show Dh X.prog X.w H s.heap a (.frz ob (.lst xs)) from I.hok a _ ea)
  exact U25 PySem.W.kitx_list I.kIn ⟨_,h1,rfl⟩ e (fun z=>nomatch z) h
 |@tup a xs ea =>
  cases (show u=U12 a from rx)
  obtain⟨_,_,_,p⟩:=(show Dh X.prog X.w H s.heap a (.tup xs) from I.hok a _ ea)
  obtain⟨o,h1,h2,_⟩:=p
  exact U25 PySem.W.kitx_tuple I.kIn ⟨o,h1,h2⟩ e (fun z=>nomatch z) h
 |@dK a kvs ea =>
  cases (show u=U12 a from rx)
  obtain⟨_,_,vs,_,p⟩:=(show Dh X.prog X.w H s.heap a (.dK kvs) from I.hok a _ ea)
  obtain⟨o,es,ep,h1,h2,_⟩:=p
  exact U25 PySem.W.kitx_dict I.kIn ⟨o,h1,h2.1⟩ e (fun z=>nomatch z) h
 |@dT a kvs ea =>
  cases (show u=U12 a from rx)
  obtain⟨_,_,xs,_,o,es,ep,h1,h2,_⟩:=(show Dh X.prog X.w H s.heap a (.dT kvs) from I.hok a _ ea)
  exact U25 PySem.W.kitx_dict I.kIn ⟨o,h1,h2.1⟩ e (fun z=>nomatch z) h
 |@ins a C dx fs ea cl ha hn htk hm =>
  cases (show u=U12 a from rx)
  obtain⟨mA,O,_⟩:=rG I.hok ea
  obtain⟨od,J,_⟩:=O.look
  exact U25 (PySem.W.kitx_own (cl.get _) cl.hd ha hn htk hm) I.kIn J e (fun z=>nomatch z) h
end
end L2
namespace L2
open PySem PySem.Spec PyProof.Rows
structure FT(k:Nat)(A:Around):Prop where
 hd:A.handled=none
 dp:A.depth+3*k+5<recursionLimit
 un:A.units+16*k+200<cLine
 gd:A.guards=some []
theorem FT.mono{j k:Nat}{A:Around}(r:FT k A)(h:j<=k):FT j A:=⟨r.hd,by have:=r.dp;omega,by have:=r.un;omega,r.gd⟩
theorem FT.deeper{k:Nat}{A:Around}(r:FT (k+1) A)(env:Env):FT k (A.deeper env) :=
 ⟨r.hd,by have:=r.dp;show A.depth+1+3*k+5<_;omega,by have:=r.un;show A.units+3+16*k+200<_;omega,r.gd⟩
theorem FT.depth{k:Nat}{A:Around}(r:FT k A):A.depth<recursionLimit:=by have:=r.dp;omega
theorem FT.units{k:Nat}{A:Around}(r:FT k A):A.units+64<cLine:=by have:=r.un;omega
def u9:TA:=fun _ H Q=>Q [] H
def oA(ta:TE)(tr:TA):TA:=fun σ H Q=>ta σ H fun x H1=>tr σ H1 fun xs H2=>Q (x::xs) H2
section
variable{X:Cx}{e:Expr}{es:List Expr}{te:TE}{t:TA}{pos:Pos}
theorem PB:PA X [] u9:=fun _ _ _ _ H Q I h=>U66 ⟨[],H,I,.nil,h⟩
theorem Mw(ha:PE X e te)(hr:PA X es t)(hs:starEach (e::es) X.env=(false,eval e X.env)::starEach es X.env:=by rfl):PA X (e::es) (oA te t):=by
 intro pos pins s σ H Q I h
 rw[hs]
 show wpAny _ _ (spliced ((false,eval e X.env)::backTo pos (starEach es X.env))) _ _ s
 refine U5x (thn (ha pins s σ H _ I h) fun u s1 ⟨x,H1,I1,r1,q1⟩=>?_)
 exact thn (hr pos pins s1 σ H1 _ I1 q1) fun us s2 ⟨xs,H2,I2,r2,q2⟩=>⟨x::xs,H2,I2,.cons r1 r2,q2⟩
def u6(t:TA):TE:=fun σ H Q=>t σ H fun xs H1=>xs.length<=sizeLine/\∀p,H1 p=none->Q (.ref p) (upd H1 p (.tup xs))
def zp(t:TA):TE:=fun σ H Q=>t σ H fun xs H1=>xs.length<=sizeLine/\∀p,H1 p=none->Q (.ref p) (upd H1 p (.lst xs))
theorem vR{x1}(h:PA X es t):PE X (.Tuple es x1 pos) (u6 t):=by
 intro pins s σ H Q I hq
 refine wpAny_Tuple_spliced (thn (h pos pins s σ H _ I hq) fun us s1 ⟨xs,H1,I1,r,z,q⟩=>⟨by rw[←r.length];exact z,?_⟩)
 have hf:H1 s1.heap.objs.size=none:=I1.hok.fresh (U0u _)
 refine⟨.ref s1.heap.objs.size,upd H1 s1.heap.objs.size (.tup xs),I1.laid (t':=s1.toks) (fun b u e=>U0c _ e) (U0u _) ?_,rfl,q _ hf⟩
 exact⟨z,us,r,⟨_,U0v _ rfl,rfl,_,rfl⟩⟩
theorem fG(h:PA X es t):PE X (.List es pos) (zp t):=by
 intro pins s σ H Q I hq
 refine wpAny_List_spliced (thn (h pos pins s σ H _ I hq) fun us s1 ⟨xs,H1,I1,r,z,q⟩=>⟨by rw[←r.length];exact z,?_⟩)
 have hf:H1 s1.heap.objs.size=none:=I1.hok.fresh (U0u _)
 refine⟨.ref s1.heap.objs.size,upd H1 s1.heap.objs.size (.lst xs),I1.laid (t':=s1.toks) (fun b u e=>U0c _ e) (U0u _) ?_,rfl,q _ hf⟩
 exact⟨z,us,0,r,U0v _ rfl⟩
end
abbrev Sp:=List V->Hp->VK->XK->Prop
abbrev CXT:=List Env->Hp->Shared->XK->Value->Shared->Prop
structure cP(P:Program)(w:World)(K:U0a)(mg:Str->Option Value)(base:Heap)(A:Around)(outer:List Env)(s:Shared)(H:Hp):Prop where
 frames:A.frames=some outer
 mod:Mod K mg base
 bs:∀b o,base.get? b=some o->s.heap.get? b=some o/\H b=none
 bsz:base.objs.size<=s.heap.objs.size
 N8:s.heap.FunFrames base outer
 frf:∀b∈frs outer,H b=none
 hok:HOk P w H s.heap
 bare:AllBare s.gens
 sy:H sysModules=none
def CE(outer:List Env)(P:Program)(w:World)(H:Hp)(s:Shared)(Q:VK)(u:Value)(s':Shared):Prop :=
 ∃v H',s'.os=s.os/\AllBare s'.gens/\Un (frs outer) [] H H' s.heap s'.heap/\HOk P w H' s'.heap/\RelV v u/\Q v H'
def CR(CX:CXT)(outer:List Env)(P:Program)(w:World)(H:Hp)(s:Shared)(Q:VK)(E:XK)(r:Result)(s':Shared):Prop :=
 match r with
 |.ok (.ret u)=>CE outer P w H s Q u s'
 |.ok _=>False
 |.error e=>CX outer H s E e s'
structure DY(P:Program)(w:World)(K:U0a)(mg:Str->Option Value)(base:Heap)(CX:CXT)(k:Nat)(f:Addr)(fd:FuncData)(ps:List Str)(sp:Sp):Prop where
 len:∀vs H Q E,sp vs H Q E->vs.length=ps.length
 run:∀(A:Around)(outer:List Env)(s:Shared)(H:Hp)(args:Args)(us:List Value)(vs:List V)(Q:VK)(E:XK),FT k A->cP P w K mg base A outer s H->BindsTo s fd args (ps.zip us)->Vals vs us->sp vs H Q E ->
  codeAny (model P w) A (.call (.ref f) args) (CR CX outer P w H s Q E) s
theorem DY.mono{P:Program}{w:World}{K:U0a}{mg:Str->Option Value}{base:Heap}{CX:CXT}{j k:Nat}{f:Addr}{fd:FuncData}{ps:List Str}{sp:Sp}(F:DY P w K mg base CX j f fd ps sp)(h:j<=k) :
  DY P w K mg base CX k f fd ps sp:=⟨F.len,fun A outer s H args us vs Q E hr=>F.run A outer s H args us vs Q E (hr.mono h)⟩
theorem DY.imp{P:Program}{w:World}{K:U0a}{mg:Str->Option Value}{base:Heap}{CX:CXT}{k:Nat}{f:Addr}{fd:FuncData}{ps:List Str}{sp sp':Sp}(F:DY P w K mg base CX k f fd ps sp)
  (h:∀vs H Q E,sp' vs H Q E->sp vs H Q E):DY P w K mg base CX k f fd ps sp' :=
 ⟨fun vs H Q E q=>F.len vs H Q E (h _ _ _ _ q),fun A outer s H args us vs Q E hr he hb hv hs=>F.run A outer s H args us vs Q E hr he hb hv (h _ _ _ _ hs)⟩
section
variable{X:Cx}{pins:List (Addr×Obj)}{σ:St}{H:Hp}{s s':Shared}
theorem Inv.env0(I:Inv X pins σ H s):cP X.prog X.w X.K X.mg X.base X.A X.stack s H :=
 ⟨I.ok.frames,I.ok.mod,I.bs,U1c I.ok.bsz I.sz,I.stack,I.aY,I.hok,I.bare,I.TF⟩
theorem Inv.after{Q:VK}{u:Value}(I:Inv X pins σ H s)(h:CE X.stack X.prog X.w H s Q u s'):EP X pins σ Q u s':=by
 obtain⟨v,H',os,bare,un,hok,r,q⟩:=h
 obtain⟨hh,g,d,t,os'⟩:=s'
 obtain rfl:os'=s.os:=os
 exact⟨v,H',I.call (h':=hh) (g':=g) (d':=d) (t':=t) (ch:=[]) un hok bare (fun b z=>absurd z (by simp)),r,q⟩
end
def oE(sp:Sp)(dvs:List V)(E:XK)(t:TA):TE:=fun σ H Q=>t σ H fun vs H1=>sp (vs++dvs) H1 Q E
def Binds(K:U0a)(fd:FuncData)(ps:List Str)(ds:List Value):Prop :=
 ∀(s:Shared)(us:List Value),K.In s.heap->(us++ds).length=ps.length->BindsTo s fd ⟨us,[]⟩ (ps.zip (us++ds))
theorem Binds.all{K:U0a}{fd:FuncData}{ps:List Str}(h:∀us:List Value,us.length=ps.length->bindArgs fd ⟨us,[]⟩=pure (ps.zip us)):Binds K fd ps []:=fun s us _ hl=>by
 rw[U2u] at hl ⊢
 exact .of_eq (h us hl)
def Passes(CX:CXT)(X:Cx)(E:XK):Prop:=∀(pins:List (Addr×Obj))(σ:St)(H:Hp)(s:Shared)(e:Value)(s':Shared),Inv X pins σ H s->CX X.stack H s E e s'->X.xe e s'
section
variable{X:Cx}{CX:CXT}{k:Nat}{f C:Addr}{fd:FuncData}{ps:List Str}{sp:Sp}{dvs:List V}{ds:List Value}{E:XK}{x m:Str}{p pos apos:Pos}{e o:Expr}{es:List Expr}{ta:TE}{t:TA}
theorem v9{pins:List (Addr×Obj)}{σ:St}{H:Hp}{s:Shared}{Q:VK}{us:List Value}{vs:List V}(F:DY X.prog X.w X.K X.mg X.base CX k f fd ps sp)(hr:FT k X.A)(hb:Binds X.K fd ps ds)(hd:Vals dvs ds)(hx:Passes CX X E)
  (I:Inv X pins σ H s) (r:Vals vs us) (h:sp (vs++dvs) H Q E):wpAny (model X.prog X.w) X.A (call (.ref f) us) (EP X pins σ Q) X.xe s:=by
 have r2:Vals (vs++dvs) (us++ds):=r.append hd
 have hl:(us++ds).length=ps.length:=by rw[←r2.length];exact F.len _ _ _ _ h
 refine wpAny_call (codeAny_mono (F.run X.A X.stack s H ⟨us,[]⟩ (us++ds) (vs++dvs) Q E hr I.env0 (hb s us I.kIn hl) r2 h) fun r s' hq=>?_)
 cases r with
 |error e=>exact hx pins σ H s e s' I hq
 |ok fl =>
  cases fl with
  |ret u=>exact I.after hq
  |next=>exact U4m hq
  |brk=>exact U4m hq
  |cont=>exact U4m hq
theorem qR(F:DY X.prog X.w X.K X.mg X.base CX k f fd ps sp)(hr:FT k X.A)(hg:Gl X x)(hm:X.mg x=some (.ref f))(hk:U02 X.K (.ref f)=true)(hb:Binds X.K fd ps ds)(hd:Vals dvs ds)(hx:Passes CX X E)
  (ha:PA X (e::es) t) (hdb:(x==("__debug__":Str))=false:=by decide) (he:starEach (e::es) X.env=(false,eval e X.env)::starEach es X.env:=by rfl) (hpl:(backTo pos (starEach es X.env)).any (·.1)=false:=by rfl) :
  PE X (.Call (.Name x p) (e::es) [] pos) (oE sp dvs E t):=by
 intro pins s σ H Q I h
 refine U5 (bJ I hg hm ?_ hdb)
 refine PySem.W.callWith_K (h₀:=X.base) I.ok.mod.kin hk (thn (ha pos pins s σ H _ I h) fun us s1 ⟨vs,H1,I1,r,q⟩=>⟨I1.kIn,?_⟩) he hpl
 exact v9 F hr hb hd hx I1 r q
structure Mk(K:U0a)(C f:Addr):Prop where
 makes:PySem.W.makesIn K C=true
 init:U52 K (.ref C) "__init__"=some (some (.ref f))
 fn:PySem.W.isFn K (.ref f)=true
 kp:U02 K (.ref C)=true
end
section
variable{X:Cx}{CX:CXT}{k:Nat}{f C:Addr}{fd:FuncData}{ps ks:List Str}{sp:Sp}{E:XK}{x m:Str}{p pos apos kpos:Pos}{e o:Expr}{es:List Expr}{kws:List Keyword}{te ta:TE}{t tk:TA}{nm:Option Str}
structure Ja9(K:U0a)(fd:FuncData)(ps ks:List Str)(g:List Value->List Value->List Value)(gV:List V->List V->List V):Prop where
 to:∀(s:Shared)(us ws:List Value),K.In s.heap->(g us ws).length=ps.length->BindsTo s fd ⟨us,ks.zip ws⟩ (ps.zip (g us ws))
 rel:∀{vs:List V} {us:List Value} {zs:List V} {ws:List Value},Vals vs us->Vals zs ws->Vals (gV vs zs) (g us ws)
variable{g:List Value->List Value->List Value}{gV:List V->List V->List V}
end
structure CP(N P:List Str)(sc:Scope):Prop where
 kind:sc.kind=.function
 co:sc.isCoroutine=false
 gen:sc.isGenerator=false
 nd:N.Nodup
 pre:N.take P.length=P
 par:∀x∈P,sc.names.lookup x=some .local∨sc.names.lookup x=some .cell
 nofree:∀y∈sc.names,y.2≠.free
theorem Wr{kindOf:Str->Option NameKind}{x:Str}:∀{binds:List (Str×Value)} {m:Str->Option Value},(∀v,(x,v) ∉ binds)->bindL kindOf binds m x=m x
 |[],_,_=>rfl
 |(n,v)::r,m,h=>by
  unfold bindL
  rw[Wr fun w hw=>h w (U0p _ hw)]
  split
  .have:x≠n:=by rintro rfl;exact h v U0l
   simp[this]
  .rfl
theorem Wt{kindOf:Str->Option NameKind}{x:Str}:∀{binds:List (Str×Value)} {m:Str->Option Value},(∀v,(x,v) ∉ binds)->bindC kindOf binds m x=m x
 |[],_,_=>rfl
 |(n,v)::r,m,h=>by
  unfold bindC
  rw[Wt fun w hw=>h w (U0p _ hw)]
  split
  .rfl
  .have:x≠n:=by rintro rfl;exact h v U0l
   simp[this]
theorem Ws{kindOf:Str->Option NameKind}{x:Str}{v:Value}:∀{P:List Str} {vs:List Value} {i:Nat} {m:Str->Option Value},P.Nodup->P[i]?=some x->vs[i]?=some v->kindOf x=some .local ->
  bindL kindOf (P.zip vs) m x=some v
 |[],_,_,_,_,h,_,_=>by simp at h
 |_::_,[],_,_,_,_,h,_=>by simp at h
 |p::P,w::vs,0,m,nd,h1,h2,hk=>by
  simp at h1 h2;subst h1;subst h2
  show bindL kindOf ((p,w)::P.zip vs) m p=_
  unfold bindL
  rw[Wr fun v hv=>(U4c.mp nd).1 (U5u hv).1,if_pos hk]
  simp
 |p::P,w::vs,i+1,m,nd,h1,h2,hk=>by
  show bindL kindOf ((p,w)::P.zip vs) m x=_
  unfold bindL
  exact Ws (i:=i) (U4c.mp nd).2 (by simpa using h1) (by simpa using h2) hk
theorem Wu{kindOf:Str->Option NameKind}{x:Str}{v:Value}:∀{P:List Str} {vs:List Value} {i:Nat} {m:Str->Option Value},P.Nodup->P[i]?=some x->vs[i]?=some v->kindOf x≠some .local ->
  bindC kindOf (P.zip vs) m x=some v
 |[],_,_,_,_,h,_,_=>by simp at h
 |_::_,[],_,_,_,_,h,_=>by simp at h
 |p::P,w::vs,0,m,nd,h1,h2,hk=>by
  simp at h1 h2;subst h1;subst h2
  show bindC kindOf ((p,w)::P.zip vs) m p=_
  unfold bindC
  rw[Wt fun v hv=>(U4c.mp nd).1 (U5u hv).1,if_neg hk]
  simp
 |p::P,w::vs,i+1,m,nd,h1,h2,hk=>by
  show bindC kindOf ((p,w)::P.zip vs) m x=_
  unfold bindC
  exact Wu (i:=i) (U4c.mp nd).2 (by simpa using h1) (by simpa using h2) hk
def start(N:List Str)(vs:List V):St:=vs.map some++U0h (N.length-vs.length) none
def Qn(CX:CXT)(P:Program)(w:World)(K:U0a)(mg:Str->Option Value)(base:Heap)(N:List Str)(qual:Str)(scope:Scope)(f:Addr)(cd:Value)(A:Around)(outer:List Env)(s:Shared)(H:Hp)(E:XK):Cx where
 prog:=P
 w:=w
 K:=K
 mg:=mg
 base:=base
 A:=A.deeper (envOfC qual scope s.heap.objs.size f cd)
 N:=N
 s₀:=s
 H₀:=H
 env:=envOfC qual scope s.heap.objs.size f cd
 outer:=outer
 stack:=envOfC qual scope s.heap.objs.size f cd::outer
 ex:=[]
 calm:=true
 fn:=fun _=>true
 pn:=[]
 xe:=fun e s'=>wpAny (model P w) (A.deeper (envOfC qual scope s.heap.objs.size f cd)) (leaving (envOfC qual scope s.heap.objs.size f cd) e) (fun _ s''=>CX outer H s E e s'') (fun e' s''=>CX outer H s E e' s'') s'
theorem Yv{sc:Scope}{n:Nat}{x:Str}(h:sc.names.lookup x=some .cell):∃c,(cellsFrom n sc.names []).lookup x=some c:=by
 have q:=U6a sc.names n [] (.inl h)
 exact U33.mp q
theorem iY{CX:CXT}{P:Program}{w:World}{K:U0a}{mg:Str->Option Value}{base:Heap}{N ps:List Str}{qual:Str}{scope:Scope}{f:Addr}{cd:Value}{A:Around}{outer:List Env}{s s1:Shared}{H:Hp}{E:XK}{us:List Value}{vs:List V}
  (S:CP N ps scope) (hd:A.handled=none) (e0:cP P w K mg base A outer s H) (hl:vs.length=ps.length) (r:Vals vs us)
  (x:InCallC s s.heap.objs.size (bindL (envOfC qual scope s.heap.objs.size f cd).kindOf (ps.zip us) fun _=>none) (cellsFrom (s.heap.objs.size+1) scope.names []) (bindC (envOfC qual scope s.heap.objs.size f cd).kindOf (ps.zip us) fun _=>none) s1) :
  Inv (Qn CX P w K mg base N qual scope f cd A outer s H E) [] (start N vs) H s1:=by
 have hpl:ps.length<=N.length:=by have:=congrArg U5d S.pre;rw[U2j] at this;omega
 obtain⟨h1,tk,rfl,hk⟩:=x.done
 have noA:∀b:Addr,b ∉ (Qn CX P w K mg base N qual scope f cd A outer s H E).ex:=fun b z=>absurd (show b∈([]:List Addr) from z) (by simp)
 refine⟨⟨e0.mod,S.kind,rfl,rfl,U0u _,fun y z c h1 h2=>?_,fun y hy=>?_,fun y c _ h=>?_,fun _=>hd,Around.frames_deeper e0.frames,.inr ⟨rfl,rfl⟩,fun b z=>absurd z (noA b),e0.bs,e0.bsz,fun b _ _=>noA b,fun b z=>absurd z (noA b),e0.N8,e0.frf,e0.sy⟩,
  rfl,e0.bare,Un.kept hk,⟨_,x.toInCall.ns,fun i y v h1 h2 h3=>?_⟩,fun y c h=>⟨_,x.cell y c h⟩,e0.hok.fresh (U0u _),fun y c h=>?_,fun p hp=>absurd (show p∈([]:List (Addr×Obj)) from hp) (by simp),e0.hok.kept hk,?_⟩
 .exact name_of_addr x.apart (U22 h1) (U22 h2)
 .have hy:scope.names.lookup y=some .cell∨scope.names.lookup y=some .free:=hy
  rcases hy with hy|hy
  .exact Yv hy
  .exact absurd rfl (S.nofree _ (U22 hy))
 .exact U2i (x.above y c (U22 h))
 .have hi:i<vs.length:=by
   unfold start at h2
   by_cases hi:i<vs.length
   .exact hi
   .rw[U2a (by simpa using hi)] at h2
    rw[U38] at h2
    split at h2<;>cases h2
  have ha:vs[i]?=some v:=by
   unfold start at h2
   rw[U1f (by simpa using hi),U0z] at h2
   cases e:vs[i]? with
   |none=>rw[e] at h2;cases h2
   |some a=>rw[e] at h2;cases h2;rfl
  obtain⟨u,hu,rv⟩:=r.get ha
  have hp:ps[i]?=some y:=by
   rw[←S.pre,List.getElem?_take_of_lt (by omega)];exact h1
  have ndP:ps.Nodup:=by rw[←S.pre];exact S.nd.sublist (U67 _ _)
  refine⟨u,rv,?_⟩
  rcases S.par y (U1h hp) with k|k
  .exact .inl ⟨k,Ws ndP hp hu k⟩
  .obtain⟨c,e⟩:=Yv (n:=s.heap.objs.size+1) k
   refine .inr ⟨.inl k,c,e,?_⟩
   have q:=x.cell y c e
   rw[Wu ndP hp hu (by show scope.names.lookup y≠_;rw[k];decide)] at q
   exact q
 .exact e0.hok.fresh (U2i (x.above y c (U22 h)))
 .unfold start
  show _=N.length
  rw[U0s,U0i,U1e]
  omega
theorem zJ{CX:CXT}{P:Program}{w:World}{K:U0a}{mg:Str->Option Value}{base:Heap}{k:Nat}{f:Addr}{name qual:Str}{params:Arguments}{body:List Stmt}{scope:Scope}{dV kV doc pm cdv ct oc:Value}{an od:Option Addr}
  {osl:Array (Option Value)} {N ps:List Str} {sp:Sp} (lk:K.lookup f=some ⟨oc,od,.func (U08 name qual params body scope dV kV doc pm an cdv ct),osl⟩) (hcd:U05 K cdv qual=true) (S:CP N ps scope)
  (len:∀vs H Q E,sp vs H Q E->vs.length=ps.length)
  (hbody:∀(A:Around)(outer:List Env)(s:Shared)(H:Hp)(vs:List V)(Q:VK)(E:XK),FT k (A.deeper (envOfC qual scope s.heap.objs.size f cdv))->sp vs H Q E ->
   ∃t,PSs (Qn CX P w K mg base N qual scope f cdv A outer s H E) body t/\t { nx:=fun _ H'=>Q .non H',rt:=Q } (start N vs) H) :
  DY P w K mg base CX (k+1) f (U08 name qual params body scope dV kV doc pm an cdv ct) ps sp:=by
 refine⟨len,fun A outer s H args us vs Q E hr e0 hb r hsp=>?_⟩
 have hl:=len _ _ _ _ hsp
 have KX:K.In s.heap:=e0.mod.kin.keeps fun b o e=>(e0.bs b o e).1
 have lim:s.heap.NoLimit:=e0.mod.nolimit.keeps fun b o e=>(e0.bs b o e).1
 have hkind:∀y∈ps.zip us,scope.names.lookup y.1=some .local∨(scope.names.lookup y.1=some .cell/\((cellsFrom (s.heap.objs.size+1) scope.names []).lookup y.1).isSome=true):=fun⟨n,v⟩ hy=>by
  rcases S.par n (U5u hy).1 with q|q
  .exact .inl q
  .exact .inr ⟨q,U6a _ _ _ (.inl q)⟩
 refine codeAny_call_function hr.depth (KX _ _ lk) rfl S.co S.gen rfl (PySem.W.codeRec_of KX hcd) (hb _ _ _ _ ?_)
 refine wpAny_newFunctionEnv_cells S.kind hkind fun env he s1 x=>?_
 subst he
 refine⟨lim.keeps x.toInCall.keep,codeAny_func ?_⟩
 obtain⟨t,ht,hq⟩:=hbody A outer s H vs Q E (hr.deeper _) hsp
 have I:Inv (Qn CX P w K mg base N qual scope f cdv A outer s H E) [] (start N vs) H s1:=iY S hr.hd e0 hl r x
 refine U4l (ht [] s1 (start N vs) H _ I hq) (fun fl s' hs=>?_) fun e s' hs=>hs
 have fin:∀{σ':St} {H':Hp} {v:V} {u:Value},Inv (Qn CX P w K mg base N qual scope f cdv A outer s H E) [] σ' H' s'->RelV v u->Q v H'->CE outer P w H s Q u s' :=
  fun {σ' H' v u} J rv q=>⟨v,H',J.os,J.bare,J.base,J.hok,rv,q⟩
 cases fl with
 |ret u =>
  obtain⟨v,σ',H',J,rv,q⟩:=hs
  exact fin J rv q
 |next =>
  obtain⟨σ',H',J,q⟩:=hs
  exact fin (v:=V.non) (u:=U2h) J rfl q
 |brk =>
  obtain⟨_,_,_,q⟩:=hs
  exact U4m q
 |cont =>
  obtain⟨_,_,_,q⟩:=hs
  exact U4m q
end L2
namespace L2
open PySem PySem.Spec PyProof.Rows
section
variable{X:Cx}{x:Str}{p pos:Pos}{e:Expr}{es:List Expr}{t:TA}{id T:String}{r:List V->Hp->VK->Prop}
def tCB(r:List V->Hp->VK->Prop)(t:TA):TE:=fun σ H Q=>t σ H fun vs H1=>r vs H1 Q
theorem Tg(hc:Dn X (.builtin id) r)(hg:Gl X x)(hm:X.mg x=none)(hv:bootBuiltins x=some (.builtin id))(ha:PA X (e::es) t)(hn:x≠"__name__":=by decide)(hdb:(x==("__debug__":Str))=false:=by decide)
  (he:starEach (e::es) X.env=(false,eval e X.env)::starEach es X.env:=by rfl) (hpl:(backTo pos (starEach es X.env)).any (·.1)=false:=by rfl):PE X (.Call (.Name x p) (e::es) [] pos) (tCB r t):=by
 intro pins s σ H Q I h
 refine U5 (Ls I hg hm hv ?_ hn hdb)
 exact PyProof.Rows.callWith_builtin1 (thn (ha pos pins s σ H _ I h) fun us s1 ⟨vs,H1,I1,r1,q1⟩=>hc pins s1 σ H1 vs us Q I1 r1 q1) he hpl
theorem Lw(hc:Dn X (.type T) r)(hg:Gl X x)(hm:X.mg x=none)(hv:bootBuiltins x=some (.type T))(ha:PA X (e::es) t)(hn:x≠"__name__":=by decide)(hdb:(x==("__debug__":Str))=false:=by decide)
  (he:starEach (e::es) X.env=(false,eval e X.env)::starEach es X.env:=by rfl) (hpl:(backTo pos (starEach es X.env)).any (·.1)=false:=by rfl):PE X (.Call (.Name x p) (e::es) [] pos) (tCB r t):=by
 intro pins s σ H Q I h
 refine U5 (Ls I hg hm hv ?_ hn hdb)
 exact U3s (thn (ha pos pins s σ H _ I h) fun us s1 ⟨vs,H1,I1,r1,q1⟩=>hc pins s1 σ H1 vs us Q I1 r1 q1) he hpl
end
end L2
namespace HT
open PySem PyProof.Rows
section
open PySem.SeqAt
open PySem.AutoSeq1 (wpAny_loadPart')
open PySem.MeetsSeq PySem.MeetsSeq2 PySem.MeetsSeq3
end
section
variable{prog:Program}{w:World}{A:Around}{E:Value->Shared->Prop}{s:Shared}
theorem sJ{t b:Addr}{vs ws:List Value}{Q:Value->Shared->Prop}(ht:IsTup s.heap t vs.toArray)(hb:IsTup s.heap b ws.toArray)(hv:vs≠[])
  (h1:ws=[]->Q (.ref t) s) (h2:ws≠[]->Q (.ref s.heap.objs.size) { s with heap:=s.heap.push { cls:=.type "tuple",data:=.seq (vs++ws).toArray } })
  (hsz:vs.length+ws.length<=sizeLine):wpAny (model prog w) A (binaryOp .Add (.ref t) (.ref b)) Q E s:=by
 obtain⟨⟨cls,dd,data,sl⟩,ho,hc,n,hd⟩:=id ht
 obtain⟨⟨cls2,dd2,data2,sl2⟩,ho2,hc2,n2,hd2⟩:=id hb
 simp only at hc hd hc2 hd2
 subst hc hd hc2 hd2
 have e:vs.toArray++ws.toArray=(vs++ws).toArray:=by simp
 by_cases hw:ws=[]
 .exact concat_meets ⟨_,ho,rfl⟩ ⟨_,ho2,rfl⟩ noFill_tuple_add seq_tuple_add U6b U55 (U5y _ _)
   (tuple_addW1 t b vs.toArray ws.toArray n n2 dd dd2 sl sl2 (by simpa using hv) (by simp[hw])) ⟨ho,ho2,h1 hw⟩
 .refine concat_meets ⟨_,ho,rfl⟩ ⟨_,ho2,rfl⟩ noFill_tuple_add seq_tuple_add U6b U55 (U5y _ _)
   (tuple_addW2 t b vs.toArray ws.toArray n n2 dd dd2 sl sl2 (by simpa using hv) (by simpa using hw) (by rw[U0x,U0x];exact hsz)) ⟨ho,ho2,?_⟩
  rw[e]
  exact h2 hw
def sIx(n d:Nat):Option Int->Nat
 |none=>d
 |some v=>if v<0 then (v+(n:Int)).toNat else min v.toNat n
theorem v8(n d:Nat)(hd:d<=n)(o:Option Int):sIx n d o<=n:=by
 cases o with
 |none=>exact hd
 |some v =>
  show(if v<0 then (v+(n:Int)).toNat else min v.toNat n)<=n
  by_cases hv:v<0
  .rw[if_pos hv];omega
  .rw[if_neg hv];exact Nat.min_le_right _ _
theorem bZ(v:Int)(n d:Nat):(if v<0 then max (v+(n:Int)) 0 else min v (n:Int))=((sIx n d (some v):Nat):Int):=by
 show(if v<0 then max (v+(n:Int)) 0 else min v (n:Int))=(((if v<0 then (v+(n:Int)).toNat else min v.toNat n):Nat):Int)
 by_cases hv:v<0
 .simp only[if_pos hv];omega
 .simp only[if_neg hv];omega
theorem eO(lo hi:Option Int)(n:Nat):U5v lo hi 1 (n:Int)=(((sIx n 0 lo:Nat):Int),((sIx n n hi:Nat):Int)):=by
 have h1:¬((1:Int)<0):=by omega
 unfold U5v
 simp only[h1,if_false]
 refine Prod.ext ?_ ?_
 .cases lo with
  |none=>rfl
  |some v=>exact bZ v n 0
 .cases hi with
  |none=>rfl
  |some v=>exact bZ v n n
theorem dD(i j:Nat):U4n (i:Int) (j:Int) 1=j-i:=by
 unfold U4n
 have h1:(1:Int)>0:=by omega
 simp only[h1,if_true,Int.ediv_one]
 split<;>omega
theorem Uz{v:Value}{o:Option Int}{Q:Option Int->Shared->Prop}(p:IsPart v o)(h:Q o s):wpAny (model prog w) A (Builtin.Slice.slicePartIndex v) Q E s:=by
 cases p with
 |none=>exact slicePart_none h
 |int i t=>exact slicePart_int h
theorem O5{sl:Addr}{vl vu:Value}{lo hi:Option Int}{n:Nat}{Q:Int×Int×Nat->Shared->Prop}(hs:s.heap.IsSliceOf sl vl vu .none)(pl:IsPart vl lo)(pu:IsPart vu hi)
  (h:Q (((sIx n 0 lo:Nat):Int),1,sIx n n hi-sIx n 0 lo) s):wpAny (model prog w) A (Builtin.Slice.sliceApplied (.ref sl) (pure (n:Int))) Q E s:=by
 obtain⟨os,hos,hcs,hds⟩:=id hs
 unfold Builtin.Slice.sliceApplied Builtin.Slice.sliceFields
 refine U0 (U0 (U2m hos hds (x:=vl) rfl (U0 (U2m hos hds (x:=vu) rfl (U0 (U2m hos hds (x:=.none) rfl (U0d ?_)))))))
 refine U0 (slicePart_none ?_)
 show wpAny _ _ (if ((1:Int)==0)=true then _ else _) _ _ s
 rw[if_neg (by decide)]
 refine U0 (Uz pl (U0 (Uz pu (U0 (U0d ?_)))))
 show wpAny _ _ (match U5v lo hi 1 (n:Int) with|(lo,hi)=>pure (lo,(1:Int),U4n lo hi 1)) _ _ s
 rw[eO lo hi n]
 show wpAny _ _ (pure (((sIx n 0 lo:Nat):Int),(1:Int),U4n ((sIx n 0 lo:Nat):Int) ((sIx n n hi:Nat):Int) 1)) _ _ s
 rw[dD]
 exact U0d h
theorem lJ(xs:Array Value)(i k:Nat):((U0k k).filterMap fun(m:Nat)=>xs[((i:Int)+(m:Int)*1).toNat]?).toArray=((xs.toList.drop i).take k).toArray:=by
 have e:(fun(m:Nat)=>xs[((i:Int)+(m:Int)*1).toNat]?)=fun m=>xs[i+m]?:=by
  funext m
  have:((i:Int)+(m:Int)*1).toNat=i+m:=by omega
  rw[this]
 rw[e]
 have:=pick_run xs i k
 rw[List.filterMap_map] at this
 have e2:((fun x=>xs[x]?)∘fun x=>i+x)=fun m=>xs[i+m]?:=rfl
 rw[e2] at this
 rw[this]
theorem S8{t sl:Addr}{items:Array Value}{vl vu:Value}{lo hi:Option Int}{Q:Value->Shared->Prop}(ht:IsTup s.heap t items)(hs:s.heap.IsSliceOf sl vl vu .none)(pl:IsPart vl lo)(pu:IsPart vu hi)
  (hw:¬(sIx items.size 0 lo=0/\sIx items.size items.size hi=items.size))
  (h:Q (.ref s.heap.objs.size) { s with heap:=s.heap.push { cls:=.type "tuple",data:=.seq ((items.toList.drop (sIx items.size 0 lo)).take (sIx items.size items.size hi-sIx items.size 0 lo)).toArray } })
  (hsz:items.size<=sizeLine):wpAny (model prog w) A (getItem (.ref t) (.ref sl)) Q E s:=by
 have htake:sizeOk (.seq ((items.toList.drop (sIx items.size 0 lo)).take (sIx items.size items.size hi-sIx items.size 0 lo)).toArray):=by
  show((items.toList.drop (sIx items.size 0 lo)).take (sIx items.size items.size hi-sIx items.size 0 lo)).toArray.size<=sizeLine
  rw[U0x,U2j,U7c,U1z]
  omega
 have hj:sIx items.size items.size hi<=items.size:=v8 _ _ (U0u _) hi
 obtain⟨os,hos,hcs,hds⟩:=id hs
 have hTs:s.TypeIs (.ref sl) "slice":=⟨os,hos,hcs⟩
 unfold getItem
 try with_reducible refine U19 ?_
 first|refine U0 (U0d ?_)|skip
 refine U0 (wpAny_sequenceKey ht.typeIs (by decide) ?_)
 refine U0 (wpAny_callSpecial?_slot (name:=U3j "__getitem__") ht.typeIs U20
  (U2k U20 ht.typeIs entry_tuple_getitem ?_ (args_tuple_getitem _ _)))
 show wpAny _ _ (Builtin.Tuple.tupleItemsOf (.ref t) >>= _) _ _ s
 refine U0 (tupleItemsOf_ ht ?_)
 refine U0 (U4v hTs ?_)
 rw[if_pos (by decide)]
 refine U0 (O5 hs pl pu ?_)
 have hno:¬((((sIx items.size 0 lo:Nat):Int)==0&&(1:Int)==1&&(sIx items.size items.size hi-sIx items.size 0 lo)==items.size)=true):=by
  intro q
  rw[U1b,U1b] at q
  have q1:((sIx items.size 0 lo:Nat):Int)=0:=eq_of_beq q.1.1
  have q2:sIx items.size items.size hi-sIx items.size 0 lo=items.size:=eq_of_beq q.2
  exact hw ⟨by omega,by omega⟩
 show wpAny _ _ (if (((sIx items.size 0 lo:Nat):Int)==0&&(1:Int)==1&&(sIx items.size items.size hi-sIx items.size 0 lo)==items.size)=true then _ else _) _ _ s
 rw[if_neg hno,lJ]
 first
  |exact U0 (m:=U4w _) (U2d (U0d ⟨_,rfl,U0d h⟩) htake)
  |exact U0 (m:=U4w _) (U2d (U0 (U0d (U0d ⟨_,rfl,U0d h⟩))) htake)
  |exact U0 (U0 (m:=U4w _) (U2d (U0d (U0d ⟨_,rfl,U0d h⟩)) htake))
  |exact U0 (U0 (m:=U4w _) (U2d (U0d ⟨_,rfl,U0d h⟩) htake))
end
end HT
namespace L2
open PySem PySem.Spec PyProof.Rows
abbrev TO:=St->Hp->(Option Int->Hp->Prop)->Prop
def PO(X:Cx)(e:Option Expr)(t:TO):Prop :=
 ∀(pins:List (Addr×Obj))(s:Shared)(σ:St)(H:Hp)(Q:Option Int->Hp->Prop),Inv X pins σ H s->t σ H Q ->
  wpAny (model X.prog X.w) X.A (evalPart e X.env) (fun u s'=>∃o H',Inv X pins σ H' s'/\IsPart u o/\Q o H') X.xe s
def pJ:TO:=fun _ H Q=>Q none H
def yI(t:TE):TO:=fun σ H Q=>t σ H fun x H1=>∃i,x=.int i/\Q (some i) H1
theorem intsAre_of{ns:List Int}:∀{us:List Value},Vals (ns.map V.int) us->IntsAre us ns:=by
 induction ns with
 |nil=>intro us r;rw[U1j] at r;cases r;exact .nil
 |cons n ns ih =>
  intro us r
  rw[U0j] at r
  cases r with
  |cons r1 r2 =>
   obtain⟨t,e⟩:=r1
   subst e
   exact .cons n t (ih r2)
section
variable{X:Cx}{e:Expr}{te:TE}{lo hi:Option Expr}{tl th:TO}{pos p2:Pos}
theorem qL:PO X none pJ:=by
 intro pins s σ H Q I h
 rw[evalPart_none]
 exact U0d ⟨none,H,I,.none,h⟩
theorem qK(h:PE X e te):PO X (some e) (yI te):=by
 intro pins s σ H Q I hw
 rw[evalPart_some]
 refine thn (h pins s σ H _ I hw) fun u s1 ⟨x,H1,I1,r1,q1⟩=>?_
 obtain⟨i,rfl,q⟩:=q1
 obtain⟨t,rfl⟩:=r1
 exact⟨some i,H1,I1,.int i t,q⟩
def SlR(X:Cx)(r:V->Option Int->Option Int->Hp->VK->Prop):Prop :=
 ∀(pins:List (Addr×Obj))(s:Shared)(σ:St)(H:Hp)(x:V)(v vl vu:Value)(lo hi:Option Int)(sl:Addr)(Q:VK),Inv X pins σ H s->RelV x v->s.heap.IsSliceOf sl vl vu .none->IsPart vl lo->IsPart vu hi->r x lo hi H Q ->
  ∃T id,typeLookup (.type T) "__getitem__"=pure (some (.builtin id))/\s.TypeIs v T/\wpAny (model X.prog X.w) X.A (getItem v (.ref sl)) (EP X pins σ Q) X.xe s
theorem SlR.or{r r':V->Option Int->Option Int->Hp->VK->Prop}(h:SlR X r)(h':SlR X r'):SlR X (fun x lo hi H Q=>r x lo hi H Q∨r' x lo hi H Q):=by
 intro pins s σ H x v vl vu lo hi sl Q I rx hs pl pu q
 rcases q with q|q
 .exact h pins s σ H x v vl vu lo hi sl Q I rx hs pl pu q
 .exact h' pins s σ H x v vl vu lo hi sl Q I rx hs pl pu q
def tSl(r:V->Option Int->Option Int->Hp->VK->Prop)(te:TE)(tl th:TO):TE:=fun σ H Q=>te σ H fun x H1=>tl σ H1 fun l H2=>th σ H2 fun u H3=>r x l u H3 Q
theorem lN{r:V->Option Int->Option Int->Hp->VK->Prop}(hr:SlR X r)(he:PE X e te)(hl:PO X lo tl)(hu:PO X hi th):PE X (.Subscript e (.Slice lo hi none p2) pos) (tSl r te tl th):=by
 intro pins s σ H Q I h
 refine Subscript_ (thn (he pins s σ H _ I h) fun v s1 ⟨x,H1,I1,r1,q1⟩=>?_)
 refine wpAny_Slice (thn (hl pins s1 σ H1 _ I1 q1) fun vl s2 ⟨l,H2,I2,pl,q2⟩=>thn (hu pins s2 σ H2 _ I2 q2) fun vu s3 ⟨u,H3,I3,pu,q3⟩=>?_)
 rw[evalPart_none]
 refine U0d ?_
 have I4:Inv X pins σ H3 { s3 with heap:=s3.heap.push { cls:=.type "slice",data:=.fields #[vl,vu,.none] } }:=I3.kept (t':=s3.toks) fun b ob q=>U0c _ q
 obtain⟨T,id,hT,ht,hg⟩:=hr pins { s3 with heap:=s3.heap.push { cls:=.type "slice",data:=.fields #[vl,vu,.none] } } σ H3 x v vl vu l u s3.heap.objs.size Q I4 r1 (Heap.IsSliceOf.new ..) pl pu q3
 show wpAny (model X.prog X.w) X.A (subscriptTail e (.Slice lo hi none p2) v (.ref s3.heap.objs.size)) (EP X pins σ Q) X.xe { s3 with heap:=s3.heap.push { cls:=.type "slice",data:=.fields #[vl,vu,.none] } }
 exact tail_any (ops:=[.ref s3.heap.objs.size,v]) ht hT hg (by with_unfolding_all rfl)
def KY(xs:List V)(lo hi:Option Int):List V:=(xs.drop (HT.sIx xs.length 0 lo)).take (HT.sIx xs.length xs.length hi-HT.sIx xs.length 0 lo)
theorem T6(xs:List V)(lo hi:Option Int):(KY xs lo hi).length<=xs.length:=by
 unfold KY
 rw[U2j,U7c]
 omega
def zx(K:U0a):V->Option Int->Option Int->Hp->VK->Prop:=fun x lo hi H Q=>∃a xs,x=.ref a/\SqT K H a xs /\
 ¬(HT.sIx xs.length 0 lo=0/\HT.sIx xs.length xs.length hi=xs.length)/\∀p,H p=none->Q (.ref p) (upd H p (.tup (KY xs lo hi)))
theorem ux:SlR X (zx X.K):=by
 intro pins s σ H x v vl vu lo hi sl Q I rx hs pl pu h
 obtain⟨a,xs,rfl,hx,hw,q⟩:=h
 cases rx
 obtain⟨its,r,ht,hz⟩:=I.tuple hx
 have hlen:its.toArray.size=xs.length:=by rw[U0x];exact r.length.symm
 refine⟨"tuple",_,U20.lookup,ht.typeIs,?_⟩
 refine HT.S8 ht hs pl pu (by rw[hlen];exact hw) ?_ (by rw[hlen];exact hz)
 rw[hlen]
 refine⟨.ref s.heap.objs.size,_,I.laid (t':=s.toks) (o:=.tup (KY xs lo hi)) (fun b ob q=>U0c _ q) (U0u _) ?_,rfl,q _ (I.hok.fresh (U0u _))⟩
 exact⟨U1c (T6 xs lo hi) hz,_,(r.drop (HT.sIx xs.length 0 lo)).take (HT.sIx xs.length xs.length hi-HT.sIx xs.length 0 lo),IsTup.new _ _⟩
def yV(K:U0a):R2:=fun x y H Q=>∃a b xs ys,x=.ref a/\y=.ref b/\SqT K H a xs/\SqT K H b ys/\xs≠[]/\xs.length+ys.length<=sizeLine /\
 (ys=[]->Q (.ref a) H)/\(ys≠[]->∀p,H p=none->Q (.ref p) (upd H p (.tup (xs++ys))))
theorem Vals.Rp{xs:List V}{us:List Value}(r:Vals xs us):us=[]↔xs=[]:=by
 cases r with
 |nil=>simp
 |cons _ _=>simp
theorem qX:OpR X (binaryOp .Add) (yV X.K):=by
 intro pins s σ H x y v u Q I rx ry h
 obtain⟨a,b,xs,ys,rfl,rfl,ha,hb,hx,hz,q1,q2⟩:=h
 cases rx
 cases ry
 obtain⟨its,r1,p1,_⟩:=I.tuple ha
 obtain⟨its2,r2,p2,_⟩:=I.tuple hb
 refine HT.sJ p1 p2 (fun z=>hx (r1.Rp.mp z)) (fun z=>⟨.ref a,H,I,rfl,q1 (r2.Rp.mp z)⟩) (fun z=>?_) (by rw[←r1.length,←r2.length];exact hz)
 refine⟨.ref s.heap.objs.size,_,I.laid (t':=s.toks) (o:=.tup (xs++ys)) (fun b ob q=>U0c _ q) (U0u _) ?_,rfl,q2 (fun w=>z (r2.Rp.mpr w)) _ (I.hok.fresh (U0u _))⟩
 exact⟨by rw[U0s];exact hz,_,r1.append r2,IsTup.new _ _⟩
end
end L2
namespace L2
open PySem PySem.Spec PyProof.Rows
def ixN(n:Nat)(i:Int):Option Nat:=if 0<=i then (if i<n then some i.toNat else none) else if -(n:Int)<=i then some (i+n).toNat else none
def atI{α:Type}(xs:List α)(i:Int):Option α:=(ixN xs.length i).bind fun j=>xs[j]?
theorem bN{n:Nat}{i:Int}{j:Nat}(h:ixN n i=some j):seqIndex? i n=some j/\j<n/\-(n:Int)<=i/\i<n:=by
 unfold ixN at h
 by_cases h0:0<=i
 .rw[if_pos h0] at h
  by_cases h1:i<n
  .rw[if_pos h1] at h
   have e:i.toNat=j:=U03 h
   exact⟨by rw[seqIndex_of h0 h1,e],by omega,by omega,h1⟩
  .rw[if_neg h1] at h;cases h
 .rw[if_neg h0] at h
  by_cases h1:-(n:Int)<=i
  .rw[if_pos h1] at h
   have e:(i+n).toNat=j:=U03 h
   exact⟨by rw[seqIndex_neg (by omega) h1,e],by omega,h1,by omega⟩
  .rw[if_neg h1] at h;cases h
theorem Vw{α:Type}{xs:List α}{i:Int}{v:α}(h:atI xs i=some v):∃j,seqIndex? i xs.length=some j/\xs[j]?=some v/\j<xs.length/\-(xs.length:Int)<=i/\i<xs.length:=by
 unfold atI at h
 cases e:ixN xs.length i with
 |none=>rw[e] at h;cases h
 |some j =>
  rw[e] at h
  obtain⟨h1,h2,h3,h4⟩:=bN e
  exact⟨j,h1,h,h2,h3,h4⟩
theorem Le{α:Type}{xs:List α}{j:Nat}{v:α}(h:xs[j]?=some v):atI xs (j:Int)=some v:=by
 have hj:j<xs.length:=(U0o.mp h).1
 have e:ixN xs.length (j:Int)=some j:=by
  unfold ixN
  rw[if_pos (by omega),if_pos (by omega)];simp
 unfold atI;rw[e];exact h
theorem QJ{α:Type}(xs:List α)(v:α):atI (xs++[v]) (-1)=some v:=by
 have hl:(xs++[v]).length=xs.length+1:=by simp
 have e:ixN (xs++[v]).length (-1)=some xs.length:=by
  unfold ixN
  rw[hl,if_neg (by decide),if_pos (by omega)]
  congr 1
  omega
 unfold atI
 rw[e]
 show(xs++[v])[xs.length]?=some v
 simp
def Ry(b:Expr):Prop:=∀o i,subscripted b false o i=operate [o,i] (getItem o i)
def IxR(X:Cx)(r:R2):Prop :=
 ∀(value slice:Expr)(pins:List (Addr×Obj))(s:Shared)(σ:St)(H:Hp)(x y:V)(v u:Value)(Q:VK),Inv X pins σ H s->RelV x v->RelV y u->r x y H Q ->
  subscripted slice false v u=operate [v,u] (getItem v u)->wpAny (model X.prog X.w) X.A (subscriptTail value slice v u) (EP X pins σ Q) X.xe s
def MtR(X:Cx)(id:String)(r:V->List V->Hp->VK->Prop):Prop :=
 ∀(pins:List (Addr×Obj))(s:Shared)(σ:St)(H:Hp)(x:V)(xs:List V)(v:Value)(us:List Value)(Q:VK),Inv X pins σ H s->RelV x v->Vals xs us->r x xs H Q ->
  wpAny (model X.prog X.w) X.A (call (.builtin id) (v::us)) (EP X pins σ Q) X.xe s
section
variable{X:Cx}{a b:Expr}{ta tb:TE}{pos:Pos}
theorem IxR.or{r r':R2}(h:IxR X r)(h':IxR X r'):IxR X (fun x y H Q=>r x y H Q∨r' x y H Q):=by
 intro value slice pins s σ H x y v u Q I rx ry q hs
 rcases q with q|q
 .exact h value slice pins s σ H x y v u Q I rx ry q hs
 .exact h' value slice pins s σ H x y v u Q I rx ry q hs
theorem yd{r:R2}(hr:IxR X r)(ha:PE X a ta)(hb:PE X b tb)(hs:Ry b):PE X (.Subscript a b pos) (tOp r ta tb):=by
 intro pins s σ H Q I h
 exact Subscript_ (cJ ha hb I h fun v u s2 x y H2 I2 rx ry q=>hr a b pins s2 σ H2 x y v u Q I2 rx ry q (hs _ _))
def uP(K:U0a):R2:=fun x y H Q=>∃p xs i v,x=.ref p/\y=.int i/\SqL K H p xs/\atI xs i=some v/\Q v H
def uN(K:U0a):R2:=fun x y H Q=>∃p xs i v,x=.ref p/\y=.int i/\SqT K H p xs/\atI xs i=some v/\Q v H
def uO:R2:=fun x y H Q=>∃z i c,x=.str z/\y=.int i/\z.length<=sizeLine/\atI z.cps.toList i=some c/\Q (.str ⟨#[c]⟩) H
theorem rC:IxR X (uP X.K):=by
 intro value slice pins s σ H x y v u Q I rx ry h hs
 obtain⟨p,xs,i,z,rfl,rfl,hq,he,q⟩:=h
 cases rx
 obtain⟨t,rfl⟩:=ry
 obtain⟨its,r,pl,hz⟩:=I.list hq
 obtain⟨j,h1,h2,h3,h4,h5⟩:=Vw he
 obtain⟨w,ew,rw'⟩:=r.get h2
 have hl:=r.length
 have hn:=Qs
 have fin:EP X pins σ Q w s:=⟨z,H,I,rw',q⟩
 by_cases h0:0<=i
 .have hj:i.toNat=j:=by
   rw[seqIndex_of h0 h5] at h1
   exact U03 h1
  exact item_listR pl.isList h0 (by omega) (by rw[hj];simpa using ew) fin hs
 .have hj:(i+(its.toArray.size:Int)).toNat=j:=by
   rw[seqIndex_neg (by omega) h4] at h1
   rw[U0x,←hl]
   exact U03 h1
  exact subscriptTail_builtinR (x:=w) pl.isList.typeIs slot_list_getitem.lookup
   (wpAny_getItem_list_neg (Q:=fun r s'=>r=w/\EP X pins σ Q r s') pl.isList (by omega) (by rw[U0x]<;>omega) (by omega) (by rw[hj];simpa using ew) ⟨rfl,fin⟩) hs
theorem wO:IxR X (uN X.K):=by
 intro value slice pins s σ H x y v u Q I rx ry h hs
 obtain⟨p,xs,i,z,rfl,rfl,hq,he,q⟩:=h
 cases rx
 obtain⟨t,rfl⟩:=ry
 obtain⟨its,r,pl,hz⟩:=I.tuple hq
 obtain⟨j,h1,h2,h3,h4,h5⟩:=Vw he
 obtain⟨w,ew,rw'⟩:=r.get h2
 have hl:=r.length
 have hn:=Qs
 have fin:EP X pins σ Q w s:=⟨z,H,I,rw',q⟩
 exact subscriptTail_builtinR (x:=w) pl.typeIs slot_tuple_getitem.lookup
  (getItem_tuple (j:=j) (Q:=fun r s'=>r=w/\EP X pins σ Q r s') pl (by omega) (by omega) (by rw[U0x,←hl];exact h1) (by simpa using ew) ⟨rfl,fin⟩) hs
theorem wQ:IxR X uO:=by
 intro value slice pins s σ H x y v u Q I rx ry h hs
 obtain⟨z,i,c,rfl,rfl,hz,he,q⟩:=h
 obtain⟨t,rfl⟩:=rx
 obtain⟨t',rfl⟩:=ry
 obtain⟨j,h1,h2,h3,h4,h5⟩:=Vw he
 have hl:z.cps.toList.length=z.length:=by simp[Str.length]
 rw[hl] at h1 h4 h5
 have hn:=Qs
 exact tail_any (typeIs_str s z t) slot_str_getitem.lookup (getItem_str (c:=c) (by
  have e1:decide (i < -(2^63:Int))=false:=decide_eq_false (by omega)
  have e2:decide (i≥2^63)=false:=decide_eq_false (by omega)
  rw[e1,e2,U45]) (by rw[h1];simpa using h2) ⟨.str ⟨#[c]⟩,H,I.tok _,⟨_,rfl⟩,q⟩) hs
def rIx(K:U0a):R2:=fun x y H Q=>uP K x y H Q∨uN K x y H Q∨uO x y H Q
theorem BZ:IxR X (rIx X.K):=rC.or (wO.or wQ)
theorem dU(its:List Value)(n j:Nat)(u:Value):U1r (·.setIfInBounds j u) { cls:=.type "list",data:=.seq its.toArray n }={ cls:=.type "list",data:=.seq (its.set j u).toArray n }:=by
 simp[U1r]
theorem Inv.lst{pins:List (Addr×Obj)}{σ:St}{H:Hp}{s:Shared}{p:Addr}{xs:List V}(I:Inv X pins σ H s)(h:H p=some (.lst xs)) :
  ∃(its:List Value)(n:Nat),Vals xs its/\s.heap.get? p=some { cls:=.type "list",data:=.seq its.toArray n }/\xs.length<=sizeLine:=by
 obtain⟨z,its,n,r,e⟩:=I.hok p _ h
 exact⟨its,n,r,e,z⟩
theorem Inv.wD{pins:List (Addr×Obj)}{σ:St}{H:Hp}{s:Shared}{p:Addr}{xs ys:List V}{its its':List Value}{n n':Nat}{f:Obj->Obj}(I:Inv X pins σ H s)(h:H p=some (.lst xs))
  (ho:s.heap.get? p=some { cls:=.type "list",data:=.seq its.toArray n }) (hf:f { cls:=.type "list",data:=.seq its.toArray n }={ cls:=.type "list",data:=.seq its'.toArray n' }) (r:Vals ys its') (hz:ys.length<=sizeLine) (t:Nat) :
  Inv X pins σ (upd H p (.lst ys)) { s with heap:=s.heap.update p f,toks:=t }:=by
 have e:(s.heap.update p f).get? p=some { cls:=.type "list",data:=.seq its'.toArray n' }:=by
  rw[U1o f ho (by rw[hf]<;>rfl),hf]
 refine I.write (x:=p) (e:=p) (by rw[h];trivial) (.inl rfl) (fun b u hb q=>(U04 _ _ (U1l hb)).trans q) ⟨_,e⟩ ?_
 exact⟨hz,its',n',r,e⟩
def yR:V->V->V->Hp->(Hp->Prop)->Prop:=fun o i v H Q=>∃p xs k j,o=.ref p/\i=.int k/\H p=some (.lst xs)/\ixN xs.length k=some j/\Q (upd H p (.lst (xs.set j v)))
theorem set_list:uc X yR:=by
 intro pins s σ H o i v ov iv u Q I ro ri rv h
 obtain⟨p,xs,k,j,rfl,rfl,hp,hj,q⟩:=h
 cases ro
 obtain⟨t,rfl⟩:=ri
 obtain⟨its,n,r,ho,hz⟩:=I.lst hp
 obtain⟨h1,h2,h3,h4⟩:=bN hj
 have hl:=r.length
 have hn:=Qs
 have I':Inv X pins σ (upd H p (.lst (xs.set j v))) { s with heap:=s.heap.update p (U1r (·.setIfInBounds j u)) } :=
  I.wD hp ho (dU its n j u) (r.set rv j) (by rw[U4d];exact hz) s.toks
 by_cases h0:0<=k
 .have hk:k.toNat=j:=by
   rw[seqIndex_of h0 h4] at h1
   exact U03 h1
  exact PySem.W.ki_setAt ho h0 (by omega) (by rw[U0x,←hl];exact h4) (by rw[hk];exact⟨_,I',q⟩)
 .have hk:(k+(its.toArray.size:Int)).toNat=j:=by
   rw[seqIndex_neg (by omega) h3] at h1
   rw[U0x,←hl]
   exact U03 h1
  exact PySem.W.ki_setBack ho (by omega) (by rw[U0x,←hl];exact h3) (by omega) (by rw[hk];exact⟨_,I',q⟩)
theorem Z1(lo hi:Option Int)(n:Nat):(sliceBounds lo hi none n).1=((HT.sIx n 0 lo:Nat):Int)/\(sliceBounds lo hi none n).2.1=((HT.sIx n n hi:Nat):Int)/\(sliceBounds lo hi none n).2.2=1:=by
 refine⟨?_,?_,rfl⟩
 .cases lo with
  |none=>simp[sliceBounds,HT.sIx]
  |some i =>
   simp only[sliceBounds,HT.sIx,Option.getD_none,show(1:Int)>0 by decide,if_true]
   by_cases h:i<0
   .simp only[h,if_true]<;>omega
   .simp only[h,if_false]<;>omega
 .cases hi with
  |none=>simp[sliceBounds,HT.sIx]
  |some i =>
   simp only[sliceBounds,HT.sIx,Option.getD_none,show(1:Int)>0 by decide,if_true]
   by_cases h:i<0
   .simp only[h,if_true]<;>omega
   .simp only[h,if_false]<;>omega
theorem Wz(its:List Value)(lo hi:Option Int):slicePick its.toArray lo hi none=((its.drop (HT.sIx its.length 0 lo)).take (HT.sIx its.length its.length hi-HT.sIx its.length 0 lo)).toArray:=by
 obtain⟨h1,h2,h3⟩:=Z1 lo hi its.toArray.size
 unfold slicePick
 rw[h1,h2,h3]
 simp only[sliceRange_one,pick_run,U0x]<;>rfl
def uI(K:U0a):V->Option Int->Option Int->Hp->VK->Prop:=fun x lo hi H Q=>∃a xs,x=.ref a/\SqL K H a xs/\∀p,H p=none->Q (.ref p) (upd H p (.lst (KY xs lo hi)))
theorem pN:SlR X (uI X.K):=by
 intro pins s σ H x v vl vu lo hi sl Q I rx hs pl pu h
 obtain⟨a,xs,rfl,hx,q⟩:=h
 cases rx
 obtain⟨its,r,ht,hz⟩:=I.list hx
 have hlen:=r.length
 refine⟨"list",_,slot_list_getitem.lookup,ht.isList.typeIs,?_⟩
 refine wpAny_getItem_list_slice ht.isList hs pl pu .none (by simp) ?_ (by rw[U0x]<;>omega)
 rw[Wz,←hlen]
 refine⟨.ref s.heap.objs.size,_,I.laid (t':=s.toks) (o:=.lst (KY xs lo hi)) (fun b ob q=>U0c _ q) (U0u _) ?_,rfl,q _ (I.hok.fresh (U0u _))⟩
 exact⟨U1c (T6 xs lo hi) hz,_,0,(r.drop (HT.sIx xs.length 0 lo)).take (HT.sIx xs.length xs.length hi-HT.sIx xs.length 0 lo),U0v _ rfl⟩
theorem EY:Dn X (.builtin "len") (fun xs H Q=>∃p ys,xs=[.ref p]/\(SqL X.K H p ys∨SqT X.K H p ys)/\Q (.int ys.length) H):=by
 intro pins s σ H xs us Q I r h
 obtain⟨p,ys,rfl,hq,q⟩:=h
 obtain⟨u,rfl,rx⟩:=vals1 r
 cases rx
 have hn:=Qs
 rcases hq with hq|hq
 .obtain⟨its,r',pl,hz⟩:=I.list hq
  have hlen:=r'.length
  exact Calls.call_len_list pl.isList (by simp only[U0x]<;>omega) ⟨.int ys.length,H,I.tok _,⟨s.toks+1,by rw[U0x,hlen]⟩,q⟩
 .obtain⟨its,r',pl,hz⟩:=I.tuple hq
  have hlen:=r'.length
  exact len_tuple pl (by simp only[U0x]<;>omega) ⟨.int ys.length,H,I.tok _,⟨s.toks+1,by rw[U0x,hlen]⟩,q⟩
theorem Dn.or{f:Value}{r r':List V->Hp->VK->Prop}(h:Dn X f r)(h':Dn X f r'):Dn X f (fun xs H Q=>r xs H Q∨r' xs H Q):=by
 intro pins s σ H xs us Q I rs q
 rcases q with q|q
 .exact h pins s σ H xs us Q I rs q
 .exact h' pins s σ H xs us Q I rs q
theorem Za:Dn X (.type "list") (fun xs H Q=>∃p ys,xs=[.ref p]/\(SqL X.K H p ys∨SqT X.K H p ys)/\∀l,H l=none->Q (.ref l) (upd H l (.lst ys))):=by
 intro pins s σ H xs us Q I r h
 obtain⟨p,ys,rfl,hq,q⟩:=h
 obtain⟨u,rfl,rx⟩:=vals1 r
 cases rx
 have fin:∀(its:List Value),Vals ys its->ys.length<=sizeLine->∀(h':Heap)(c':Nat),(∀b o',s.heap.get? b=some o'->h'.get? b=some o') ->
   h'.get? s.heap.objs.size=some { cls:=.type "list",dict:=none,data:=.seq its.toArray c',slots:=#[] }->EP X pins σ Q (.ref s.heap.objs.size) { s with heap:=h' }:=fun its r' hz h' c' kp e =>
  ⟨.ref s.heap.objs.size,_,I.laid (t':=s.toks) kp (U0u _) (show Dh X.prog X.w _ h' _ (.lst ys) from ⟨hz,its,c',r',e⟩),rfl,q _ (I.hok.fresh (U0u _))⟩
 rcases hq with hq|hq
 .obtain⟨its,r',pl,hz⟩:=I.list hq
  have hlen:=r'.length
  obtain⟨o,ho,hc,n,hd⟩:=pl.isList
  exact call_list_seq p (.inl rfl) ho hc hd (fun h' c' kp e=>fin its r' hz h' c' kp e) (by simp only[U0x]<;>omega)
 .obtain⟨its,r',pl,hz⟩:=I.tuple hq
  have hlen:=r'.length
  obtain⟨o,ho,hc,n,hd⟩:=pl
  exact call_list_seq p (.inr rfl) ho hc hd (fun h' c' kp e=>fin its r' hz h' c' kp e) (by simp only[U0x]<;>omega)
theorem XC:Dn X (.type "tuple") (fun xs H Q=>∃p ys,xs=[.ref p]/\((SqL X.K H p ys/\∀l,H l=none->Q (.ref l) (upd H l (.tup ys)))∨(SqT X.K H p ys/\Q (.ref p) H))):=by
 intro pins s σ H xs us Q I r h
 obtain⟨p,ys,rfl,h⟩:=h
 obtain⟨u,rfl,rx⟩:=vals1 r
 cases rx
 rcases h with ⟨hq,q⟩|⟨hq,q⟩
 .obtain⟨its,r',pl,hz⟩:=I.list hq
  have hlen:=r'.length
  refine call_tuple_list pl.isList (fun h' kp=>?_) (by simp only[U0x]<;>omega)
  have I1:Inv X pins σ H { s with heap:=h' }:=I.kept (t':=s.toks) kp
  have I2:Inv X pins σ (upd H h'.objs.size (.tup ys)) { s with heap:=h'.push { cls:=.type "tuple",data:=.seq its.toArray } } :=
   I1.laid (t':=s.toks) (fun b o e=>U0c _ e) (U0u _) (show Dh X.prog X.w _ _ _ (.tup ys) from ⟨hz,its,r',IsTup.new _ _⟩)
  exact⟨.ref h'.objs.size,_,I2,rfl,q _ (I1.hok.fresh (U0u _))⟩
 .obtain⟨its,r',pl,hz⟩:=I.tuple hq
  exact call_tuple_same pl ⟨.ref p,H,I,rfl,q⟩
def tyV(K:U0a)(T:String)(x:V)(H:Hp):Prop:=match x with
 |.str _=>T="str"
 |.int _=>T="int"
 |.ref p=>(T="list"/\∃xs,SqL K H p xs)∨(T="tuple"/\∃o,K.lookup p=some o/\o.cls=.type "tuple"/\o.dict=none) ∨
   (T="dict"/\((∃kvs,H p=some (.dK kvs))∨∃kvs,H p=some (.dT kvs)))∨(T="set"/\∃S n,H p=some (.set S n))
 |_=>False
theorem eU{pins:List (Addr×Obj)}{σ:St}{H:Hp}{s:Shared}{T:String}{x:V}{v:Value}(I:Inv X pins σ H s)(r:RelV x v)(ty:tyV X.K T x H) :
  s.TypeIs v T/\∀a,v=.ref a->∃ob,s.heap.get? a=some ob/\ob.dict=none:=by
 cases x with
 |str z =>
  obtain⟨t,rfl⟩:=r
  cases (show T="str" from ty)
  exact⟨typeIs_str s z t,fun _ e=>nomatch e⟩
 |int i =>
  obtain⟨t,rfl⟩:=r
  cases (show T="int" from ty)
  exact⟨typeIs_int s i t,fun _ e=>nomatch e⟩
 |ref p =>
  cases r
  rcases ty with ⟨rfl,xs,hq⟩|⟨rfl,o,hk,hc,hd⟩|⟨rfl,hk⟩|⟨rfl,S,n,hk⟩
  .obtain⟨its,_,pl,_⟩:=I.list hq
   refine⟨pl.isList.typeIs,fun a e=>?_⟩
   cases e
   obtain⟨o,n,e,c,hd,_⟩:=pl
   exact⟨o,e,hd⟩
  .refine⟨⟨o,I.kIn p o hk,hc⟩,fun a e=>?_⟩
   cases e
   exact⟨o,I.kIn _ o hk,hd⟩
  .have z:∃o,s.heap.get? p=some o/\o.ExactDict:=by
    rcases hk with ⟨kvs,hk⟩|⟨kvs,hk⟩
    .obtain⟨_,_,_,_,o,_,_,e,ex,_⟩:=I.hok p _ hk
     exact⟨o,e,ex⟩
    .obtain⟨_,_,_,_,o,_,_,e,ex,_⟩:=I.hok p _ hk
     exact⟨o,e,ex⟩
   obtain⟨o,e,ex⟩:=z
   refine⟨⟨o,e,ex.1⟩,fun a e2=>?_⟩
   cases e2
   exact⟨o,e,ex.2.1⟩
  .obtain⟨o,_,_,_,e,ex,_⟩:=I.hok p _ hk
   refine⟨⟨o,e,ex.1⟩,fun a e2=>?_⟩
   cases e2
   exact⟨o,e,ex.2.1⟩
 |_=>exact U4m ty
def uD(K:U0a)(T:String)(r:V->List V->Hp->VK->Prop)(to:TE):TE:=fun σ H Q=>to σ H fun x H1=>tyV K T x H1/\r x [] H1 Q
def tBM(K:U0a)(T:String)(r:V->List V->Hp->VK->Prop)(to:TE)(t:TA):TE:=fun σ H Q=>to σ H fun x H1=>tyV K T x H1/\t σ H1 fun xs H2=>r x xs H2 Q
variable{o e:Expr}{es:List Expr}{to:TE}{t:TA}{name:Str}{apos cpos:Pos}{T id:String}{r:V->List V->Hp->VK->Prop}
theorem vX(pa:PlainAttrs T)(slot:Slot T name id)(hty:typeOf (.builtin id)=pure (.type "method_descriptor"))(hm:MtR X id r)(ho:PE X o to)
  (hbase:attributeBase o name X.env (eval o X.env)=eval o X.env:=by rfl) (hline:(apos.endLine==cpos.line)=true:=by rfl):PE X (.Call (.Attribute o name apos) [] [] cpos) (uD X.K T r to):=by
 intro pins s σ H Q I h
 refine wpAny_Call_method0_late hbase hline (thn (ho pins s σ H _ I h) fun v s1 ⟨x,H1,I1,r1,ty,q1⟩=>?_)
 obtain⟨h1,h2⟩:=eU I1 r1 ty
 exact⟨T,id,pa,slot,hty,h1,h2,U6c rfl (PySem.evalArgs_none (hm pins s1 σ H1 x [] v [] Q I1 r1 .nil q1))⟩
theorem yg(pa:PlainAttrs T)(slot:Slot T name id)(hty:typeOf (.builtin id)=pure (.type "method_descriptor"))(hm:MtR X id r)(ho:PE X o to)(ha:PA X (e::es) t)
  (hbase:attributeBase o name X.env (eval o X.env)=eval o X.env:=by rfl)
  (hfew:((backTo cpos (starEach (e::es) X.env)).all (fun x=>!x.1)&&(backToKw cpos (keywordEach [] X.env)).all (fun x=>x.1.isSome)
   && decide ((e::es).length+([]:List Keyword).length+(if ([]:List Keyword).isEmpty then 0 else 1)<30))=true:=by rfl)
  (hline:(apos.endLine==cpos.line)=true:=by rfl) (hs:starEach (e::es) X.env=(false,eval e X.env)::starEach es X.env:=by rfl) (hplain:(backTo cpos (starEach es X.env)).any (·.1)=false:=by rfl) :
  PE X (.Call (.Attribute o name apos) (e::es) [] cpos) (tBM X.K T r to t):=by
 intro pins s σ H Q I h
 refine wpAny_Call_method_late hbase hfew hline rfl (thn (ho pins s σ H _ I h) fun v s1 ⟨x,H1,I1,r1,ty,q1⟩=>?_)
 obtain⟨h1,h2⟩:=eU I1 r1 ty
 refine⟨T,id,pa,slot,hty,h1,h2,?_⟩
 have hA:=ha cpos pins s1 σ H1 _ I1 q1
 rw[hs] at hA ⊢
 refine U6c (by show(false||(backTo cpos (starEach es X.env)).any (·.1))=false;rw[hplain]<;>rfl) (Calls.evalArgs_plain ?_)
 exact thn hA fun us s2 ⟨vs,H2,I2,r2,q2⟩=>hm pins s2 σ H2 x vs v us Q I2 r1 r2 q2
/- xs.append(e), list.index on a module's tuple .. are MtR facts of 06m -/
end
end L2
namespace L2
open PySem PySem.Spec PyProof.Rows
def MtM(X:Cx)(id:String)(r:V->List V->Hp->VK->Prop):Prop :=
 ∀(pins:List (Addr×Obj))(s:Shared)(σ:St)(H:Hp)(x:V)(xs:List V)(v:Value)(us:List Value)(Q:VK),Inv X pins σ H s->RelV x v->Vals xs us->r x xs H Q ->
  wpAny (model X.prog X.w) X.A (call (.builtin id) (v::us)) (EP X pins σ Q) X.xe s
theorem Vals.one:∀{x:V} {us:List Value},Vals [x] us->∃u,us=[u]/\RelV x u
 |_,_,.cons r .nil=>⟨_,rfl,r⟩
theorem Vals.zero:∀{us:List Value},Vals [] us->us=[]
 |_,.nil=>rfl
theorem Vals.dropLast{xs:List V}{us:List Value}(h:Vals xs us):Vals xs.dropLast us.dropLast:=by
 induction h with
 |nil=>exact .nil
 |cons r t ih =>
  cases t with
  |nil=>exact .nil
  |cons q t'=>exact .cons r ih
theorem Vals.rep{xs:List V}{us:List Value}(h:Vals xs us):∀k:Nat,Vals (U0h k xs).flatten (U0h k us).flatten
 |0=>.nil
 |k+1=>by
  rw[U0q,U0q,U34,U34]
  exact Vals.append h (Vals.rep h k)
theorem dz{α:Type}(l:List α):l.eraseIdx (l.length-1)=l.dropLast:=by
 induction l with
 |nil=>rfl
 |cons a r ih =>
  cases r with
  |nil=>rfl
  |cons b r =>
   have e:(a::b::r).length-1=((b::r).length-1)+1:=by
    have h1:(a::b::r).length=r.length+2:=rfl
    have h2:(b::r).length=r.length+1:=rfl
    omega
   rw[e,List.eraseIdx_cons_succ,ih]
   all_goals rfl
theorem foldl_rep(its:List Value):∀(k:Nat)(acc:List Value),
  U6l (fun x1 x2=>x1++x2) acc.toArray (U0h k its.toArray)=(acc++(U0h k its).flatten).toArray
 |0,acc=>by simp
 |k+1,acc=>by
  have e:acc.toArray++its.toArray=(acc++its).toArray:=by simp
  have e2:(acc++its)++(U0h k its).flatten=acc++(U0h (k+1) its).flatten:=by
   rw[U0q,U34,U35]
  rw[←e2,←foldl_rep its k (acc++its),←e,U0q,U16]
section
variable{X:Cx}{pins:List (Addr×Obj)}{σ:St}{H:Hp}{s:Shared}{l b:Addr}{xs ys zs:List V}
theorem Inv.uV{its its':List Value}{n:Nat}{f:Array Value->Array Value}{t':Nat}(I:Inv X pins σ H s)(hH:H l=some (.lst xs))
  (e:s.heap.get? l=some { cls:=.type "list",data:=.seq its.toArray n }) (hf:f its.toArray=its'.toArray) (hv:Vals ys its') (hz:ys.length<=sizeLine) :
  Inv X pins σ (upd H l (.lst ys)) { s with heap:=s.heap.update l (U1r f),toks:=t' }:=by
 have q:=PySem.IsL.update e f
 rw[hf] at q
 refine I.write (x:=l) (e:=l) (by rw[hH];exact trivial) (.inl rfl) (fun b' u hb hu=>(U04 s.heap (U1r f) (U1l hb)).trans hu) ⟨_,q⟩ ?_
 exact⟨hz,its',_,hv,q⟩
theorem Inv.uW{its:List Value}{t':Nat}(I:Inv X pins σ H s)(hv:Vals ys its)(hz:ys.length<=sizeLine) :
  Inv X pins σ (upd H s.heap.objs.size (.lst ys)) { s with heap:=s.heap.push { cls:=.type "list",data:=.seq its.toArray },toks:=t' } :=
 I.laid (fun _ _ q=>U0c _ q) (U0u _) ⟨hz,its,0,hv,U0v _ rfl⟩
theorem Inv.fresh(I:Inv X pins σ H s):H s.heap.objs.size=none:=I.hok.fresh (U0u _)
theorem Inv.Xb(I:Inv X pins σ H s)(hH:H l=some (.lst xs)):xs.length<=sizeLine/\∃(its:List Value)(n:Nat),Vals xs its/\xs.length=its.length/\s.heap.get? l=some { cls:=.type "list",data:=.seq its.toArray n }:=by
 obtain⟨z,its,n,r,e⟩:=I.hok l _ hH
 exact⟨z,its,n,r,r.length,e⟩
theorem lq{n:Nat}(h:n<=sizeLine):U5z n=false:=by
 unfold U5z
 exact decide_eq_false (by omega)
end
section
variable{X:Cx}
def bA:V->List V->Hp->VK->Prop:=fun x vs H Q=>∃l xs y,x=.ref l/\vs=[y]/\H l=some (.lst xs)/\xs.length<sizeLine/\Q .non (upd H l (.lst (xs++[y])))
theorem Hu:MtM X "list.append" bA:=by
 intro pins s σ H x vs v us Q I rx rv h
 obtain⟨l,xs,y,rfl,rfl,hH,hz,q⟩:=h
 cases rx
 obtain⟨u,rfl,ru⟩:=rv.one
 obtain⟨z,its,n,r,hl,e⟩:=I.Xb hH
 refine call_meets F.slot_list_append ⟨_,e,rfl⟩ F.entry_list_append (F.args_list_append_2 _ _) (PySem.list_append l its.toArray n u (by rw[U0x];omega)) ⟨e,?_⟩
 refine⟨.non,_,I.uV (its':=its++[u]) hH e (by simp) (r.append (.cons ru .nil)) ?_,rfl,q⟩
 rw[U0s,U3y]
 omega
def uM:V->List V->Hp->VK->Prop:=fun x vs H Q=>∃l xs y,x=.ref l/\vs=[]/\H l=some (.lst xs)/\xs[xs.length-1]?=some y/\Q y (upd H l (.lst xs.dropLast))
theorem fK:MtM X "list.pop" uM:=by
 intro pins s σ H x vs v us Q I rx rv h
 obtain⟨l,xs,y,rfl,rfl,hH,hy,q⟩:=h
 cases rx
 have hus:=rv.zero
 subst hus
 obtain⟨z,its,n,r,hl,e⟩:=I.Xb hH
 obtain⟨u,hu,ru⟩:=r.get hy
 have hy':its.toArray[its.toArray.size-1]?=some u:=by
  show its.toArray[its.length-1]?=some u
  rw[←U3i,←hl]
  exact hu
 refine call_meets F.slot_list_pop ⟨_,e,rfl⟩ F.entry_list_pop (F.args_list_pop_1 _) (MeetsSeq.list_pop_last l its.toArray n u hy' (by rw[U0x];omega)) ⟨e,?_⟩
 refine⟨y,_,I.uV (its':=its.dropLast) hH e ?_ r.dropLast ?_,ru,q⟩
 .show its.toArray.eraseIdxIfInBounds (its.toArray.size-1)=its.dropLast.toArray
  rw[U0x,List.eraseIdxIfInBounds_toArray,dz]
 .rw[List.length_dropLast]
  omega
def uR:R2:=fun x y H Q=>∃l b xs zs,x=.ref l/\y=.ref b/\H l=some (.lst xs)/\H b=some (.lst zs)/\xs.length+zs.length<=sizeLine/\∀p,H p=none->Q (.ref p) (upd H p (.lst (xs++zs)))
theorem vg:OpR X (binaryOp .Add) uR:=by
 intro pins s σ H x y v u Q I rx ry h
 obtain⟨l,b,xs,zs,rfl,rfl,hH,hB,hz,q⟩:=h
 cases rx
 cases ry
 obtain⟨z,its,n,r,hl,e⟩:=I.Xb hH
 obtain⟨z2,its2,n2,r2,hl2,e2⟩:=I.Xb hB
 refine PySem.P.add_list e e2 ?_ (by rw[U0x,U0x];omega)
 have ea:its.toArray++its2.toArray=(its++its2).toArray:=by simp
 rw[ea]
 exact⟨.ref _,_,I.uW (t':=s.toks) (r.append r2) (by rw[U0s];omega),rfl,q _ I.fresh⟩
def uL:R2:=fun x y H Q=>∃l k xs,x=.ref l/\y=.int k/\H l=some (.lst xs)/\-(2^63)<=k/\k<2^63/\xs.length*k.toNat<=sizeLine /\
 ∀p,H p=none->Q (.ref p) (upd H p (.lst (U0h k.toNat xs).flatten))
theorem len_rep{α:Type}(xs:List α)(k:Nat):(U0h k xs).flatten.length=k*xs.length:=by
 induction k with
 |zero=>simp
 |succ k ih=>rw[U0q,U34,U0s,ih,Nat.succ_mul,Nat.add_comm]
theorem fJ:OpR X (binaryOp .Mult) uL:=by
 intro pins s σ H x y v u Q I rx ry h
 obtain⟨l,k,xs,rfl,rfl,hH,h1,h2,hz,q⟩:=h
 cases rx
 obtain⟨t,rfl⟩:=ry
 obtain⟨z,its,n,r,hl,e⟩:=I.Xb hH
 have hlen:its.toArray.size*k.toNat<=sizeLine:=by rw[U0x,←hl];exact hz
 have hcap:¬its.toArray.size*k.toNat>(2^63-1)/8:=by
  have:(sizeLine:Nat)<=(2^63-1)/8:=by decide
  omega
 have hfit:¬(!Builtin.List.listFitsIndex k)=true:=by
  rw[fitsIndex_both h1 h2]
  exact U1g
 have hlong:¬U5z (its.toArray.size*k.toNat)=true:=by
  rw[lq hlen]
  exact U1g
 have hnew:U6l (fun x1 x2=>x1++x2) #[] (U0h (if its.toArray.isEmpty=true then 0 else k.toNat) its.toArray)=(U0h k.toNat its).flatten.toArray:=by
  have f0:∀m:Nat,U6l (fun x1 x2=>x1++x2) #[] (U0h m its.toArray)=(U0h m its).flatten.toArray:=fun m=>by
   have:=foldl_rep its m []
   rw[U1n] at this
   exact this
  rw[f0]
  cases its with
  |nil=>simp
  |cons a r'=>rw[if_neg (by simp)]
 refine wpAny_binaryOp_repeat_ref (T:="list") (U:="int") (by decide) ⟨_,e,rfl⟩ (fun s'=>typeIs_int s' k t) noFill_list_mul F.fills_int_mul F.slot_int_rmul repeat_list F.slot_int_index.lookup
  (call_meets F.slot_int_rmul (typeIs_int s k t) F.entry_int_rmul (F.args_int_rmul_2 _ _) (int___rmul___int_list k t l its.toArray n)
   ⟨e,rfl,⟨_,e,rfl⟩,call_meets F.slot_list_mul ⟨_,e,rfl⟩ F.entry_list_mul (F.args_list_mul_2 _ _) (AutoListH.list___mul___list_int_3 l its.toArray n k t hfit hcap hlong) ⟨e,?_⟩⟩)
 rw[hnew]
 exact⟨.ref _,_,I.uW (t':=s.toks) (r.rep k.toNat) (by rw[len_rep,U7d];exact hz),rfl,q _ I.fresh⟩
end
section
variable{prog:Program}{w:World}{A:Around}{E:Value->Shared->Prop}{s:Shared}
set_option maxRecDepth 100000 in
end
section
variable{X:Cx}
end
end L2
namespace Att
open PySem PySem.W PySem.Calls PyProof.Rows
theorem VP{P:Params}{h:Heap}:∀(ns:List Int)(vs:List Value),WellAll P h vs (ns.map WData.int)->IntsAre vs ns:=by
 intro ns
 induction ns with
 |nil =>
  intro vs w
  rw[U1j] at w
  cases w
  exact .nil
 |cons n ns ih =>
  intro vs w
  rw[U0j] at w
  cases w with
  |cons a b =>
   cases a
   exact .cons _ _ (ih _ b)
theorem gR{l:OpenLaw}{n:Nat}(hn:l.most=some n){P:Params}{h:Heap}{args:List WData}{vals:List Value}
  (hpre:l.row.toRowW.claim.pre args=true) (hwl:WellAll P h vals args) :
  ∃a vs ns,vals=[U12 a]/\args=[WData.list (ns.map WData.int)]/\h.get? a=some { cls:=.type "list",data:=.seq vs.toArray }/\IntsAre vs ns/\ns.length<=n:=by
 have hsh:WShape.hasAll [] args [.list .int]=true:=(pre_splitW hpre).1
 have hc:l.pre.holds [] { args:=args }=true:=(pre_splitW hpre).2
 obtain⟨d,r,rfl,h1,h2⟩:=hasAllW_cons hsh
 obtain rfl:=hasAllW_nil h2
 obtain⟨xs,rfl,h3⟩:=hasW_list h1
 obtain⟨ns,rfl⟩:=items_int h3
 have hlen:ns.length<=n:=by
  unfold OpenLaw.pre at hc
  have h4:(WTm.not (.lt (.lit (.int (n:Int))) (.len (.arg 0)))).holds [] { args:=[.list (ns.map .int)] }=true:=by
   have h4:=(holds_andW hc).1
   rw[hn] at h4
   exact h4
  have h5:=condW_of h4 (w_not (w_lt w_lit (w_len_list (w_arg rfl))))
  rw[U0i] at h5
  refine Nat.le_of_not_lt fun q=>?_
  have q':(n:Int)<((ns.length:Nat):Int):=by omega
  first
   |(rw[decide_eq_true q'] at h5;exact absurd h5 (by decide))
   |(simp at h5;omega)
 cases hwl with
 |cons w1 w2 =>
  cases w2
  cases w1 with
  |list ho hall=>exact⟨_,_,ns,rfl,rfl,ho,VP ns _ hall,hlen⟩
theorem gj(l:OpenLaw)(args:List WData):l.row.toRowW.claim.post args (.bool true) args=true :=
 postW_of (r:=l.row.toRowW) (X:=(true==true))
  (show WShape.has [] (.bool true) .bool=true by first|rfl|decide|simp[WShape.has,WShape.arms,WShape.armsAll])
  (show(WTm.eq .res (.lit (.bool true))).value [] { args:=args,res:=some (.bool true),after:=args }=some (.bool (true==true)) from w_eq_bool (w_res rfl) w_lit) rfl
theorem dW{R:WRecords}{cl:Str->Option Addr}{h:Heap}{a:Addr}{ds:List WData}{as:List Addr}(r:ReadsAllW R cl h [.ref a] [.list ds] as)(lo:∀b∈as,(b==sysModules)=false):a≠sysModules:=by
 cases r with
 |cons r1 _ =>
  cases r1 with
  |list _ _ _ _=>exact fun z=>by have:=lo a (by simp);rw[z] at this;simp at this
theorem aK{l:OpenLaw}{n:Nat}{q:Program}{loose:List Str}{XP:(Str->Option Value)->Heap->Prop}{YP:World->Heap->Prop}{d:DefRec}
  (hn:l.most=some n) (hdf:d.params.defaults=[])
  (call:∀(w:World)(s₀ s₁:Shared)(mg mb:Str->Option Value)(fa:Addr)(o:Obj)(pm cd doc:Value)(a:Addr)(vs:List Value)(ns:List Int),
   Ground q loose [] XP w s₀ mg mb s₁.heap->YP w s₁.heap ->
   s₁.heap.get? fa=some o->o.data=.func (docDef d.name d.params d.body d.scope pm cd doc)->s₁.heap.CodeRec cd d.name->mg d.name=some (.ref fa) ->
   s₁.heap.get? a=some { cls:=.type "list",data:=.seq vs.toArray }->IntsAre vs ns->ns.length<=n->a≠sysModules->s₁.gens=#[] ->
   codeAny (model l.prog w) callerA (.call (.ref fa) ⟨[.ref a],[]⟩) (fun r s'=>r=.ok (.ret (.bool true))/\OldK s₁.heap s'.heap/\s'.os=s₁.os/\AllBare s'.gens) s₁) :
  WalkO q loose XP YP l.row.toRowW d [] (fun f vs=>U7t f vs):=by
 intro w s₀ s₁ mg mb G Y fa o pm cd doc dV kV ho hd hcd hD hmg hg args vals as hpre hlay hrd hwl hlo
 obtain rfl:dV=.none:=Dflts.none hD hdf
 obtain rfl:kV=.none:=Dflts.noKw hD
 obtain⟨a,vs,ns,rfl,rfl,hobj,hints,hlen⟩:=gR hn hpre hwl
 refine enter_call (codeAny_mono (call w s₀ s₁ mg mb fa o pm cd doc a vs ns G Y ho (fd_plain hd) hcd hmg hobj hints hlen (dW hrd hlo) hg) fun r s' hq=>?_)
 obtain⟨rfl,h2,h3,h4⟩:=hq
 exact⟨.inl ⟨.bool true,.bool true,[],rfl,fun _=>rfl,.bool true,gj l _,fun _=>⟨U68,fun _ hm=>(nomatch hm)⟩⟩,h2,h3,h4⟩
section
variable{prog:Program}{w:World}{A:Around}{E:Value->Shared->Prop}{s:Shared}{K:Frag}
end
end Att
namespace L2
open PySem PySem.Spec PyProof.Rows
theorem Ob:∀{vs:List Value} {ns:List Int},IntsAre vs ns->Vals (ns.map V.int) vs
 |_,_,.nil=>.nil
 |_,_,.cons n t h=>.cons ⟨t,rfl⟩ (Ob h)
def Only(H:Hp):Prop:=∀b,H b=none∨∃o xs,H b=some (.frz o (.lst xs))
theorem mQ{P:Program}{w:World}{K:U0a}{mg mb:Str->Option Value}{CX:CXT}{k:Nat}{fa a:Addr}{fd:FuncData}{x:Str}{sp:Sp}{s₁:Shared}{vs:List Value}{ns:List Int}
  (KX:K.In s₁.heap) (hns:s₁.heap.Ns mainGlobals mg) (hb:s₁.heap.Ns builtinsNs mb) (hbb:∀x:Str,x≠"__name__"->mb x=bootBuiltins x) (hlim:s₁.heap.NoLimit) (hg:s₁.gens=#[])
  (ha:s₁.heap.get? a=some { cls:=.type "list",data:=.seq vs.toArray }) (hi:IntsAre vs ns) (hl:ns.length<=sizeLine) (hasy:a≠sysModules) (hr:FT k callerA)
  (F:∀base:Heap,K.In base->base.Ns mainGlobals mg->DY P w K mg base CX k fa fd [x] sp) (hbind:∀(s:Shared)(u:Value),BindsTo s fd ⟨[u],[]⟩ [(x,u)])
  (hsp:∀H:Hp,Only H->SqL K H a (ns.map V.int)->sp [.ref a] H (fun v _=>v=.bl true) fun _ _ _=>False)
  (hCX:∀H e s',CX [] H s₁ (fun _ _ _=>False) e s'->False) :
  codeAny (model P w) callerA (.call (.ref fa) ⟨[.ref a],[]⟩) (fun r s'=>r=.ok (.ret (.bool true))/\OldK s₁.heap s'.heap/\s'.os=s₁.os/\AllBare s'.gens) s₁:=by
 have rv:=Ob hi
 have lenV:=hi.length
 -- from an abstract heap in which nothing but the script may be tracked
 have core:∀H:Hp,Only H->SqL K H a (ns.map V.int)->HOk P w H s₁.heap->(∀b,H b≠none->b=a)->(H a≠none->K.lookup a=none) ->
   codeAny (model P w) callerA (.call (.ref fa) ⟨[.ref a],[]⟩) (fun r s'=>r=.ok (.ret (.bool true))/\OldK s₁.heap s'.heap/\s'.os=s₁.os/\AllBare s'.gens) s₁:=by
  intro H hO hS hok hA hK
  have base_of:∀{b:Addr} {o:Obj},s₁.heap.get? b=some o->H b=none->(Pk s₁.heap H).get? b=some o:=fun e n=>n8 e n
  have noA:∀{b:Addr} {o:Obj} {es:Array DictEntry} {ep:Nat},s₁.heap.get? b=some o->o.data=.dict es ep->H b=none:=fun {b o es ep} e d=>by
   cases q:H b with
   |none=>rfl
   |some u =>
    have e':b=a:=hA b (by rw[q];simp)
    subst e'
    rw[ha] at e;cases e
    have d':Data.seq vs.toArray _=Data.dict es ep:=d
    cases d'
  have nsK:∀{b:Addr} {m:Str->Option Value},s₁.heap.Ns b m->(Pk s₁.heap H).Ns b m:=fun {b m} ⟨o,es,ep,e,d,r⟩=>⟨o,es,ep,base_of e (noA e d),d,r⟩
  have hKb:K.In (Pk s₁.heap H):=fun b o e=>base_of (KX b o e) (by
   cases q:H b with
   |none=>rfl
   |some u =>
    have e':b=a:=hA b (by rw[q];simp)
    subst e'
    rw[hK (by rw[q];simp)] at e;cases e)
  have hM:Mod K mg (Pk s₁.heap H):=⟨hKb,nsK hns,⟨mb,nsK hb,hbb⟩,let ⟨mc,h1,h2⟩:=hlim;⟨mc,nsK h1,h2⟩⟩
  have e0:cP P w K mg (Pk s₁.heap H) callerA [] s₁ H:=⟨rfl,hM,fun b o e=>qZ e,U7z (iZ _ _),trivial,fun b hb=>absurd (show b∈([]:List Addr) from hb) (by simp),hok,.of_eq hg,Classical.byContradiction fun z=>hasy (hA _ z).symm⟩
  refine codeAny_mono ((F _ hKb (nsK hns)).run callerA [] s₁ H ⟨[.ref a],[]⟩ [.ref a] [.ref a] _ _ hr e0 (hbind s₁ (.ref a)) (.cons rfl .nil) (hsp H hO hS)) fun r s' h=>?_
  cases r with
  |error e=>exact(hCX H e s' h).elim
  |ok fl =>
   cases fl with
   |next=>exact U4m h
   |brk=>exact U4m h
   |cont=>exact U4m h
   |ret u =>
    obtain⟨v,H',os,bare,un,hok',r',q⟩:=h
    have q':v=.bl true:=q
    subst q'
    obtain rfl:u=U48 true:=r'
    refine⟨rfl,OldK.of_keep fun b o e=>?_,os,bare⟩
    cases q:H b with
    |none=>exact un.keep b o e q (by intro z;exact absurd (show b∈([]:List Addr) from z) (by simp)) (by simp)
    |some u =>
     rcases hO b with z|⟨ob,xs,z⟩
     .rw[q] at z;cases z
     .have z2:=un.frzs b ob _ z
      obtain⟨e1,_⟩:=hok b _ z
      obtain⟨e2,_⟩:=hok' b _ z2
      rw[e] at e1;cases e1
      exact e2
 cases hk:K.lookup a with
 |some o =>
  -- the script is one of the module's own objects
  have e:=KX a o hk
  rw[ha] at e
  cases e
  refine core (fun _=>none) (fun _=>.inl rfl) (.inr ⟨_,vs.toArray,_,hk,rfl,rfl,rfl,by rw[U0x,lenV];exact hl,by simpa using rv⟩) (fun b u z=>by have z':(none:Option HO)=some u:=z;cases z') (fun b z=>absurd rfl z) fun z=>absurd rfl z
 |none =>
  refine core (fun b=>if b=a then some (.frz { cls:=.type "list",data:=.seq vs.toArray } (.lst (ns.map V.int))) else none) (fun b=>?_) (.inl (.inr ⟨{ cls:=.type "list",data:=.seq vs.toArray },if_pos rfl⟩)) (fun b u z=>?_) (fun b z=>?_) fun _=>hk
  .by_cases hb:b=a
   .exact .inr ⟨_,_,if_pos hb⟩
   .exact .inl (if_neg hb)
  .by_cases hb:b=a
   .have z':=(if_pos hb).symm.trans z
    cases z'
    subst hb
    exact⟨ha,by rw[U0i];exact hl,vs,_,rv,ha⟩
   .have z':=(if_neg hb).symm.trans z
    cases z'
  .by_cases hb:b=a
   .exact hb
   .exact absurd (if_neg hb) z
end L2
namespace L2
open PySem PySem.Spec PyProof.Rows
abbrev KOf{K:U0a}{h:Heap}(_:K.In h):U0a:=K
theorem walk_of{l:U6m}{n k:Nat}{q:Program}{loose:List Str}{XP:(Str->Option Value)->Heap->Prop}{YP:World->Heap->Prop}{d:DefRec}{K:Params->U0a}{CX:World->CXT}{sp:World->Sp}{x:Str}
  (hn:l.most=some n) (hn2:n<=sizeLine) (hdf:d.params.defaults=[]) (hr:FT k callerA)
  (hY:∀(w:World)(h:Heap),YP w h->(K w.params).In h)
  (F:∀(w:World)(mg:Str->Option Value)(fa:Addr)(h:Heap),(K w.params).In h->h.Ns mainGlobals mg->mg d.name=some (.ref fa) ->
   ∃fd:FuncData,(∀(s:Shared)(u:Value),BindsTo s fd ⟨[u],[]⟩ [(x,u)]) /\
    ∀base:Heap,(K w.params).In base->base.Ns mainGlobals mg->DY l.prog w (K w.params) mg base (CX w) k fa fd [x] (sp w))
  (hsp:∀(w:World)(H:Hp)(a:Addr)(ns:List Int),ns.length<=n->Only H->SqL (K w.params) H a (ns.map V.int)->sp w [.ref a] H (fun v _=>v=.bl true) fun _ _ _=>False)
  (hCX:∀(w:World)(H:Hp)(s:Shared)(e:Value)(s':Shared),CX w [] H s (fun _ _ _=>False) e s'->False) :
  U7w q loose XP YP l.row.toRowW d [] (fun f vs=>U7t f vs):=by
 refine Att.aK hn hdf fun w s₀ s₁ mg mb fa o pm cd doc a vs ns G Y ho hd hcd hmg hobj hints hlen hasy hg=>?_
 have KX:=hY w _ Y
 obtain⟨fd,hb,hF⟩:=F w mg fa _ KX G.T.g hmg
 exact mQ KX G.T.g G.T.b G.T.builtins G.T.nolimit hg hobj hints (U1c hlen hn2) hasy hr hF hb (fun H hO hS=>hsp w H a ns hlen hO hS) fun H e s'=>hCX w H s₁ e s'
theorem je{l:U6m}{n k:Nat}{q:Program}{loose:List Str}{XP:(Str->Option Value)->Heap->Prop}{YP:World->Heap->Prop}{d:DefRec}{K:Params->U0a}{CX:CXT}{sp:U0a->Sp}{x:Str}
  (hn:l.most=some n) (hn2:n<=sizeLine) (hdf:d.params.defaults=[]) (hr:FT k callerA)
  (hY:∀(w:World)(h:Heap),YP w h->(K w.params).In h)
  (F:∀(w:World)(mg:Str->Option Value)(fa:Addr)(h:Heap),(K w.params).In h->h.Ns mainGlobals mg->mg d.name=some (.ref fa) ->
   ∃fd:FuncData,(∀(s:Shared)(u:Value),BindsTo s fd ⟨[u],[]⟩ [(x,u)]) /\
    ∀base:Heap,(K w.params).In base->base.Ns mainGlobals mg->DY l.prog w (K w.params) mg base CX k fa fd [x] (sp (K w.params)))
  (hsp:∀(K:U0a)(H:Hp)(a:Addr)(ns:List Int),ns.length<=n->Only H->SqL K H a (ns.map V.int)->sp K [.ref a] H (fun v _=>v=.bl true) fun _ _ _=>False)
  (hCX:∀(H:Hp)(s:Shared)(e:Value)(s':Shared),CX [] H s (fun _ _ _=>False) e s'->False) :
  U7w q loose XP YP l.row.toRowW d [] (fun f vs=>U7t f vs) :=
 walk_of (K:=K) (CX:=fun _=>CX) (sp:=fun w=>sp (K w.params)) hn hn2 hdf hr hY F (fun w H a ns h1 h2 h3=>hsp (K w.params) H a ns h1 h2 h3) fun _ H s e s'=>hCX H s e s'
end L2
/- THE LAST THEOREM (shape; LID, My.* are yours):
   My.Adr: a structure of the addresses that your layer names (classes, functions); My.Txt K t: a structure (Prop) of the equations over K;
   My.txt_mk : {K} {implicit addresses ..} (e1 : nsIn K mainGlobals "law" = some (some (.ref f))) (e2 : K.lookup f = some ⟨oc, od, .func (fnOf "law" "law" params body scope dV kV doc pm an cdv ct), sl⟩) (e3 : codeIn K cdv "law" = true) .. : ∃ t, My.Txt K t

set_option maxRecDepth 100000 in
set_option maxHeartbeats 0 in
theorem PySem.Challenge.cw_LID_holds : PySem.Challenge.rw_LID.Holds := by
  w_on; o_law; k_head; (case hw => w_witness2)
  k_fill
  refine L2.walk_of (l := PySem.Challenge.rw_LID) (n := 63) (k := 40) (x := "script") (CX := fun w => ..) (sp := fun _ => My.sp_law) rfl (by decide) rfl ⟨rfl, by decide, by decide⟩ (fun w h Y => PySem.W.kIn_of Y) ?F ?S ?C
  case F =>
    intro w mg fa h KX G hmg
    have T : ∃ t, My.Txt (L2.KOf KX) t := by
      dsimp only [L2.KOf]                          -- K must stand as «<heap const> w.params» for k_is
      refine' My.txt_mk ?e1 ?e2 ?e3 ..
      (case e1 => PySem.W.k_is)                    -- in the order: a name -> its address -> its object -> its parts
      (case e2 => PySem.W.k_is)
      ..
    obtain ⟨t, T⟩ := T
    have e0 := hmg.symm.trans (PySem.W.mg_of KX G T.law)
    cases e0                                       -- fa is the law's own address
    exact ⟨_, fun s u => .of_eq rfl, fun base kb nb => My.law_fn T kb nb⟩     -- if «.of_eq rfl» comes too early: refine' ⟨_, ?b, fun base kb nb => My.law_fn T kb nb⟩; exact fun s u => .of_eq rfl
  case S => exact fun w H a ns hl hO hS => ..
  case C => exact ..
(the tactic k_is has no namespace: write k_is) -/
namespace L2
open PySem PySem.Spec PyProof.Rows
def CN(s:Stmt):Arguments:=match s with
 |.FunctionDef _ a _ _ _ _ _ _ _ _=>a
 |_=>{ posonlyargs:=[],args:=[],vararg:=none,kwonlyargs:=[],kw_defaults:=[],kwarg:=none,defaults:=[] }
def Bw(s:Stmt):List Stmt:=match s with
 |.FunctionDef _ _ b _ _ _ _ _ _ _=>b
 |_=>[]
def Ak(s:Stmt):Scope:=match s with
 |.FunctionDef _ _ _ _ _ _ sc _ _ _=>sc
 |_=>{ kind:=.function,names:=[],isGenerator:=false,isCoroutine:=false }
abbrev CX0:CXT:=fun _ _ _ _ _ _=>False
abbrev E0:XK:=fun _ _ _=>False
theorem yj{X:Cx}:Passes CX0 X E0:=fun _ _ _ _ _ _ _ h=>h.elim
structure Fun(K:U0a)(x qual:Str)(st:Stmt)(f:Addr)(fd:FuncData):Prop where
 ex:∃(oc:Value)(od:Option Addr)(kV doc pm:Value)(an:Option Addr)(cdv ct:Value)(osl:Array (Option Value)),
  fd=U08 x qual (CN st) (Bw st) (Ak st) .none kV doc pm an cdv ct/\K.lookup f=some ⟨oc,od,.func fd,osl⟩/\U05 K cdv qual=true
 kp:U02 K (.ref f)=true
section
variable{P:Program}{w:World}{K:U0a}{mg:Str->Option Value}{base:Heap}
theorem Fun.ok{x qual:Str}{st:Stmt}{f:Addr}{fd:FuncData}{N ps:List Str}{k:Nat}{sp:Sp}(F:Fun K x qual st f fd)(S:CP N ps (Ak st))(len:∀vs H Q E,sp vs H Q E->vs.length=ps.length)
  (hbody:∀(cdv:Value)(A:Around)(outer:List Env)(s:Shared)(H:Hp)(vs:List V)(Q:VK)(E:XK),FT k (A.deeper (envOfC qual (Ak st) s.heap.objs.size f cdv))->sp vs H Q E ->
   ∃t,PSs (Qn CX0 P w K mg base N qual (Ak st) f cdv A outer s H E).nox (Bw st) t/\t { nx:=fun _ H'=>Q .non H',rt:=Q } (start N vs) H):DY P w K mg base CX0 (k+1) f fd ps sp:=by
 obtain⟨oc,od,kV,doc,pm,an,cdv,ct,osl,rfl,lk,hcd⟩:=F.ex
 refine zJ lk hcd S len fun A outer s H vs Q E hr hsp=>?_
 obtain⟨t,h,q⟩:=hbody cdv A outer s H vs Q E hr hsp
 exact⟨t,h.nox,q⟩
theorem Fun.binds{x qual:Str}{st:Stmt}{f:Addr}{fd:FuncData}{ps:List Str}(F:Fun K x qual st f fd)
  (h:∀(kV doc pm:Value)(an:Option Addr)(cdv ct:Value)(us:List Value),us.length=ps.length->bindArgs (U08 x qual (CN st) (Bw st) (Ak st) .none kV doc pm an cdv ct) ⟨us,[]⟩=pure (ps.zip us)):Binds K fd ps []:=by
 obtain⟨oc,od,kV,doc,pm,an,cdv,ct,osl,rfl,lk,hcd⟩:=F.ex
 exact .all (h kV doc pm an cdv ct)
theorem Dc{x qual:Str}{st:Stmt}{f:Addr}{oc:Value}{od an:Option Addr}{osl:Array (Option Value)}{kV doc pm cdv ct:Value}(l:K.lookup f=some ⟨oc,od,.func (U08 x qual (CN st) (Bw st) (Ak st) .none kV doc pm an cdv ct),osl⟩)
  (c:U05 K cdv qual=true) (k:U02 K (.ref f)=true):Fun K x qual st f (U08 x qual (CN st) (Bw st) (Ak st) .none kV doc pm an cdv ct):=⟨⟨oc,od,kV,doc,pm,an,cdv,ct,osl,rfl,l,c⟩,k⟩
end
theorem Uh{A:Around}{k:Nat}(hr:FT k A):A.units+1<cLine:=U3z (Nat.add_le_add_left (by decide:1<=64) _) hr.units
theorem Qy{n:Nat}(h:n<=1000):n<sizeLine:=U3z h (by decide)
section
variable{X:Cx}
theorem pv(i:Nat){x:Str}{pos:Pos}(hN:X.N[i]?=some x:=by rfl)(hv:Vis X.env.scope x:=by first|exact U70 rfl|exact U7e (U70 rfl)|exact U7e (U7e rfl))(hd:(x==("__debug__":Str))=false:=by decide)
  (hcd:(x==("__classdict__":Str))=false:=by decide):PE X (.Name x pos) (u5 i):=fD hN hv hd hcd
end
def Same(H H':Hp):Prop:=∀b o,H b=some o->H' b=some o
theorem Same.refl(H:Hp):Same H H:=fun _ _ h=>h
theorem Same.free{H H':Hp}(e:Same H H'){l:Addr}(h:H' l=Option.none):H l=Option.none:=by
 cases q:H l with
 |none=>rfl
 |some o =>
  rw[e l o q] at h
  cases h
end L2
end
section
namespace SetP
open PySem
def KC(xs:Array Nat):Prop:=xs.toList.Pairwise (·<·)
theorem kO:KC #[]:=U68
theorem dB(n:Nat):KC (Array.range n):=by
 unfold KC
 rw[Array.toList_range]
 exact List.pairwise_lt_range
theorem KC.lt{xs:Array Nat}(h:KC xs){i k:Nat}(hik:i<k)(hk:k<xs.size):xs.getD i 0<xs.getD k 0:=by
 have q:=List.pairwise_iff_getElem.mp h i k (by rw[U1z];omega) (by rw[U1z];exact hk) hik
 rw[U27,U27,U2g (by omega),U2g hk]
 simpa using q
theorem KC.le{xs:Array Nat}(h:KC xs){i k:Nat}(hik:i<=k)(hk:k<xs.size):xs.getD i 0<=xs.getD k 0:=by
 rcases Nat.lt_or_eq_of_le hik with z|z
 .exact U2i (h.lt z hk)
 .rw[z];exact U0u _
theorem Vo{xs:Array Nat}{j:Nat}(h:KC xs):∀(fuel lo hi:Nat),lo<=hi->hi<=xs.size->hi-lo<=fuel->(∀i,i<lo->xs.getD i 0<j)->(∀i,hi<=i->i<xs.size->j<=xs.getD i 0) ->
  U5j xs j fuel lo hi<=xs.size/\(∀i,i<U5j xs j fuel lo hi->xs.getD i 0<j)/\∀i,U5j xs j fuel lo hi<=i->i<xs.size->j<=xs.getD i 0
 |0,lo,hi,h1,h2,h3,h4,h5=>by
  have e:lo=hi:=by omega
  subst e
  unfold U5j
  exact⟨h2,h4,h5⟩
 |fuel+1,lo,hi,h1,h2,h3,h4,h5=>by
  unfold U5j
  by_cases hlt:lo<hi
  .rw[if_pos hlt]
   have hm:(lo+hi)/2<hi:=by omega
   have hl:lo<=(lo+hi)/2:=by omega
   have e:xs.getD ((lo+hi)/2) j=xs.getD ((lo+hi)/2) 0:=by
    rw[U27,U27,U2g (by omega)]
    rfl
   dsimp only
   rw[e]
   by_cases hc:xs.getD ((lo+hi)/2) 0<j
   .rw[if_pos hc]
    exact Vo h fuel _ hi (by omega) h2 (by omega) (fun i hi'=>U3z (h.le (by omega) (by omega)) hc) h5
   .rw[if_neg hc]
    exact Vo h fuel lo _ (by omega) (by omega) (by omega) h4 (fun i hi' hs=>U1c (Nat.le_of_not_lt hc) (h.le hi' hs))
  .rw[if_neg hlt]
   have e:lo=hi:=by omega
   subst e
   exact⟨h2,h4,h5⟩
theorem Qf{xs:Array Nat}{j:Nat}(h:KC xs):U1s xs j<=xs.size/\(∀i,i<U1s xs j->xs.getD i 0<j)/\∀i,U1s xs j<=i->i<xs.size->j<=xs.getD i 0:=by
 unfold U1s
 exact Vo h xs.size 0 xs.size (U3a _) (U0u _) (by omega) (fun i hi=>absurd hi (U7j _)) fun i h1 h2=>absurd h2 (by omega)
theorem VL{xs:Array Nat}(h:KC xs){i:Nat}(hi:i<xs.size):U1s xs (xs.getD i 0+1)=i+1:=by
 obtain⟨a,b,c⟩:=Qf (j:=xs.getD i 0+1) h
 generalize U1s xs (xs.getD i 0+1)=r at a b c
 rcases Nat.lt_trichotomy r (i+1) with z|z|z
 .have:=c i (by omega) hi;omega
 .exact z
 .have h1:=b (i+1) z
  have h2:xs.getD i 0<xs.getD (i+1) 0:=h.lt (U4x i) (by omega)
  omega
theorem VJ{xs:Array Nat}(h:KC xs):U1s xs 0=0:=by
 obtain⟨a,b,c⟩:=Qf (j:=0) h
 generalize U1s xs 0=r at a b c
 cases r with
 |zero=>rfl
 |succ r=>exact absurd (b 0 (by omega)) (U7j _)
theorem Zi{xs:Array Nat}{j:Nat}(h:KC xs)(hn:xs[U1s xs j]?≠some j):KC (SetTable.insertAt xs (U1s xs j) j):=by
 obtain⟨a,b,c⟩:=Qf (j:=j) h
 unfold KC
 rw[SetTable.toList_insertAt]
 generalize U1s xs j=p at a b c hn
 have getT:∀i,i<xs.size->xs.toList[i]?=some (xs.getD i 0):=fun i hi=>by
  rw[U3i,U27,U2g hi];rfl
 refine U4o.mpr ⟨h.sublist (U67 _ _),U2f.mpr ⟨fun y hy=>?_,h.sublist (List.drop_sublist _ _)⟩,fun x hx y hy=>?_⟩
 .obtain⟨i,hi⟩:=U4e.mp hy
  rw[List.getElem?_drop] at hi
  have hlt:p+i<xs.size:=by
   have:=(U0o.mp hi).1
   rwa [U1z] at this
  rw[getT _ hlt] at hi
  have e:=U03 hi
  have h1:=c (p+i) (U1m _ _) hlt
  rw[←e]
  rcases Nat.lt_or_eq_of_le h1 with z|z
  .exact z
  .exfalso
   have hp:p<xs.size:=by omega
   have h2:=c p (U0u _) hp
   have h3:=h.le (U1m p i) hlt
   have h4:xs.getD p 0=j:=by omega
   apply hn
   have:=getT p hp
   rw[U3i] at this
   rw[this,h4]
 .have hxj:x<j:=by
   obtain⟨i,hi⟩:=U4e.mp hx
   have hip:i<p:=by
    have:=(U0o.mp hi).1
    rw[U2j] at this;omega
   rw[List.getElem?_take_of_lt hip] at hi
   have hlt:i<xs.size:=by
    have:=(U0o.mp hi).1
    rwa [U1z] at this
   rw[getT _ hlt] at hi
   rw[←U03 hi]
   exact b i hip
  rcases U0t.mp hy with z|z
  .rw[z];exact hxj
  .obtain⟨i,hi⟩:=U4e.mp z
   rw[List.getElem?_drop] at hi
   have hlt:p+i<xs.size:=by
    have:=(U0o.mp hi).1
    rwa [U1z] at this
   rw[getT _ hlt] at hi
   rw[←U03 hi]
   exact U0w hxj (c (p+i) (U1m _ _) hlt)
def Off(t:SetTable)(j:Nat):Prop:=t.place[U1s t.place j]?≠some j
theorem SN{t:SetTable}{j:Nat}(h:∀i,t.slot j≠.live i):Off t j:=fun e=>by
 apply h (U1s t.place j)
 unfold SetTable.slot
 dsimp only
 rw[e]
 simp
theorem R0{t:SetTable}{f:Nat->Int}{h:Int}{j:Nat}{d:Option Nat}:∀(fuel:Nat)(p:SetTable.Probe),(∀d,p.dummy=some d->Off t d)->U69 t f h fuel p=some (.empty j d)->Off t j/\∀d',d=some d'->Off t d'
 |0,_,_,e=>by unfold U69 at e;cases e
 |fuel+1,p,hp,e=>by
  unfold U69 at e
  cases hs:t.slot p.j with
  |empty =>
   rw[hs] at e
   have e':=U03 e
   cases e'
   exact⟨SN (fun i z=>by rw[hs] at z;exact SetTable.Slot.noConfusion z),hp⟩
  |dummy =>
   rw[hs] at e
   refine R0 fuel _ (fun d' hd=>?_) e
   have hd':(t.advance { p with dummy:=some p.j }).dummy=some p.j:=by
    unfold SetTable.advance;dsimp only;split<;>rfl
   rw[hd'] at hd
   cases hd
   exact SN fun i z=>by rw[hs] at z;cases z
  |live i =>
   rw[hs] at e
   dsimp only at e
   split at e
   .cases e
   .refine R0 fuel _ (fun d' hd=>hp d' ?_) e
    rw[←hd]
    unfold SetTable.advance
    split<;>rfl
theorem ZV{t:SetTable}{h:Int}{j:Nat}{b:Bool}(e:t.freeSlot h=some (j,b)):Off t j:=by
 unfold SetTable.freeSlot at e
 split at e
 .rename_i j' d q
  unfold U6w at q
  obtain⟨o1,o2⟩:=R0 _ _ (fun d hd=>by unfold SetTable.probeStart at hd;cases hd) q
  have e':=U03 e
  cases d with
  |none=>cases e';exact o1
  |some d=>cases e';exact o2 _ rfl
 .cases e
def TabOk(L:Bool)(t:SetTable):Prop:=KC t.place/\t.led=L
theorem TabOk.fresh(L:Bool)(f m:Nat):TabOk L (.fresh f m L):=⟨kO,rfl⟩
theorem TabOk.standIn{L:Bool}{t:SetTable}(h:TabOk L t)(n:Nat):TabOk L (t.standIn n):=⟨dB n,h.2⟩
theorem TabOk.orStandIn{L:Bool}{t:SetTable}(h:TabOk L t)(n:Nat):TabOk L (t.orStandIn n):=by
 unfold SetTable.orStandIn
 split
 .exact h
 .exact h.standIn n
theorem TabOk.pG{L:Bool}{t:SetTable}(h:TabOk L t)(b:Bool):TabOk L { t with plain:=b }:=h
theorem dZ{L:Bool}{t:SetTable}(h:TabOk L t)(es:Array (Int×Value))(k:Int)(x:Value):TabOk L (layNew t es k x).2.1:=by
 unfold layNew
 split
 .rename_i slot wasDummy q
  exact TabOk.orStandIn (t:=(t.put slot).1) ⟨Zi h.1 (ZV q),h.2⟩ _
 .exact h.standIn _
theorem Tj{α:Type}(g:Nat->Option α):∀l:List Nat,List.Sublist ((l.filterMap fun j=>(g j).map (j,·)).map (·.1)) l
 |[]=>List.Sublist.slnil
 |j::r=>by
  rw[U5r]
  cases hg:g j with
  |none=>exact(Tj g r).cons j
  |some a=>exact(Tj g r).cons_cons j
theorem Z7{L:Bool}{t:SetTable}(h:TabOk L t)(es:Array (Int×Value))(n:Nat):TabOk L (relayAll t es n).2.1:=by
 unfold relayAll
 split
 .rename_i t' order q
  dsimp only
  split
  .unfold SetTable.relaid SetTable.laid at q
   cases ho:SetTable.layClean (SetTable.sizeAbove n-1) (es.map (·.1)) with
   |none=>rw[ho] at q;cases q
   |some owner =>
    rw[ho] at q
    have q':=U03 q
    cases q'
    refine⟨?_,h.2⟩
    show U6f (·<·) (List.toArray _).toList
    exact List.pairwise_lt_range.sublist (Tj (fun j=>owner.getD j none) _)
  .exact h.standIn _
 .exact h.standIn _
end SetP
end
section
set_option maxRecDepth 100000
namespace SetP
open PySem PyProof.Rows
abbrev O9(w:World):Bool:=!(w.params.followText "set-order")
structure SetT(prog:Program)(w:World)(h:Heap)(a:Addr)(ds:List Int):Prop where
 nd:ds.Nodup
 ex:∃o es ep t,h.get? a=some o/\o.ExactSet/\o.data=.set es ep t/\ElemsOf (intKind prog w) es.toList/\(∀k,decide (k∈ds)=true↔∃e∈es.toList,(intKind prog w).is k e.2=true) /\
  es.size<scanBound/\t.fits es.size=true/\es.size=ds.length/\TabOk (O9 w) t
def Gg(ds:List Int)(k:Int):List Int:=if k∈ds then ds else ds++[k]
theorem Ua{ds:List Int}(h:ds.Nodup)(k:Int):(Gg ds k).Nodup:=by
 unfold Gg
 split
 .exact h
 .rename_i hk
  exact List.nodup_append.mpr ⟨h,by simp,fun a ha b hb=>by rw[U01] at hb;subst hb;rintro rfl;exact hk ha⟩
theorem WY{ds:List Int}{k j:Int}:j∈Gg ds k↔j∈ds∨j=k:=by
 unfold Gg
 split
 .rename_i hk
  exact⟨.inl,fun z=>z.elim id fun e=>e ▸ hk⟩
 .rw[U2c,U01]
theorem jH(ds:List Int)(k:Int):(Gg ds k).length<=ds.length+1:=by
 unfold Gg
 split
 .omega
 .rw[U0s,U3y];omega
section
variable{prog:Program}{w:World}{A:Around}{E:Value->Shared->Prop}{s:Shared}
theorem SetT.sameBut{h h':Heap}{a:Addr}{ds:List Int}(x:SetT prog w h a ds)(hs:∀o,h.get? a=some o->h'.get? a=some o):SetT prog w h' a ds:=by
 obtain⟨nd,o,es,ep,t,e,r⟩:=x
 exact⟨nd,o,es,ep,t,hs o e,r⟩
theorem SetT.stored{h:Heap}{a:Addr}{o:Obj}{es es':Array (Int×Value)}{ep:Nat}{t t':SetTable}{ds:List Int}(ho:h.get? a=some o)(hex:o.ExactSet)(hd:o.data=.set es ep t)(nd:ds.Nodup)
  (hel:ElemsOf (intKind prog w) es'.toList) (hm:∀k,decide (k∈ds)=true↔∃e∈es'.toList,(intKind prog w).is k e.2=true) (hb:es'.size<scanBound) (hf:t'.fits es'.size=true) (hn:es'.size=ds.length) (ht:TabOk (O9 w) t') :
  (h.update a (Obj.putSet es' t')).get? a=some { o with data:=.set es' (ep+1) t' }/\SetT prog w (h.update a (Obj.putSet es' t')) a ds:=by
 obtain⟨g,_⟩:=SetOf_store (knd:=intKind prog w) ho hex hd hel hm hb hf
 exact⟨g,nd,_,es',ep+1,t',g,hex,rfl,hel,hm,hb,hf,hn,ht⟩
theorem Ww{g:Bool->Sem Unit}(hg:∀(b:Bool)(s₁:Shared)(Q':Unit->Shared->Prop),Q' () s₁->wpAny (model prog w) A (g b) Q' E s₁)
  {a:Addr} {o:Obj} {es es1:Array (Int×Value)} {ep:Nat} {t t2:SetTable} {ds:List Int} (ho:s.heap.get? a=some o) (hex:o.ExactSet) (hd:o.data=.set es ep t) (nd:ds.Nodup)
  (hel:ElemsOf (intKind prog w) es1.toList) (hm:∀k,decide (k∈ds)=true↔∃e∈es1.toList,(intKind prog w).is k e.2=true) (hb:es1.size<scanBound) (hf:t2.fits es1.size=true) (hn:es1.size=ds.length) (ht:TabOk (O9 w) t2)
  {dummy:Bool} {R:Option Bool->Shared->Prop} (h:∀h',U07 a s.heap h'->SetT prog w h' a ds->R (some true) { s with heap:=h' }) :
  wpAny (model prog w) A (do
    storeSet a es1 t2
    if (!dummy&&t2.tooFull)=true then do
      g (relayAll t2 es1 (U4t es1.size)).2.2
      storeSet a (relayAll t2 es1 (U4t es1.size)).1 (relayAll t2 es1 (U4t es1.size)).2.1
      pure (some true)
     else pure (some true)) R E s:=by
 obtain⟨g1,T1⟩:=SetT.stored (prog:=prog) (w:=w) ho hex hd nd hel hm hb hf hn ht
 have sb1:=U10 s.heap a (Obj.putSet es1 t2)
 refine U0 (wpAny_storeSet_of ho hd ?_ (fits_of_scanBound hb))
 split
 .have p:=relayAll_perm t2 es1 (U4t es1.size)
  have f:=relayAll_fits t2 es1 (U4t es1.size)
  have tb:=Z7 ht es1 (U4t es1.size)
  generalize relayAll t2 es1 (U4t es1.size)=RR at p f tb
  obtain⟨es2,t3,gave⟩:=RR
  have sz:es2.size=es1.size:=by simpa using p.length_eq
  have T2:=SetT.stored (prog:=prog) (w:=w) (es':=es2) (t':=t3) g1 hex rfl nd (hel.perm p) (fun k=>(hm k).trans ⟨fun⟨e,he,q⟩=>⟨e,p.mem_iff.mpr he,q⟩,fun⟨e,he,q⟩=>⟨e,p.mem_iff.mp he,q⟩⟩)
   (by rw[sz];exact hb) f (by rw[sz];exact hn) tb
  refine U0 (hg _ _ _ (U0 (wpAny_storeSet_of g1 rfl ?_ (fits_of_scanBound (by show es2.size<_;rw[sz];exact hb)))))
  exact U0d (h _ (sb1.trans (U10 _ a _)) T2.2)
 .exact U0d (h _ sb1 T1)
theorem aL{a:Addr}{ds:List Int}{k:Int}{t0:Tok}{Q:Bool->Shared->Prop}(hS:SetT prog w s.heap a ds)(room:ds.length+1<scanBound)
  (h:∀b h',U07 a s.heap h'->SetT prog w h' a (Gg ds k)->Q b { s with heap:=h' }):wpAny (model prog w) A (setAddHashed a (.int k t0) ((intKind prog w).hash k)) Q E s:=by
 obtain⟨nd,o,es,ep,t,ho,hex,hd,hel,hm,hb,hf,hn,ht⟩:=hS
 have hkey:(intKind prog w).is k (.int k t0)=true:=intKind_is prog w k t0
 have hsc:(U3x k t0).scannable=true:=rfl
 unfold setAddHashed setAddHashedIn
 refine U19 (U0 (U4k ho hd hf ?_))
 dsimp only
 rw[byScan_of hsc hb hel,if_pos rfl]
 unfold setAddByScan
 refine U0 (U0 (U4p (U0 (wpAny_setScan_of hkey ho hd hf hel ?_))))
 cases hr:List.findIdx? (fun e=>(intKind prog w).is k e.2) es.toList with
 |some j =>
  obtain⟨hj,hpj,_⟩:=List.findIdx?_eq_some_iff_getElem.mp hr
  have hk:k∈ds:=of_decide_eq_true ((hm k).mpr ⟨es.toList[j],U3k hj,hpj⟩)
  refine U0d (U0d ?_)
  have q:=h false s.heap (U07.refl a s.heap) (by
   have e:Gg ds k=ds:=by unfold Gg;rw[if_pos hk]
   rw[e];exact⟨nd,o,es,ep,t,ho,hex,hd,hel,hm,hb,hf,hn,ht⟩)
  cases s;exact q
 |none =>
  have hk:k ∉ ds:=fun z=>by
   obtain⟨e,he,hp⟩:=(hm k).mp (decide_eq_true z)
   have q:=List.findIdx?_eq_none_iff.mp hr e he
   rw[hp] at q;cases q
  have eA:Gg ds k=ds++[k]:=by unfold Gg;rw[if_neg hk]
  have p:=layNew_perm t es ((intKind prog w).hash k) (.int k t0)
  have f:=layNew_fits t es ((intKind prog w).hash k) (.int k t0)
  have tb:=dZ ht es ((intKind prog w).hash k) (.int k t0)
  generalize layNew t es ((intKind prog w).hash k) (.int k t0)=LL at p f tb
  obtain⟨es1,t1,dummy,gave⟩:=LL
  dsimp only at p f tb ⊢
  rw[Array.toList_push] at p
  have hel1:ElemsOf (intKind prog w) es1.toList:=(hel.push hkey hsc).perm p
  have sz:es1.size=(Gg ds k).length:=by
   have q:=p.length_eq
   rw[U1z,U0s,U3y,U1z] at q
   rw[q,eA,U0s,U3y,hn]
  have hm1:∀j,decide (j∈Gg ds k)=true↔∃e∈es1.toList,(intKind prog w).is j e.2=true:=fun j=>by
   rw[←mem_push_iff (S:=fun k'=>decide (k'∈ds)) hkey hm p j]
   simp only[decide_eq_true_eq,U6n,WY]
  have hb1:es1.size<scanBound:=by rw[sz,eA,U0s,U3y];exact room
  refine U0 ?_
  have gw:∀(b:Bool)(s₁:Shared)(Q':Unit->Shared->Prop),Q' () s₁->wpAny (model prog w) A (match b with|true=>rule "set.scan.the-table-gave-way"|false=>pure ()) Q' E s₁:=fun b s₁ Q' q=>by
   cases b
   .exact U0d q
   .exact U4p q
  refine gw _ _ _ ?_
  split
  .refine U0 ?_
   rw[hashByValue_scannable 8 hsc]
   refine U0d (Ww gw ho hex hd (Ua nd k) hel1 hm1 hb1 ?_ sz ?_ fun h' sb T=>U0d (h true h' sb T))
   .split
    .exact f
    .exact SetTable.fits_plain_off f
   .split
    .exact tb
    .exact tb.pG false
  .refine U0 (U0d ?_)
   rw[if_pos rfl]
   exact Ww gw ho hex hd (Ua nd k) hel1 hm1 hb1 f sz tb fun h' sb T=>U0d (h true h' sb T)
end
end SetP
end
section
set_option maxRecDepth 100000
namespace SetP
open PySem PyProof.Rows
theorem Wi:entryFor table "set.update.loop"=some Builtin.«set.update.loop»:=entryFor_of_tree (by kernel_rfl)
theorem R6:plainId "set.update.loop"=true:=by decide +kernel
def once(ns:List Int):List Int:=ns.foldl Gg []
theorem iB(ns:List Int)(k:Int):once (ns++[k])=Gg (once ns) k:=by unfold once;rw[U36];rfl
theorem Nk:∀(ns:List Int),(once ns).Nodup/\(once ns).length<=ns.length/\∀j,j∈once ns↔j∈ns:=by
 intro ns
 have all:∀(ns ds:List Int),ds.Nodup->(ns.foldl Gg ds).Nodup/\(ns.foldl Gg ds).length<=ds.length+ns.length/\∀j,j∈ns.foldl Gg ds↔j∈ds∨j∈ns:=by
  intro ns
  induction ns with
  |nil=>intro ds h;exact⟨h,by simp,fun j=>by simp⟩
  |cons n r ih =>
   intro ds h
   obtain⟨a,b,c⟩:=ih (Gg ds n) (Ua h n)
   refine⟨a,?_,fun j=>?_⟩
   .have:=jH ds n
    rw[U16,U0g];omega
   .rw[U16,c j,WY,U0t]
    constructor
    .rintro((z|z)|z)
     .exact .inl z
     .exact .inr (.inl z)
     .exact .inr (.inr z)
    .rintro(z|z|z)
     .exact .inl (.inl z)
     .exact .inl (.inr z)
     .exact .inr z
 obtain⟨a,b,c⟩:=all ns [] List.nodup_nil
 exact⟨a,by rw[U1a,Nat.zero_add] at b;exact b,fun j=>by rw[show once ns=ns.foldl Gg [] from rfl,c j];simp⟩
section
variable{prog:Program}{w:World}{A:Around}{E:Value->Shared->Prop}{s:Shared}
theorem jg{R:Result->Shared->Prop}{S I l:Addr}{items:Array Value}{ns:List Int}(hh:A.handled=none)(hi:IntsAre items.toList ns)(hb:items.size+1<scanBound)(hSI:S≠I)(hSl:S≠l)(hIl:I≠l) :
  ∀(k i:Nat)(s:Shared),items.size-i=k->i<=items.size->s.heap.IsListIter I l i->s.heap.IsList l items->SetT prog w s.heap S (once (ns.take i)) ->
   (∀h' tk,(∀b o,b≠S->b≠I->s.heap.get? b=some o->h'.get? b=some o)->SetT prog w h' S (once ns)->R (.ok (.ret .none)) { s with heap:=h',toks:=tk }) ->
   codeAny (model prog w) A (.builtin "set.update.loop" ⟨[.ref S,.ref I],[]⟩) R s:=by
 have hlen:items.size=ns.length:=by have:=hi.length;simpa using this
 intro k
 induction k with
 |zero =>
  intro i s hk hi' it il T hR
  have e:i=items.size:=by omega
  subst e
  refine codeAny_builtin Wi ?_
  rw[U2l R6 _]
  show wpAny _ A.in1 (pyNext (.ref I) >>= _) _ _ s
  refine U0 (wpAny_pyNext_list_end hh it il (by simp) fun h' eb=>?_)
  show wpAny _ A.in1 (ret U2h) _ _ _
  refine U0d (hR h' s.toks (fun b o _ hbI q=>eb b o hbI q) ?_)
  rw[U6d (by omega)] at T
  exact T.sameBut fun o q=>eb S o hSI q
 |succ k ih =>
  intro i s hk hi' it il T hR
  have hlt:i<items.size:=by omega
  refine codeAny_builtin Wi ?_
  rw[U2l R6 _]
  show wpAny _ A.in1 (pyNext (.ref I) >>= _) _ _ s
  refine U0 (wpAny_pyNext_list_item it il (x:=items[i]) (by simp[hlt]) fun h1 it1 sb1=>?_)
  have hn:i<ns.length:=by omega
  obtain⟨t0,hv⟩:∃t0,items[i]=.int ns[i] t0:=by
   have all:∀{vs:List Value} {ms:List Int},IntsAre vs ms->∀(j:Nat)(h1:j<vs.length)(h2:j<ms.length),∃t0,vs[j]=.int ms[j] t0:=by
    intro vs ms r
    induction r with
    |nil=>intro j h1;simp at h1
    |cons n t _ ih=>intro j h1 h2;cases j with
     |zero=>exact⟨t,rfl⟩
     |succ j=>exact ih j (by simpa using h1) (by simpa using h2)
   have q:=all hi i (by simpa using hlt) hn
   simpa using q
  rw[hv]
  show wpAny _ A.in1 (holding [U3x ns[i] t0] (setAdd S (.int ns[i] t0)) >>= _) _ _ _
  have T1:SetT prog w h1 S (once (ns.take i)):=T.sameBut fun o q=>(sb1.2 S hSI).trans q
  have il1:h1.IsList l items:=by
   obtain⟨o,ho,r⟩:=il
   exact⟨o,(sb1.2 l hIl.symm).trans ho,r⟩
  refine U0 (U19 ?_)
  unfold setAdd
  refine U19 (U0 ((intKind prog w).pyHash (k:=ns[i]) (intKind_is _ _ _ _) ?_))
  have room:(once (ns.take i)).length+1<scanBound:=by
   have q:=(Nk (ns.take i)).2.1
   rw[U2j] at q
   omega
  refine aL (s:={ s with heap:=h1,toks:=s.toks+1 }) T1 room fun b h2 sb2 T2=>?_
  have T2':SetT prog w h2 S (once (ns.take (i+1))):=by
   rw[List.take_succ_eq_append_getElem hn,iB];exact T2
  refine U0d ⟨plainId_quiet R6 _,ih (i+1) _ (by omega) hlt ?_ ?_ T2' fun h' tk hk' T'=>?_⟩
  .obtain⟨o,ho,r⟩:=it1
   exact⟨o,(sb2.2 I hSI.symm).trans ho,r⟩
  .obtain⟨o,ho,r⟩:=il1
   exact⟨o,(sb2.2 l hSl.symm).trans ho,r⟩
  .exact hR h' tk (fun c o hcS hcI q=>hk' c o hcS hcI ((sb2.2 c hcS).trans ((sb1.2 c hcI).trans q))) T'
theorem yu(a:Value){Q₁:Value->Shared->Prop}
  (h:Q₁ (.ref s.heap.objs.size) { s with heap:=s.heap.push { cls:=.type "set",dict:=none,data:=.set #[] 0 (.fresh 0 0 (O9 w)) } }) :
  codeAny (model prog w) A (.call (.builtin "set.__new__") ⟨[.type "set",a],[]⟩) (wants Q₁ E) s:=by
 refine codeAny_of_tree ?_
 have hck:checkBuiltinCall "set.__new__" ⟨[.type "set",a],[]⟩=pure ():=by kernel_rfl
 show wpAny _ A.in1 (checkBuiltinCall "set.__new__" ⟨[.type "set",a],[]⟩ >>= fun _=>again (.builtin "set.__new__" ⟨[.type "set",a],[]⟩)) _ _ s
 rw[hck]
 refine U0 (U0d (U0d ⟨plainId_quiet F.plain_set_new _,codeAny_builtin F.entry_set_new ?_⟩))
 rw[U2l F.plain_set_new _]
 have hsub:=sub_set_self
 unfold Builtin.«set.__new__» Builtin.Frozenset.newClass
 obtain⟨hp,g,d,tk,os⟩:=s
 dsimp only
 wp_walk
 refine U4y (U0d ?_)
 simp only[newObj]
 exact U0 (wpAny_alloc (U0d (U0d h)))
theorem n6{M:Model}{self a:Value}{Q:Unit->Shared->Prop}(hT:s.TypeIs self "set")(hQ:Q () s):wpAny M A (checkBuiltinCall "set.__init__" ⟨[self,a],[]⟩) Q E s:=by
 simp only[checkBuiltinCall,kind_set_init,split_set_init,sig_set_init]
 refine U0 (U4z hT sub_set_self ?_)
 simp only[U46,U1t,if_false]
 unfold Bind.checkArgs
 dsimp only
 refine U0 (m:=Bind.printed "set" true _ _) (printed_name (by decide) ?_)
 refine U0 (m:=Bind.printed "*" false _ _) (printed_star (self:=self) rfl hT fun short=>?_)
 have one:(if (U57.self==U57.none)=true then [self,a].length else [self,a].length-1)=1:=by
  have z:(U57.self==U57.none)=false:=by decide
  simp[z]
 rw[one]
 simp only[U1j]
 have z1:(U4j==U4j)=true:=by decide
 have z2:(U4j==U4a.posOrKw)=false:=by decide
 have z3:(U4j==U4a.varPos)=false:=by decide
 have fine:Bind.check ⟨.positional,"set","*",.self,[⟨"iterable",.posOnly,false⟩]⟩ "set" short 1 []=pure ():=by
  simp[Bind.check,Bind.checkCount,Bind.isPositional,z1,z2,z3]
 rw[fine]
 exact U0d hQ
set_option maxHeartbeats 3200000 in
theorem pQ{l:Addr}{items:Array Value}{ns:List Int}{Q:Value->Shared->Prop}(hh:A.handled=none)(hl:s.heap.IsList l items)(hi:IntsAre items.toList ns)(hb:items.size+1<scanBound)
  (h:∀h' tk,(∀b o,s.heap.get? b=some o->h'.get? b=some o)->SetT prog w h' s.heap.objs.size (once ns)->Q (.ref s.heap.objs.size) { s with heap:=h',toks:=tk }) :
  wpAny (model prog w) A (call (.type "set") [.ref l]) Q E s:=by
 have hmade:=U40.made
 have hsub:=U40.sub
 have h1:=U40.notType
 have h2:=U40.canCreate
 have hct:checkTypeCall "set" ⟨[.ref l],[]⟩=pure ():=by kernel_rfl
 obtain⟨c,tl,hmro⟩:=U40.mro
 refine wpAny_call (codeAny_of_tree ?_)
 show wpAny _ _ (callAny (.type "set") ⟨[.ref l],[]⟩) _ _ s
 refine U0d ⟨Code.quiet_builtin _ (by decide +kernel),codeAny_builtin F.entry_type_call ?_⟩
 rw[Around.under_plain (weight_type_call_type "set" [.ref l] []) rfl]
 repeat (any_goals (first|assumption|wp_step))
 refine codeAny_mono (yu (.ref l) (E:=E) (Q₁:=fun obj s₁=>obj=.ref s.heap.objs.size/\s₁={ s with heap:=s.heap.push { cls:=.type "set",dict:=none,data:=.set #[] 0 (.fresh 0 0 (O9 w)) } }) ⟨rfl,rfl⟩) fun r s₁ hr=>?_
 cases r with
 |error e=>exact hr
 |ok fl =>
  cases fl with
  |ret obj =>
   obtain⟨rfl,rfl⟩:=hr
   generalize hg1:s.heap.push { cls:=.type "set",dict:=none,data:=.set #[] 0 (.fresh 0 0 (O9 w)) }=g1
   have e1:g1.get? s.heap.objs.size=some { cls:=.type "set",dict:=none,data:=.set #[] 0 (.fresh 0 0 (O9 w)) }:=hg1 ▸ U0v _ rfl
   have k1:∀b o,s.heap.get? b=some o->g1.get? b=some o:=fun b o q=>hg1 ▸ U0c _ q
   have z1:g1.objs.size=s.heap.objs.size+1:=by rw[←hg1,U18]
   have hT:U47 { s with heap:=g1 } (.ref s.heap.objs.size) "set":=⟨_,e1,rfl⟩
   have hli:=U40.init.lookup
   have hbi:=U40.init.bind (.ref s.heap.objs.size)
   repeat (any_goals (first|assumption|wp_step))
   refine codeAny_mono (codeAny_call_builtin (R:=wants (fun r s₂=>r=.none/\∃h' tk,s₂={ s with heap:=h',toks:=tk }/\(∀b o,s.heap.get? b=some o->h'.get? b=some o)/\SetT prog w h' s.heap.objs.size (once ns)) E)
    U40.init.plain F.entry_set_init (n6 hT ?_)) fun r₂ s₂ hr₂=>?_
   .obtain⟨ol,hol,hcl,nl,hdl⟩:=hl
    obtain⟨ocls,odict,odata,oslots⟩:=ol
    simp only at hcl hdl
    subst hcl hdl
    have q1:g1.get? l=some { cls:=.type "list",dict:=odict,data:=.seq items nl,slots:=oslots }:=k1 _ _ hol
    have il:g1.IsList l items:=⟨_,q1,rfl,nl,rfl⟩
    have hlS:l<s.heap.objs.size:=U0m hol
    have hs1:isSubtype (.type "list") (.type "set")=pure false:=by rw[isSubtype_type];kernel_rfl
    have hs2:isSubtype (.type "list") (.type "frozenset")=pure false:=by rw[isSubtype_type];kernel_rfl
    have hs3:(U23 "list"==U23 "dict")=false:=by decide
    unfold Builtin.«set.__init__» noKeywords Builtin.Frozenset.updateFrom
    generalize hPI:pyIter=PI
    wp_walk
    subst hPI
    refine U5k il (U0 (U7q ?_))
    have n1:s.heap.objs.size≠g1.objs.size:=by rw[z1];exact U0y (U4x _)
    have n2:s.heap.objs.size≠l:=U1q hlS
    have n3:g1.objs.size≠l:=by rw[z1];exact U1q (U24 hlS)
    refine jg (l:=l) (items:=items) (by simpa using hh) hi hb n1 n2 n3 (items.size-0) 0 _ (by omega) (U3a _) ⟨_,U0v _ rfl,rfl,rfl⟩ ?_ ?_ ?_
    .obtain⟨o,ho,r⟩:=il
     exact⟨o,U0c _ ho,r⟩
    .refine⟨List.nodup_nil,_,#[],0,_,U0c _ e1,⟨rfl,rfl,rfl⟩,rfl,fun e he=>by simp at he,fun k=>by simp[once],by decide,by rfl,rfl,TabOk.fresh _ _ _⟩
    .intro h' tk hk T
     show wpAny _ _ _ _ _ _
     refine U0d ?_
     show wpAny _ _ (ret U2h) _ _ _
     refine U0d ⟨rfl,h',tk,rfl,fun b o q=>?_,T⟩
     have hb':=U0m q
     exact hk b o (U0y hb') (by rw[z1];exact U0y (U24 hb')) (U0c _ (k1 b o q))
   .cases r₂ with
    |error e=>exact hr₂
    |ok fl₂ =>
     cases fl₂ with
     |ret r =>
      obtain⟨rfl,h',tk,rfl,hk,T⟩:=hr₂
      repeat (any_goals (first|assumption|wp_step))
      exact h h' tk hk T
     |_=>exact hr₂.elim
  |_=>exact hr.elim
end
end SetP
end
section
set_option maxRecDepth 100000
namespace SetP
open PySem PyProof.Rows
theorem Qa{α:Type}:∀(l:List α)(i:Nat)(h:i<l.length),(l[i]::l.eraseIdx i).Perm l
 |[],i,h=>absurd h (by simp)
 |x::r,0,_=>U6x _
 |x::r,i+1,h=>(U4s.swap x _ _).trans (U7r x (Qa r i (by simpa using h)))
theorem SM:∀{ds ns:List Int},ds.Nodup->(∀k,k∈ds->k∈ns)->ns.length<=ds.length->ns.Perm ds
 |[],ns,_,_,h=>by
  have e:ns=[]:=U3r.mp (by simpa using h)
  rw[e]
 |d::r,ns,nd,sub,h=>by
  have hd:d∈ns:=sub d U0l
  have p:=List.perm_cons_erase hd
  obtain⟨h1,h2⟩:=U4c.mp nd
  refine p.trans (U7r d (SM h2 (fun k hk=>?_) ?_))
  .have hne:k≠d:=fun e=>h1 (e ▸ hk)
   exact(List.mem_erase_of_ne hne).mpr (sub k (U0p _ hk))
  .rw[List.length_erase_of_mem hd]
   rw[U0g] at h
   omega
theorem bC{α:Type}(next:Nat->Nat):∀(fuel k:Nat)(left:List α)(out:Array α),left.length=fuel->(pickOrder.go next fuel k left out).toList.Perm (out.toList++left)
 |0,_,left,out,h=>by
  have e:left=[]:=U3r.mp h
  subst e
  unfold pickOrder.go
  simp
 |fuel+1,k,left,out,h=>by
  unfold pickOrder.go
  have hi:next k%left.length<left.length:=Nat.mod_lt _ (by omega)
  rw[U0n hi]
  dsimp only
  refine(bC next fuel (k+1) _ _ (by rw[List.length_eraseIdx_of_lt hi];omega)).trans ?_
  rw[Array.toList_push,U35]
  exact U4s.append_left _ (Qa _ _ hi)
theorem gn{α:Type}(next:Nat->Nat)(xs:Array α):(pickOrder next xs).toList.Perm xs.toList:=by
 unfold pickOrder
 simpa using bC next xs.size 0 xs.toList #[] (by simp)
section
variable{M:Model}{A:Around}{E:Value->Shared->Prop}
theorem eF{src:Source}{n:Nat}{s:Shared}{Q:Nat->Shared->Prop}(hn:n≠0)(h:∀i d',i<n->Q i { s with drawn:=d' }):wpAny M A (choose src n) Q E s :=
 fun _ _ _=>⟨hn,h _ _ (Nat.mod_lt _ (Nat.pos_of_ne_zero hn))⟩
theorem Qk{α:Type}:∀(n:Nat)(xs:List α)(s:Shared)(Q:List α->Shared->Prop),xs.length<=n->(∀ys d',ys.Perm xs->Q ys { s with drawn:=d' })->wpAny M A (drawOrder n xs) Q E s
 |0,xs,s,Q,h,q=>by
  have e:xs=[]:=U3r.mp (by omega)
  subst e
  unfold drawOrder
  exact U0d (q [] s.drawn (U6x _))
 |n+1,[],s,Q,h,q=>by
  unfold drawOrder
  exact U0d (q [] s.drawn (U6x _))
 |n+1,x::xs,s,Q,h,q=>by
  unfold drawOrder
  refine U0 (eF (by simp) fun i d' hi=>?_)
  rw[U0n hi]
  dsimp only
  refine U0 (Qk n _ _ _ (by rw[List.length_eraseIdx_of_lt hi];simp at h ⊢;omega) fun ys d'' p=>U0d (q _ d'' ?_))
  exact(U7r _ p).trans (Qa _ _ hi)
end
theorem Fq:Slot "set_iterator" "__next__" "set_iterator.__next__" :=
 .of (owner:="set_iterator") (n:="__next__") (by rw[typeLookup_type,builtinLookup_eq_fast];kernel_rfl) (by decide +kernel) (by decide +kernel) (by decide +kernel)
  (by first|exact .inl (by decide +kernel)|exact .inr (by decide +kernel)) (by rw[isSubtype_type];kernel_rfl)
theorem O8:entryFor table "set_iterator.__next__"=some Builtin.«set_iterator.__next__»:=entryFor_of_tree (by kernel_rfl)
theorem Oq(a:Value):argsOk "set_iterator.__next__" ⟨[a],[]⟩:=by unfold argsOk;kernel_rfl
theorem W3:entryFor table "set.__iter__"=some Builtin.«frozenset.__iter__» :=
 entryFor_alias (id':="frozenset.__iter__") (by kernel_rfl) rfl (by decide +kernel) (by kernel_rfl)
def Jx(first:Value)(i:Nat)(S:Addr)(n ep:Nat):Obj:={ cls:=.type "set_iterator",data:=.fields #[first,.int i 0,.ref S,.int n 0,.int ep 0] }
inductive Road (w:World) (h:Heap) (es:Array (Int×Value)) (ep:Nat) (t:SetTable) (S it T:Addr) (vs:List Value) (i:Nat):Value->Prop
 |text (k:Int):w.params.followText "set-order"=true->(∀(j:Nat),vs[j]?=((pickOrder (w.params.setOrder S ep) es)[j]?).map fun(e:Int×Value)=>e.2)->Road w h es ep t S it T vs i (.int k 0)
 |plain:w.params.followText "set-order"=false->(!t.plain&&decide (es.size>1))=false->TabOk true t->(∀(j:Nat),vs[j]?=(es[j]?).map fun(e:Int×Value)=>e.2)->Road w h es ep t S it T vs i (.int ((if i=0 then 0 else t.place.getD (i-1) 0+1:Nat):Int) 0)
 |drawn (ps:List Nat):T≠it->h.get? T=some { cls:=.type "tuple",data:=.seq (ps.map fun(p:Nat)=>rawInt p).toArray 0 }->(∀p∈ps,p<es.size)->(∀(j:Nat),vs[j]?=(ps[j]?).bind fun p=>(es[p]?).map fun(e:Int×Value)=>e.2)->Road w h es ep t S it T vs i (.ref T)
structure Mf(w:World)(h:Heap)(it S T:Addr)(vs:List Value)(i:Nat):Prop where
 ne:it≠S
 ex:∃o es ep t first,h.get? S=some o/\o.data=.set es ep t/\t.fits es.size=true/\vs.length=es.size/\h.get? it=some (Jx first i S es.size ep)/\Road w h es ep t S it T vs i first
section
variable{prog:Program}{w:World}{A:Around}{E:Value->Shared->Prop}{s:Shared}
theorem Mf.keep{h h':Heap}{it S T:Addr}{vs:List Value}{i:Nat}(x:Mf w h it S T vs i)(k:∀b∈[it,S,T],∀o,h.get? b=some o->h'.get? b=some o):Mf w h' it S T vs i:=by
 obtain⟨ne,o,es,ep,t,first,a,b,c,d,e,r⟩:=x
 refine⟨ne,o,es,ep,t,first,k S (by simp) _ a,b,c,d,k it (by simp) _ e,?_⟩
 cases r with
 |text k1 z1 z2=>exact .text k1 z1 z2
 |plain z1 z2 z3 z4=>exact .plain z1 z2 z3 z4
 |drawn ps z1 z2 z3 z4=>exact .drawn ps z1 (k T (by simp) _ z2) z3 z4
theorem wR{S:Addr}{ds:List Int}{Q:Value->Shared->Prop}(hS:SetT prog w s.heap S ds)
  (h:∀h' d' it T vs,(∀b o,s.heap.get? b=some o->h'.get? b=some o)->s.heap.objs.size<=it->(T=S∨s.heap.objs.size<=T)->Mf w h' it S T vs 0->(∃ns,IntsAre vs ns/\ns.Perm ds)->Q (.ref it) { s with heap:=h',drawn:=d' }) :
  wpAny (model prog w) A (pyIter (.ref S)) Q E s:=by
 obtain⟨nd,o,es,ep,t,ho,hex,hd,hel,hm,hb,hf,hn,ht⟩:=hS
 have hT:s.TypeIs (.ref S) "set":=⟨o,ho,hex.1⟩
 have hlt:=U0m ho
 -- the members as ints
 have intsV:∀(l:List (Int×Value)),ElemsOf (intKind prog w) l->∃ns,IntsAre (l.map (·.2)) ns/\∀k,k∈ns↔∃e∈l,(intKind prog w).is k e.2=true:=by
  intro l
  induction l with
  |nil=>intro _;exact⟨[],.nil,fun k=>by simp⟩
  |cons e r ih =>
   intro he
   obtain⟨ns,a,b⟩:=ih he.tail
   obtain⟨⟨k0,hk0,_⟩,_⟩:=he.head
   obtain⟨t0,e0⟩:=Value.isInt_shape (show Value.isInt k0 e.2=true from hk0)
   refine⟨k0::ns,by rw[U0j,e0];exact .cons k0 t0 a,fun k=>?_⟩
   rw[U0t,b k]
   constructor
   .rintro(z|⟨e',he',q⟩)
    .exact⟨e,U0l,by rw[z];exact hk0⟩
    .exact⟨e',U0p _ he',q⟩
   .rintro⟨e',he',q⟩
    rcases U0t.mp he' with z|z
    .subst z;exact .inl ((intKind prog w).inj _ _ _ q hk0)
    .exact .inr ⟨e',z,q⟩
 -- any order of the members is the ints in some order
 have fin:∀(l:List (Int×Value)),l.Perm es.toList->∃ns,IntsAre (l.map (·.2)) ns/\ns.Perm ds:=fun l p=>by
  obtain⟨ns,a,b⟩:=intsV l (hel.perm p)
  refine⟨ns,a,?_⟩
  have hsub:ds ⊆ ns:=fun k hk=>(b k).mpr (by
   obtain⟨e,he,q⟩:=(hm k).mp (decide_eq_true hk)
   exact⟨e,p.mem_iff.mpr he,q⟩)
  have hle:ns.length<=ds.length:=by
   have q1:(l.map (·.2)).length=ns.length:=IntsAre.length a
   rw[U0i] at q1
   exact U7z (by rw[←q1,p.length_eq,U1z,hn])
  exact SM nd (fun k hk=>hsub hk) hle
 refine U7 hT F.slot_set_iter (U2k F.slot_set_iter hT W3 ?_ (F.args_set_iter_1 _))
 unfold Builtin.«frozenset.__iter__» Builtin.Frozenset.slot0 slotArgs
 simp only[U7f,U46,U1t,↓reduceIte,bind_assoc,U1a,bne_self_eq_false]
 unfold Builtin.Frozenset.addrOf Builtin.Frozenset.sizeOf
 refine U0 (U0d ?_)
 try dsimp only
 refine U0 (U0d ?_)
 refine U0 (U0 (U6r ho hd hf (U0d ?_)))
 unfold setDrawn setsByText
 simp only[bind_assoc]
 refine U0 (U4k ho hd hf ?_)
 refine U0 (U4y ?_)
 refine U0 (U0d (U0 (U0d ?_)))
 show wpAny (model prog w) A.in1 (if (!(w.params.followText "set-order")&&(!t.plain&&decide (es.size>1)))=true then _ else _) _ _ s
 have len2:∀(ps:List Nat),ps.Perm (U0k es.size)->((ps.filterMap fun p=>es[p]?)).Perm es.toList/\∀(j:Nat),((ps.filterMap fun p=>es[p]?).map (·.2))[j]?=(ps[j]?).bind fun p=>(es[p]?).map fun(e:Int×Value)=>e.2:=fun ps p=>by
  refine⟨(p.filterMap _).trans (by rw[filterMap_getElem?_range]),?_⟩
  have all:∀(ps:List Nat),(∀p∈ps,p<es.size)->∀(j:Nat),((ps.filterMap fun p=>es[p]?).map (·.2))[j]?=(ps[j]?).bind fun p=>(es[p]?).map fun(e:Int×Value)=>e.2:=by
   intro ps
   induction ps with
   |nil=>intro _ j;simp
   |cons q r ih =>
    intro hq j
    have hq':q<es.size:=hq q U0l
    rw[List.filterMap_cons_some (b:=es[q]) (by simp[hq'])]
    cases j with
    |zero=>simp[hq']
    |succ j=>simpa using ih (fun p hp=>hq p (U0p _ hp)) j
  exact all ps fun q hq=>U3.mp (p.mem_iff.mp hq)
 split
 .rename_i hc
  refine U0 (Qk es.size (U0k es.size) s _ (by simp) fun ps d' p=>?_)
  obtain⟨p1,p2⟩:=len2 ps p
  refine U0 (U2d ?_ ?_)
  .refine U0 (wpAny_setEpoch_of (U0c _ ho) hd hf ?_)
   refine U0 (U2d (U0d ⟨_,rfl,"set_iterator",_,⟨_,U0v _ rfl,rfl⟩,Fq.lookup,?_⟩))
   refine h _ d' _ s.heap.objs.size ((ps.filterMap fun p=>es[p]?).map (·.2)) (fun b o' e=>U0c _ (U0c _ e)) ?_ (.inr (U0u _)) ?_ (fin _ p1)
   .show s.heap.objs.size<=(s.heap.push _).objs.size
    rw[U18];exact U5e _
   .refine⟨?_,o,es,ep,t,_,U0c _ (U0c _ ho),hd,hf,?_,U0v _ rfl,.drawn ps ?_ (U0c _ (U0v _ rfl)) (fun q hq=>U3.mp (p.mem_iff.mp hq)) p2⟩
    .show(s.heap.push _).objs.size≠S
     rw[U18];exact U1q (U24 hlt)
    .rw[U0i,p1.length_eq,U1z]
    .show s.heap.objs.size≠(s.heap.push _).objs.size
     rw[U18];exact U0y (U4x _)
  .show _<=sizeLine
   rw[U0x,U0i,p.length_eq,U5l]
   exact fits_of_scanBound hb
 .rename_i hc
  refine U0 (U0d (U0 (wpAny_setEpoch_of ho hd hf ?_)))
  refine U0 (U2d (U0d ⟨_,rfl,"set_iterator",_,⟨_,U0v _ rfl,rfl⟩,Fq.lookup,?_⟩))
  by_cases ht':w.params.followText "set-order"=true
  .have pp:=gn (w.params.setOrder S ep) es
   have q:=h (s.heap.push (Jx (rawInt 0) 0 S es.size ep)) s.drawn s.heap.objs.size S ((pickOrder (w.params.setOrder S ep) es).toList.map (·.2)) (fun b o' e=>U0c _ e) (U0u _) (.inl rfl)
    ⟨U1q hlt,o,es,ep,t,_,U0c _ ho,hd,hf,by rw[U0i,pp.length_eq,U1z],U0v _ rfl,.text 0 ht' fun j=>by rw[U0z,U3i]⟩ (fin _ pp)
   exact q
  .have hf':w.params.followText "set-order"=false:=by simpa using ht'
   have hL:O9 w=true:=by show(!_)=true;rw[hf'];rfl
   rw[hL] at ht
   have hdr:(!t.plain&&decide (es.size>1))=false:=by
    rw[hf'] at hc
    simpa using hc
   have q:=h (s.heap.push (Jx (rawInt 0) 0 S es.size ep)) s.drawn s.heap.objs.size S (es.toList.map (·.2)) (fun b o' e=>U0c _ e) (U0u _) (.inl rfl)
    ⟨U1q hlt,o,es,ep,t,_,U0c _ ho,hd,hf,by rw[U0i,U1z],U0v _ rfl,.plain hf' hdr ht fun j=>by rw[U0z,U3i]⟩ (fin _ (U6x _))
   exact q
end
end SetP
end
section
set_option maxRecDepth 100000
namespace SetP
open PySem PyProof.Rows
section
variable{prog:Program}{w:World}{A:Around}{E:Value->Shared->Prop}{s:Shared}
theorem V4(first x:Value)(i:Nat)(S:Addr)(n ep:Nat):U37 (·.setIfInBounds 0 x) (Jx first i S n ep)=Jx x i S n ep:=rfl
theorem dj(first:Value)(i:Nat)(S:Addr)(n ep:Nat):U37 (·.setIfInBounds 1 (rawInt ((i:Int)+1))) (Jx first i S n ep)=Jx first (i+1) S n ep:=rfl
theorem RQ{S:Addr}{o:Obj}{es:Array (Int×Value)}{ep slot given:Nat}{t:SetTable}{Q:Option (Value×Nat)->Shared->Prop}(ho:s.heap.get? S=some o)(hd:o.data=.set es ep t)(hf:t.fits es.size=true)
  (z:w.params.followText "set-order"=true) (h:Q (((pickOrder (w.params.setOrder S ep) es)[given]?).map fun e=>(e.2,slot)) s):wpAny (model prog w) A (setNext S slot given ep) Q E s:=by
 unfold setNext
 refine U0 (U4k ho hd hf ?_)
 unfold setsByText
 refine U0 (U0 (U4y (U0d ?_)))
 show wpAny _ _ (if (w.params.followText "set-order")=true then _ else _) _ _ s
 rw[if_pos z]
 show wpAny _ _ (if (ep != ep)=true then _ else _) _ _ s
 rw[if_neg (by simp)]
 unfold setWalk
 refine U0 (U0 (U4k ho hd hf ?_))
 unfold setsByText
 refine U0 (U0 (U4y (U0d ?_)))
 show wpAny _ _ (if (w.params.followText "set-order")=true then _ else _) _ _ s
 rw[if_pos z]
 exact U0 (U4y (U0d (U0d h)))
theorem Qh{S:Addr}{o:Obj}{es:Array (Int×Value)}{ep slot given:Nat}{t:SetTable}{Q:Option (Value×Nat)->Shared->Prop}(ho:s.heap.get? S=some o)(hd:o.data=.set es ep t)(hf:t.fits es.size=true)
  (z:w.params.followText "set-order"=false) (z2:(!t.plain&&decide (es.size>1))=false) (z3:t.led=true)
  (h:Q (match es[U1s t.place slot]?,t.place[U1s t.place slot]? with|some (_,x),some j=>some (x,j+1)|_,_=>none) s):wpAny (model prog w) A (setNext S slot given ep) Q E s:=by
 unfold setNext
 refine U0 (U4k ho hd hf ?_)
 unfold setsByText
 refine U0 (U0 (U4y (U0d ?_)))
 show wpAny _ _ (if (w.params.followText "set-order")=true then _ else _) _ _ s
 rw[if_neg (by rw[z];simp)]
 show wpAny _ _ (if (!t.plain&&decide (es.size>1))=true then _ else _) _ _ s
 rw[if_neg (by rw[z2];simp)]
 refine U0 ?_
 show wpAny _ _ (if (!t.led&&!es.isEmpty)=true then _ else _) _ _ s
 rw[if_neg (by rw[z3];simp)]
 exact U0d (U0d h)
theorem dR{it S T:Addr}{vs:List Value}{i:Nat}{v:Value}{Q:Option Value->Shared->Prop}(x:Mf w s.heap it S T vs i)(hv:vs[i]?=some v)
  (h:∀h',U07 it s.heap h'->Mf w h' it S T vs (i+1)->Q (some v) { s with heap:=h' }):wpAny (model prog w) A (pyNext (.ref it)) Q E s:=by
 obtain⟨ne,o,es,ep,t,first,ho,hd,hf,hl,hi,r⟩:=x
 have hT:s.TypeIs (.ref it) "set_iterator":=⟨_,hi,rfl⟩
 unfold pyNext
 refine U0 (U5o (wpAny_callSpecial?_slot (name:=U3j "__next__") hT Fq (U2k Fq hT O8 ?_ (Oq _))))
 unfold Builtin.«set_iterator.__next__» slotArgs
 simp only[U7f,U46,U1t,↓reduceIte,U1a,bne_self_eq_false]
 refine U0 (U0d ?_)
 refine U0 (wpAny_fieldsOf hi rfl ?_)
 show wpAny _ _ (setEntries S >>= _) _ _ s
 refine U0 (U6r ho hd hf ?_)
 show wpAny _ _ (if ((es.size:Int) != (es.size:Int))=true then _ else _) _ _ s
 rw[if_neg (by simp)]
 have lt:i<vs.length:=(U0o.mp hv).1
 have upd1:∀{h1:Heap} {f1:Value},h1.get? it=some (Jx f1 i S es.size ep)->(h1.update it (U37 (·.setIfInBounds 1 (rawInt ((i:Int)+1))))).get? it=some (Jx f1 (i+1) S es.size ep):=fun {h1 f1} e=>by
  rw[←dj f1 i S es.size ep];exact U1o _ e rfl
 have upd0:∀{h1:Heap} {f1 y:Value},h1.get? it=some (Jx f1 i S es.size ep)->(h1.update it (U37 (·.setIfInBounds 0 y))).get? it=some (Jx y i S es.size ep):=fun {h1 f1 y} e=>by
  rw[←V4 f1 y i S es.size ep];exact U1o _ e rfl
 cases r with
 |text k z1 z2 =>
  show wpAny _ _ (setNext S k.toNat i ep >>= _) _ _ s
  refine U0 (RQ ho hd hf z1 ?_)
  have q:=z2 i
  rw[hv] at q
  cases hp:(pickOrder (w.params.setOrder S ep) es)[i]? with
  |none=>rw[hp] at q;cases q
  |some e =>
   rw[hp] at q
   have q':v=e.2:=U03 q
   subst q'
   refine U0 (U3b hi rfl (by simp) (U0 (U3b (upd0 hi) rfl (by simp) (U0d ⟨_,rfl,U0d (h _ ((U10 ..).trans (U10 ..)) ⟨ne,o,es,ep,t,_,?_,hd,hf,hl,upd1 (upd0 hi),.text _ z1 z2⟩)⟩))))
   rw[U04 _ _ ne,U04 _ _ ne];exact ho
 |plain z1 z2 z3 z4 =>
  show wpAny _ _ (setNext S (Int.toNat ((if i=0 then 0 else t.place.getD (i-1) 0+1:Nat):Int)) i ep >>= _) _ _ s
  rw[U2z]
  refine U0 (Qh ho hd hf z1 z2 z3.2 ?_)
  have psz:t.place.size=es.size:=by
   have q:=hf
   simp only[SetTable.fits,U1b,beq_iff_eq] at q
   exact q.1
  have hb:U1s t.place (if i=0 then 0 else t.place.getD (i-1) 0+1)=i:=by
   cases i with
   |zero=>rw[if_pos rfl];exact VJ z3.1
   |succ i=>rw[if_neg (by omega)];exact VL z3.1 (by omega)
  rw[hb]
  have q:=z4 i
  rw[hv] at q
  have hie:i<es.size:=by omega
  have hip:i<t.place.size:=by omega
  rw[U2g hie] at q ⊢
  rw[U2g hip]
  have q':v=es[i].2:=U03 q
  subst q'
  show wpAny _ _ (setField (.ref it) 0 (rawInt ((t.place[i]+1:Nat):Int)) >>= _) _ _ s
  refine U0 (U3b hi rfl (by simp) (U0 (U3b (upd0 hi) rfl (by simp) (U0d ⟨_,rfl,U0d (h _ ((U10 ..).trans (U10 ..)) ⟨ne,o,es,ep,t,_,?_,hd,hf,hl,upd1 (upd0 hi),?_⟩)⟩))))
  .rw[U04 _ _ ne,U04 _ _ ne];exact ho
  .have e:t.place[i]=t.place.getD (i+1-1) 0:=by
    rw[U27,Nat.add_sub_cancel,U2g hip];rfl
   have rr:∀hp:Heap,Road w hp es ep t S it T vs (i+1) (.int ((t.place[i]+1:Nat):Int) 0):=fun hp=>by
    have r1:Road w hp es ep t S it T vs (i+1) (.int ((if i+1=0 then 0 else t.place.getD (i+1-1) 0+1:Nat):Int) 0):=.plain z1 z2 z3 z4
    rw[if_neg (by omega),←e] at r1
    exact r1
   exact rr _
 |drawn ps z1 z2 z3 z4 =>
  show wpAny _ _ (seqItems? (.ref T) >>= _) _ _ s
  refine U0 (U2n z2 rfl ?_)
  have q:=z4 i
  rw[hv] at q
  cases hp:ps[i]? with
  |none=>rw[hp] at q;cases q
  |some p =>
   rw[hp] at q
   have hlt:p<es.size:=z3 p (U1h hp)
   have q2:some v=(es[p]?).map fun(e:Int×Value)=>e.2:=q
   rw[U2g hlt] at q2
   have q':v=es[p].2:=U03 q2
   subst q'
   have hg:((ps.map fun(p:Nat)=>rawInt p).toArray)[i]?=some (rawInt p):=by
    rw[U5m,U0z,hp];rfl
   show wpAny _ _ (match ((ps.map fun(p:Nat)=>rawInt p).toArray)[(i:Int).toNat]? with|some (.int place _)=>_|some _=>_|none=>_) _ _ s
   rw[U2z,hg]
   show wpAny _ _ (setNextDrawn S p ep >>= _) _ _ s
   unfold setNextDrawn
   refine U0 (U0 (U4k ho hd hf ?_))
   show wpAny _ _ (if (ep != ep)=true then _ else _) _ _ s
   rw[if_neg (by simp)]
   dsimp only
   rw[U2g hlt]
   refine U0d ?_
   refine U0 (U3b hi rfl (by simp) (U0d ⟨_,rfl,U0d (h _ (U10 ..) ⟨ne,o,es,ep,t,_,?_,hd,hf,hl,upd1 hi,.drawn ps z1 ?_ z3 z4⟩)⟩))
   .rw[U04 _ _ ne];exact ho
   .rw[U04 _ _ z1.symm];exact z2
theorem iI{it S T:Addr}{vs:List Value}{Q:Option Value->Shared->Prop}(hh:A.handled=none)(x:Mf w s.heap it S T vs vs.length)
  (h:∀h',U5p it s.heap h'->Q none { s with heap:=h' }):wpAny (model prog w) A (pyNext (.ref it)) Q E s:=by
 obtain⟨ne,o,es,ep,t,first,ho,hd,hf,hl,hi,r⟩:=x
 have hT:s.TypeIs (.ref it) "set_iterator":=⟨_,hi,rfl⟩
 unfold pyNext
 refine U0 (U5o (wpAny_callSpecial?_slot (name:=U3j "__next__") hT Fq (U2k Fq hT O8 ?_ (Oq _))))
 unfold Builtin.«set_iterator.__next__» slotArgs
 simp only[U7f,U46,U1t,↓reduceIte,U1a,bne_self_eq_false]
 refine U0 (U0d ?_)
 refine U0 (wpAny_fieldsOf hi rfl ?_)
 show wpAny _ _ (setEntries S >>= _) _ _ s
 refine U0 (U6r ho hd hf ?_)
 show wpAny _ _ (if ((es.size:Int) != (es.size:Int))=true then _ else _) _ _ s
 rw[if_neg (by simp)]
 have stop:∀{s1:Shared},U5p it s.heap s1.heap->s1={ s with heap:=s1.heap }->wpAny (model prog w) A.in1 (newExc (.type "StopIteration") [] >>= fun e=>(raiseNew e:Sem Fin)) (fun fin s'=>∃v,fin=.done (.ret v)/\wpAny (model prog w) A (pure (some v)) Q E s')
   (fun e s'=>wpAny (model prog w) A (do if ←isInstance e (.type "StopIteration") then pure none else throw e) Q E s') s1:=fun {s1} eb es1=>by
  refine U0 ?_
  simp only[newExc,newTuple]
  refine U0 (U2d ?_ (by size_fits))
  refine U0 (m:=firstArgMember _ _) (wpAny_of_eq (a:=U2h) (by first|rfl|(simp only[firstArgMember];rfl)) ?_)
  refine U2d ?_ (by size_fits)
  simp only[raiseNew]
  refine U0 (wpAny_handled ?_)
  rw[show A.in1.handled=none from hh]
  refine U0 (U0d (wpAny_throw ?_))
  refine U0 (U4z (T:="StopIteration") (b:=true) ⟨_,U0v _ rfl,rfl⟩ isSubtype_stop ?_)
  rw[if_pos rfl,es1]
  exact U0d (h _ ((eb.push _).push _))
 cases r with
 |text k z1 z2 =>
  show wpAny _ _ (setNext S k.toNat vs.length ep >>= _) _ _ s
  refine U0 (RQ ho hd hf z1 ?_)
  have q:=z2 vs.length
  rw[U6i (U0u _)] at q
  cases hp:(pickOrder (w.params.setOrder S ep) es)[vs.length]? with
  |some e=>rw[hp] at q;cases q
  |none =>
   refine U0 (U3b hi rfl (by simp) ?_)
   exact stop (s1:={ s with heap:=s.heap.update it (U37 (·.setIfInBounds 2 U2h)) }) (U10 ..).extBut rfl
 |plain z1 z2 z3 z4 =>
  generalize hsl:(if vs.length=0 then 0 else t.place.getD (vs.length-1) 0+1:Nat)=sl
  show wpAny _ _ (setNext S (Int.toNat (sl:Int)) vs.length ep >>= _) _ _ s
  rw[U2z]
  refine U0 (Qh ho hd hf z1 z2 z3.2 ?_)
  have psz:t.place.size=es.size:=by
   have q:=hf
   simp only[SetTable.fits,U1b,beq_iff_eq] at q
   exact q.1
  have hb:U1s t.place sl=vs.length:=by
   rw[←hsl]
   generalize vs.length=n at hl
   cases n with
   |zero=>rw[if_pos rfl];exact VJ z3.1
   |succ i=>rw[if_neg (by omega)];exact VL z3.1 (by omega)
  rw[hb,hl,Array.getElem?_eq_none (U0u _)]
  refine U0 (U3b hi rfl (by simp) ?_)
  exact stop (s1:={ s with heap:=s.heap.update it (U37 (·.setIfInBounds 2 U2h)) }) (U10 ..).extBut rfl
 |drawn ps z1 z2 z3 z4 =>
  show wpAny _ _ (seqItems? (.ref T) >>= _) _ _ s
  refine U0 (U2n z2 rfl ?_)
  have q:=z4 vs.length
  rw[U6i (U0u _)] at q
  have hg:((ps.map fun(p:Nat)=>rawInt p).toArray)[vs.length]?=none:=by
   rw[U5m,U0z]
   cases hp:ps[vs.length]? with
   |none=>rfl
   |some p =>
    rw[hp] at q
    have hlt:p<es.size:=z3 p (U1h hp)
    have q2:none=(es[p]?).map fun(e:Int×Value)=>e.2:=q
    rw[U2g hlt] at q2
    cases q2
  show wpAny _ _ (match ((ps.map fun(p:Nat)=>rawInt p).toArray)[(vs.length:Int).toNat]? with|some (.int place _)=>_|some _=>_|none=>_) _ _ s
  rw[U2z,hg]
  refine U0 (U3b hi rfl (by simp) ?_)
  have e0:(s.heap.update it (U37 (·.setIfInBounds 0 (rawInt 0)))).get? it=some (Jx (rawInt 0) vs.length S es.size ep):=by
   rw[←V4 (.ref T) (rawInt 0) vs.length S es.size ep];exact U1o _ hi rfl
  refine U0 (U3b e0 rfl (by simp) ?_)
  exact stop (s1:={ s with heap:=(s.heap.update it (U37 (·.setIfInBounds 0 (rawInt 0)))).update it (U37 (·.setIfInBounds 2 U2h)) }) ((U10 ..).trans (U10 ..)).extBut rfl
end
end SetP
end
section
set_option maxRecDepth 100000
namespace SetP
open PySem PyProof.Rows
theorem Om:Slot "set_iterator" "__iter__" "set_iterator.__iter__" :=
 .of (owner:="set_iterator") (n:="__iter__") (by rw[typeLookup_type,builtinLookup_eq_fast];kernel_rfl) (by decide +kernel) (by decide +kernel) (by decide +kernel)
  (by first|exact .inl (by decide +kernel)|exact .inr (by decide +kernel)) (by rw[isSubtype_type];kernel_rfl)
theorem Ue:entryFor table "set_iterator.__iter__"=some Builtin.«dict_keyiterator.__iter__» :=
 entryFor_alias (id':="dict_keyiterator.__iter__") (by kernel_rfl) rfl (by decide +kernel) (by kernel_rfl)
theorem Vb(a:Value):argsOk "set_iterator.__iter__" ⟨[a],[]⟩:=by unfold argsOk;kernel_rfl
theorem dY:typeLookup (.type "set") "__len__"=pure (some (.builtin "set.__len__")):=F.slot_set_len.lookup
section
variable{prog:Program}{w:World}{A:Around}{E:Value->Shared->Prop}{s:Shared}
theorem pD(hh:A.handled=none)(it S T:Addr)(vs:List Value):Walks prog w A it [it,S,T] [it] vs.length (fun i v=>vs[i]?=some v) (fun i h=>Mf w h it S T vs i) where
 sub:=fun b hb=>by simp at hb;subst hb;simp
 frame:=fun i h h' x k=>x.keep fun b hb o e=>k b hb o e
 item:=fun i s Q E hi x hQ=>by
  have hv:vs[i]?=some vs[i]:=U0n hi
  exact dR x hv fun h' sb x'=>hQ _ h' s.toks hv x' fun b o hb e=>(sb.2 b (by simpa using hb)).trans e
 done:=fun s Q E x hQ=>iI hh x fun h' eb=>hQ h' s.toks fun b o hb e=>eb b o (by simpa using hb) e
 self:=fun i s Q E x hQ=>by
  obtain⟨_,o,es,ep,t,first,_,_,_,_,hi,_⟩:=x
  have hT:s.TypeIs (.ref it) "set_iterator":=⟨_,hi,rfl⟩
  refine U7 hT Om (U2k Om hT Ue ?_ (Vb _))
  show wpAny _ _ (ret (.ref it)) _ _ s
  exact U0d ⟨_,rfl,"set_iterator",_,hT,Fq.lookup,hQ⟩
theorem wV{S:Addr}{Q:Bool->Shared->Prop}(hT:s.TypeIs (.ref S) "set")(h:Q false s):wpAny (model prog w) A (U3t (.ref S)) Q E s:=by
 unfold U3t
 refine U0 (U5w hT dY ?_)
 have hs:splitId "set.__len__"=some ("set","__len__"):=by decide +kernel
 dsimp only
 rw[hs]
 dsimp only
 refine U0 (U4z hT sub_set_self ?_)
 simp only[U46,U1t,if_false]
 refine U0 (U4v hT ?_)
 exact U0d h
theorem j8{S:Addr}{ds:List Int}{Q:List Value->Shared->Prop}(hh:A.handled=none)(hS:SetT prog w s.heap S ds)(h64:ds.length<64)
  (h:∀h' d' tk vs ns,(∀b o,s.heap.get? b=some o->h'.get? b=some o)->IntsAre vs ns->ns.Perm ds->Q vs { s with heap:=h',drawn:=d',toks:=tk }):wpAny (model prog w) A (collect (.ref S)) Q E s:=by
 obtain⟨o,ho,hex⟩:∃o,s.heap.get? S=some o/\o.ExactSet:=by
  obtain⟨_,o,es,ep,t,ho,hex,_⟩:=hS
  exact⟨o,ho,hex⟩
 have hlt:=U0m ho
 unfold collect
 refine U0 (U7q (codeAny_builtin F.entry_proto_collect ?_))
 rw[U2l F.plain_proto_collect _]
 show wpAny _ A.in1 (newList [] >>= fun l=>again (.builtin "list.__iadd__" ⟨[l,.ref S],[]⟩)) _ _ s
 refine U0 (U2d (U0d ⟨plainId_quiet U58 _,codeAny_builtin F.entry_list_iadd ?_⟩))
 rw[U2l U58 _]
 generalize hL:s.heap.objs.size=L
 generalize hg:s.heap.push { cls:=.type "list",dict:=none,data:=.seq ([]:List Value).toArray }=g
 have k1:∀b o,s.heap.get? b=some o->g.get? b=some o:=fun b o e=>hg ▸ U0c _ e
 have hLg:g.get? L=some { cls:=.type "list",data:=.seq ([]:List Value).toArray }:=hg ▸ hL ▸ U0v _ rfl
 have hsz:g.objs.size=L+1:=by rw[←hg,U18,hL]
 have hLS:L≠S:=by rw[←hL];exact U1q hlt
 have hT:U47 { s with heap:=g } (.ref S) "set":=⟨o,k1 _ _ ho,hex.1⟩
 show wpAny _ A.in1 (U2x (.ref L) (.ref S) (.ref L)) _ _ _
 unfold U2x
 refine U0 (U4v hT ?_)
 have h1:U3l (.ref L) (.ref S)=false:=by simp[U3l,hLS]
 have h2:(U23 "set"==U23 "list")=false:=by decide
 have h3:(U23 "set"==U23 "tuple")=false:=by decide
 simp only[h1,h2,h3,U45,U1t,if_false]
 refine U0 (wR (s:={ s with heap:=g }) (hS.sameBut fun o e=>k1 _ _ e) fun g2 d2 it T vs k2 hit hTT x ⟨ns,hi,hp⟩=>?_)
 have hT2:U47 { s with heap:=g2,drawn:=d2 } (.ref S) "set":=⟨o,k2 _ _ (k1 _ _ ho),hex.1⟩
 refine U0 (U19 (wV hT2 ?_))
 have hit':L<it:=by
  have hit2:g.objs.size<=it:=hit
  omega
 show wpAny _ A.in1 (rule "list.extend.makes-room" >>= fun _=>U6e (.ref L) >>= fun _=>again (.builtin "list.extend.loop" ⟨[.ref L,.ref it,.ref L],[]⟩)) _ _ _
 refine U0 (U4p (U0 ?_))
 have e1:=k2 _ _ hLg
 show wpAny _ A.in1 (updateSeq L (·.push .none) >>= fun _=>updateSeq L (·.pop)) _ _ _
 refine U0 (U26 e1 rfl ?_)
 have e2:=U1o (U1r (·.push U2h)) e1 rfl
 refine U26 e2 rfl ?_
 have e3:=U1o (U1r (·.pop)) e2 rfl
 have oth:∀b o,b≠L->g2.get? b=some o->((g2.update L (U1r (·.push U2h))).update L (U1r (·.pop))).get? b=some o:=fun b o hb e=>(U04 _ _ (U1l hb)).trans ((U04 _ _ (U1l hb)).trans e)
 have hvn:vs.length=ns.length:=IntsAre.length hi
 have hv64:vs.length<64:=by rw[hvn,hp.length_eq];exact h64
 have hz:vs.length<=sizeLine:=by rw[sizeLine_eq];omega
 have nin:L ∉ [it,S,T]:=fun z=>by
  simp only[U0t,U13,or_false] at z
  rcases z with z|z|z
  .omega
  .exact hLS z
  .rcases hTT with q|q
   .exact hLS (z.trans q)
   .have q':g.objs.size<=T:=q
    omega
 have W:=(pD (prog:=prog) (w:=w) (A:=A.in1) (by simpa using hh) it S T vs).toS
 have x3:Mf w ((g2.update L (U1r (·.push U2h))).update L (U1r (·.pop))) it S T vs 0:=x.keep fun b hb o e=>oth b o (fun z=>nin (z ▸ hb)) e
 refine U0d ⟨plainId_quiet F.plain_extend_loop _,codeAny_extend_loopS W hz L nin _ vs.length 0 _ _ _ (by omega) (U3a _) x3 e3 (ItemsOf.nil _) fun s' acc c hm hS' hacc=>?_⟩
 show wpAny _ A (load L >>= _) _ _ s'
 refine U0 (wpAny_load hS' ?_)
 have eacc:acc.toList=vs:=by
  apply List.ext_getElem?
  intro j
  rw[U3i]
  cases hj:acc[j]? with
  |some v=>exact(hacc.2 j v hj).symm
  |none =>
   have:acc.size<=j:=by simpa using hj
   rw[hacc.1] at this
   exact(U6i this).symm
 obtain⟨h',g',d',tk,os'⟩:=s'
 have q1:g'=s.gens:=hm.gens
 have q2:os'=s.os:=hm.os
 subst q1 q2
 refine U0d ?_
 show Q acc.toList _
 rw[eacc]
 refine h h' d' tk vs ns (fun b o e=>hm.heap b o ?_ (oth b o ?_ (k2 _ _ (k1 _ _ e)))) hi hp
 .have hb:b<L:=by rw[←hL];exact U0m e
  intro z
  rcases U0t.mp z with z|z
  .exact absurd z (U0y hb)
  .exact absurd (U01.mp z) (U0y (U2q hb hit'))
 .exact U0y (by rw[←hL];exact U0m e)
theorem Ol{h:Heap}{a:Addr}{vs:List Value}{n:Nat}{out:Array Value}(ho:h.get? a=some (seqObj "list" vs.toArray n)):∃n',(sortedHeap h a vs out).get? a=some (seqObj "list" out n'):=by
 unfold sortedHeap
 have q1:=get?_update_seq ho (fun _=>#[])
 exact⟨_,get?_update_seq (U0c _ (U0c _ q1)) (fun _=>out)⟩
theorem O4{h:Heap}{a b:Addr}{vs:List Value}{out:Array Value}{o:Obj}(hb:b≠a)(ho:h.get? b=some o):(sortedHeap h a vs out).get? b=some o:=by
 unfold sortedHeap
 rw[U04 _ _ (U1l hb)]
 exact U0c _ (U0c _ ((U04 _ _ (U1l hb)).trans ho))
theorem jw{S:Addr}{ds:List Int}{Q:Value->Shared->Prop}(hh:A.handled=none)(hS:SetT prog w s.heap S ds)(h64:ds.length<64)
  (h:∀h' d' tk l vs ns n,(∀b o,s.heap.get? b=some o->h'.get? b=some o)->(∀b o,s.heap.get? b=some o->b<l)->h'.get? l=some { cls:=.type "list",data:=.seq vs n }->IntsAre vs.toList ns->ns.Perm ds->ns.Pairwise (·<=·)->Q (.ref l) { s with heap:=h',drawn:=d',toks:=tk }) :
  wpAny (model prog w) A (call (.builtin "sorted") [.ref S]) Q E s:=by
 refine Calls.call_function_entry kind_sorted plain_sorted entry_sorted (args_sorted1 _) ?_
 unfold Builtin.«sorted»
 refine U0 (m:=checkCount "sorted" 1 1 _) (U0d ?_)
 refine U0 (j8 (A:=A.in1) (by simpa using hh) hS h64 fun h1 d1 t1 vs ns k1 hi hp=>?_)
 have hv64:vs.length<64:=by rw[show vs.length=ns.length from IntsAre.length hi,hp.length_eq];exact h64
 refine U0 (wpAny_newList ?_)
 have hoL:(h1.push (seqObj "list" vs.toArray 0)).get? h1.objs.size=some (seqObj "list" vs.toArray 0):=U0v _ rfl
 show wpAny _ _ _ _ _ { s with heap:=h1.push (seqObj "list" vs.toArray 0),drawn:=d1,toks:=t1 }
 refine U0 (U19 (U2k slot_list_sort ⟨_,hoL,rfl⟩ entry_list_sort (list_sort_tree hoL hi hv64 fun out ns' a1 a2 a3=>⟨_,rfl,?_⟩) (args_list_sort _)))
 refine U0d ⟨_,rfl,?_⟩
 have old:∀b o,s.heap.get? b=some o->b≠h1.objs.size:=fun b o e=>U0y (U0m (k1 b o e))
 obtain⟨n',e'⟩:=Ol (out:=out) hoL
 refine h _ d1 t1 h1.objs.size out ns' n' (fun b o e=>O4 (old b o e) (U0c _ (k1 b o e))) (fun b o e=>U0m (k1 b o e)) e' a1 (a2.trans hp) a3
end
end SetP
end
section
namespace L2
open PySem PySem.Spec PyProof.Rows
def PTs(X:Cx)(ifs:List Expr)(t:TT):Prop :=
 ∀(pins:List (Addr×Obj))(s:Shared)(σ:St)(H:Hp)(Q:Bool->Hp->Prop),Inv X pins σ H s->t σ H Q ->
  wpAny (model X.prog X.w) X.A (forIn ifs true fun c r=>if r=true then do let ok ←isTrue c X.env (eval c X.env);pure (U6o ok) else pure (U6o r)) (TP X pins σ Q) X.xe s
def HY:TT:=fun _ H Q=>Q true H
theorem pq{X:Cx}:PTs X [] HY:=fun _ _ _ H _ I h=>U0d ⟨H,I,h⟩
theorem pZ{X:Cx}{c:Expr}{t:TT}(h:PT X c t):PTs X [c] t:=by
 intro pins s σ H Q I hw
 rw[U4f]
 simp only[if_true]
 refine U0 (U0 (thn (h pins s σ H Q I hw) fun b s1 hb=>U0d ?_))
 show wpAny _ _ (pure b) _ _ _
 exact U0d hb
def Low(k:Nat)(g:TG):Prop:=∀x σ H Q,g x σ H Q->g x σ H fun σ' H'=>Q σ' H'/\σ'.length=σ.length/\∀j,k<=j->σ'[j]?=σ[j]?
def Xd(k:Nat)(g:TGs):Prop:=∀x σ H Q,g x σ H Q->g x σ H fun σ' H'=>Q σ' H'/\σ'.length=σ.length/\∀j,k<=j->σ'[j]?=σ[j]?
theorem mD{k i:Nat}(h:i<k):Low k (XM i):=fun x σ H Q q =>
 ⟨q,U4d ..,fun j hj=>U2p (by omega)⟩
theorem qj{k:Nat}:Xd k jQ:=fun _ _ _ _ ⟨e,q⟩=>⟨e,q,rfl,fun _ _=>rfl⟩
theorem mG{k:Nat}{t:TG}{u:TGs}(ht:Low k t)(hu:Xd k u)(mono:∀x σ H Q Q',(∀σ' H',Q σ' H'->Q' σ' H')->t x σ H Q->t x σ H Q')
  (monoU:∀x σ H Q Q',(∀σ' H',Q σ' H'->Q' σ' H')->u x σ H Q->u x σ H Q'):Xd k (cg t u):=fun x σ H Q ⟨v,r,e,q⟩=>by
 refine⟨v,r,e,mono v σ H _ _ (fun σ1 H1 z=>?_) (ht v σ H _ q)⟩
 obtain⟨z1,z2,z3⟩:=z
 exact monoU r σ1 H1 _ _ (fun σ2 H2 y=>⟨y.1,y.2.1.trans z2,fun j hj=>(y.2.2 j hj).trans (z3 j hj)⟩) (hu r σ1 H1 _ z1)
theorem qg{K:U0a}{n k:Nat}{t:TGs}(h:Xd k t):Low k (jP K n t):=fun x σ H Q ⟨a,xs,e,hs,hl,q⟩=>⟨a,xs,e,hs,hl,h xs σ H Q q⟩
def compLook(sc:Scope)(N N2:List Str)(k:Nat)(caps:List Nat)(scope:Scope):Bool :=
 decide (scope.kind=.function)&&scope.names.all (fun y=>decide (y.2≠.cell)||decide (scope.names.lookup y.1=some .cell))&&scope.names.all (fun y=>decide (y.2≠.local)||decide (scope.names.lookup y.1=some .local)) &&
 scope.names.all (fun y=>decide (y.2≠.free)||decide (sc.names.lookup y.1=some .cell)||decide (sc.names.lookup y.1=some .free))&&decide N2.Nodup&&decide (N2.length=k+caps.length) &&
 (U0k caps.length).all fun j=>match caps[j]?,N2[k+j]? with
  |some i,some y=>decide (N[i]?=some y)&&decide (scope.names.lookup y=some .free)
  |_,_=>false
structure Fe(sc:Scope)(N N2:List Str)(k:Nat)(caps:List Nat)(scope:Scope):Prop where
 kind:scope.kind=.function
 one:∀y∈scope.names,y.2=.cell->scope.names.lookup y.1=some .cell
 loc:∀y∈scope.names,y.2=.local->scope.names.lookup y.1=some .local
 free:∀y∈scope.names,y.2=.free->sc.names.lookup y.1=some .cell∨sc.names.lookup y.1=some .free
 nd:N2.Nodup
 len:N2.length=k+caps.length
 cap:∀j i,caps[j]?=some i->∃y,N2[k+j]?=some y/\N[i]?=some y/\scope.names.lookup y=some .free
theorem Fe.of{sc:Scope}{N N2:List Str}{k:Nat}{caps:List Nat}{scope:Scope}(h:compLook sc N N2 k caps scope=true):Fe sc N N2 k caps scope:=by
 unfold compLook at h
 simp only[U1b,U3m,U6n,decide_eq_true_eq] at h
 obtain⟨⟨⟨⟨⟨⟨h1,h2⟩,h3⟩,h4⟩,h5⟩,h6⟩,h7⟩:=h
 refine⟨h1,fun y hy e=>?_,fun y hy e=>?_,fun y hy e=>?_,h5,h6,fun j i e=>?_⟩
 .rcases h2 y hy with z|z
  .exact absurd e z
  .exact z
 .rcases h3 y hy with z|z
  .exact absurd e z
  .exact z
 .rcases h4 y hy with (z|z)|z
  .exact absurd e z
  .exact .inl z
  .exact .inr z
 .have hj:j∈U0k caps.length:=U3.mpr (U0o.mp e).1
  have q:=h7 j hj
  rw[e] at q
  cases hy:N2[k+j]? with
  |none=>rw[hy] at q;exact absurd q (by simp)
  |some y =>
   rw[hy] at q
   simp only[U1b,decide_eq_true_eq] at q
   exact⟨y,rfl,q.1,q.2⟩
theorem RT{env:Env}:∀{names:List (Str×NameKind)} {x:Str},names.lookup x=some .free ->
  (names.map fun(n,k)=>if (k==U2o&&env.scope.kind==.function&&env.kindOf n==some .cell) then (n,U3v) else (n,k)).lookup x=some .cell ∨
  (names.map fun(n,k)=>if (k==U2o&&env.scope.kind==.function&&env.kindOf n==some .cell) then (n,U3v) else (n,k)).lookup x=some .free
 |[],_,h=>by simp at h
 |(n,k)::r,x,h=>by
  have ih:=@RT env r x
  show U7o x ((if (k==U2o&&env.scope.kind==.function&&env.kindOf n==some .cell)=true then (n,U3v) else (n,k))::_)=_∨U7o x ((if (k==U2o&&env.scope.kind==.function&&env.kindOf n==some .cell)=true then (n,U3v) else (n,k))::_)=_
  cases hx:x==n with
  |true =>
   simp only[U14,hx] at h
   cases h
   by_cases hc:(U2o==U2o&&env.scope.kind==.function&&env.kindOf n==some .cell)=true
   .rw[if_pos hc];left;simp only[U14,hx]
   .rw[if_neg hc];right;simp only[U14,hx]
  |false =>
   simp only[U14,hx] at h
   by_cases hc:(k==U2o&&env.scope.kind==.function&&env.kindOf n==some .cell)=true
   .rw[if_pos hc];simp only[U14,hx];exact ih h
   .rw[if_neg hc];simp only[U14,hx];exact ih h
theorem RV{env:Env}:∀{names:List (Str×NameKind)} {x:Str},
  ((names.map fun(n,k)=>if (k==U2o&&env.scope.kind==.function&&env.kindOf n==some .cell) then (n,U3v) else (n,k)).lookup x=some .cell ∨
   (names.map fun(n,k)=>if (k==U2o&&env.scope.kind==.function&&env.kindOf n==some .cell) then (n,U3v) else (n,k)).lookup x=some .free)->names.lookup x=some .free∨names.lookup x=some .cell
 |[],_,h=>by simp at h
 |(n,k)::r,x,h=>by
  have ih:=@RV env r x
  cases hx:x==n with
  |true =>
   simp only[U14,hx]
   by_cases hf:k=.free
   .rw[hf];exact .inl rfl
   .have hkf:(k==U2o)=false:=by
     cases k<;>first|rfl|exact absurd rfl hf
    simp only[U0j,hkf,Bool.false_and,U1t,if_false,U14,hx] at h
    rcases h with z|z
    .exact .inr z
    .exact absurd (U03 z) hf
  |false =>
   simp only[U14,hx]
   refine ih ?_
   have h':U7o x ((if (k==U2o&&env.scope.kind==.function&&env.kindOf n==some .cell)=true then (n,U3v) else (n,k))::List.map _ r)=some .cell∨U7o x ((if (k==U2o&&env.scope.kind==.function&&env.kindOf n==some .cell)=true then (n,U3v) else (n,k))::List.map _ r)=some .free:=h
   by_cases hcc:(k==U2o&&env.scope.kind==.function&&env.kindOf n==some .cell)=true
   .rw[if_pos hcc] at h';simp only[U14,hx] at h';exact h'
   .rw[if_neg hcc] at h';simp only[U14,hx] at h';exact h'
theorem Il:∀(names:List (Str×NameKind))(n:Nat)(acc:List (Str×Addr)),cellsFrom n names acc=cellsFrom n names []++acc
 |[],_,_=>rfl
 |(x,k)::r,n,acc=>by
  unfold cellsFrom
  split
  .rw[Il r (n+1) ((x,n)::acc),Il r (n+1) [(x,n)],U35];rfl
  .exact Il r n acc
theorem MJ:∀(names:List (Str×NameKind))(n:Nat){x:Str}{c:Addr},(x,c)∈cellsFrom n names []->(x,U3v)∈names
 |[],_,_,_,h=>by simp[cellsFrom] at h
 |(y,k)::r,n,x,c,h=>by
  unfold cellsFrom at h
  split at h
  .rename_i hk
   rw[Il] at h
   rcases U2c.mp h with z|z
   .exact U0p _ (MJ r (n+1) z)
   .have z':(x,c)=(y,n):=by simpa using z
    have hk':k=.cell:=by simpa using hk
    cases z'
    rw[hk'];exact U0l
  .exact U0p _ (MJ r n h)
theorem dX{cs ds:List (Str×Addr)}{x:Str}{c:Addr}(h:(cs++ds).lookup x=some c):cs.lookup x=some c∨(cs.lookup x=none/\ds.lookup x=some c):=by
 rw[U5a] at h
 cases e:cs.lookup x with
 |none=>rw[e] at h;exact .inr ⟨rfl,h⟩
 |some d=>rw[e] at h;exact .inl h
theorem Zu{M:Model}{A:Around}{E:Value->Shared->Prop}{s:Shared}{scope:Scope}{globals:Addr}{cl:List (Str×Addr)}{qual:Str}{env:Env}{Q:Env->Shared->Prop}
  (hQ:∀h':Heap,h'.Ns s.heap.objs.size (fun _=>none)->(∀b o,s.heap.get? b=some o->h'.get? b=some o)->CellsOk h' (s.heap.objs.size+1) (cellsFrom (s.heap.objs.size+1) scope.names []) ->
   Q { scope,locals:=s.heap.objs.size,globals,cells:=cellsFrom (s.heap.objs.size+1) scope.names []++cl,qual,func:=none,code:=env.code,frame:=env.frame,builtins:=env.builtins } { s with heap:=h' }) :
  wpAny M A (newFunctionEnv scope globals cl [] qual none .none (some env)) Q E s:=by
 simp only[newFunctionEnv,U6z,if_true]
 refine U0 (wpAny_alloc ?_)
 refine U0 (wpAny_layCells _ (fun name kind cells=>by cases hkc:kind==U3v<;>simp[hkc]) _ _ _ _ ?_)
 rw[show({ s with heap:=s.heap.push { cls:=.type "dict",data:=.dict #[] } }:Shared).heap.objs.size=s.heap.objs.size+1 from U18 ..]
 have ok:=cellsFrom_ok scope.names (s.heap.push { cls:=.type "dict",data:=.dict #[] }) (s.heap.objs.size+1) [] ⟨fun _ _ hm=>(nomatch hm),U68⟩ (by rw[U18];exact U0u _)
 rw[U18] at ok
 rw[Il]
 refine U0 ?_
 rw[U53]
 refine U0d (U0d (hQ _ ?_ ?_ ok))
 .exact(Heap.Ns.new s.heap (.type "dict")).keeps (pushCells_keeps _ _)
 .exact fun b o e=>pushCells_keeps _ _ b o (U0c _ e)
theorem VG{scope:Scope}{env:Env}(h:∀y∈scope.names,y.2=.free->∃c,env.cells.lookup y.1=some c) :
  ∃cl,closureFor scope env=pure cl/\(∀x c,cl.lookup x=some c->env.cells.lookup x=some c)/\∀x,scope.names.lookup x=some .free->∃c,cl.lookup x=some c:=by
 have all:∀(names:List (Str×NameKind))(cs:List (Str×Addr)),(∀y∈names,y.2=.free->∃c,env.cells.lookup y.1=some c)->(∀x c,cs.lookup x=some c->env.cells.lookup x=some c) ->
   ∃cl,(forIn names cs (fun(x:Str×NameKind) (cs:List (Str×Addr))=>(match x with
     |(name,kind)=>if (kind==U2o)=true then (cellOf env name >>= fun a=>pure (U6o ((name,a)::cs))) else pure (U6o cs):Sem (ForInStep (List (Str×Addr)))) ):Sem (List (Str×Addr)))=pure cl /\
    (∀x c,cl.lookup x=some c->env.cells.lookup x=some c)/\(∀x c,cs.lookup x=some c->∃c',cl.lookup x=some c')/\∀x,names.lookup x=some .free->∃c,cl.lookup x=some c:=by
  intro names
  induction names with
  |nil=>intro cs _ hc;exact⟨cs,rfl,hc,fun x c e=>⟨c,e⟩,fun x e=>by simp at e⟩
  |cons y r ih =>
   intro cs hy hc
   obtain⟨n,kd⟩:=y
   by_cases hk:kd=.free
   .subst hk
    obtain⟨c,hcn⟩:=hy (n,.free) U0l rfl
    have hc':∀x c',((n,c)::cs).lookup x=some c'->env.cells.lookup x=some c':=fun x c' e=>by
     rw[U14] at e
     cases hx:x==n with
     |true =>
      rw[hx] at e
      have hxn:x=n:=by simpa using hx
      rw[hxn,hcn];exact e
     |false=>rw[hx] at e;exact hc x c' e
    obtain⟨cl,e1,e2,e3,e4⟩:=ih ((n,c)::cs) (fun z hz=>hy z (U0p _ hz)) hc'
    refine⟨cl,?_,e2,fun x c' e=>?_,fun x e=>?_⟩
    .rw[U4f]
     have hb:(U2o==U2o)=true:=rfl
     simp only[hb,if_true,cellOf,hcn,pure_bind]
     exact e1
    .by_cases hx:(x==n)=true
     .exact e3 x c (by rw[U14,hx])
     .have hx':(x==n)=false:=by simpa using hx
      exact e3 x c' (by rw[U14,hx'];exact e)
    .rw[U14] at e
     cases hx:x==n with
     |true=>exact e3 x c (by rw[U14,hx])
     |false=>rw[hx] at e;exact e4 x e
   .have hb:(kd==U2o)=false:=by
     cases kd<;>first|rfl|exact absurd rfl hk
    obtain⟨cl,e1,e2,e3,e4⟩:=ih cs (fun z hz=>hy z (U0p _ hz)) hc
    refine⟨cl,?_,e2,e3,fun x e=>?_⟩
    .rw[U4f]
     simp only[hb,U1t,if_false,pure_bind]
     exact e1
    .rw[U14] at e
     cases hx:x==n with
     |true=>rw[hx] at e;exact absurd (U03 e) hk
     |false=>rw[hx] at e;exact e4 x e
 obtain⟨cl,e1,e2,_,e4⟩:=all scope.names [] h (fun x c e=>by simp at e)
 refine⟨cl,?_,e2,e4⟩
 unfold closureFor
 rw[←bind_pure (pure cl:Sem _),←e1]
abbrev Eb(X:Cx)(N2:List Str)(scope:Scope)(cl:List (Str×Addr))(C:Addr)(s:Shared)(H:Hp)(ex:List Addr):Cx :=
 { X with N:=N2,s₀:=s,H₀:=H,env:=compEnvC scope cl C X.env,outer:=X.stack,ex:=ex,fn:=fun x=>decide (scope.names.lookup x=some .cell),pn:=[],xe:=fun _ _=>False }
def Jm(k:Nat)(caps:List Nat)(σ:St):St:=U0h k none++caps.map fun j=>(σ[j]?).join
def zP(J:It)(k:Nat)(caps:List Nat)(σ:St)(g:TG)(tt:TT)(te:TE)(Q:VK)(H1:Hp):Prop:=∃W:Nat->Nat->List V->Hp->Prop,(∃m,W 0 m [] H1)/\∀i m ys H,W i m ys H ->
 (J.stop i H/\∀p,H p=none->Q (.ref p) (upd H p (.lst ys))) ∨
 (J.go i H/\ys.length<sizeLine/\∀x H',J.yld i H x H'->g x (Jm k caps σ) H' fun σ2 H2=>tt σ2 H2 fun b H3 =>
  if b=true then te σ2 H3 fun v H4=>∃m',m'<m/\W (i+1) m' (ys++[v]) H4 else ∃m',m'<m/\W (i+1) m' ys H3)
def cR(k:Nat)(caps:List Nat)(wi:TI)(g:TG)(tt:TT)(te:TE):TE:=fun σ H Q=>wi σ H fun J H1=>zP J k caps σ g tt te Q H1
theorem bf{k:Nat}{caps:List Nat}{σ:St}{i:Nat}{v:V}(h:(Jm k caps σ)[i]?=some (some v)):∃j a,i=k+j/\caps[j]?=some a/\σ[a]?=some (some v):=by
 unfold Jm at h
 by_cases hi:i<k
 .rw[U1f (by simpa using hi),U38,if_pos hi] at h
  cases h
 .rw[U2a (by simpa using hi),U1e,U0z] at h
  cases e:caps[i-k]? with
  |none=>rw[e] at h;cases h
  |some a =>
   rw[e] at h
   have h':(σ[a]?).join=some v:=U03 h
   refine⟨i-k,a,by omega,e,?_⟩
   cases e2:σ[a]? with
   |none=>rw[e2] at h';cases h'
   |some o =>
    rw[e2] at h'
    cases o with
    |none=>cases h'
    |some v' =>
     have h'':some v'=some v:=h'
     rw[h'']
theorem Lk{a b n:Nat}(h1:a<n)(h2:n<=b):a≠b:=by omega
section
variable{X:Cx}{pins:List (Addr×Obj)}{σ:St}
theorem Inv.but{H:Hp}{s:Shared}{C:Addr}{h':Heap}(I:Inv X pins σ H s)(hb:U07 C s.heap h')(hn:H C=none)(hL:C≠X.env.locals)(h1:X.s₀.heap.objs.size<=C)(h2:∀x c,X.env.cells.lookup x=some c->c≠C)(h3:∀p∈X.pn++pins,p.1≠C) :
  Inv X pins σ H { s with heap:=h' }:=I.turned (t':=s.toks) (fun b o hne e=>(hb.2 b hne).trans e) hn hL (.inr h1) h2 h3
theorem VF{s2:Shared}{H2:Hp}{elt tg iter:Expr}{ifs:List Expr}{scope:Scope}{pos:Pos}{N2:List Str}{k:Nat}{caps:List Nat}{cl:List (Str×Addr)}{g:TG}{tt:TT}{te:TE}{E:Value->Shared->Prop}
  {it:Addr} {fp:List Addr} {tn:Nat->Heap->Prop} {J:It} {RR:Value->Addr->Result->Shared->Prop} {Qe:List V->Hp->Prop} {W:Nat->Nat->List V->Hp->Prop} {m0:Nat}
  (hc:X.calm=true) (hS:Fe X.env.scope X.N N2 k caps scope) (hlow:Low k g)
  (hcl:∀x c,cl.lookup x=some c->X.env.cells.lookup x=some c) (hcf:∀x,scope.names.lookup x=some .free->∃c,cl.lookup x=some c)
  (hb:∀(cl:List (Str×Addr))(C:Addr)(s:Shared)(H:Hp)(ex:List Addr),PG (Eb X N2 scope cl C s H ex) tg g/\PTs (Eb X N2 scope cl C s H ex) ifs tt/\PE (Eb X N2 scope cl C s H ex) elt te)
  (I2:Inv X pins σ H2 s2) (T:Turn X.prog X.w X.K tg J fp it tn) (st2:tn 0 s2.heap) (f2:∀b∈fp,Ow X pins H2 b) (w0:W 0 m0 [] H2)
  (turn:∀i m ys H,W i m ys H->(J.stop i H/\Qe ys H) ∨
   (J.go i H/\ys.length<sizeLine/\∀x H',J.yld i H x H'->g x (Jm k caps σ) H' fun σ2 H2=>tt σ2 H2 fun b H3 =>
    if b=true then te σ2 H3 fun v H4=>∃m',m'<m/\W (i+1) m' (ys++[v]) H4 else ∃m',m'<m/\W (i+1) m' ys H3))
  (hRR:∀D C s' H' ys,s2.heap.objs.size<=D->s2.heap.objs.size<=C->C≠D->H' D=none->H' C=none->Inv X pins σ (upd H' D (.lst ys)) s'->(∃m,s'.heap.Ns C m)->Qe ys H'->RR (.ref D) C (.ok .next) s') :
  wpAny (model X.prog X.w) X.A (newList []) (fun acc s₃=>wpAny (model X.prog X.w) X.A (newFunctionEnv scope X.env.globals cl [] X.env.qual none .none (some X.env)) (fun cenv s₄ =>
   codeAny (model X.prog X.w) X.A (.compStart (.ListComp elt [⟨tg,iter,ifs,0⟩] scope pos) 0 (.ref it) acc { cenv with scope:=relabel scope X.env }) (RR acc cenv.locals) s₄) E s₃) E s2:=by
 refine U2d (Zu fun h₁ hns₁ kp cok=>?_)
 dsimp only at hns₁ kp cok ⊢
 generalize hH3:s2.heap.push { cls:=.type "list",dict:=none,data:=.seq ([]:List Value).toArray }=H3 at hns₁ kp cok ⊢
 have hC:H3.objs.size=s2.heap.objs.size+1:=by rw[←hH3,U18]
 generalize hDD:s2.heap.objs.size=D at hC
 generalize hCC:H3.objs.size=C at hns₁ cok hC ⊢
 have hDC:D≠C:=by omega
 have szD:s2.heap.objs.size<=D:=U7z hDD
 have szC:s2.heap.objs.size<=C:=by rw[hDD,hC];exact U5e _
 have below:∀b o,s2.heap.get? b=some o->b≠C/\b≠D:=fun b o e=>⟨Lk (U0m e) szC,Lk (U0m e) szD⟩
 have old:∀b o,s2.heap.get? b=some o->h₁.get? b=some o:=fun b o e=>kp b o (hH3 ▸ U0c _ e)
 have hacc:h₁.get? D=some { cls:=.type "list",data:=.seq ([]:List Value).toArray 0 }:=kp _ _ (hH3 ▸ hDD ▸ U0v _ rfl)
 have f2h:∀b∈fp,∃o,s2.heap.get? b=some o:=fun b hbf=>let ⟨o,e,_⟩:=T.obj 0 _ st2 b hbf;⟨o,e⟩
 -- the block's context
 have okc:∀x c,X.env.cells.lookup x=some c->∃o,s2.heap.get? c=some o:=fun x c e=>let ⟨_,o,ho,_⟩:=I2.cell x c e;⟨o,ho⟩
 have oMem:∀x c,(cellsFrom (C+1) scope.names []).lookup x=some c->C+1<=c/\h₁.IsCell c none/\scope.names.lookup x=some .cell:=fun x c e=>by
  have m:=U22 e
  exact⟨(cok.empty x c m).2,(cok.empty x c m).1,hS.one _ (MJ _ _ m) rfl⟩
 have oHas:∀x,scope.names.lookup x=some .cell->∃c,(cellsFrom (C+1) scope.names []).lookup x=some c:=fun x e=>U33.mp (U6a scope.names (C+1) [] (.inl e))
 have oApart:=cok.apart
 generalize cellsFrom (C+1) scope.names []=own at oMem oHas oApart ⊢
 have hcs:∀x c,(own++cl).lookup x=some c->(C+1<=c/\h₁.IsCell c none/\own.lookup x=some c)∨X.env.cells.lookup x=some c:=fun x c e=>by
  rcases dX e with z|z
  .exact .inl ⟨(oMem x c z).1,(oMem x c z).2.1,z⟩
  .exact .inr (hcl x c z.2)
 have hlt:∀x c,X.env.cells.lookup x=some c->c<s2.heap.objs.size:=fun x c e=>let ⟨o,ho⟩:=okc x c e;U0m ho
 have OK:(Eb X N2 scope (own++cl) C s2 H2 fp).Ok:=by
  refine⟨I2.ok.mod,hS.kind,I2.ok.glob,I2.ok.blt,?_,fun x y c h1 h2=>?_,fun x hx=>?_,fun x c hf h1=>?_,I2.ok.hd,I2.ok.frames,.inl rfl,fun b hbf=>?_,I2.bs,
   U1c I2.ok.bsz I2.sz,fun b o e hbf=>?_,fun b hbf hb'=>?_,I2.stack,I2.aY,I2.TF⟩
  .exact szC
  .rcases hcs x c h1 with z|z
   .rcases hcs y c h2 with z'|z'
    .exact name_of_addr oApart (U22 z.2.2) (U22 z'.2.2)
    .exact absurd (hlt y c z') (U7u.mpr (U1c szC (U1c (U5e _) z.1)))
   .rcases hcs y c h2 with z'|z'
    .exact absurd (hlt x c z) (U7u.mpr (U1c szC (U1c (U5e _) z'.1)))
    .exact I2.ok.inj x y c z z'
  .rcases RV (env:=X.env) hx with z|z
   .obtain⟨c,e⟩:=hcf x z
    show ∃c,(own++cl).lookup x=some c
    rw[U5a]
    cases q:own.lookup x with
    |none=>exact⟨c,e⟩
    |some d=>exact⟨d,rfl⟩
   .obtain⟨c,e⟩:=oHas x z
    exact⟨c,by show(own++cl).lookup x=some c;rw[U5a,e];rfl⟩
  .obtain⟨d,e⟩:=oHas x (of_decide_eq_true hf)
   have h1':(own++cl).lookup x=some c:=h1
   rw[U5a,e] at h1'
   have e2:d=c:=U03 h1'
   rw[←e2]
   exact U1c szC (U1c (U5e _) (oMem x d e).1)
  .obtain⟨o,e⟩:=f2h b hbf
   refine⟨(below b o e).1,fun x c h1=>?_⟩
   rcases hcs x c h1 with z|z
   .exact fun w=>absurd (U0m e) (by rw[←w];exact U7u.mpr (U1c szC (U1c (U5e _) z.1)))
   .exact(f2 b hbf).2.2.2.2.1 x c z
  .rcases(f2 b hbf).2.2.2.1 with z|z
   .exact I2.ok.noex b o e z
   .exact absurd (U0w (U0m (I2.ok.bs b o e).1) z) (U3u _)
  .rcases U0t.mp (I2.Qo b hb') with z|z
   .exact(f2 b hbf).2.1 z
   .exact(f2 b hbf).2.2.1 z
 have fresh:∀a,s2.heap.objs.size<=a->H2 a=none:=fun a ha=>I2.hok.fresh ha
 have I4:∀tk,Inv (Eb X N2 scope (own++cl) C s2 H2 fp) [(D,{ cls:=.type "list",data:=.seq ([]:List Value).toArray 0 })] (Jm k caps σ) H2 { s2 with heap:=h₁,toks:=tk }:=fun tk=>by
  refine⟨OK,rfl,I2.bare,Un.kept old,⟨_,hns₁,fun i x v e1 e2 e3=>?_⟩,fun x c e=>?_,fresh C szC,fun x c e=>?_,fun p hp=>?_,I2.hok.kept old,?_⟩
  .obtain⟨j,a,rfl,ha,hv⟩:=bf e2
   obtain⟨y,y1,y2,y3⟩:=hS.cap j a ha
   have e1':N2[k+j]?=some x:=e1
   rw[y1] at e1';cases e1'
   have hk:X.env.scope.names.lookup x=some .cell∨X.env.scope.names.lookup x=some .free:=hS.free (x,.free) (U22 y3) rfl
   obtain⟨m',_,hl⟩:=id I2.loc
   obtain⟨u,ru,lk⟩:=hl a x v y2 hv (hk.elim (fun z=>.inr (.inl z)) fun z=>.inr (.inr z))
   refine⟨u,ru,.inr ⟨RT y3,?_⟩⟩
   rcases lk with ⟨kk,_⟩|⟨_,c,e,z⟩
   .have kk':X.env.scope.names.lookup x=some .local:=kk
    rw[kk'] at hk
    rcases hk with z|z<;>cases z
   .obtain⟨c',e'⟩:=hcf x y3
    have e'':=hcl x c' e'
    rw[e] at e'';cases e''
    obtain⟨o,ho,hd⟩:=z
    refine⟨c,?_,o,old c o ho,hd⟩
    show(own++cl).lookup x=some c
    rw[U5a]
    cases q:own.lookup x with
    |none=>exact e'
    |some d=>have:=(oMem x d q).2.2;rw[y3] at this;cases this
  .rcases hcs x c e with z|z
   .exact⟨none,z.2.1⟩
   .obtain⟨v,o,ho,hd⟩:=I2.cell x c z
    exact⟨v,o,old c o ho,hd⟩
  .rcases hcs x c e with z|z
   .exact fresh c (U1c szC (U1c (U5e _) z.1))
   .exact I2.freeC x c z
  .have hp':p∈[(D,({ cls:=.type "list",data:=.seq ([]:List Value).toArray 0 }:Obj))]:=hp
   have e:p=(D,({ cls:=.type "list",data:=.seq ([]:List Value).toArray 0 }:Obj)):=by simpa using hp'
   subst e
   exact⟨hacc,fresh D szD,hDC,fun z=>by
    rcases U0t.mp (I2.Qo D z) with z|z
    .exact Lk I2.lt szD z.symm
    .exact I2.jN szD z,fun v z=>by cases z⟩
  .show(Jm k caps σ).length=N2.length
   unfold Jm
   rw[U0s,U1e,U0i,hS.len]
 -- the loop
 obtain⟨hg,ht,he⟩:=hb (own++cl) C s2 H2 fp
 have loop:∀s₃:Shared,Inv (Eb X N2 scope (own++cl) C s2 H2 fp) [(D,{ cls:=.type "list",data:=.seq ([]:List Value).toArray 0 })] (Jm k caps σ) H2 s₃->tn 0 s₃.heap ->
   codeAny (model X.prog X.w) X.A (.compLoop (.ListComp elt [⟨tg,iter,ifs,0⟩] scope pos) 0 (.ref it) (.ref D) (compEnvC scope (own++cl) C X.env)) (RR (.ref D) C) s₃:=by
  intro s₃ I₃ st₃
  refine codeAny_loop rfl (fun n s'=>∃i ys its nn H',Inv (Eb X N2 scope (own++cl) C s2 H2 fp) [(D,{ cls:=.type "list",data:=.seq (its:List Value).toArray nn })] (Jm k caps σ) H' s'/\Vals ys its/\tn i s'.heap/\(∀b∈fp,H' b=none)/\ys.length<=sizeLine/\W i n ys H') ?_ m0
   ⟨0,[],[],0,H2,I₃,.nil,st₃,fun b hbf=>(f2 b hbf).1,U3a _,w0⟩
  rintro n s5 ⟨i,ys,its,nn,H5,I5,rv,st5,fr5,hz,w5⟩
  show wpAny _ X.A ((compTurn (.ListComp elt [⟨tg,iter,ifs,0⟩] scope pos) 0 (.ref it) (.ref D) (compEnvC scope (own++cl) C X.env)).onRaise (fun x=>do noteFrame x (compEnvC scope (own++cl) C X.env);theTreesLotGoes x)) _ _ s5
  refine wpAny_noted ?_
  rw[compTurn_list]
  refine U0 (wpAny_standAt (U0 ?_))
  have fpok:∀{H':Hp} {o:Obj},(∀b∈fp,H' b=none)->∀b∈fp,Ow (Eb X N2 scope (own++cl) C s2 H2 fp) [(D,o)] H' b:=fun {H' o} hn b hbf=>by
   obtain⟨ob,e⟩:=f2h b hbf
   refine⟨hn b hbf,(below b ob e).1,OK.exfs b hbf,.inl hbf,(OK.exf b hbf).2,fun p hp z=>?_⟩
   have hp':p∈[(D,o)]:=hp
   have e':p=(D,o):=by simpa using hp'
   subst e'
   exact(below b ob e).2 z.symm
  rcases turn i n ys H5 w5 with ⟨stop,qn⟩|⟨go,hz2,step⟩
  .refine thn (T.done (Eb X N2 scope (own++cl) C s2 H2 fp) rfl rfl rfl hc i _ s5 _ H5 _ I5 (fpok fr5) st5 stop) fun r s6 ⟨hr,I6⟩=>?_
   subst hr
   refine U0d ?_
   obtain⟨pe,pn,pne,pnf,_⟩:=I6.pin (D,{ cls:=.type "list",data:=.seq its.toArray nn }) (U1d _ (U01.mpr rfl))
   have hD:H5 D=none:=pn
   have hCn:H5 C=none:=I6.free
   refine hRR D C s6 H5 ys szD szC (U1l hDC) hD hCn ?_ ?_ qn
   .have un:Un (frs X.stack) fp H2 (upd H5 D (.lst ys)) s2.heap s6.heap:=by
     have u:=I6.base
     refine⟨u.keep,u.slot,fun b o e n1 n2=>?_,u.there,fun b xs e=>?_,fun b o u' e=>?_,fun b ps e=>?_,fun n=>by rw[Bl (U0y (U0w I2.cL szD))];exact u.sy n⟩
     .rw[Bl (below b o e).2];exact u.free b o e n1 n2
     .rw[Bl (Du (u.tups b xs e) hD)];exact u.tups b xs e
     .rw[Bl (Du (u.frzs b o u' e) hD)];exact u.frzs b o u' e
     .obtain⟨more,q⟩:=u.tbls b ps e
      exact⟨more,by rw[Bl (Du q hD)];exact q⟩
    refine I2.call' I6.os un (fun b u e=>?_) I6.bare (fun b hbf=>⟨(f2 b hbf).2.2.2.1,(f2 b hbf).2.1,(f2 b hbf).2.2.2.2.1,(f2 b hbf).2.2.2.2.2⟩)
    by_cases hbd:b=D
    .subst hbd
     rw[CK] at e;cases e
     exact⟨hz,its,nn,rv,pe⟩
    .rw[Bl hbd] at e
     exact(I6.hok b u e).stay (fun _ _ _ q=>q) (fun c q=>by rw[Bl (Du q hD)];exact q) fun c xs q=>by rw[Bl (Du q hD)];exact q
   .obtain⟨m,hn,_⟩:=I6.loc
    exact⟨m,hn⟩
  .refine thn (T.item (Eb X N2 scope (own++cl) C s2 H2 fp) rfl rfl rfl hc i _ s5 _ H5 _ I5 (fpok fr5) st5 go) fun r s6 ⟨u,hr,h6⟩=>?_
   subst hr
   refine U0 (thn h6 fun _ s7 ⟨x,H7,I7,r7,y7,st7,fr7⟩=>?_)
   have I7':=I7.pinned (fpok fr7) (T.obj _ _ st7)
   refine U0 (U4l (hg _ s7 _ H7 x u _ I7' r7 (hlow _ _ _ _ (step x H7 y7))) (fun _ s8 ⟨σ8,H8,I8,q8,ql,qk⟩=>?_) fun _ _ z=>z.elim)
   have wk:∀{pl:List (Addr×Obj)} {H9:Hp} {s9:Shared},Inv (Eb X N2 scope (own++cl) C s2 H2 fp) pl σ8 H9 s9->Inv (Eb X N2 scope (own++cl) C s2 H2 fp) pl (Jm k caps σ) H9 s9:=fun {pl H9 s9} I9 =>
    I9.weak ql.symm fun i v e=>by
     obtain⟨j,a,rfl,_,_⟩:=bf e
     rw[qk (k+j) (U1m _ _)];exact e
   have pinD:∀{pl:List (Addr×Obj)} {σ9:St} {H9:Hp} {s9:Shared},Inv (Eb X N2 scope (own++cl) C s2 H2 fp) (((D,({ cls:=.type "list",data:=.seq its.toArray nn }:Obj))::[])++pl) σ9 H9 s9->s9.heap.get? D=some { cls:=.type "list",data:=.seq its.toArray nn }/\H9 D=none:=fun {pl σ9 H9 s9} I9=>by
    obtain⟨e1,e2,_⟩:=I9.pin (D,_) (U1d _ (U28 _ (U01.mpr rfl)))
    exact⟨e1,e2⟩
   have stn:∀{pl:List (Addr×Obj)} {σ9:St} {H9:Hp} {s9:Shared},Inv (Eb X N2 scope (own++cl) C s2 H2 fp) (pl++Lr fp s7.heap) σ9 H9 s9->tn (i+1) s9.heap/\∀b∈fp,H9 b=none:=fun {pl σ9 H9 s9} I9=>by
    refine⟨T.keep _ _ _ st7 fun b hbf o e=>(I9.pin (b,o) (U1d _ (U1d _ (Mh hbf e)))).1,fun b hbf=>?_⟩
    obtain⟨o,e,d⟩:=T.obj _ _ st7 b hbf
    exact(I9.pin (b,o) (U1d _ (U1d _ (Mh hbf e)))).2.1
   refine U0 (U4l (ht _ s8 σ8 H8 _ I8 q8) (fun ok s9 ⟨H9,I9,q9⟩=>?_) fun _ _ z=>z.elim)
   cases ok with
   |false =>
    obtain⟨m',hm,w9⟩:=(by simpa using q9:∃m',m'<n/\W (i+1) m' ys H9)
    refine U0d ⟨rfl,m',hm,i+1,ys,its,nn,H9,wk I9.Pz,rv,(stn I9).1,(stn I9).2,hz,w9⟩
   |true =>
    have q9':te σ8 H9 fun v H4=>∃m',m'<n/\W (i+1) m' (ys++[v]) H4:=by simpa using q9
    refine U0 (U0 (U4l (he _ s9 σ8 H9 _ I9 q9') (fun y s10 ⟨v,H10,I10,r10,q10⟩=>U0 ?_) fun _ _ z=>z.elim))
    obtain⟨m',hm,w10⟩:=q10
    obtain⟨eD,nD⟩:=pinD I10
    have hl:=rv.length
    refine call_meets F.slot_list_append ⟨_,eD,rfl⟩ F.entry_list_append (F.args_list_append_2 _ _) (PySem.list_append D its.toArray nn y (by rw[U0x];omega)) ⟨eD,?_⟩
    refine U0d (U0d ⟨rfl,m',hm,?_⟩)
    obtain⟨n2,qD⟩:∃n2,(s10.heap.update D (U1r fun z=>z.push y)).get? D=some { cls:=.type "list",data:=.seq (its++[y]).toArray n2 }:=by
     have q0:=PySem.IsL.update eD (fun z=>z.push y)
     have hf:its.toArray.push y=(its++[y]).toArray:=by simp
     rw[hf] at q0
     exact⟨_,q0⟩
    have J0:Inv (Eb X N2 scope (own++cl) C s2 H2 fp) (Lr fp s7.heap) (Jm k caps σ) H10 s10:=wk (I10.Ro fun p hp=>I10.pin p (U1d _ (U1d _ hp)))
    have J1:Inv (Eb X N2 scope (own++cl) C s2 H2 fp) (Lr fp s7.heap) (Jm k caps σ) H10 { s10 with heap:=s10.heap.update D (U1r fun z=>z.push y),toks:=s10.toks }:=by
     refine J0.turned (fun b o hne e=>(U04 s10.heap _ (U1l hne)).trans e) nD hDC (.inr szD) (fun x c e z=>?_) fun p hp z=>?_
     .rcases hcs x c e with y|y
      .have:=y.1
       rw[z] at this
       omega
      .obtain⟨o,ho⟩:=okc x c y
       exact(below c o ho).2 z
     .have hp':p∈Lr fp s7.heap:=hp
      obtain⟨ob,e⟩:=f2h p.1 (WX hp').1
      exact(below p.1 ob e).2 z
    have J2:Inv (Eb X N2 scope (own++cl) C s2 H2 fp) [(D,{ cls:=.type "list",data:=.seq (its++[y]).toArray n2 })] (Jm k caps σ) H10 { s10 with heap:=s10.heap.update D (U1r fun z=>z.push y),toks:=s10.toks }:=by
     refine J1.Ro fun p hp=>?_
     have e:p=(D,{ cls:=.type "list",data:=.seq (its++[y]).toArray n2 }):=U01.mp hp
     subst e
     exact⟨qD,nD,hDC,fun z=>by
      rcases U0t.mp (I2.Qo D z) with z|z
      .exact Lk I2.lt szD z.symm
      .exact I2.jN szD z,fun v z=>by cases z⟩
    refine⟨i+1,ys++[v],its++[y],_,H10,J2,rv.append (.cons r10 .nil),?_,(stn I10).2,?_,w10⟩
    .refine T.keep _ _ _ (stn I10).1 fun b hbf o e=>?_
     obtain⟨ob,e'⟩:=f2h b hbf
     exact(U04 s10.heap _ (U1l (below b ob e').2)).trans e
    .rw[U0s,U3y];omega
 have st1:tn 0 h₁:=T.keep _ _ _ st2 fun b hbf o e=>old b o e
 exact codeAny_compStart_list (loop _ (I4 _) st1) (T.self X.A 0 _ _ _ st1 (loop _ (I4 _) st1))
theorem qQ{elt tg iter:Expr}{ifs:List Expr}{scope:Scope}{pos:Pos}{N2:List Str}{k:Nat}{caps:List Nat}{wi:TI}{g:TG}{tt:TT}{te:TE}
  (hc:X.calm=true) (hS:Fe X.env.scope X.N N2 k caps scope) (hlow:Low k g) (hi:PI X tg iter wi)
  (hb:∀(cl:List (Str×Addr))(C:Addr)(s:Shared)(H:Hp)(ex:List Addr),PG (Eb X N2 scope cl C s H ex) tg g/\PTs (Eb X N2 scope cl C s H ex) ifs tt/\PE (Eb X N2 scope cl C s H ex) elt te)
  (hs:∀x,foldedSetIterable iter X.env x=pure x:=by intro _;rfl):PE X (.ListComp elt [⟨tg,iter,ifs,0⟩] scope pos) (cR k caps wi g tt te):=by
 intro pins s σ H Q I h
 rw[eval_ListComp]
 obtain⟨cl,hcl0,hcl,hcf⟩:=VG (scope:=scope) (env:=X.env) fun y hy e=>I.ok.has y.1 (hS.free y hy e)
 refine wpAny_comprehension_free (use:=none) rfl hs hcl0 hS.kind hS.loc ?_
 refine thn (hi pins s σ H _ I h) fun v s1 h1=>thn h1 fun itv s2 h2=>?_
 obtain⟨it,fp,tn,J,H2,e,I2,T,st2,f2,W,⟨m0,w0⟩,turn⟩:=h2
 subst e
 refine VF (RR:=fun acc C=>compPost (model X.prog X.w) X.A X.xe none (EP X pins σ Q) acc C) (Qe:=fun ys H=>∀p,H p=none->Q (.ref p) (upd H p (.lst ys))) hc hS hlow hcl hcf hb I2 T st2 f2 w0 turn ?_
 intro D C s' H' ys hD hC hDC nD nC I' hn q
 obtain⟨m,hn⟩:=hn
 refine⟨m,hn,fun h' hsb=>⟨.ref D,_,?_,rfl,q D nD⟩⟩
 refine I'.but hsb (by rw[Bl hDC];exact nC) (fun z=>?_) (U1c I2.sz hC) (fun x c e z=>?_) fun p hp z=>?_
 .exact Lk I2.lt hC z.symm
 .obtain⟨v,o,ho,_⟩:=I2.cell x c e
  exact Lk (U0m ho) hC z
 .exact Lk (U0m (I2.pin p hp).1) hC z
def yG(i:Nat)(t:TE):TS:=fun D σ H=>t σ H fun v H1=>D.nx (σ.set i (some v)) H1
theorem qH{elt tg iter:Expr}{ifs:List Expr}{scope:Scope}{pos py spos:Pos}{N2:List Str}{k i:Nat}{y:Str}{caps:List Nat}{wi:TI}{g:TG}{tt:TT}{te:TE}
  (hc:X.calm=true) (hN:X.N.Nodup) (hi':X.N[i]?=some y) (hS:Fe X.env.scope X.N N2 k caps scope) (hlow:Low k g) (hi:PI X tg iter wi)
  (hb:∀(cl:List (Str×Addr))(C:Addr)(s:Shared)(H:Hp)(ex:List Addr),PG (Eb X N2 scope cl C s H ex) tg g/\PTs (Eb X N2 scope cl C s H ex) ifs tt/\PE (Eb X N2 scope cl C s H ex) elt te)
  (hx:X.env.scope.names.lookup y=some .local:=by rfl) (hsw:swapsWith (.ListComp elt [⟨tg,iter,ifs,0⟩] scope pos) (some (.Name y py)) spos.line X.env=pure true:=by rfl)
  (hs:∀x,foldedSetIterable iter X.env x=pure x:=by intro _;rfl):PS X (.Assign [.Name y py] (.ListComp elt [⟨tg,iter,ifs,0⟩] scope pos) spos) (yG i (cR k caps wi g tt te)):=by
 intro pins s σ H D0 I h
 obtain⟨cl,hcl0,hcl,hcf⟩:=VG (scope:=scope) (env:=X.env) fun y hy e=>I.ok.has y.1 (hS.free y hy e)
 rw[exec_Assign_Name_used _ _ _ _ hsw]
 refine U0 (wpAny_standAt (U0 ?_))
 show wpAny _ X.A (do let _ ←comprehension (.ListComp elt [⟨tg,iter,ifs,0⟩] scope pos) scope X.env _ (newList []) false (eval iter X.env) (some (assign (.Name y py) X.env))) _ _ s
 refine U0 (U4l (wpAny_comprehension_free (use:=some (assign (.Name y py) X.env)) (Q:=fun _ s'=>SP X pins D0 .next s') rfl hs hcl0 hS.kind hS.loc ?_) (fun _ s' hq=>U0d (U0d hq)) fun _ _ e=>e)
 refine thn (hi pins s σ H _ I h) fun v s1 h1=>thn h1 fun itv s2 h2=>?_
 obtain⟨it,fp,tn,J,H2,e,I2,T,st2,f2,W,⟨m0,w0⟩,turn⟩:=h2
 subst e
 refine VF (RR:=fun acc C=>compPost (model X.prog X.w) X.A X.xe (some (assign (.Name y py) X.env)) (fun _ s'=>SP X pins D0 .next s') acc C)
  (Qe:=fun ys H=>∀p,H p=none->D0.nx (σ.set i (some (.ref p))) (upd H p (.lst ys))) hc hS hlow hcl hcf hb I2 T st2 f2 w0 turn ?_
 intro D C s' H' ys hD hC hDC nD nC I' hn q
 obtain⟨m,hn⟩:=hn
 show wpAny _ X.A (assign (.Name y py) X.env (.ref D)) _ _ _
 refine wpAny_assign_Name (W8 (v:=.ref D) I' hN hi' (.inl hx) rfl (fun s'' I'' ⟨a,hsb,ha⟩=>?_) (.inr hx))
 have hLC:C≠X.env.locals:=fun z=>Lk I2.lt hC z.symm
 have hcC:∀x c,X.env.cells.lookup x=some c->c≠C:=fun x c e z=>by
  obtain⟨v,o,ho,_⟩:=I2.cell x c e
  exact Lk (U0m ho) hC z
 have haC:C≠a:=by
  rcases ha with z|z
  .rw[z];exact hLC
  .exact fun e=>hcC y a z e.symm
 refine⟨m,hn.sameBut hsb haC,fun h' hsb'=>?_⟩
 refine⟨_,_,I''.but hsb' (by rw[Bl hDC];exact nC) hLC (U1c I2.sz hC) hcC fun p hp z=>?_,q D nD⟩
 exact Lk (U0m (I2.pin p hp).1) hC z
end
end L2
end
section
namespace L2
open PySem PySem.Spec PyProof.Rows
theorem Dh.obj{P:Program}{w:World}{H:Hp}{h:Heap}{a:Addr}{o:HO}(x:Dh P w H h a o):∃ob,h.get? a=some ob:=by
 cases o with
 |lst xs=>obtain⟨_,_,_,_,e⟩:=x;exact⟨_,e⟩
 |tup xs=>obtain⟨_,_,_,ob,e,_⟩:=x;exact⟨ob,e⟩
 |dK kvs=>obtain⟨_,_,_,_,o,_,_,e,_⟩:=x;exact⟨o,e⟩
 |dT kvs=>obtain⟨_,_,_,_,o,_,_,e,_⟩:=x;exact⟨o,e⟩
 |set S n=>obtain⟨o,_,_,_,e,_⟩:=x;exact⟨o,e⟩
 |ins C dx fs=>obtain⟨_,_,_,e,_⟩:=x;exact⟨_,e⟩
 |own y=>exact x
 |xd fs=>obtain⟨_,⟨o,_,_,e,_⟩,_⟩:=x;exact⟨o,e⟩
 |rng lo hi=>obtain⟨_,_,_,e⟩:=x;exact⟨_,e⟩
 |frz ob u=>obtain⟨e,_⟩:=x;exact⟨_,e⟩
 |tbl ps=>exact⟨_,x⟩
 |met f y=>exact⟨_,x⟩
 |ext φ=>obtain⟨_,e,_⟩:=x;exact e
section
variable{X:Cx}{pins:List (Addr×Obj)}{σ:St}{H:Hp}{s:Shared}
theorem Inv.Vj(I:Inv X pins σ H s){a:Addr}(h:s.heap.get? a=none):H a=none:=by
 cases q:H a with
 |none=>rfl
 |some o =>
  obtain⟨ob,e⟩:=(I.hok a o q).obj
  rw[h] at e;cases e
theorem Inv.laidN{a:Addr}{o:HO}{h':Heap}{d':Drawn}{t':Nat}(I:Inv X pins σ H s)(k:∀b u,s.heap.get? b=some u->h'.get? b=some u)(hn:s.heap.get? a=none)(hsy:sysModules≠a)(new:Dh X.prog X.w (upd H a o) h' a o) :
  Inv X pins σ (upd H a o) { s with heap:=h',drawn:=d',toks:=t' }:=by
 have hH:=I.Vj hn
 have ne:∀b u,s.heap.get? b=some u->b≠a:=fun b u e z=>by rw[z,hn] at e;cases e
 refine I.step (g':=s.gens) (ch:=[]) (fun _ z=>nomatch z) (fun b u _ _ _ e _=>k b u e) (fun b u _ _ _ e _=>⟨u.slots,k b u e⟩) (fun b u _ e n=>by rw[Bl (ne b u e)];exact n) (fun b u _ e=>⟨u,k b u e⟩)
  (fun b xs e=>by rw[Bl (Du e hH)];exact e) (fun b u xs e=>by rw[Bl (Du e hH)];exact e) (fun b ps e=>⟨#[],by rw[Bl (Du e hH),e];simp⟩) (fun m hm=>?_) (fun b u e=>?_) I.bare (fun n=>by rw[Bl hsy];exact n)
 .obtain⟨ob,es,ep,e,r⟩:=hm
  exact⟨ob,es,ep,k _ _ e,r⟩
 .by_cases hb:b=a
  .subst hb;rw[CK] at e;cases e;exact new
  .rw[Bl hb] at e
   exact(I.hok b u e).stay (fun c v _ q=>k c v q) (fun c q=>by rw[Bl (Du q hH)];exact q) fun c xs q=>by rw[Bl (Du q hH)];exact q
end
def XS(P:Program)(w:World)(a:Addr)(ds:List Int):HO:=.ext fun h=>SetP.SetT P w h a ds
theorem pR{P:Program}{w:World}{H:Hp}{h:Heap}{a:Addr}{ds:List Int}(x:SetP.SetT P w h a ds):Dh P w H h a (XS P w a ds) :=
 ⟨x,(by obtain⟨_,o,_,_,_,e,_⟩:=x;exact⟨o,e⟩),fun h1 h2 y k=>y.sameBut k⟩
section
variable{X:Cx}
theorem nW(hc:X.calm=true):Dn X (.type "set") (fun xs H Q=>∃p ns,xs=[.ref p]/\SqL X.K H p (ns.map V.int)/\ns.length<1000/\∀a,H a=none->Q (.ref a) (upd H a (XS X.prog X.w a (SetP.once ns)))):=by
 intro pins s σ H xs us Q I r h
 obtain⟨p,ns,rfl,hq,hl,q⟩:=h
 obtain⟨u,rfl,rx⟩:=vals1 r
 cases rx
 obtain⟨its,rv,pl,hz⟩:=I.list hq
 have hlen:=rv.length
 rw[U0i] at hlen
 refine SetP.pQ (I.ok.hd hc) pl.isList (by simpa using intsAre_of rv) (by rw[U0x,←hlen];unfold scanBound;omega) fun h' tk k T=>?_
 have hn:s.heap.get? s.heap.objs.size=none:=Heap.get?_none_of_le (U0u _)
 exact⟨.ref s.heap.objs.size,_,I.laidN (d':=s.drawn) (t':=tk) k hn (U0y I.cL) (pR T),rfl,q _ (I.hok.fresh (U0u _))⟩
theorem W4(hc:X.calm=true):Dn X (.builtin "sorted") (fun xs H Q=>∃(a:Addr)(ds:List Int),xs=[.ref a]/\H a=some (XS X.prog X.w a ds)/\ds.length<64 /\
  ∀(l:Addr)(ns:List Int),H l=none->ns.Perm ds->ns.Pairwise (·<=·)->Q (.ref l) (upd H l (.lst (ns.map V.int)))):=by
 intro pins s σ H xs us Q I r h
 obtain⟨a,ds,rfl,hH,hl,q⟩:=h
 obtain⟨u,rfl,rx⟩:=vals1 r
 cases rx
 obtain⟨T,_,_⟩:=(show Dh X.prog X.w H s.heap a (XS X.prog X.w a ds) from I.hok a _ hH)
 refine SetP.jw (I.ok.hd hc) T hl fun h' d' tk l vs ns n k hb e hi hp hs=>?_
 have hn:s.heap.get? l=none:=by
  cases q:s.heap.get? l with
  |none=>rfl
  |some o=>exact absurd (hb l o q) (U3u _)
 have hsy:sysModules≠l:=by
  obtain⟨o,_,_,e,_⟩:=I.ok.mod.glob
  exact U0y (U2q (by decide:(1:Nat)<3) (hb _ _ (I.bk _ _ e)))
 have hlen:ns.length<64:=by rw[hp.length_eq];exact hl
 refine⟨.ref l,_,I.laidN (d':=d') (t':=tk) (o:=.lst (ns.map V.int)) k hn hsy ⟨?_,vs.toList,n,Ob hi,by simpa using e⟩,rfl,q l ns (I.Vj hn) hp hs⟩
 rw[U0i]
 exact U2i (Qy (by omega))
theorem Zc{prog:Program}{w:World}{A:Around}{bs:List Bool}{its:List Value}(r:Vals (bs.map V.bl) its):TruthOf prog w A (fun i v=>its.toArray[i]?=some v) (fun i=>bs.getD i false):=by
 intro i v s Q E hP h
 rw[U5m] at hP
 have hlen:=r.length
 rw[U0i] at hlen
 have hi:i<bs.length:=by rw[hlen];exact(U0o.mp hP).1
 obtain⟨u,e,ru⟩:=r.get (i:=i) (x:=.bl bs[i]) (by rw[U0z,U0n hi];rfl)
 rw[e] at hP;cases hP
 have ru':v=U48 bs[i]:=ru
 subst ru'
 have e2:bs.getD i false=bs[i]:=by rw[U0r,U0n hi];rfl
 have h:Q (bs.getD i false) s:=h
 rw[e2] at h
 exact U3c h
theorem all_range(bs:List Bool):(U0k bs.length).all (fun i=>bs.getD i false)=bs.all id:=by
 rw[U3f,U3m,U3m]
 constructor
 .intro h b hb
  obtain⟨i,hi⟩:=U4e.mp hb
  have q:=h i (U3.mpr (U0o.mp hi).1)
  rw[U0r,hi] at q
  exact q
 .intro h i hi
  have hi':=U3.mp hi
  rw[U0r,U0n hi']
  exact h _ (U3k hi')
theorem Yw(hc:X.calm=true):Dn X (.builtin "all") (fun xs H Q=>∃(p:Addr)(bs:List Bool),xs=[.ref p]/\SqL X.K H p (bs.map V.bl)/\Q (.bl (bs.all id)) H):=by
 intro pins s σ H xs us Q I r h
 obtain⟨p,bs,rfl,hq,q⟩:=h
 obtain⟨u,rfl,rx⟩:=vals1 r
 cases rx
 obtain⟨its,rv,pl,hz⟩:=I.list hq
 have hlen:=rv.length
 rw[U0i] at hlen
 have hl:=pl.isList
 have hlt:p<s.heap.objs.size:=by obtain⟨o,ho,_⟩:=hl;exact U0m ho
 refine call_all_walk (U5k hl ?_)
 refine⟨s.heap.objs.size,[s.heap.objs.size,p],[s.heap.objs.size],its.toArray.size,_,_,fun i=>bs.getD i false,rfl,Walks.list (by simpa using I.ok.hd hc) s.heap.objs.size p (U0y hlt) its.toArray,⟨⟨_,U0v _ rfl,rfl,rfl⟩,hl.push _⟩,Zc rv,fun h' tk k=>?_⟩
 refine⟨.bl (bs.all id),H,I.kept (h':=h') (t':=tk) fun b o e=>k b o (fun z=>?_) (U0c _ e),?_,q⟩
 .exact absurd (U01.mp z) (U0y (U0m e))
 .show U48 _=U48 _
  rw[U0x,←hlen,all_range]
theorem DN{K:U0a}{a b:String}{r:Bool}(h:(if (U23 a==U23 b)=true then some true else if PySem.W.kitMeta b=true then (PySem.fastBuiltinMro a).map (·.contains (.type b)) else none)=some r):U3p K (.type a) (.type b)=some r:=h
theorem aG:Dn X (.builtin "isinstance") (fun xs H Q=>∃(x:V)(T:String)(t:Value)(b:Bool),xs=[x,.ty T]/\K9 X.K H x t/\U3p X.K t (.type T)=some b/\Q (.bl b) H):=by
 intro pins s σ H xs us Q I r h
 obtain⟨x,T,t,b,rfl,ty,e,q⟩:=h
 obtain⟨u,w',rfl,rx,rt⟩:=vals2 r
 cases (show w'=U23 T from rt)
 exact iT I rx ty e fun tk=>⟨.bl b,H,I.tok tk,rfl,q⟩
theorem aF:Dn X (.type "range") (fun xs H Q=>∃(n:Int),xs=[.int n]/\∀p,H p=none->Q (.ref p) (upd H p (.rng 0 n))):=by
 intro pins s σ H xs us Q I r h
 obtain⟨n,rfl,q⟩:=h
 obtain⟨u,rfl,rx⟩:=vals1 r
 obtain⟨t,rfl⟩:=(show ∃t,u=U3x n t from rx)
 exact call_range_1 ⟨.ref s.heap.objs.size,_,I.laid (o:=.rng 0 n) (fun _ _ e=>U0c _ e) (U0u _) ⟨_,_,_,U0v _ rfl⟩,rfl,q _ (I.hok.fresh (U0u _))⟩
theorem aD:Dn X (.type "range") (fun xs H Q=>∃(a b:Int),xs=[.int a,.int b]/\∀p,H p=none->Q (.ref p) (upd H p (.rng a b))):=by
 intro pins s σ H xs us Q I r h
 obtain⟨a,b,rfl,q⟩:=h
 obtain⟨u,w',rfl,rx,ry⟩:=vals2 r
 obtain⟨t,rfl⟩:=(show ∃t,u=U3x a t from rx)
 obtain⟨t',rfl⟩:=(show ∃t,w'=U3x b t from ry)
 exact call_range_2 ⟨.ref s.heap.objs.size,_,I.laid (o:=.rng a b) (fun _ _ e=>U0c _ e) (U0u _) ⟨_,_,_,U0v _ rfl⟩,rfl,q _ (I.hok.fresh (U0u _))⟩
def upTo(lo:Int)(n:Nat):List Int:=(U0k n).map fun(i:Nat)=>lo+i
theorem W5(hc:X.calm=true):Dn X (.type "list") (fun xs H Q=>∃(r:Addr)(lo hi:Int),xs=[.ref r]/\H r=some (.rng lo hi)/\-(2^62)<=lo/\lo<2^62/\-(2^62)<=hi/\hi<2^62/\(hi-lo).toNat<=1000 /\
  ∀l,H l=none->Q (.ref l) (upd H l (.lst ((upTo lo (hi-lo).toNat).map V.int)))):=by
 intro pins s σ H xs us Q I rr h
 obtain⟨r,lo,hi,rfl,hH,h1,h2,h3,h4,h5,q⟩:=h
 obtain⟨u,rfl,rx⟩:=vals1 rr
 cases rx
 obtain⟨t,u,v,e⟩:=(show Dh X.prog X.w H s.heap r (.rng lo hi) from I.hok r _ hH)
 have hsz:Builtin.Range.rangeSize lo hi 1=(((hi-lo).toNat:Nat):Int):=by rw[rangeSize_one];split<;>omega
 refine call_list_range (a:=lo) (b:=hi) (c:=1) (I.ok.hd hc) e (small_one h1 h2 h3 h4) hsz (by omega) fun h' tk acc c k eS hacc=>?_
 refine⟨.ref s.heap.objs.size,_,I.laid (o:=.lst ((upTo lo (hi-lo).toNat).map V.int)) (t':=tk) k (U0u _) ⟨?_,acc.toList,c,?_,by simpa using eS⟩,rfl,q _ (I.hok.fresh (U0u _))⟩
 .unfold upTo
  rw[U0i,U0i,U5l]
  exact U2i (Qy h5)
 .have gen:∀(l:List Value)(j:Nat),(∀(i:Nat)(v:Value),l[i]?=some v->∃t,v=U3x (lo+((i+j:Nat):Int)) t)->Vals (((U75 j l.length).map fun(i:Nat)=>lo+i).map V.int) l:=by
   intro l
   induction l with
   |nil=>intro j _;exact .nil
   |cons x r ih =>
    intro j hx
    obtain⟨t,e⟩:=hx 0 x rfl
    subst e
    rw[U0g,List.range'_succ]
    refine .cons ⟨t,by simp⟩ (ih (j+1) fun i v hv=>?_)
    obtain⟨t',e'⟩:=hx (i+1) v (by simpa using hv)
    exact⟨t',by rw[e',show i+1+j=i+(j+1) by omega]⟩
  have q2:=gen acc.toList 0 fun i v hv=>by
   obtain⟨t',e'⟩:=hacc.2 i v (by simpa using hv)
   exact⟨t',by rw[e'];simp⟩
  have el:acc.toList.length=(hi-lo).toNat:=by simpa using hacc.1
  rw[el,←List.range_eq_range'] at q2
  exact q2
theorem Inv.big{pins:List (Addr×Obj)}{σ:St}{H:Hp}{s:Shared}(I:Inv X pins σ H s):sysModules<s.heap.objs.size:=by
 obtain⟨o,_,_,e,_⟩:=I.ok.mod.glob
 exact U2q (by decide:(1:Nat)<3) (U0m (I.bk _ _ e))
end
end L2
end
section
namespace L2
open PySem PySem.Spec PyProof.Rows
mutual
inductive Tr (N:Addr->Prop) (H:Hp):V->PyData->Prop
 |non:Tr N H .non .none
 |bl (b:Bool):Tr N H (.bl b) (.bool b)
 |int (i:Int):Tr N H (.int i) (.int i)
 |str (x:Str):Tr N H (.str x) (.str x)
 |lst {a:Addr} {xs:List V} {ds:List PyData}:N a->H a=some (.lst xs)->Kd N H xs ds->Tr N H (.ref a) (.list ds)
 |tup {a:Addr} {xs:List V} {ds:List PyData}:N a->H a=some (.tup xs)->Kd N H xs ds->Tr N H (.ref a) (.tuple ds)
 |dct {a:Addr}:N a->H a=some (.dK [])->Tr N H (.ref a) (.dict [])
inductive Kd (N:Addr->Prop) (H:Hp):List V->List PyData->Prop
 |nil:Kd N H [] []
 |cons {x:V} {d:PyData} {xs:List V} {ds:List PyData}:Tr N H x d->Kd N H xs ds->Kd N H (x::xs) (d::ds)
end
section
variable{N N':Addr->Prop}{H H':Hp}
end
section
variable{N:Addr->Prop}{P:Program}{w:World}{H:Hp}{h:Heap}
mutual
theorem Tr.reads(ok:HOk P w H h)(hs:H sysModules=none):∀{v:V} {d:PyData},Tr N H v d->∀u,RelV v u->∃as,Reads h u d as/\sysModules ∉ as
 |_,_,.non,u,r=>⟨[],by cases (show u=U2h from r);exact .none,by simp⟩
 |_,_,.bl b,u,r=>⟨[],by cases (show u=U48 b from r);exact .bool b,by simp⟩
 |_,_,.int i,u,r=>by obtain⟨t,rfl⟩:=(show ∃t,u=U3x i t from r);exact⟨[],.int i t,by simp⟩
 |_,_,.str x,u,r=>by obtain⟨t,rfl⟩:=(show ∃t,u=U7h x t from r);exact⟨[],.str x t,by simp⟩
 |_,_,.lst (a:=a) (xs:=xs) (ds:=ds) _ hH t,u,r=>by
  cases (show u=U12 a from r)
  obtain⟨_,its,n,rv,e⟩:=(show Dh P w H h a (.lst xs) from ok a _ hH)
  obtain⟨as,ra,na⟩:=Kd.reads ok hs t its rv
  refine⟨a::as,.list e rfl rfl (by simpa using ra),fun z=>?_⟩
  rcases U0t.mp z with z|z
  .rw[z] at hs;rw[hs] at hH;cases hH
  .exact na z
 |_,_,.tup (a:=a) (xs:=xs) (ds:=ds) _ hH t,u,r=>by
  cases (show u=U12 a from r)
  obtain⟨_,its,rv,ob,e,c,n,d⟩:=(show Dh P w H h a (.tup xs) from ok a _ hH)
  obtain⟨as,ra,na⟩:=Kd.reads ok hs t its rv
  exact⟨as,.tuple e c d (by simpa using ra),na⟩
 |_,_,.dct (a:=a) _ hH,u,r=>by
  cases (show u=U12 a from r)
  obtain⟨_,y,vs,kv,o,es,ep,e,ex,d,el⟩:=(show Dh P w H h a (.dK []) from ok a _ hH)
  cases kv
  have e0:es.toList=[]:=by
   have q:Pairs (Fx P w) es.toList []:=el.2.1
   generalize es.toList=l at q
   cases q
   rfl
  refine⟨[a],.dict (as:=[]) (bs:=[]) e ex.1 d (by rw[e0];exact .nil) (by rw[e0];exact .nil),fun z=>?_⟩
  have z':=U01.mp z
  rw[←z'] at y
  simp at y
theorem Kd.reads(ok:HOk P w H h)(hs:H sysModules=none):∀{xs:List V} {ds:List PyData},Kd N H xs ds->∀us,Vals xs us->∃as,ReadsAll h us ds as/\sysModules ∉ as
 |_,_,.nil,us,r=>by cases r;exact⟨[],.nil,by simp⟩
 |_,_,.cons t ts,us,r=>by
  cases r with
  |cons rx rr =>
   obtain⟨as,ra,na⟩:=Tr.reads ok hs t _ rx
   obtain⟨bs,rb,nb⟩:=Kd.reads ok hs ts _ rr
   exact⟨as++bs,.cons ra rb,fun z=>(U2c.mp z).elim na nb⟩
end
end
section
variable{X:Cx}
theorem jA{k:Nat}(hr:FT k X.A):Dn X (.builtin "repr") (fun xs H Q=>∃(N:Addr->Prop)(a:Addr)(d:PyData),xs=[.ref a]/\Tr N H (.ref a) d/\d.showable=true/\d.depth<=60/\d.shown.length<=sizeLine/\Q (.str d.shown) H):=by
 intro pins s σ H xs us Q I r h
 obtain⟨N,a,d,rfl,t,h1,h2,h3,q⟩:=h
 obtain⟨u,rfl,rx⟩:=vals1 r
 cases rx
 obtain⟨as,ra,na⟩:=t.reads I.hok I.TF (.ref a) rfl
 have hu:=hr.un
 exact repr_of_reads' ra h1 (fun _=>na) hr.gd (by omega) (fun _ _ e=>e) (fun h' u tk k=>⟨.str d.shown,H,I.kept (h':=h') (t':=tk) k,⟨u,rfl⟩,q⟩) h3
theorem vf{k:Nat}(hr:FT k X.A):OpR X (compareOp .Eq) (fun x y H Q=>∃(N N':Addr->Prop)(d e:PyData),Tr N H x d/\Tr N' H y e/\U2v d=true/\U2v e=true/\Q (.bl (U7v d e)) H):=by
 intro pins s σ H x y v u Q I rx ry h
 obtain⟨N,N',d,e,t1,t2,s1,s2,q⟩:=h
 obtain⟨as,ra,_⟩:=t1.reads I.hok I.TF v rx
 obtain⟨bs,rb,_⟩:=t2.reads I.hok I.TF u ry
 exact SeqAt.compareEq_shaped ra rb s1 s2 hr.units ⟨.bl _,H,I,rfl,q⟩
theorem vZ{k:Nat}(hr:FT k X.A):OpR X (compareOp .NotEq) (fun x y H Q=>∃(N N':Addr->Prop)(d e:PyData),Tr N H x d/\Tr N' H y e/\U2v d=true/\U2v e=true/\Q (.bl (!PyData.eqv d e)) H):=by
 intro pins s σ H x y v u Q I rx ry h
 obtain⟨N,N',d,e,t1,t2,s1,s2,q⟩:=h
 obtain⟨as,ra,_⟩:=t1.reads I.hok I.TF v rx
 obtain⟨bs,rb,_⟩:=t2.reads I.hok I.TF u ry
 exact SeqAt.compareNe_shaped ra rb s1 s2 hr.units ⟨.bl _,H,I,rfl,q⟩
end
end L2
end
section
namespace HT
open PySem PySem.Spec PyProof.Rows
section
variable{prog:Program}{w:World}{A:Around}{E:Value->Shared->Prop}{s:Shared}
theorem nU{t b:Addr}{ws:List Value}{Q:Value->Shared->Prop}(ht:IsTup s.heap t ([]:List Value).toArray)(hb:IsTup s.heap b ws.toArray)(h:Q (.ref b) s):wpAny (model prog w) A (binaryOp .Add (.ref t) (.ref b)) Q E s:=by
 obtain⟨⟨c1,d1,x1,sl1⟩,ho,hc,n,hd⟩:=id ht
 obtain⟨⟨c2,d2,x2,sl2⟩,ho2,hc2,n2,hd2⟩:=id hb
 simp only at hc hd hc2 hd2
 subst hc hd hc2 hd2
 exact concat_meets ⟨_,ho,rfl⟩ ⟨_,ho2,rfl⟩ noFill_tuple_add seq_tuple_add U6b U55 (U5y _ _) (tuple_addW0 t b _ ws.toArray n n2 d1 d2 sl1 sl2 (by simp)) ⟨ho,ho2,h⟩
theorem Zd{t sl:Addr}{items:Array Value}{vl vu:Value}{lo hi:Option Int}{Q:Value->Shared->Prop}(ht:IsTup s.heap t items)(hs:s.heap.IsSliceOf sl vl vu .none)(pl:IsPart vl lo)(pu:IsPart vu hi)
  (hw:sIx items.size 0 lo=0/\sIx items.size items.size hi=items.size) (h:Q (.ref t) s):wpAny (model prog w) A (getItem (.ref t) (.ref sl)) Q E s:=by
 obtain⟨os,hos,hcs,hds⟩:=id hs
 have hTs:s.TypeIs (.ref sl) "slice":=⟨os,hos,hcs⟩
 unfold getItem
 try with_reducible refine U19 ?_
 first|refine U0 (U0d ?_)|skip
 refine U0 (wpAny_sequenceKey ht.typeIs (by decide) ?_)
 refine U0 (wpAny_callSpecial?_slot (name:=U3j "__getitem__") ht.typeIs U20 (U2k U20 ht.typeIs entry_tuple_getitem ?_ (args_tuple_getitem _ _)))
 show wpAny _ _ (Builtin.Tuple.tupleItemsOf (.ref t) >>= _) _ _ s
 refine U0 (tupleItemsOf_ ht (U0 (U4v hTs ?_)))
 rw[if_pos (by decide)]
 refine U0 (O5 hs pl pu ?_)
 have yes:(((sIx items.size 0 lo:Nat):Int)==0&&(1:Int)==1&&(sIx items.size items.size hi-sIx items.size 0 lo)==items.size)=true:=by
  rw[hw.1,hw.2];simp
 show wpAny _ _ (if (((sIx items.size 0 lo:Nat):Int)==0&&(1:Int)==1&&(sIx items.size items.size hi-sIx items.size 0 lo)==items.size)=true then _ else _) _ _ s
 rw[if_pos yes]
 unfold Builtin.Tuple.tupleIsExact
 refine U0 (U0 (U4v ht.typeIs (U0d ?_)))
 rw[if_pos (by decide)]
 exact U0 (U4p (U0d ⟨_,rfl,U0d h⟩))
end
end HT
namespace L2
open PySem PySem.Spec PyProof.Rows
theorem Dg{H:Hp}{p:Addr}(h:H p=none)(o:HO):Same H (upd H p o):=fun b u q=>by rw[Bl (Du q h)];exact q
theorem eE(xs:List V)(lo hi:Option Int)(h:HT.sIx xs.length 0 lo=0/\HT.sIx xs.length xs.length hi=xs.length):KY xs lo hi=xs:=by
 unfold KY
 rw[h.1,h.2,U7s,Nat.sub_zero,U29]
section
variable{X:Cx}
theorem qY:OpR X (binaryOp .Add) (fun x y H Q=>∃(a b:Addr)(xs ys:List V),x=.ref a/\y=.ref b/\H a=some (.tup xs)/\H b=some (.tup ys)/\xs.length+ys.length<=sizeLine/\∀p H',Same H H'->H' p=some (.tup (xs++ys))->Q (.ref p) H'):=by
 intro pins s σ H x y v u Q I rx ry h
 obtain⟨a,b,xs,ys,rfl,rfl,ha,hb,hz,q⟩:=h
 by_cases hx:xs=[]
 .subst hx
  cases rx
  cases ry
  obtain⟨its,r1,p1,_⟩:=I.tuple (SqT.of ha)
  obtain⟨its2,r2,p2,_⟩:=I.tuple (SqT.of hb)
  cases r1
  exact HT.nU p1 p2 ⟨.ref b,H,I,rfl,q b H (Same.refl H) hb⟩
 .refine qX pins s σ H _ _ v u Q I rx ry ⟨a,b,xs,ys,rfl,rfl,SqT.of ha,SqT.of hb,hx,hz,fun z=>?_,fun _ p hp=>q p _ (Dg hp _) CK⟩
  subst z
  exact q a H (Same.refl H) (by rw[U2u];exact ha)
theorem pL:SlR X (fun x lo hi H Q=>∃(a:Addr)(xs:List V),x=.ref a/\H a=some (.tup xs)/\∀p H',Same H H'->H' p=some (.tup (KY xs lo hi))->Q (.ref p) H'):=by
 intro pins s σ H x v vl vu lo hi sl Q I rx hs pl pu h
 obtain⟨a,xs,rfl,ha,q⟩:=h
 by_cases hw:HT.sIx xs.length 0 lo=0/\HT.sIx xs.length xs.length hi=xs.length
 .cases rx
  obtain⟨its,r,ht,hz⟩:=I.tuple (SqT.of ha)
  have hlen:its.toArray.size=xs.length:=by rw[U0x];exact r.length.symm
  refine⟨"tuple",_,U20.lookup,ht.typeIs,?_⟩
  exact HT.Zd ht hs pl pu (by rw[hlen];exact hw) ⟨.ref a,H,I,rfl,q a H (Same.refl H) (by rw[eE xs lo hi hw];exact ha)⟩
 .exact ux pins s σ H _ v vl vu lo hi sl Q I rx hs pl pu ⟨a,xs,rfl,SqT.of ha,hw,fun p hp=>q p _ (Dg hp _) CK⟩
theorem lU{d:Addr}{D:List (PyData×PyData)}(hT:∀h,X.K.In h->IntTab X.prog X.w h d D):OpR X (compareOp .In) (fun x y H Q=>∃(i:Int),x=.int i/\y=.ref d/\Q (.bl (lookup (.int i) D).isSome) H):=by
 intro pins s σ H x y v u Q I rx ry h
 obtain⟨i,rfl,rfl,q⟩:=h
 obtain⟨t,rfl⟩:=(show ∃t,v=U3x i t from rx)
 cases ry
 exact in_intTab (hT _ I.kIn) ⟨.bl _,H,I.tok _,rfl,q⟩
theorem tu{P:Program}{w:World}{K:U0a}{d:Addr}{ep:Nat}{h1 h2 h3 k1 k2 k3 v1 v2 v3:Int}{t1 t2 t3 u1 u2 u3:Tok}(hd:(d==sysModules)=false)
  (l:K.lookup d=some { cls:=.type "dict",data:=.dict #[⟨h1,.int k1 t1,.int v1 u1⟩,⟨h2,.int k2 t2,.int v2 u2⟩,⟨h3,.int k3 t3,.int v3 u3⟩] ep })
  (e1:h1=hashInt k1) (e2:h2=hashInt k2) (e3:h3=hashInt k3) (nd:[k1,k2,k3].Nodup):∀h,K.In h->IntTab P w h d [(.int k1,.int v1),(.int k2,.int v2),(.int k3,.int v3)]:=by
 intro h kin
 refine⟨hd,[(k1,.int v1 u1),(k2,.int v2 u2),(k3,.int v3 u3)],⟨_,_,ep,kin _ _ l,⟨rfl,rfl,rfl⟩,rfl,?_,?_,nd⟩,?_⟩
 .intro e he
  simp only[List.mem_toArray,U0t,U13,or_false] at he
  rcases he with z|z|z
  .subst z;exact⟨k1,intKind_is P w k1 t1,e1⟩
  .subst z;exact⟨k2,intKind_is P w k2 t2,e2⟩
  .subst z;exact⟨k3,intKind_is P w k3 t3,e3⟩
 .exact .cons (intKind_is P w k1 t1) rfl (.cons (intKind_is P w k2 t2) rfl (.cons (intKind_is P w k3 t3) rfl .nil))
 .exact .cons (.int v1 u1) (.cons (.int v2 u2) (.cons (.int v3 u3) .nil))
end
end L2
end
section
namespace L2
open PySem PySem.Spec PyProof.Rows
def Cal(P:Program)(w:World)(K:U0a)(mg:Str->Option Value)(base:Heap)(x:Str)(k:Nat)(ps:List Str)(sp:Sp):Prop :=
 ∃f fd,DY P w K mg base CX0 k f fd ps sp/\Binds K fd ps []/\U02 K (.ref f)=true/\mg x=some (.ref f)
section
variable{X:Cx}
theorem Tf{x:Str}{k k':Nat}{ps:List Str}{sp:Sp}{e:Expr}{es:List Expr}{t:TA}{p pos:Pos}(c:Cal X.prog X.w X.K X.mg X.base x k ps sp)(hr:FT k' X.A)(hk:k<=k')(hg:Gl X x)(ha:PA X (e::es) t)
  (hdb:(x==("__debug__":Str))=false:=by decide) (he:starEach (e::es) X.env=(false,eval e X.env)::starEach es X.env:=by rfl) (hpl:(backTo pos (starEach es X.env)).any (·.1)=false:=by rfl) :
  PE X (.Call (.Name x p) (e::es) [] pos) (oE sp [] E0 t):=by
 obtain⟨f,fd,F,b,kp,m⟩:=c
 exact qR (F.mono hk) hr hg m kp b .nil yj ha hdb he hpl
theorem YZ:OpR X (binaryOp .FloorDiv) (rI (fun _ j=>0<j/\j<2^64) fun i j=>.int (i/j)):=opI fun i j _ _ _ _ _ hc q=>by
 rw[←Int.fdiv_eq_ediv_of_nonneg _ (U71 hc.1)] at q
 refine floordiv_int (Int.ne_of_gt hc.1) q (.inl (PyProof.noPylong_of_log2 ?_))
 have h1:j.natAbs<2^64:=by omega
 have h2:j.natAbs≠0:=by omega
 exact U2q ((Nat.log2_lt h2).mpr h1) (by decide)
end
theorem IK:bootBuiltins "len"=some (.builtin "len"):=by decide +kernel
theorem Hr:bootBuiltins "isinstance"=some (.builtin "isinstance"):=by decide +kernel
theorem fY:bootBuiltins "all"=some (.builtin "all"):=by decide +kernel
theorem Wo:bootBuiltins "sorted"=some (.builtin "sorted"):=by decide +kernel
theorem xG:bootBuiltins "min"=some (.builtin "min"):=by decide +kernel
theorem xH:bootBuiltins "max"=some (.builtin "max"):=by decide +kernel
theorem Rw:bootBuiltins "repr"=some (.builtin "repr"):=by decide +kernel
theorem wz:bootBuiltins "set"=some (.type "set"):=by decide +kernel
theorem Vu:bootBuiltins "list"=some (.type "list"):=by decide +kernel
theorem QH:bootBuiltins "tuple"=some (.type "tuple"):=by decide +kernel
theorem nZ:bootBuiltins "range"=some (.type "range"):=by decide +kernel
theorem Xx:bootBuiltins "int"=some (.type "int"):=by decide +kernel
theorem sO:bootBuiltins "bool"=some (.type "bool"):=by decide +kernel
def UJ:List Str:=["len","isinstance","all","sorted","min","max","abs","repr","set","list","tuple","range","int","bool","str"]
def Blt(mg:Str->Option Value):Prop:=∀x∈UJ,mg x=none
theorem Blt.is{mg:Str->Option Value}(b:Blt mg)(x:Str)(h:UJ.contains x=true:=by decide +kernel):mg x=none:=b x (List.contains_iff_mem.mp h)
def tyName:PyData->String
 |.none=>"NoneType"
 |.bool _=>"bool"
 |.int _=>"int"
 |.str _=>"str"
 |.list _=>"list"
 |.tuple _=>"tuple"
 |.dict _=>"dict"
theorem Tr.ty{N:Addr->Prop}{K:U0a}{H:Hp}{v:V}{d:PyData}(t:Tr N H v d):K9 K H v (.type (tyName d)):=by
 cases t with
 |non=>exact .non
 |bl b=>exact .bl b
 |int i=>exact .int i
 |str x=>exact .str x
 |lst _ h _=>exact .lst h
 |tup _ h _=>exact .tup h
 |dct _ h=>exact .dK h
def Xc(T:String)(d:PyData):Bool:=match T with
 |"int"=>(match d with|.int _=>true|.bool _=>true|_=>false)
 |"bool"=>(match d with|.bool _=>true|_=>false)
 |"tuple"=>(match d with|.tuple _=>true|_=>false)
 |"list"=>(match d with|.list _=>true|_=>false)
 |_=>false
theorem qw{K:U0a}(d:PyData):U3p K (.type (tyName d)) (.type "int")=some (Xc "int" d):=by
 cases d with
 |none=>exact DN (a:="NoneType") (r:=false) (by decide +kernel)
 |bool _=>exact DN (a:="bool") (r:=true) (by decide +kernel)
 |int _=>exact DN (a:="int") (r:=true) (by decide +kernel)
 |str _=>exact DN (a:="str") (r:=false) (by decide +kernel)
 |list _=>exact DN (a:="list") (r:=false) (by decide +kernel)
 |tuple _=>exact DN (a:="tuple") (r:=false) (by decide +kernel)
 |dict _=>exact DN (a:="dict") (r:=false) (by decide +kernel)
theorem mV{K:U0a}(d:PyData):U3p K (.type (tyName d)) (.type "bool")=some (Xc "bool" d):=by
 cases d with
 |none=>exact DN (a:="NoneType") (r:=false) (by decide +kernel)
 |bool _=>exact DN (a:="bool") (r:=true) (by decide +kernel)
 |int _=>exact DN (a:="int") (r:=false) (by decide +kernel)
 |str _=>exact DN (a:="str") (r:=false) (by decide +kernel)
 |list _=>exact DN (a:="list") (r:=false) (by decide +kernel)
 |tuple _=>exact DN (a:="tuple") (r:=false) (by decide +kernel)
 |dict _=>exact DN (a:="dict") (r:=false) (by decide +kernel)
theorem kit_tuple{K:U0a}(d:PyData):U3p K (.type (tyName d)) (.type "tuple")=some (Xc "tuple" d):=by
 cases d with
 |none=>exact DN (a:="NoneType") (r:=false) (by decide +kernel)
 |bool _=>exact DN (a:="bool") (r:=false) (by decide +kernel)
 |int _=>exact DN (a:="int") (r:=false) (by decide +kernel)
 |str _=>exact DN (a:="str") (r:=false) (by decide +kernel)
 |list _=>exact DN (a:="list") (r:=false) (by decide +kernel)
 |tuple _=>exact DN (a:="tuple") (r:=true) (by decide +kernel)
 |dict _=>exact DN (a:="dict") (r:=false) (by decide +kernel)
theorem mU{K:U0a}(d:PyData):U3p K (.type (tyName d)) (.type "list")=some (Xc "list" d):=by
 cases d with
 |none=>exact DN (a:="NoneType") (r:=false) (by decide +kernel)
 |bool _=>exact DN (a:="bool") (r:=false) (by decide +kernel)
 |int _=>exact DN (a:="int") (r:=false) (by decide +kernel)
 |str _=>exact DN (a:="str") (r:=false) (by decide +kernel)
 |list _=>exact DN (a:="list") (r:=true) (by decide +kernel)
 |tuple _=>exact DN (a:="tuple") (r:=false) (by decide +kernel)
 |dict _=>exact DN (a:="dict") (r:=false) (by decide +kernel)
end L2
end
section
namespace L2
open PySem PySem.Spec PyProof.Rows
def Mz:PyData->Bool
 |.none=>true
 |.bool _=>true
 |.int i=>decide (i.natAbs<10^41)
 |.str x=>decide (x.length<=30)&&x.cps.toList.all fun c=>decide (c<16^8)
 |.dict kvs=>kvs.isEmpty
 |_=>false
def fit:List Nat->PyData->Bool
 |w::ws,.list xs=>decide (xs.length<=w)&&xs.all (fit ws)
 |w::ws,.tuple xs=>decide (xs.length<=w)&&xs.all (fit ws)
 |_,d=>Mz d
def bnd:List Nat->Nat
 |[]=>400
 |w::ws=>w*(bnd ws+2)+400
theorem bI{d:PyData}(h:Mz d=true):d.showable=true/\d.depth<=1/\d.shown.length<=400:=by
 cases d with
 |none=>exact⟨rfl,by simp[U3n],by decide⟩
 |bool b=>exact⟨rfl,by simp[U3n],by cases b<;>decide⟩
 |int i =>
  have hi:i.natAbs<10^41:=of_decide_eq_true h
  refine⟨?_,by simp[U3n],?_⟩
  .simp only[U6p,decide_eq_true_eq]
   by_cases h0:i.natAbs=0
   .rw[h0];decide
   .exact U2q ((Nat.log2_lt h0).mpr (U2q hi (by decide:10^41<2^137))) (by decide)
  .have q:=int_text_length_le10 (k:=41) (by decide) hi
   have e:(U41 (.int i)).length=(toString i).length:=by
    show(U3j (toString i)).length=_
    exact PySem.ofString_length _
   rw[e];omega
 |str x =>
  simp only[Mz,U1b,decide_eq_true_eq,U3m] at h
  refine⟨rfl,by simp[U3n],?_⟩
  have q:=StrLaws.reprText_len x h.2
  simp only[U41]
  have:=h.1
  omega
 |list xs=>cases h
 |tuple xs=>cases h
 |dict kvs =>
  cases kvs with
  |nil=>exact⟨rfl,by simp[U3n,PyData.depthKv],by decide⟩
  |cons a r=>cases h
theorem Vp{ws:List Nat}(ih:∀d,fit ws d=true->d.showable=true/\d.depth<=ws.length+1/\d.shown.length<=bnd ws):∀xs:List PyData,xs.all (fit ws)=true ->
  PyData.showableAll xs=true/\U4g xs<=ws.length+1/\((U5b xs).map (·.length)).sum+2*(U5b xs).length<=xs.length*(bnd ws+2)
 |[],_=>⟨rfl,by simp[U4g],by simp[U5b]⟩
 |x::r,h=>by
  rw[U62,U1b] at h
  obtain⟨a1,a2,a3⟩:=ih x h.1
  obtain⟨b1,b2,b3⟩:=Vp ih r h.2
  refine⟨by simp[PyData.showableAll,a1,b1],by simp only[U4g];omega,?_⟩
  simp only[U5b,U0j,U2b,U0g]
  rw[show(r.length+1)*(bnd ws+2)=r.length*(bnd ws+2)+(bnd ws+2) from Nat.succ_mul _ _]
  omega
theorem fU:∀(ws:List Nat)(d:PyData),fit ws d=true->d.showable=true/\d.depth<=ws.length+1/\d.shown.length<=bnd ws
 |[],d,h=>by
  have h':Mz d=true:=by
   cases d<;>exact h
  obtain⟨a,b,c⟩:=bI h'
  exact⟨a,b,c⟩
 |w::ws,d,h=>by
  have ih:=fU ws
  have leaf:Mz d=true->d.showable=true/\d.depth<=(w::ws).length+1/\d.shown.length<=bnd (w::ws):=fun h'=>by
   obtain⟨a,b,c⟩:=bI h'
   refine⟨a,by rw[U0g];omega,U1c c ?_⟩
   unfold bnd;omega
  cases d with
  |list xs =>
   simp only[fit,U1b,decide_eq_true_eq] at h
   obtain⟨a,b,c⟩:=Vp ih xs h.2
   refine⟨by simpa [U6p] using a,by simp only[U3n,U0g];omega,?_⟩
   have q:=listText_len_le (U5b xs)
   have m:=U5n (bnd ws+2) h.1
   simp only[U41,bnd]
   omega
  |tuple xs =>
   simp only[fit,U1b,decide_eq_true_eq] at h
   obtain⟨a,b,c⟩:=Vp ih xs h.2
   refine⟨by simpa [U6p] using a,by simp only[U3n,U0g];omega,?_⟩
   have q:=tupleText_len_le (U5b xs)
   have m:=U5n (bnd ws+2) h.1
   simp only[U41,bnd]
   omega
  |none=>exact leaf h
  |bool b=>exact leaf h
  |int i=>exact leaf h
  |str x=>exact leaf h
  |dict kvs=>exact leaf h
def Nx(n:Nat)(Pv:Nat->List V->Hp->Prop)(i:Nat)(ys:List V)(H:Hp):Prop:=∃m',m'<n-i/\(m'=n-(i+1)/\i+1<=n/\Pv (i+1) ys H)
theorem nx{n:Nat}{Pv:Nat->List V->Hp->Prop}{i:Nat}{ys:List V}{H:Hp}(hi:i<n)(p:Pv (i+1) ys H):Nx n Pv i ys H:=⟨n-(i+1),by omega,rfl,hi,p⟩
section
variable{k:Nat}{caps:List Nat}{σ:St}{g:TG}{tt:TT}{te:TE}{Q:VK}{H:Hp}
end
def Well(H:Hp)(a:Addr):Prop:=∃x y:Int,H a=some (.lst [.int x,.int y])
end L2
end
section
namespace L2
open PySem PySem.Spec PyProof.Rows
section
variable{a:Addr}{H0:Hp}{σ:St}{te t1 t2:TE}{ta:TA}{d:PyData}{ds d1 d2:List PyData}{i j:Int}
end
end L2
end
section
namespace L2
open PySem PySem.Spec PyProof.Rows
section
variable{X:Cx}{K:U0a}
abbrev Jaa(K:U0a):List V->Hp->VK->Prop:=fun xs H Q=>∃p ys,xs=[.ref p]/\(SqL K H p ys∨SqT K H p ys)/\Q (.int ys.length) H
abbrev pX(K:U0a):List V->Hp->VK->Prop:=fun xs H Q=>∃p ys,xs=[.ref p]/\(SqL K H p ys∨SqT K H p ys)/\∀l,H l=none->Q (.ref l) (upd H l (.lst ys))
abbrev lC(K:U0a):List V->Hp->VK->Prop:=fun xs H Q=>∃p ys,xs=[.ref p]/\((SqL K H p ys/\∀l,H l=none->Q (.ref l) (upd H l (.tup ys)))∨(SqT K H p ys/\Q (.ref p) H))
theorem lO{d:Addr}{D:List (PyData×PyData)}{x:Str}{p pos:Pos}{b:Expr}{ta tb:TE}(hT:∀h,X.K.In h->IntTab X.prog X.w h d D)(ha:PE X (.Name x p) ta)(hb:PE X b tb)(hs:Ry b)
  (hg:∀r,letTemporaryGo (.Name x p) (.ref d) r=pure ():=by intro _;with_unfolding_all rfl) :
  PE X (.Subscript (.Name x p) b pos) (tOp (fun x y H Q=>∃(i j:Int),x=.ref d/\y=.int i/\lookup (.int i) D=some (.int j)/\Q (.int j) H) ta tb):=by
 intro pins s σ H Q I h
 refine Subscript_ (cJ ha hb I h fun v u s2 x y H2 I2 rx ry q=>?_)
 obtain⟨i,j,rfl,rfl,hl,q⟩:=q
 cases rx
 obtain⟨t,rfl⟩:=ry
 refine item_intTab (hT _ I2.kIn) hl (fun v fl=>?_) (hs _ _) hg
 cases fl s2.heap with
 |int _ t'=>exact⟨.int j,H2,I2.tok _,⟨t',rfl⟩,q⟩
end
end L2
end
section
namespace Bc
open PySem PySem.Spec PyProof.Rows L2
abbrev D3:List (PyData×PyData):=[(.int 1,.int 20),(.int 2,.int 10),(.int 3,.int 6)]
theorem zG(i:Int):(lookup (.int i) D3).isSome=decide (i=1∨i=2∨i=3):=by
 have same_i:∀a b:Int,same (.int a) (.int b)=decide (a=b):=fun a b=>by by_cases h:a=b<;>simp[same,h]
 simp only[lookup,same_i]
 by_cases h1:(1:Int)=i
 .subst h1;rfl
 by_cases h2:(2:Int)=i
 .subst h2;rfl
 by_cases h3:(3:Int)=i
 .subst h3;rfl
 rw[decide_eq_false h1,decide_eq_false h2,decide_eq_false h3]
 have h:¬(i=1∨i=2∨i=3):=by omega
 rw[decide_eq_false h]
 rfl
def uX:PyData->Bool
 |.tuple es=>U59 es&&decide (U4g es<=60)
 |_=>true
def lay:PyData->Bool
 |.tuple ds=>ds.all uX
 |_=>true
abbrev F3:List Nat:=[9,9,9]
def nr(a:Int):Bool:=decide (-(10^9)<=a)&&decide (a<=10^9)
def bx:PyData->Bool
 |.tuple [.int a,.int b]=>nr a&&nr b&&decide (a<b)
 |_=>false
def part(d:PyData):Bool:=fit [9,9] d&&uX d
def good(d:PyData):Bool:=fit F3 d&&lay d
end Bc
end
section
set_option maxRecDepth 100000
namespace HT
open PySem PySem.Spec PyProof.Rows
open AutoSeq1 (wpAny_loadPart')
theorem Ud:fillsNumberSlot (.type "tuple") "mul"=pure false :=
 PySem.fillsNumberSlot_seq (id:="tuple.__mul__") (r:=some (.builtin "tuple.__rmul__")) U5f.lookup (by decide +kernel) PySem.F.slot_tuple_rmul.lookup (by decide +kernel)
theorem gY:seqRepeat? (.type "tuple")=pure (some (.builtin "tuple.__mul__")):=by
 unfold seqRepeat?
 rw[PySem.seqSlot_of (T:="tuple") (name:="__mul__") (id:="tuple.__mul__") U5f.lookup (by decide +kernel),PySem.seqSlot_of (T:="tuple") (name:="__rmul__") (id:="tuple.__rmul__") PySem.F.slot_tuple_rmul.lookup (by decide +kernel)]
 rfl
theorem ZR(a:Int)(t:Tok)(l:Addr)(items:Array Value)(n:Nat)(dd:Option Addr)(sl:Array (Option Value)) :
  Meets (Builtin.«int.__rmul__» ⟨[.int a t,.ref l],[]⟩) (fun _ R s=>s.heap.get? l=some { cls:=.type "tuple",dict:=dd,data:=.seq items n,slots:=sl }/\R (.ok (.ret Value.notImplemented)) s) :=
 .of_wp fun prog w A R s h=>by obtain⟨hp,g,d,tk,os⟩:=s;obtain⟨hl,h⟩:=h;wp_walk using wpAny_loadPart' hl;exact⟨_,rfl,h⟩
theorem jj(l:Addr)(items:Array Value)(n:Nat)(dd:Option Addr)(sl:Array (Option Value))(x:Int)(u:Tok)(hc0:¬(decide (x < -(2^63))||decide (x≥2^63))=true)(hc1:(items.isEmpty||x==1)=true) :
  Meets (Builtin.«tuple.__mul__» ⟨[.ref l,.int x u],[]⟩) (fun _ R s=>s.heap.get? l=some { cls:=.type "tuple",dict:=dd,data:=.seq items n,slots:=sl }/\R (.ok (.ret (U12 l))) { s with heap:=s.heap,toks:=s.toks }) :=
 .of_wp fun prog w A R s h=>by obtain⟨hp,g,d,tk,os⟩:=s;obtain⟨hl,h⟩:=h;have f1:=AutoSeq1.idx_int;wp_walk;refine U7k (decide_eq_false hc0) ?_;wp_walk using wpAny_loadPart' hl;exact⟨_,rfl,h⟩
theorem ji(l:Addr)(items:Array Value)(n:Nat)(dd:Option Addr)(sl:Array (Option Value))(x:Int)(u:Tok)(hc0:¬(decide (x < -(2^63))||decide (x≥2^63))=true)(hc1:¬(items.isEmpty||x==1)=true)
  (hc2:¬(decide (x<=0)||items.isEmpty)=true) (hc3:¬(items.size:Int)*x>(2^63-1)/8) (hc4:¬Builtin.Tuple.tupleTooMany ((items.size:Int)*x)=true) (hsz:(U6l (fun x1 x2=>x1++x2) #[] (U0h x.toNat items)).size<=sizeLine) :
  Meets (Builtin.«tuple.__mul__» ⟨[.ref l,.int x u],[]⟩) (fun _ R s=>s.heap.get? l=some { cls:=.type "tuple",dict:=dd,data:=.seq items n,slots:=sl }/\R (.ok (.ret (U12 s.heap.objs.size))) { s with heap:=s.heap.push { cls:=U23 "tuple",data:=Data.seq (U6l (fun x1 x2=>x1++x2) #[] (U0h x.toNat items)) },toks:=s.toks }) :=
 .of_wp fun prog w A R s h=>by obtain⟨hp,g,d,tk,os⟩:=s;obtain⟨hl,h⟩:=h;have f1:=AutoSeq1.idx_int;wp_walk;refine U7k (decide_eq_false hc0) ?_;wp_walk using wpAny_loadPart' hl;refine U7k (decide_eq_false hc3) ?_;wp_walk;exact⟨_,rfl,h⟩
section
variable{prog:Program}{w:World}{A:Around}{E:Value->Shared->Prop}{s:Shared}
theorem qb{t:Addr}{its:List Value}{k:Int}{u:Tok}{Q:Value->Shared->Prop}(ht:IsTup s.heap t its.toArray)(hne:its≠[])(h1:1<=k)(h2:k<2^60)(hz:its.length*k.toNat<=sizeLine)
  (q1:k=1->Q (.ref t) s) (q2:k≠1->Q (.ref s.heap.objs.size) { s with heap:=s.heap.push { cls:=.type "tuple",data:=.seq (U0h k.toNat its).flatten.toArray } }) :
  wpAny (model prog w) A (binaryOp .Mult (.ref t) (.int k u)) Q E s:=by
 obtain⟨⟨c1,d1,x1,sl1⟩,ho,hc,n,hd⟩:=id ht
 simp only at hc hd
 subst hc hd
 have c0:¬(decide (k < -(2^63))||decide (k≥2^63))=true:=by
  rw[decide_eq_false (by omega),decide_eq_false (by omega)];exact U1g
 have ne:its.toArray.isEmpty=false:=by cases its with|nil=>exact absurd rfl hne|cons _ _=>rfl
 have hnew:U6l (fun x1 x2=>x1++x2) #[] (U0h k.toNat its.toArray)=(U0h k.toNat its).flatten.toArray:=by
  have:=L2.foldl_rep its k.toNat []
  rw[U1n] at this
  exact this
 refine wpAny_binaryOp_repeat_ref (T:="tuple") (U:="int") (by decide) ⟨_,ho,rfl⟩ (fun s'=>typeIs_int s' k u) Ud PySem.F.fills_int_mul PySem.F.slot_int_rmul gY PySem.F.slot_int_index.lookup
  (call_meets PySem.F.slot_int_rmul (typeIs_int s k u) PySem.F.entry_int_rmul (PySem.F.args_int_rmul_2 _ _) (ZR k u t its.toArray n d1 sl1) ⟨ho,rfl,⟨_,ho,rfl⟩,?_⟩)
 by_cases k1:k=1
 .exact call_meets U5f ⟨_,ho,rfl⟩ PySem.F.entry_tuple_mul (PySem.F.args_tuple_mul_2 _ _) (jj t its.toArray n d1 sl1 k u c0 (by rw[k1];simp)) ⟨ho,q1 k1⟩
 .have e:((its.toArray.size:Nat):Int)*k=((its.length*k.toNat:Nat):Int):=by
   rw[U0x,Int.natCast_mul,Int.toNat_of_nonneg (by omega)]
  have hs:(sizeLine:Nat)=16777216:=by decide
  refine call_meets U5f ⟨_,ho,rfl⟩ PySem.F.entry_tuple_mul (PySem.F.args_tuple_mul_2 _ _) (ji t its.toArray n d1 sl1 k u c0 ?_ ?_ ?_ ?_ ?_) ⟨ho,?_⟩
  .rw[ne];simp[k1]
  .rw[ne,decide_eq_false (by omega)];exact U1g
  .rw[e];omega
  .rw[e]
   unfold Builtin.Tuple.tupleTooMany
   rw[decide_eq_true_eq]
   omega
  .rw[hnew,U0x,L2.len_rep,U7d];exact hz
  .rw[hnew];exact q2 k1
end
end HT
namespace L2
open PySem PySem.Spec PyProof.Rows
abbrev oG:R2:=fun x y H Q=>∃(a:Addr)(k:Int)(xs:List V),x=.ref a/\y=.int k/\H a=some (.tup xs)/\xs≠[]/\1<=k/\k<2^60/\xs.length*k.toNat<=sizeLine/\∀p H',Same H H'->H' p=some (.tup (U0h k.toNat xs).flatten)->Q (.ref p) H'
section
variable{X:Cx}
theorem qW:OpR X (binaryOp .Mult) oG:=by
 intro pins s σ H x y v u Q I rx ry h
 obtain⟨a,k,xs,rfl,rfl,ha,hne,k1,k2,hz,q⟩:=h
 cases rx
 obtain⟨t,rfl⟩:=ry
 obtain⟨its,r1,p1,_⟩:=I.tuple (SqT.of ha)
 refine HT.qb p1 (fun z=>hne (r1.Rp.mp z)) k1 k2 (by rw[←r1.length];exact hz) (fun e=>?_) (fun e=>?_)
 .refine⟨.ref a,H,I,rfl,q a H (Same.refl H) ?_⟩
  rw[e]
  simpa using ha
 .refine⟨.ref s.heap.objs.size,_,I.laid (t':=s.toks) (o:=.tup (U0h k.toNat xs).flatten) (fun b ob q=>U0c _ q) (U0u _) ?_,rfl,q _ _ (Dg (I.hok.fresh (U0u _)) _) CK⟩
  exact⟨by rw[len_rep,U7d];exact hz,_,r1.rep k.toNat,IsTup.new _ _⟩
end
section
variable{X:Cx}
theorem Mr{k:Nat}(hr:FT k X.A):Dn X (.builtin "repr") (fun xs H Q=>∃(N:Addr->Prop)(v:V)(d:PyData),xs=[v]/\Tr N H v d/\d.showable=true/\d.depth<=60/\d.shown.length<=sizeLine/\Q (.str d.shown) H):=by
 intro pins s σ H xs us Q I r h
 obtain⟨N,v,d,rfl,t,h1,h2,h3,q⟩:=h
 have onRef:∀b,v=.ref b->wpAny (model X.prog X.w) X.A (call (.builtin "repr") us) (EP X pins σ Q) X.xe s:=fun b e=>by
  subst e
  exact jA hr pins s σ H _ us Q I r ⟨N,b,d,rfl,t,h1,h2,h3,q⟩
 cases t with
 |lst _ _ _=>exact onRef _ rfl
 |tup _ _ _=>exact onRef _ rfl
 |dct _ _=>exact onRef _ rfl
 |non =>
  obtain⟨u,rfl,rx⟩:=vals1 r
  cases (show u=U2h from rx)
  exact PySem.P.repr_of_none ⟨.str "None",H,I.tok _,⟨_,rfl⟩,q⟩
 |bl b =>
  obtain⟨u,rfl,rx⟩:=vals1 r
  cases (show u=U48 b from rx)
  exact PySem.P.repr_of_bool ⟨.str (if b then "True" else "False"),H,I.tok _,⟨_,rfl⟩,q⟩
 |int i =>
  obtain⟨u,rfl,rx⟩:=vals1 r
  obtain⟨t,rfl⟩:=rx
  exact PySem.P.repr_of_int (by simpa [U6p] using h1) ⟨.str (toString i),H,I.tok _,⟨_,rfl⟩,q⟩
 |str x =>
  obtain⟨u,rfl,rx⟩:=vals1 r
  obtain⟨t,rfl⟩:=rx
  exact PySem.P.repr_of_str ⟨.str (reprText x),H,I.tok _,⟨_,rfl⟩,q⟩ h3
end
section
variable{a:Addr}{H0:Hp}{σ:St}{te t1 t2:TE}{ta:TA}{d:PyData}{ds d1 d2:List PyData}{i j:Int}{K:U0a}
end
structure Wq(a q:Addr)(bs:List V)(H:Hp):Prop where
 w:Well H a
 at_:H q=some (.lst bs)
 ne:q≠a
section
variable{a q p:Addr}{bs:List V}{H H':Hp}
abbrev oJ:R2:=fun x y H Q=>∃(a b:Addr)(xs ys:List V),x=.ref a/\y=.ref b/\H a=some (.tup xs)/\H b=some (.tup ys)/\xs.length+ys.length<=sizeLine/\∀p H',Same H H'->H' p=some (.tup (xs++ys))->Q (.ref p) H'
abbrev uJ:V->Option Int->Option Int->Hp->VK->Prop:=fun x lo hi H Q=>∃(a:Addr)(xs:List V),x=.ref a/\H a=some (.tup xs)/\∀p H',Same H H'->H' p=some (.tup (KY xs lo hi))->Q (.ref p) H'
end
end L2
end
section
namespace L2
open PySem PySem.Spec PyProof.Rows
end L2
namespace Bc
open PySem PySem.Spec PyProof.Rows L2
def wC:PyData->Nat
 |.int 1=>20
 |.int 2=>10
 |.int 3=>6
 |_=>0
def Jaj(n:Nat):PyData->Bool
 |.tuple es=>decide (es.length=n)&&es.all bx
 |_=>false
end Bc
end
section
namespace L2
open PySem PySem.Spec PyProof.Rows
theorem Inv.aV{X:Cx}{pins:List (Addr×Obj)}{σ:St}{H:Hp}{s:Shared}{h':Heap}{t':Nat}{fp:List Addr}(I:Inv X pins σ H s)(k:∀b o,b ∉ fp->s.heap.get? b=some o->h'.get? b=some o)(hf:∀b∈fp,Ow X pins H b) :
  Inv X pins σ H { s with heap:=h',toks:=t' }:=by
 have nit:∀b u,H b=some u->b ∉ fp:=fun b u e z=>by
  have:=(hf b z).1
  rw[this] at e
  cases e
 refine I.step (g':=s.gens) (d':=s.drawn) (ch:=fp) (fun b hb=>?_) (fun b o _ _ hc e _=>k b o hc e) (fun b o _ _ hc e _=>⟨o.slots,k b o hc e⟩) (fun _ _ _ _ n=>n) (fun b o hc e=>⟨o,k b o hc e⟩) (fun _ _ e=>e) (fun _ _ _ e=>e)
  (fun b ps e=>⟨#[],by rw[e];simp⟩) (fun m hm=>?_) (fun b u e=>?_) I.bare id
 .obtain⟨_,a2,_,a4,a5,a6⟩:=hf b hb
  exact⟨a4,a2,a5,a6⟩
 .obtain⟨o,es,ep,ho,r⟩:=hm
  exact⟨o,es,ep,k _ o (fun z=>(hf _ z).2.1 rfl) ho,r⟩
 .refine(I.hok b u e).stay (fun c v hc q=>k c v ?_ q) (fun _ q=>q) fun _ _ q=>q
  rcases hc with z|z
  .rw[z];exact nit b u e
  .exact nit c _ z
theorem Inv.yp{X:Cx}{pins:List (Addr×Obj)}{σ:St}{H:Hp}{s:Shared}{h':Heap}{t':Nat}{fp:List Addr}{x y:V}{u v:Value}(I:Inv X pins σ H s)(rx:RelV x u)(ry:RelV y v)
  (ht:h'.get? s.heap.objs.size=some { cls:=.type "tuple",data:=.seq #[u,v] }) (k:∀b o,b ∉ fp->s.heap.get? b=some o->h'.get? b=some o) (hf:∀b∈fp,Ow X pins H b) (hlt:∀b∈fp,b<s.heap.objs.size) :
  Inv X pins σ (upd H s.heap.objs.size (.tup [x,y])) { s with heap:=h',toks:=t' }:=by
 have I1:=I.laid (h':=s.heap.push { cls:=.type "tuple",data:=.seq #[u,v] }) (t':=s.toks) (a:=s.heap.objs.size) (o:=.tup [x,y]) (fun b ob q=>U0c _ q) (U0u _)
  ⟨(by decide:2<=sizeLine),[u,v],.cons rx (.cons ry .nil),IsTup.new _ _⟩
 refine Inv.aV (s:={ s with heap:=s.heap.push { cls:=.type "tuple",data:=.seq #[u,v] } }) (h':=h') (t':=t') (fp:=fp) I1 (fun b o hb e=>?_) (fun b hb=>?_)
 .rcases Heap.get?_push_cases e with ⟨z1,z2⟩|z
  .rw[z1,z2]
   exact ht
  .exact k b o hb z
 .obtain⟨a1,a2,a3,a4,a5,a6⟩:=hf b hb
  exact⟨by rw[Bl (U0y (hlt b hb))];exact a1,a2,a3,a4,a5,a6⟩
section
variable{X:Cx}
end
end L2
end
section
set_option maxRecDepth 100000
namespace HT
open PySem PySem.Spec PyProof.Rows
section
variable{prog:Program}{w:World}{A:Around}{E:Value->Shared->Prop}{s:Shared}
theorem nextT{it t:Addr}{i:Nat}{ws:Array Value}{x:Value}{Q:Value->Shared->Prop}(c:s.heap.IsTupleIter it t i)(ct:s.heap.IsTuple t ws)(ex:ws[i]?=some x)
  (q:∀h',h'.IsTupleIter it t (i+1)->U07 it s.heap h'->Q x { s with heap:=h' }):wpAny (model prog w) A (U1k (.ref it)) Q E s:=by
 obtain⟨o,e0,e1,e2⟩:=id c
 obtain⟨ot,f0,_,nt,f1⟩:=ct
 unfold U1k
 refine U0 (wpAny_callSpecial?_slot (name:=U3j "__next__") c.typeIs U3w (U2k U3w c.typeIs PySem.F.entry_tuple_iterator_next ?_ (PySem.F.args_tuple_iterator_next_1 _)))
 refine(show wpAny _ _ (field (.ref it) 0 >>= _) _ _ s from U0 (U2m e0 e2 (x:=.ref t) rfl ?_))
 show wpAny _ _ (ite ((U12 t==U2h)=true) _ _) _ _ s
 rw[if_neg (by exact U1g)]
 refine(show wpAny _ _ (field (.ref it) 1 >>= _) _ _ s from U0 (U2m e0 e2 (x:=.int i 0) rfl ?_))
 refine(show wpAny _ _ (seqItems? (.ref t) >>= _) _ _ s from U0 (U2n f0 f1 ?_))
 simp only[ex,U2z]
 refine U0 (U3b e0 e2 (by simp) (U0d ⟨x,rfl,U0d (q _ ⟨_,U1o _ e0 (Obj.isFreed_of_fields (Obj.data_mapFields e2 _)),(Obj.cls_mapFields ..).trans e1,?_⟩ (U10 ..))⟩))
 rw[Obj.data_mapFields e2]
 simp[rawInt]
theorem wA{it t:Addr}{i:Nat}{ws:Array Value}{Q:Value->Shared->Prop}(ha:A.handled=none)(c:s.heap.IsTupleIter it t i)(ct:s.heap.IsTuple t ws)(ex:ws[i]?=none)
  (q:∀h' e,U5p it s.heap h'->(∃o,h'.get? e=some o/\o.cls=.type "StopIteration")->E (.ref e) { s with heap:=h' }):wpAny (model prog w) A (U1k (.ref it)) Q E s:=by
 obtain⟨o,e0,e1,e2⟩:=id c
 obtain⟨ot,f0,_,nt,f1⟩:=ct
 unfold U1k
 refine U0 (wpAny_callSpecial?_slot (name:=U3j "__next__") c.typeIs U3w (U2k U3w c.typeIs PySem.F.entry_tuple_iterator_next ?_ (PySem.F.args_tuple_iterator_next_1 _)))
 refine(show wpAny _ _ (field (.ref it) 0 >>= _) _ _ s from U0 (U2m e0 e2 (x:=.ref t) rfl ?_))
 show wpAny _ _ (ite ((U12 t==U2h)=true) _ _) _ _ s
 rw[if_neg (by exact U1g)]
 refine(show wpAny _ _ (field (.ref it) 1 >>= _) _ _ s from U0 (U2m e0 e2 (x:=.int i 0) rfl ?_))
 refine(show wpAny _ _ (seqItems? (.ref t) >>= _) _ _ s from U0 (U2n f0 f1 ?_))
 simp only[ex,U2z]
 refine U0 (U4p (U0 (U3b e0 e2 (by simp) (show wpAny _ _ (newExc (.type "StopIteration") [] >>= _) _ _ _ from U0 ?_))))
 simp only[newTuple,newExc]
 refine U0 (U2d (U0 (m:=firstArgMember _ _) (wpAny_of_eq (a:=U2h) (by first|rfl|(simp only[firstArgMember];rfl)) (U2d ?_ (by size_fits)))) (by size_fits))
 simp only[raiseNew]
 refine U0 (wpAny_handled ?_)
 rw[show A.in1.handled=none from ha]
 exact U0 (U0d (wpAny_throw (q _ _ (((U10 ..).extBut.push _).push _) ⟨_,U0v _ rfl,rfl⟩)))
theorem wY(ha:A.handled=none)(it t:Addr)(ne:t≠it)(ws:Array Value):Draws prog w A it [it,t] ws.size (fun i v=>ws[i]?=some v) (fun i h=>h.IsTupleIter it t i/\h.IsTuple t ws) where
 live:=fun _ _ st=>let ⟨o,e,_⟩:=st.1;⟨o,e⟩
 frame:=fun _ _ _ st k=>⟨st.1.at fun o e=>k it (by simp) o e,st.2.at fun o e=>k t (by simp) o e⟩
 item:=fun i s Q E hi st q=>nextT st.1 st.2 (x:=ws[i]) (by simp[hi]) fun h' c' sb=>q _ h' s.toks (by simp[hi]) ⟨c',st.2.extBut sb.extBut ne⟩ sb
 done:=fun s Q E st q=>wA ha st.1 st.2 (by simp) q
structure Apart(z TI TO i1 i2:Addr)(fp1 fp2:List Addr):Prop where
 a1:TI≠z
 a2:TO≠z
 a3:TI≠TO
 b1:∀b∈fp1,b≠z/\b≠TO/\b≠i2
 b2:∀b∈fp2,b≠z/\b≠TO/\b≠i1
 c1:i1≠z/\i1≠TO/\i1≠TI
 c2:i2≠z/\i2≠TO/\i2≠TI
 c3:i1≠i2
section
variable{z TI TO i1 i2:Addr}{fp1 fp2:List Addr}{n1 n2 k:Nat}{P1 P2:Nat->Value->Prop}{S1 S2:Nat->Heap->Prop}{a b:Value}
theorem zc{Q:Value->Shared->Prop}(D1:Draws prog w A i1 fp1 n1 P1 S1)(D2:Draws prog w A i2 fp2 n2 P2 S2)(D:Apart z TI TO i1 i2 fp1 fp2)(hZ:IsZip s.heap z TI TO .none)(hI:IsPair s.heap TI (.ref i1) (.ref i2))(hO:IsPair s.heap TO a b)
  (s1:S1 k s.heap) (s2:S2 k s.heap) (k1:k<n1) (k2:k<n2)
  (q:∀x y h' tk,P1 k x->P2 k y->IsZip h' z TI TO (rawInt s.heap.objs.size)->IsPair h' TO x y->S1 (k+1) h'->S2 (k+1) h'->IsPair h' s.heap.objs.size x y->h'.objs.size=s.heap.objs.size+1 ->
   (∀c o,c≠z->c≠TO->c≠i1->c≠i2->s.heap.get? c=some o->h'.get? c=some o)->Q (.ref s.heap.objs.size) { s with heap:=h',toks:=tk }) :
  wpAny (model prog w) A (Builtin.«zip.__next__» ⟨[.ref z],[]⟩) (fun fin s'=>∃v,fin=.done (.ret v)/\Q v s') E s:=by
 obtain⟨hp,g,d,tk0,os⟩:=s
 refine(show wpAny _ _ (field (.ref z) 2 >>= _) _ _ _ from U0 (U2m hZ rfl (x:=.bool false) rfl ?_))
 refine(show wpAny _ _ (field (.ref z) 3 >>= _) _ _ _ from U0 (U2m hZ rfl (x:=.ref TI) rfl (U0 (U2n hI rfl ?_))))
 refine(show wpAny _ _ (U11 (.ref z) >>= _) _ _ _ from U0 ?_)
 unfold U11
 refine U0 (U2m hZ rfl (x:=.none) rfl (U0d ?_))
 simp only[if_true]
 refine U0 (U4p (U0 (U2m hZ rfl (x:=.ref TO) rfl (U0 (U30 hZ (by simp) fun g1 z1 m1=>?_)))))
 replace z1:IsZip g1 z TI TO .ellipsis:=z1
 replace m1:U07 z hp g1:=m1
 refine U0 ?_
 simp only[List.zipIdx_cons,List.zipIdx_nil,U4f,U53]
 have t1:S1 k g1:=D1.frame _ _ _ s1 fun c hc o e=>m1.extBut _ _ (D.b1 c hc).1 e
 have u1:S2 k g1:=D2.frame _ _ _ s2 fun c hc o e=>m1.extBut _ _ (D.b2 c hc).1 e
 refine U0 (U0 (U6g (show wpAny _ _ (U1k (.ref i1) >>= _) _ _ _ from U0 (D1.item k ⟨g1,g,d,tk0,os⟩ _ _ k1 t1 fun x g2 tk1 px t2 m2=>U0d ?_))))
 replace m2:U07 i1 g1 g2:=m2
 have o2:IsPair g2 TO a b:=m2.extBut _ _ (U1l D.c1.2.1) (m1.extBut _ _ D.a2 hO)
 refine U0 (U2n o2 rfl (U0 (U6q o2 fun g3 o3 m3=>?_)))
 replace o3:IsPair g3 TO x b:=o3
 replace m3:U07 TO g2 g3:=m3
 have u3:S2 k g3:=D2.frame _ _ _ u1 fun c hc o e=>m3.extBut _ _ (D.b2 c hc).2.1 (m2.extBut _ _ (D.b2 c hc).2.2 e)
 refine U0 (U5g (U0d ?_))
 refine U0 (U0 (U6g (show wpAny _ _ (U1k (.ref i2) >>= _) _ _ _ from U0 (D2.item k ⟨g3,g,d,tk1,os⟩ _ _ k2 u3 fun y g4 tk2 py u4 m4=>U0d ?_))))
 replace m4:U07 i2 g3 g4:=m4
 have o4:IsPair g4 TO x b:=m4.extBut _ _ (U1l D.c2.2.1) o3
 refine U0 (U2n o4 rfl (U0 (U6q o4 fun g5 o5 m5=>?_)))
 replace o5:IsPair g5 TO x y:=o5
 replace m5:U07 TO g4 g5:=m5
 refine U0 (U5g (U0d (U0d (U0 (U2n o5 rfl (U0 (wpAny_newTuple ?_)))))))
 have sz:g5.objs.size=hp.objs.size:=by rw[m5.1,m4.1,m3.1,m2.1,m1.1]
 have z5:IsZip g5 z TI TO .ellipsis:=m5.extBut _ _ (U1l D.a2) (m4.extBut _ _ (U1l D.c2.1) (m3.extBut _ _ (U1l D.a2) (m2.extBut _ _ (U1l D.c1.1) z1)))
 have kk:∀c o,c≠z->c≠TO->c≠i1->c≠i2->hp.get? c=some o->g5.get? c=some o:=fun c o n1 n2 n3 n4 e=>m5.extBut _ _ n2 (m4.extBut _ _ n4 (m3.extBut _ _ n2 (m2.extBut _ _ n3 (m1.extBut _ _ n1 e))))
 have lz:z<g5.objs.size:=U0m z5
 refine(show wpAny _ _ (Builtin.SmallTypes.ownedTupleHandOut (.ref z) (.ref g5.objs.size) >>= _) _ _ _ from U0 ?_)
 unfold Builtin.SmallTypes.ownedTupleHandOut
 have z6:IsZip (g5.push { cls:=.type "tuple",data:=.seq #[x,y] }) z TI TO .ellipsis:=U0c _ z5
 refine U0 (U30 z6 (by simp) fun g7 z7 m7=>?_)
 replace z7:IsZip g7 z TI TO (rawInt g5.objs.size):=z7
 refine U30 z7 (by simp) fun g8 z8 m8=>?_
 replace z8:IsZip g8 z TI TO (rawInt g5.objs.size):=z8
 have up:∀c o,c≠z->g5.get? c=some o->g8.get? c=some o:=fun c o n e=>m8.extBut _ _ n (m7.extBut _ _ n (U0c _ e))
 have p8:IsPair g8 g5.objs.size x y:=m8.extBut _ _ (U1q lz) (m7.extBut _ _ (U1q lz) (U0v _ rfl))
 have w8:g8.objs.size=g5.objs.size+1:=by rw[m8.1,m7.1,U18]
 rw[sz] at z8 p8 w8
 refine U0d ⟨_,rfl,?_⟩
 show Q (.ref g5.objs.size) _
 rw[sz]
 refine q x y g8 tk2 px py z8 (up _ _ D.a2 o5) ?_ ?_ p8 w8 fun c o n1 n2 n3 n4 e=>up c o n1 (kk c o n1 n2 n3 n4 e)
 .exact D1.frame _ _ _ t2 fun c hc o e=>up _ _ (D.b1 c hc).1 (m5.extBut _ _ (D.b1 c hc).2.1 (m4.extBut _ _ (D.b1 c hc).2.2 (m3.extBut _ _ (D.b1 c hc).2.1 e)))
 .exact D2.frame _ _ _ u4 fun c hc o e=>up _ _ (D.b2 c hc).1 (m5.extBut _ _ (D.b2 c hc).2.1 e)
theorem zf{Q:PySem.Fin->Shared->Prop}(D1:Draws prog w A i1 fp1 n1 P1 S1)(D2:Draws prog w A i2 fp2 n2 P2 S2)(D:Apart z TI TO i1 i2 fp1 fp2)(hZ:IsZip s.heap z TI TO .none)(hI:IsPair s.heap TI (.ref i1) (.ref i2))(hO:IsPair s.heap TO a b)
  (s1:S1 k s.heap) (s2:S2 k s.heap) (ke:k=n1∨(k<n1/\k=n2))
  (q:∀h' e tk,(∀c o,c≠z->c≠TO->c≠i1->c≠i2->s.heap.get? c=some o->h'.get? c=some o)->(∃o,h'.get? e=some o/\o.cls=.type "StopIteration")->E (.ref e) { s with heap:=h',toks:=tk }) :
  wpAny (model prog w) A (Builtin.«zip.__next__» ⟨[.ref z],[]⟩) Q E s:=by
 obtain⟨hp,g,d,tk0,os⟩:=s
 refine(show wpAny _ _ (field (.ref z) 2 >>= _) _ _ _ from U0 (U2m hZ rfl (x:=.bool false) rfl ?_))
 refine(show wpAny _ _ (field (.ref z) 3 >>= _) _ _ _ from U0 (U2m hZ rfl (x:=.ref TI) rfl (U0 (U2n hI rfl ?_))))
 refine(show wpAny _ _ (U11 (.ref z) >>= _) _ _ _ from U0 ?_)
 unfold U11
 refine U0 (U2m hZ rfl (x:=.none) rfl (U0d ?_))
 simp only[if_true]
 refine U0 (U4p (U0 (U2m hZ rfl (x:=.ref TO) rfl (U0 (U30 hZ (by simp) fun g1 z1 m1=>?_)))))
 replace z1:IsZip g1 z TI TO .ellipsis:=z1
 replace m1:U07 z hp g1:=m1
 refine U0 ?_
 simp only[List.zipIdx_cons,List.zipIdx_nil,U4f,U53]
 have t1:S1 k g1:=D1.frame _ _ _ s1 fun c hc o e=>m1.extBut _ _ (D.b1 c hc).1 e
 have u1:S2 k g1:=D2.frame _ _ _ s2 fun c hc o e=>m1.extBut _ _ (D.b2 c hc).1 e
 rcases ke with ke|⟨k1,ke⟩
 .subst ke
  refine U0 (U0 (U6g (show wpAny _ _ (U1k (.ref i1) >>= _) _ _ _ from U0 (D1.done ⟨g1,g,d,tk0,os⟩ _ _ t1 fun g2 e m2 he=>?_))))
  obtain⟨oe,he1,he2⟩:=he
  replace m2:U5p i1 g1 g2:=m2
  have z2:IsZip g2 z TI TO .ellipsis:=m2 _ _ (U1l D.c1.1) z1
  have ez:e≠z:=fun x=>by subst x;rw[z2] at he1;cases he1;simp at he2
  exact U30 z2 (by simp) fun g3 _ m3=>q g3 e _ (fun c o n1 _ n3 _ x=>m3.extBut _ _ n1 (m2 _ _ n3 (m1.extBut _ _ n1 x))) ⟨oe,m3.extBut _ _ ez he1,he2⟩
 .refine U0 (U0 (U6g (show wpAny _ _ (U1k (.ref i1) >>= _) _ _ _ from U0 (D1.item k ⟨g1,g,d,tk0,os⟩ _ _ k1 t1 fun x g2 tk1 px t2 m2=>U0d ?_))))
  replace m2:U07 i1 g1 g2:=m2
  have o2:IsPair g2 TO a b:=m2.extBut _ _ (U1l D.c1.2.1) (m1.extBut _ _ D.a2 hO)
  refine U0 (U2n o2 rfl (U0 (U6q o2 fun g3 o3 m3=>?_)))
  replace m3:U07 TO g2 g3:=m3
  have u3:S2 k g3:=D2.frame _ _ _ u1 fun c hc o e=>m3.extBut _ _ (D.b2 c hc).2.1 (m2.extBut _ _ (D.b2 c hc).2.2 e)
  rw[ke] at u3
  refine U0 (U5g (U0d ?_))
  refine U0 (U0 (U6g (show wpAny _ _ (U1k (.ref i2) >>= _) _ _ _ from U0 (D2.done ⟨g3,g,d,tk1,os⟩ _ _ u3 fun g4 e m4 he=>?_))))
  obtain⟨oe,he1,he2⟩:=he
  replace m4:U5p i2 g3 g4:=m4
  have z4:IsZip g4 z TI TO .ellipsis:=m4 _ _ (U1l D.c2.1) (m3.extBut _ _ (U1l D.a2) (m2.extBut _ _ (U1l D.c1.1) z1))
  have ez:e≠z:=fun x=>by subst x;rw[z4] at he1;cases he1;simp at he2
  exact U30 z4 (by simp) fun g5 _ m5=>q g5 e _ (fun c o n1 n2 n3 n4 x=>m5.extBut _ _ n1 (m4 _ _ n4 (m3.extBut _ _ n2 (m2.extBut _ _ n3 (m1.extBut _ _ n1 x))))) ⟨oe,m5.extBut _ _ ez he1,he2⟩
theorem aO{Q:Option Value->Shared->Prop}(D1:Draws prog w A.in1 i1 fp1 n1 P1 S1)(D2:Draws prog w A.in1 i2 fp2 n2 P2 S2)(D:Apart z TI TO i1 i2 fp1 fp2)(hZ:IsZip s.heap z TI TO .none)(hI:IsPair s.heap TI (.ref i1) (.ref i2))(hO:IsPair s.heap TO a b)
  (s1:S1 k s.heap) (s2:S2 k s.heap) (k1:k<n1) (k2:k<n2)
  (q:∀x y h' tk,P1 k x->P2 k y->IsZip h' z TI TO (rawInt s.heap.objs.size)->IsPair h' TO x y->S1 (k+1) h'->S2 (k+1) h'->IsPair h' s.heap.objs.size x y->h'.objs.size=s.heap.objs.size+1 ->
   (∀c o,c≠z->c≠TO->c≠i1->c≠i2->s.heap.get? c=some o->h'.get? c=some o)->Q (some (.ref s.heap.objs.size)) { s with heap:=h',toks:=tk }) :
  wpAny (model prog w) A (pyNext (.ref z)) Q E s:=by
 have T:s.TypeIs (.ref z) "zip":=⟨_,hZ,rfl⟩
 unfold pyNext
 exact U0 (U5o (wpAny_callSpecial?_slot (name:=U3j "__next__") T U2y (U2k U2y T U5h (zc D1 D2 D hZ hI hO s1 s2 k1 k2 fun x y h' tk c1 c2 c3 c4 c5 c6 c7 c8 c9=>U0d (q x y h' tk c1 c2 c3 c4 c5 c6 c7 c8 c9)) (U43 _))))
theorem aN{Q:Option Value->Shared->Prop}(D1:Draws prog w A.in1 i1 fp1 n1 P1 S1)(D2:Draws prog w A.in1 i2 fp2 n2 P2 S2)(D:Apart z TI TO i1 i2 fp1 fp2)(hZ:IsZip s.heap z TI TO .none)(hI:IsPair s.heap TI (.ref i1) (.ref i2))(hO:IsPair s.heap TO a b)
  (s1:S1 k s.heap) (s2:S2 k s.heap) (ke:k=n1∨(k<n1/\k=n2))
  (q:∀h' tk,(∀c o,c≠z->c≠TO->c≠i1->c≠i2->s.heap.get? c=some o->h'.get? c=some o)->Q none { s with heap:=h',toks:=tk }):wpAny (model prog w) A (pyNext (.ref z)) Q E s:=by
 have T:s.TypeIs (.ref z) "zip":=⟨_,hZ,rfl⟩
 unfold pyNext
 refine U0 (U5o (wpAny_callSpecial?_slot (name:=U3j "__next__") T U2y (U2k U2y T U5h (zf D1 D2 D hZ hI hO s1 s2 ke fun h' e tk kk he=>?_) (U43 _))))
 obtain⟨o,e1,e2⟩:=he
 exact U0 (U4z (T:="StopIteration") (b:=true) ⟨o,e1,e2⟩ isSubtype_stop (U0d (q h' tk kk)))
end
abbrev itO(c:String)(l:Addr):Obj:={ cls:=.type c,data:=.fields #[.ref l,.int 0 0] }
abbrev zt1(c1:String)(h:Heap)(l1:Addr):Heap:=h.push (itO c1 l1)
abbrev zt2(c1 c2:String)(h:Heap)(l1 l2:Addr):Heap:=(zt1 c1 h l1).push (itO c2 l2)
abbrev zt3(c1 c2:String)(h:Heap)(l1 l2:Addr):Heap:=(zt2 c1 c2 h l1 l2).push { cls:=.type "tuple",data:=.seq #[.ref h.objs.size,.ref (zt1 c1 h l1).objs.size] }
abbrev zt4(c1 c2:String)(h:Heap)(l1 l2:Addr):Heap:=(zt3 c1 c2 h l1 l2).push { cls:=.type "tuple",data:=.seq #[.none,.none] }
abbrev zt5(c1 c2:String)(h:Heap)(l1 l2:Addr):Heap:=(zt4 c1 c2 h l1 l2).push { cls:=.type "zip",data:=.fields #[.none,.bool false,.bool false,.ref (zt2 c1 c2 h l1 l2).objs.size,.ref (zt3 c1 c2 h l1 l2).objs.size] }
theorem oY(l1 l2:Addr)(xs ys:Array Value):Meets (Builtin.«zip.__new__» ⟨[.type "zip",.ref l1,.ref l2],[]⟩) (fun _ R s=>s.heap.IsTuple l1 xs/\s.heap.IsTuple l2 ys/\R (.ok (.ret (.ref (zt4 "tuple_iterator" "tuple_iterator" s.heap l1 l2).objs.size))) { s with heap:=zt5 "tuple_iterator" "tuple_iterator" s.heap l1 l2 }) :=
 .of_wp fun prog w A R s h=>by
  obtain⟨hp,g,d,tk,os⟩:=s
  obtain⟨e1,e2,h⟩:=h
  have sub:=sub_zip
  have T1:U50 (U6y ⟨hp,g,d,tk,os⟩) l1 xs:=e1
  have T2:U50 (U6y ⟨hp.push { cls:=.type "tuple_iterator",data:=.fields #[.ref l1,.int 0 0] },g,d,tk,os⟩) l2 ys:=U50.push e2 _
  wp_walk using U51 T1,U51 T2
  exact⟨_,rfl,h⟩
theorem oZ(l1 l2:Addr)(xs ys:Array Value):Meets (Builtin.«zip.__new__» ⟨[.type "zip",.ref l1,.ref l2],[]⟩) (fun _ R s=>s.heap.IsList l1 xs/\s.heap.IsTuple l2 ys/\R (.ok (.ret (.ref (zt4 "list_iterator" "tuple_iterator" s.heap l1 l2).objs.size))) { s with heap:=zt5 "list_iterator" "tuple_iterator" s.heap l1 l2 }) :=
 .of_wp fun prog w A R s h=>by
  obtain⟨hp,g,d,tk,os⟩:=s
  obtain⟨e1,e2,h⟩:=h
  have sub:=sub_zip
  have T1:Heap.IsList (U6y ⟨hp,g,d,tk,os⟩) l1 xs:=e1
  have T2:U50 (U6y ⟨hp.push { cls:=.type "list_iterator",data:=.fields #[.ref l1,.int 0 0] },g,d,tk,os⟩) l2 ys:=U50.push e2 _
  wp_walk using U5k T1,U51 T2
  exact⟨_,rfl,h⟩
theorem Yy{c1 c2:String}{l1 l2:Addr}{P1 P2:Heap->Prop}{Q:Value->Shared->Prop}(m:Meets (Builtin.«zip.__new__» ⟨[.type "zip",.ref l1,.ref l2],[]⟩) (fun _ R s=>P1 s.heap/\P2 s.heap/\R (.ok (.ret (.ref (zt4 c1 c2 s.heap l1 l2).objs.size))) { s with heap:=zt5 c1 c2 s.heap l1 l2 }))(e1:P1 s.heap)(e2:P2 s.heap)
  (q:∀h',IsZip h' (s.heap.objs.size+4) (s.heap.objs.size+2) (s.heap.objs.size+3) .none->IsPair h' (s.heap.objs.size+2) (.ref s.heap.objs.size) (.ref (s.heap.objs.size+1))->IsPair h' (s.heap.objs.size+3) .none .none ->
   h'.get? s.heap.objs.size=some (itO c1 l1)->h'.get? (s.heap.objs.size+1)=some (itO c2 l2)->(∀c o,s.heap.get? c=some o->h'.get? c=some o)->Q (.ref (s.heap.objs.size+4)) { s with heap:=h' }) :
  wpAny (model prog w) A (call (.type "zip") [.ref l1,.ref l2]) Q E s:=by
 refine callType_new PySem.F.called_zip (by decide) (PySem.F.typeCall_zip_2 _ _) (PySem.F.newCall_zip_2 _ _) (fun obj=>PySem.F.args_object_init_3 obj _ _) PySem.F.entry_zip_new m ⟨e1,e2,?_⟩
 have z1:(zt1 c1 s.heap l1).objs.size=s.heap.objs.size+1:=U18 ..
 have z2:(zt2 c1 c2 s.heap l1 l2).objs.size=s.heap.objs.size+2:=by rw[U18,z1]
 have z3:(zt3 c1 c2 s.heap l1 l2).objs.size=s.heap.objs.size+3:=by rw[U18,z2]
 have z4:(zt4 c1 c2 s.heap l1 l2).objs.size=s.heap.objs.size+4:=by rw[U18,z3]
 have g5:(zt5 c1 c2 s.heap l1 l2).get? (zt4 c1 c2 s.heap l1 l2).objs.size=some _:=U0v _ rfl
 have g4:(zt5 c1 c2 s.heap l1 l2).get? (zt3 c1 c2 s.heap l1 l2).objs.size=some _:=U0c _ (U0v _ rfl)
 have g3:(zt5 c1 c2 s.heap l1 l2).get? (zt2 c1 c2 s.heap l1 l2).objs.size=some _:=U0c _ (U0c _ (U0v _ rfl))
 have g2:(zt5 c1 c2 s.heap l1 l2).get? (zt1 c1 s.heap l1).objs.size=some _:=U0c _ (U0c _ (U0c _ (U0v _ rfl)))
 have g1:(zt5 c1 c2 s.heap l1 l2).get? s.heap.objs.size=some _:=U0c _ (U0c _ (U0c _ (U0c _ (U0v _ rfl))))
 have kk:∀c o,s.heap.get? c=some o->(zt5 c1 c2 s.heap l1 l2).get? c=some o:=fun c o e=>U0c _ (U0c _ (U0c _ (U0c _ (U0c _ e))))
 show _/\_
 rw[z2,z3,z4] at g5
 rw[z1,z2] at g3
 rw[z3] at g4
 rw[z1] at g2
 have Z:IsZip (zt5 c1 c2 s.heap l1 l2) (s.heap.objs.size+4) (s.heap.objs.size+2) (s.heap.objs.size+3) .none:=g5
 rw[z4]
 exact⟨⟨_,Z,rfl⟩,q _ Z g3 g4 g1 g2 kk⟩
theorem Yx{l1 l2:Addr}{xs ys:Array Value}{Q:Value->Shared->Prop}(e1:s.heap.IsTuple l1 xs)(e2:s.heap.IsTuple l2 ys)
  (q:∀h',IsZip h' (s.heap.objs.size+4) (s.heap.objs.size+2) (s.heap.objs.size+3) .none->IsPair h' (s.heap.objs.size+2) (.ref s.heap.objs.size) (.ref (s.heap.objs.size+1))->IsPair h' (s.heap.objs.size+3) .none .none ->
   h'.IsTupleIter s.heap.objs.size l1 0->h'.IsTupleIter (s.heap.objs.size+1) l2 0->(∀c o,s.heap.get? c=some o->h'.get? c=some o)->Q (.ref (s.heap.objs.size+4)) { s with heap:=h' }) :
  wpAny (model prog w) A (call (.type "zip") [.ref l1,.ref l2]) Q E s :=
 Yy (P1:=fun h=>h.IsTuple l1 xs) (P2:=fun h=>h.IsTuple l2 ys) (oY l1 l2 xs ys) e1 e2 fun h' c1 c2 c3 c4 c5 k=>q h' c1 c2 c3 ⟨_,c4,rfl,rfl⟩ ⟨_,c5,rfl,rfl⟩ k
theorem nY{l1 l2:Addr}{xs ys:Array Value}{Q:Value->Shared->Prop}(e1:s.heap.IsList l1 xs)(e2:s.heap.IsTuple l2 ys)
  (q:∀h',IsZip h' (s.heap.objs.size+4) (s.heap.objs.size+2) (s.heap.objs.size+3) .none->IsPair h' (s.heap.objs.size+2) (.ref s.heap.objs.size) (.ref (s.heap.objs.size+1))->IsPair h' (s.heap.objs.size+3) .none .none ->
   h'.IsListIter s.heap.objs.size l1 0->h'.IsTupleIter (s.heap.objs.size+1) l2 0->(∀c o,s.heap.get? c=some o->h'.get? c=some o)->Q (.ref (s.heap.objs.size+4)) { s with heap:=h' }) :
  wpAny (model prog w) A (call (.type "zip") [.ref l1,.ref l2]) Q E s :=
 Yy (P1:=fun h=>h.IsList l1 xs) (P2:=fun h=>h.IsTuple l2 ys) (oZ l1 l2 xs ys) e1 e2 fun h' c1 c2 c3 c4 c5 k=>q h' c1 c2 c3 ⟨_,c4,rfl,rfl⟩ ⟨_,c5,rfl,rfl⟩ k
end
end HT
end
section
namespace L2
open PySem PySem.Spec PyProof.Rows
def HB(L:Bool)(xs:List V):HO:=if L=true then .lst xs else .tup xs
theorem HB.inj{L:Bool}{xs ys:List V}(h:HB L xs=HB L ys):xs=ys:=by cases L<;>cases h<;>rfl
def Itz(L M:Bool)(a b:Addr):It :=
 ⟨fun i H=>∃xs ys x y,H a=some (HB L xs)/\H b=some (HB M ys)/\xs[i]?=some x/\ys[i]?=some y,
  fun i H v H'=>∃p x y,H p=none/\v=.ref p/\H'=upd H p (.tup [x,y])/\(∀xs,H a=some (HB L xs)->xs[i]?=some x)/\∀ys,H b=some (HB M ys)->ys[i]?=some y,
  fun i H=>∃xs ys,H a=some (HB L xs)/\H b=some (HB M ys)/\(i=xs.length∨(i<xs.length/\i=ys.length))⟩
def Jy(L:Bool)(h:Heap)(it a:Addr)(i:Nat):Prop:=if L=true then h.IsListIter it a i else h.IsTupleIter it a i
def cO(L:Bool)(h:Heap)(a:Addr)(ws:Array Value):Prop:=if L=true then h.IsList a ws else h.IsTuple a ws
theorem PX{prog:Program}{w:World}{A:Around}(L:Bool)(ha:A.handled=none)(it t:Addr)(ne:t≠it)(ws:Array Value):Draws prog w A it [it,t] ws.size (fun i v=>ws[i]?=some v) (fun i h=>Jy L h it t i/\cO L h t ws):=by
 cases L with
 |true=>exact Draws.list ha it t ne ws
 |false=>exact HT.wY ha it t ne ws
theorem Jy.at{L:Bool}{h h':Heap}{it a:Addr}{i:Nat}(x:Jy L h it a i)(k:∀o,h.get? it=some o->h'.get? it=some o):Jy L h' it a i:=by
 cases L with
 |true=>exact Heap.IsListIter.at x k
 |false=>exact Heap.IsTupleIter.at x k
theorem Jy.obj{L:Bool}{h:Heap}{it a:Addr}{i:Nat}(x:Jy L h it a i):∃o vs,h.get? it=some o/\o.data=.fields vs:=by
 cases L with
 |true=>obtain⟨o,e,_,d⟩:=(show h.IsListIter it a i from x);exact⟨o,_,e,d⟩
 |false=>obtain⟨o,e,_,d⟩:=(show h.IsTupleIter it a i from x);exact⟨o,_,e,d⟩
theorem Inv.Ql{X:Cx}{pins:List (Addr×Obj)}{σ:St}{H:Hp}{s:Shared}{L:Bool}{a:Addr}{xs:List V}(I:Inv X pins σ H s)(h:H a=some (HB L xs)):∃its:List Value,Vals xs its/\cO L s.heap a its.toArray:=by
 cases L with
 |true=>obtain⟨its,rv,p,_⟩:=I.list (SqL.of h);exact⟨its,rv,p.isList⟩
 |false=>obtain⟨its,rv,p,_⟩:=I.tuple (SqT.of h);exact⟨its,rv,p⟩
def zO(L M:Bool)(a b z TI TO i1 i2:Addr)(i:Nat)(h:Heap):Prop:=IsZip h z TI TO .none/\IsPair h TI (.ref i1) (.ref i2)/\(∃c d,IsPair h TO c d)/\Jy L h i1 a i/\Jy M h i2 b i
theorem UL{z TI TO i1 i2 a b:Addr}(d1:TI≠z)(d2:TO≠z)(d3:TI≠TO)(d4:i1≠z/\i1≠TO/\i1≠TI)(d5:i2≠z/\i2≠TO/\i2≠TI)(d6:i1≠i2)(na:a ∉ [z,TI,TO,i1,i2])(nb:b ∉ [z,TI,TO,i1,i2]):HT.Apart z TI TO i1 i2 [i1,a] [i2,b] where
 a1:=d1
 a2:=d2
 a3:=d3
 b1:=fun c hc=>by
  simp only[U0t,U13,or_false,not_or] at hc na
  rcases hc with rfl|rfl
  .exact⟨d4.1,d4.2.1,d6⟩
  .exact⟨na.1,na.2.2.1,na.2.2.2.2⟩
 b2:=fun c hc=>by
  simp only[U0t,U13,or_false,not_or] at hc nb
  rcases hc with rfl|rfl
  .exact⟨d5.1,d5.2.1,U1l d6⟩
  .exact⟨nb.1,nb.2.2.1,nb.2.2.2.1⟩
 c1:=d4
 c2:=d5
 c3:=d6
theorem jh{P:Program}{w:World}{K:U0a}{elts:List Expr}{x1:Nat}{pos:Pos}(L M:Bool)(a b z TI TO i1 i2:Addr)(d1:TI≠z)(d2:TO≠z)(d3:TI≠TO)(d4:i1≠z/\i1≠TO/\i1≠TI)(d5:i2≠z/\i2≠TO/\i2≠TI)(d6:i1≠i2) :
  Turn P w K (.Tuple elts x1 pos) (Itz L M a b) [z,TI,TO,i1,i2] z (zO L M a b z TI TO i1 i2) where
 mem:=by simp
 obj:=fun i h st c hc=>by
  obtain⟨h1,h2,⟨c',d',h3⟩,h4,h5⟩:=st
  simp only[U0t,U13,or_false] at hc
  rcases hc with rfl|rfl|rfl|rfl|rfl
  .exact⟨_,h1,fun v q=>by cases q⟩
  .exact⟨_,h2,fun v q=>by cases q⟩
  .exact⟨_,h3,fun v q=>by cases q⟩
  .obtain⟨o,vs,e,d⟩:=h4.obj
   exact⟨o,e,fun v q=>by rw[d] at q;cases q⟩
  .obtain⟨o,vs,e,d⟩:=h5.obj
   exact⟨o,e,fun v q=>by rw[d] at q;cases q⟩
 keep:=fun i h h' st k=>by
  obtain⟨h1,h2,⟨c',d',h3⟩,h4,h5⟩:=st
  exact⟨k z (by simp) _ h1,k TI (by simp) _ h2,⟨c',d',k TO (by simp) _ h3⟩,h4.at fun o q=>k i1 (by simp) o q,h5.at fun o q=>k i2 (by simp) o q⟩
 item:=by
  intro X hP hw hK hc i pins s σ H E I hf st hg
  subst hP hw hK
  obtain⟨xs,ys,x,y,hq1,hq2,hx,hy⟩:=hg
  obtain⟨its1,rv1,p1⟩:=I.Ql hq1
  obtain⟨its2,rv2,p2⟩:=I.Ql hq2
  obtain⟨u,hu,ru⟩:=rv1.get hx
  obtain⟨v,hv,rv⟩:=rv2.get hy
  obtain⟨h1,h2,⟨c',d',h3⟩,h4,h5⟩:=st
  have lt:∀c∈[z,TI,TO,i1,i2],c<s.heap.objs.size:=fun c hc=>by
   simp only[U0t,U13,or_false] at hc
   rcases hc with rfl|rfl|rfl|rfl|rfl
   .exact U0m h1
   .exact U0m h2
   .exact U0m h3
   .obtain⟨o,vs,e,_⟩:=h4.obj;exact U0m e
   .obtain⟨o,vs,e,_⟩:=h5.obj;exact U0m e
  have na:a ∉ [z,TI,TO,i1,i2]:=fun q=>by rw[(hf a q).1] at hq1;cases hq1
  have nb:b ∉ [z,TI,TO,i1,i2]:=fun q=>by rw[(hf b q).1] at hq2;cases hq2
  have ap:=UL d1 d2 d3 d4 d5 d6 na nb
  have hh:X.A.in1.handled=none:=I.ok.hd hc
  refine HT.aO (PX L hh i1 a (fun q=>na (by simp[q])) its1.toArray) (PX M hh i2 b (fun q=>nb (by simp[q])) its2.toArray) ap h1 h2 h3 ⟨h4,p1⟩ ⟨h5,p2⟩ (by rw[U0x];exact(U0o.mp hu).1) (by rw[U0x];exact(U0o.mp hv).1)
   fun x' y' h' tk q1 q2 z' o' s1' s2' tp sz k=>⟨_,rfl,?_⟩
  have q1':its1[i]?=some x':=by simpa using q1
  have q2':its2[i]?=some y':=by simpa using q2
  rw[hu] at q1'
  rw[hv] at q2'
  cases q1'
  cases q2'
  refine wpAny_letOwnedTupleGo_zip z' fun h3' z2 sb=>?_
  have sb':U07 z h' h3':=sb
  have nz:s.heap.objs.size≠z:=U1q (lt z (by simp))
  have J:=I.yp (h':=h3') (t':=tk) (fp:=[z,TI,TO,i1,i2]) (x:=x) (y:=y) ru rv (sb'.extBut _ _ nz tp) (fun c o hc q=>by
   simp only[U0t,U13,or_false,not_or] at hc
   exact sb'.extBut _ _ hc.1 (k c o hc.1 hc.2.2.1 hc.2.2.2.1 hc.2.2.2.2 q)) hf lt
  refine⟨.ref s.heap.objs.size,_,J,rfl,⟨_,x,y,I.hok.fresh (U0u _),rfl,rfl,fun zs hz=>?_,fun zs hz=>?_⟩,⟨z2,?_,⟨_,_,sb'.extBut _ _ d2 o'⟩,s1'.1.at fun o q=>sb'.extBut _ _ d4.1 q,s2'.1.at fun o q=>sb'.extBut _ _ d5.1 q⟩,fun c hc=>?_⟩
  .rw[hq1] at hz
   rw[←HB.inj (U03 hz)]
   exact hx
  .rw[hq2] at hz
   rw[←HB.inj (U03 hz)]
   exact hy
  .exact sb'.extBut _ _ d1 (k TI _ d1 d3 (U1l d4.2.2) (U1l d5.2.2) h2)
  .rw[Bl (U0y (lt c hc))]
   exact(hf c hc).1
 done:=by
  intro X hP hw hK hc i pins s σ H E I hf st hg
  subst hP hw hK
  obtain⟨xs,ys,hq1,hq2,ke⟩:=hg
  obtain⟨its1,rv1,p1⟩:=I.Ql hq1
  obtain⟨its2,rv2,p2⟩:=I.Ql hq2
  obtain⟨h1,h2,⟨c',d',h3⟩,h4,h5⟩:=st
  have na:a ∉ [z,TI,TO,i1,i2]:=fun q=>by rw[(hf a q).1] at hq1;cases hq1
  have nb:b ∉ [z,TI,TO,i1,i2]:=fun q=>by rw[(hf b q).1] at hq2;cases hq2
  have hh:X.A.in1.handled=none:=I.ok.hd hc
  refine HT.aN (PX L hh i1 a (fun q=>na (by simp[q])) its1.toArray) (PX M hh i2 b (fun q=>nb (by simp[q])) its2.toArray) (UL d1 d2 d3 d4 d5 d6 na nb) h1 h2 h3 ⟨h4,p1⟩ ⟨h5,p2⟩ (by rw[U0x,U0x,←rv1.length,←rv2.length];exact ke)
   fun h' tk k=>⟨rfl,I.aV (t':=tk) (fp:=[z,TI,TO,i1,i2]) (fun c o hc q=>?_) hf⟩
  simp only[U0t,U13,or_false,not_or] at hc
  exact k c o hc.1 hc.2.2.1 hc.2.2.2.1 hc.2.2.2.2 q
 self:=fun _ _ _ _ _ st h=>wpAny_pyIter_zip st.1 h
abbrev Jah(L M:Bool)(ta:TA):TI:=fun σ H R=>ta σ H fun vs H1=>∃a b xs ys,vs=[.ref a,.ref b]/\H1 a=some (HB L xs)/\H1 b=some (HB M ys)/\R (Itz L M a b) H1
section
variable{X:Cx}
theorem Xm(L M:Bool)(hLM:L=M∨(L=true/\M=false)){a b:Expr}{ta:TA}{p pos:Pos}{elts:List Expr}{x1:Nat}{tpos:Pos}(hg:Gl X "zip")(hm:X.mg "zip"=none)(ha:PA X [a,b] ta)(hs:starEach [a,b] X.env=[(false,eval a X.env),(false,eval b X.env)]:=by rfl)(hs2:starEach [b] X.env=[(false,eval b X.env)]:=by rfl) :
  PI X (.Tuple elts x1 tpos) (.Call (.Name "zip" p) [a,b] [] pos) (Jah L M ta):=by
 intro pins s σ H R I h
 refine Call_ (Ls I hg hm (by decide +kernel:bootBuiltins "zip"=some (.type "zip")) (U3s (thn (ha pos pins s σ H _ I h) fun us s1 ⟨vs,H1,I1,r1,q1⟩=>?_) (by rw[hs,hs2]) (by rw[hs2];rfl)))
 obtain⟨l,m,xs,ys,e,e1,e2,q⟩:=q1
 subst e
 obtain⟨us1,us2⟩:us=[.ref l,.ref m]/\True:=by
  cases r1 with
  |cons r rr =>
   cases rr with
   |cons r' rr =>
    cases rr
    cases r
    cases r'
    exact⟨rfl,trivial⟩
 subst us1
 obtain⟨its1,rv1,p1⟩:=I1.Ql e1
 obtain⟨its2,rv2,p2⟩:=I1.Ql e2
 have fin:∀h',IsZip h' (s1.heap.objs.size+4) (s1.heap.objs.size+2) (s1.heap.objs.size+3) .none->IsPair h' (s1.heap.objs.size+2) (.ref s1.heap.objs.size) (.ref (s1.heap.objs.size+1))->IsPair h' (s1.heap.objs.size+3) .none .none ->
   Jy L h' s1.heap.objs.size l 0->Jy M h' (s1.heap.objs.size+1) m 0->(∀c o,s1.heap.get? c=some o->h'.get? c=some o)->wpAny (model X.prog X.w) X.A (pyIter (.ref (s1.heap.objs.size+4))) (PIE X pins σ (.Tuple elts x1 tpos) R) X.xe { s1 with heap:=h' }:=fun h' c1 c2 c3 c4 c5 k=>by
  refine wpAny_pyIter_zip c1 ?_
  refine⟨s1.heap.objs.size+4,[s1.heap.objs.size+4,s1.heap.objs.size+2,s1.heap.objs.size+3,s1.heap.objs.size,s1.heap.objs.size+1],_,_,H1,rfl,I1.kept (t':=s1.toks) k,
   jh L M l m _ _ _ _ _ (by simp) (by simp) (by simp) ⟨by simp,by simp,by simp⟩ ⟨by simp,by simp,by simp⟩ (by simp),⟨c1,c2,⟨_,_,c3⟩,c4,c5⟩,fun c hc=>?_,q⟩
  have hc':s1.heap.objs.size<=c:=by
   simp only[U0t,U13,or_false] at hc
   rcases hc with rfl|rfl|rfl|rfl|rfl<;>first|exact U1m _ _|exact U0u _
  exact I1.cI hc' (I1.hok.fresh hc')
 cases L with
 |true =>
  cases M with
  |true=>exact call_zip_2 p1 p2 fun h' c1 c2 c3 c4 c5 _ k=>fin h' c1 c2 c3 c4 c5 k
  |false=>exact HT.nY p1 p2 fun h' c1 c2 c3 c4 c5 k=>fin h' c1 c2 c3 c4 c5 k
 |false =>
  cases M with
  |true=>rcases hLM with z|⟨z,_⟩<;>cases z
  |false=>exact HT.Yx p1 p2 fun h' c1 c2 c3 c4 c5 k=>fin h' c1 c2 c3 c4 c5 k
end
end L2
end
section
namespace L2
open PySem PySem.Spec PyProof.Rows
section
variable{k:Nat}{caps:List Nat}{σ:St}{g:TG}{tt:TT}{te:TE}{Q:VK}{H:Hp}
end
end L2
end
section
set_option maxRecDepth 100000
namespace HT
open PySem PySem.Spec PyProof.Rows
section
variable{prog:Program}{w:World}{A:Around}{E:Value->Shared->Prop}{s:Shared}
theorem rF{x:Value}{Tx:String}{tp:Addr}{cs:List Value}{vs:List Bool}{dd:Option Addr}{n:Nat}{sl:Array (Option Value)}(ha:AnswersAll (fun s=>s.TypeIs x Tx) x cs vs) :
  Meets (Builtin.«isinstance» ⟨[x,.ref tp],[]⟩) (fun _ R s=>s.TypeIs x Tx/\s.heap.get? tp=some { cls:=.type "tuple",dict:=dd,data:=.seq cs.toArray n,slots:=sl }/\∀tk,R (.ok (.ret (.bool (vs.any id)))) { s with toks:=tk }) :=
 fun prog w A R s hs=>isinstance_outer (by
  obtain⟨h,g,d,t,os⟩:=s
  obtain⟨hx,htp,hq⟩:=hs
  have T2:(⟨h,g,d,t,os⟩:Shared).TypeIs (.ref tp) "tuple":=⟨_,htp,rfl⟩
  have f1:=PySem.F.isi_sub_tuple
  repeat (any_goals first|assumption|wp_step)
  refine wpAny_arrayLoop ?_
  simp only[List.toList_toArray,Option.getD_some]
  refine isinstance_items (dep:=0) (fun _ tk q=>q.toks tk) cs vs _ _ ha hx fun tk'=>?_
  cases hv:vs.any id with
  |true =>
   simp only[if_true]
   repeat (any_goals first|assumption|wp_step)
   exact hv ▸ hq tk'
  |false =>
   simp only[if_false,U1t]
   repeat (any_goals first|assumption|wp_step)
   exact hv ▸ hq tk') (U47.not_mainsLoader hs.1)
end
end HT
namespace L2
open PySem PySem.Spec PyProof.Rows
def isSeq:PyData->Bool
 |.list _=>true
 |.tuple _=>true
 |_=>false
def noDict:PyData->Bool
 |.dict _=>false
 |_=>true
theorem o9(T:String)(h:T="tuple"∨T="list"):typeOf (.type T)=pure (.type "type"):=by rcases h with rfl|rfl<;>first|rfl|kernel_rfl
theorem Jr{a b:String}(h:(a,b)∈[("int","tuple"),("int","list"),("bool","tuple"),("bool","list"),("str","tuple"),("str","list"),("NoneType","tuple"),("NoneType","list"),("list","tuple"),("tuple","list")]):isSubtype (.type a) (.type b)=pure false:=by
 simp only[U0t,U13,or_false,Prod.mk.injEq] at h
 rcases h with ⟨rfl,rfl⟩|⟨rfl,rfl⟩|⟨rfl,rfl⟩|⟨rfl,rfl⟩|⟨rfl,rfl⟩|⟨rfl,rfl⟩|⟨rfl,rfl⟩|⟨rfl,rfl⟩|⟨rfl,rfl⟩|⟨rfl,rfl⟩<;>(rw[isSubtype_type];kernel_rfl)
theorem aX{a:String}(h:a="tuple"∨a="list"):isSubtype (.type a) (.type a)=pure true:=by rcases h with rfl|rfl<;>(rw[isSubtype_type];kernel_rfl)
section
variable{X:Cx}
theorem XD:Dn X (.builtin "isinstance") (fun xs H Q=>∃(N:Addr->Prop)(x:V)(d:PyData)(p:Addr),xs=[x,.ref p]/\H p=some (.tup [.ty "tuple",.ty "list"])/\Tr N H x d/\noDict d=true/\Q (.bl (isSeq d)) H):=by
 intro pins s σ H xs us Q I r h
 obtain⟨N,x,d,p,rfl,hp,t,nd,q⟩:=h
 obtain⟨u,v,rfl,rx,rv⟩:=vals2 r
 cases (show v=U12 p from rv)
 obtain⟨its,rt,pt,_⟩:=I.tuple (SqT.of hp)
 have ei:its=[.type "tuple",.type "list"]:=by
  cases rt with
  |cons r1 rr =>
   cases rr with
   |cons r2 rn =>
    cases rn
    cases (show _=U23 "tuple" from r1)
    cases (show _=U23 "list" from r2)
    rfl
 subst ei
 obtain⟨⟨c1,d1,x1,sl1⟩,ho,hc,n,hd⟩:=id pt
 simp only at hc hd
 subst hc hd
 have fin:∀(Tx:String)(vs:List Bool),AnswersAll (fun s=>s.TypeIs u Tx) u [.type "tuple",.type "list"] vs->s.TypeIs u Tx->vs.any id=isSeq d->wpAny (model X.prog X.w) X.A (call (.builtin "isinstance") [u,.ref p]) (EP X pins σ Q) X.xe s:=fun Tx vs ha hx e =>
  call_isinstance (HT.rF (cs:=[.type "tuple",.type "list"]) (dd:=d1) (n:=n) (sl:=sl1) ha) ⟨hx,ho,fun tk=>⟨.bl (isSeq d),H,I.tok tk,(by rw[e];rfl),q⟩⟩
 have y1:=o9 "tuple" (.inl rfl)
 have y2:=o9 "list" (.inr rfl)
 cases t with
 |non =>
  cases (show u=U2h from rx)
  exact fin "NoneType" [false,false] (.cons (Answers.of_false_none (by decide) y1 (Jr (by decide))) (.cons (Answers.of_false_none (by decide) y2 (Jr (by decide))) .nil)) rfl rfl
 |bl b =>
  cases (show u=U48 b from rx)
  exact fin "bool" [false,false] (.cons (Answers.of_false_bool (by decide) y1 (Jr (by decide))) (.cons (Answers.of_false_bool (by decide) y2 (Jr (by decide))) .nil)) rfl rfl
 |int i =>
  obtain⟨t,rfl⟩:=rx
  exact fin "int" [false,false] (.cons (Answers.of_false_int (by decide) y1 (Jr (by decide))) (.cons (Answers.of_false_int (by decide) y2 (Jr (by decide))) .nil)) rfl rfl
 |str z =>
  obtain⟨t,rfl⟩:=rx
  exact fin "str" [false,false] (.cons (Answers.of_false_str (by decide) y1 (Jr (by decide))) (.cons (Answers.of_false_str (by decide) y2 (Jr (by decide))) .nil)) rfl rfl
 |lst n1 h1 t1 =>
  cases rx
  obtain⟨its,_,pl,_⟩:=I.list (SqL.of h1)
  exact fin "list" [false,true] (.cons (Answers.of_false_list (by decide) y1 (Jr (by decide))) (.cons (Answers.of_true y2 (aX (.inr rfl))) .nil)) pl.isList.typeIs rfl
 |tup n1 h1 t1 =>
  cases rx
  obtain⟨its,_,pl,_⟩:=I.tuple (SqT.of h1)
  exact fin "tuple" [true,false] (.cons (Answers.of_true y1 (aX (.inl rfl))) (.cons (Answers.of_false_tuple (by decide) y2 (Jr (by decide))) .nil)) pl.typeIs rfl
 |dct _ _=>cases nd
end
end L2
end
section
namespace L2
open PySem PySem.Spec PyProof.Rows
end L2
namespace Bc
open PySem PySem.Spec PyProof.Rows L2
def Jaf:PyData->Int
 |.tuple [.int a,.int b]=>b-a
 |_=>0
def yP(es:List PyData):Int:=es.foldl (fun acc d=>acc*Jaf d) 1
def Li:PyData->Int
 |.tuple es=>yP es
 |_=>0
structure Good(n:Nat)(ds:List PyData):Prop where
 n1:1<=n
 n3:n<=3
 le:ds.length<=wC (.int n)
 all:ds.all (Jaj n)=true
end Bc
end
section
namespace L2
open PySem PySem.Spec PyProof.Rows
section
variable{X:Cx}{K:U0a}
end
end L2
namespace Bc
open PySem PySem.Spec PyProof.Rows L2
def Gf(w:Nat):PyData->Int
 |.tuple es=>(match es[w]? with|some (.tuple [.int a,.int _])=>a|_=>0)
 |_=>0
def Fo(w:Nat):PyData->Int
 |.tuple es=>(match es[w]? with|some (.tuple [.int _,.int b])=>b|_=>0)
 |_=>0
end Bc
end
section
namespace VS
open PySem PySem.Spec L2
inductive D where
 |non|bl (b:Bool)|int (i:Int)|str (x:Str)|ty (n:String)
 |tup (ds:List D)|lst (m:Bool) (ds:List D)|ref (i:Nat)|scr (ns:List Int)|emp
 |dref (i:Nat)|dcf (kvs:List (Key×V))|dcm (kvs:List (Key×V))
abbrev Mu:=List (Option Addr)
def DK(μ:Mu)(a:Addr):Prop:=some a∈μ
structure Fr where
 K:U0a
 H0:Hp
 N:Addr->Prop
 m0:List Addr
def Fr.Ok(Γ:Fr)(m:Bool)(a:Addr):Prop:=(m=true->Γ.H0 a=none)/\(Γ.N a∨Γ.H0 a=none)
def IsL(H:Hp)(a:Addr):Prop:=∃xs,H a=some (.lst xs)
def IsK(H:Hp)(a:Addr):Prop:=∃kvs,H a=some (.dK kvs)
mutual
inductive VR (Γ:Fr) (μ:Mu) (H:Hp):V->D->Prop
 |non:VR Γ μ H .non .non
 |bl (b:Bool):VR Γ μ H (.bl b) (.bl b)
 |int (i:Int):VR Γ μ H (.int i) (.int i)
 |str (x:Str):VR Γ μ H (.str x) (.str x)
 |ty (n:String):VR Γ μ H (.ty n) (.ty n)
 |tup {a:Addr} {xs:List V} {ds:List D}:H a=some (.tup xs)->VRs Γ μ H xs ds->VR Γ μ H (.ref a) (.tup ds)
 |lst {m:Bool} {a:Addr} {xs:List V} {ds:List D}:Γ.Ok m a->¬DK μ a->H a=some (.lst xs)->VRs Γ μ H xs ds->VR Γ μ H (.ref a) (.lst m ds)
 |ref {i:Nat} {v:V}:i<μ.length->(∀a,μ[i]?=some (some a)->v=.ref a/\IsL H a)->VR Γ μ H v (.ref i)
 |dref {i:Nat} {v:V}:i<μ.length->(∀a,μ[i]?=some (some a)->v=.ref a/\IsK H a)->VR Γ μ H v (.dref i)
 |dcf {a:Addr} {kvs:List (Key×V)}:Γ.Ok false a->¬DK μ a->H a=some (.dK kvs)->VR Γ μ H (.ref a) (.dcf kvs)
 |scrK {a:Addr} {ns:List Int}:(∀H',SqL Γ.K H' a (ns.map V.int))->VR Γ μ H (.ref a) (.scr ns)
 |scrR {a:Addr} {ns:List Int} {o:Obj}:¬DK μ a->H a=some (.frz o (.lst (ns.map V.int)))->VR Γ μ H (.ref a) (.scr ns)
 |emp {a:Addr}:Γ.Ok false a->¬DK μ a->H a=some (.dK [])->VR Γ μ H (.ref a) .emp
inductive VRs (Γ:Fr) (μ:Mu) (H:Hp):List V->List D->Prop
 |nil:VRs Γ μ H [] []
 |cons {x:V} {d:D} {xs:List V} {ds:List D}:VR Γ μ H x d->VRs Γ μ H xs ds->VRs Γ μ H (x::xs) (d::ds)
end
structure Ext(μ:Mu)(H:Hp)(μ':Mu)(H':Hp):Prop where
 keep:∀a o,H a=some o->¬DK μ a->H' a=some o/\¬DK μ' a
 tups:∀a xs,H a=some (.tup xs)->H' a=some (.tup xs)
 none:∀a,H' a=none->H a=none
 ids:∀(i:Nat)(a:Addr),i<μ.length->μ'[i]?=some (some a)->μ[i]?=some (some a)
 len:μ.length<=μ'.length
 isl:∀a,DK μ a->IsL H a->IsL H' a
 isk:∀a,DK μ a->IsK H a->IsK H' a
theorem Ext.refl(μ:Mu)(H:Hp):Ext μ H μ H:=⟨fun _ _ h n=>⟨h,n⟩,fun _ _ h=>h,fun _ h=>h,fun _ _ _ h=>h,U0u _,fun _ _ h=>h,fun _ _ h=>h⟩
theorem Ext.trans{μ μ1 μ2:Mu}{H H1 H2:Hp}(a:Ext μ H μ1 H1)(b:Ext μ1 H1 μ2 H2):Ext μ H μ2 H2 :=
 ⟨fun c o h n=>let ⟨x,y⟩:=a.keep c o h n;b.keep c o x y,fun c xs h=>b.tups c xs (a.tups c xs h),fun c h=>a.none c (b.none c h),fun i c hi h=>a.ids i c hi (b.ids i c (U0w hi a.len) h),U1c a.len b.len,
  fun c l h=>by
  by_cases z:DK μ1 c
  .exact b.isl c z (a.isl c l h)
  .obtain⟨xs,e⟩:=a.isl c l h
   exact⟨xs,(b.keep c _ e z).1⟩,
  fun c l h=>by
  by_cases z:DK μ1 c
  .exact b.isk c z (a.isk c l h)
  .obtain⟨xs,e⟩:=a.isk c l h
   exact⟨xs,(b.keep c _ e z).1⟩⟩
section
variable{Γ:Fr}{μ μ':Mu}{H H':Hp}
mutual
theorem VR.ext(e:Ext μ H μ' H'):∀{v:V} {d:D},VR Γ μ H v d->VR Γ μ' H' v d
 |_,_,.non=>.non
 |_,_,.bl b=>.bl b
 |_,_,.int i=>.int i
 |_,_,.str x=>.str x
 |_,_,.ty n=>.ty n
 |_,_,.tup h t=>.tup (e.tups _ _ h) (VRs.ext e t)
 |_,_,.lst o n h t=>.lst o (e.keep _ _ h n).2 (e.keep _ _ h n).1 (VRs.ext e t)
 |_,_,.ref hi f=>.ref (U0w hi e.len) fun a q=>have z:=e.ids _ _ hi q;⟨(f a z).1,e.isl a (U1h z) (f a z).2⟩
 |_,_,.dref hi f=>.dref (U0w hi e.len) fun a q=>have z:=e.ids _ _ hi q;⟨(f a z).1,e.isk a (U1h z) (f a z).2⟩
 |_,_,.dcf o n h=>.dcf o (e.keep _ _ h n).2 (e.keep _ _ h n).1
 |_,_,.scrK h=>.scrK h
 |_,_,.scrR n h=>.scrR (e.keep _ _ h n).2 (e.keep _ _ h n).1
 |_,_,.emp o n h=>.emp o (e.keep _ _ h n).2 (e.keep _ _ h n).1
theorem VRs.ext(e:Ext μ H μ' H'):∀{vs:List V} {ds:List D},VRs Γ μ H vs ds->VRs Γ μ' H' vs ds
 |_,_,.nil=>.nil
 |_,_,.cons r t=>.cons (VR.ext e r) (VRs.ext e t)
end
theorem VRs.length:∀{xs:List V} {ds:List D},VRs Γ μ H xs ds->xs.length=ds.length
 |_,_,.nil=>rfl
 |_,_,.cons _ t=>by rw[U0g,U0g,VRs.length t]
theorem VRs.append:∀{xs ys:List V} {ds es:List D},VRs Γ μ H xs ds->VRs Γ μ H ys es->VRs Γ μ H (xs++ys) (ds++es)
 |_,_,_,_,.nil,t=>t
 |_,_,_,_,.cons r s,t=>.cons r (VRs.append s t)
theorem VRs.take:∀{xs:List V} {ds:List D} (n:Nat),VRs Γ μ H xs ds->VRs Γ μ H (xs.take n) (ds.take n)
 |_,_,0,_=>.nil
 |_,_,_+1,.nil=>.nil
 |_,_,n+1,.cons r t=>.cons r (VRs.take n t)
theorem VRs.drop:∀{xs:List V} {ds:List D} (n:Nat),VRs Γ μ H xs ds->VRs Γ μ H (xs.drop n) (ds.drop n)
 |_,_,0,r=>r
 |_,_,_+1,.nil=>.nil
 |_,_,n+1,.cons _ t=>VRs.drop n t
theorem VRs.get:∀{xs:List V} {ds:List D} {i:Nat} {d:D},VRs Γ μ H xs ds->ds[i]?=some d->∃x,xs[i]?=some x/\VR Γ μ H x d
 |_,_,_,_,.nil,h=>by simp at h
 |_,_,0,_,.cons r _,h=>by simp at h;subst h;exact⟨_,rfl,r⟩
 |_,_,i+1,d,.cons _ t,h=>by
  obtain⟨x,h1,h2⟩:=VRs.get (i:=i) (d:=d) t (by simpa using h)
  exact⟨x,by simpa using h1,h2⟩
theorem VRs.set{x:V}{d:D}(r:VR Γ μ H x d):∀{xs:List V} {ds:List D} (i:Nat),VRs Γ μ H xs ds->VRs Γ μ H (xs.set i x) (ds.set i d)
 |_,_,_,.nil=>.nil
 |_,_,0,.cons _ t=>.cons r t
 |_,_,i+1,.cons q t=>.cons q (VRs.set r i t)
theorem VRs.rep{xs:List V}{ds:List D}(h:VRs Γ μ H xs ds):∀n:Nat,VRs Γ μ H (U0h n xs).flatten (U0h n ds).flatten
 |0=>.nil
 |n+1=>by rw[U0q,U0q,U34,U34];exact h.append (VRs.rep h n)
theorem VRs.ints:∀(ns:List Int),VRs Γ μ H (ns.map V.int) (ns.map D.int)
 |[]=>.nil
 |n::r=>.cons (.int n) (VRs.ints r)
theorem VRs.Rh:∀{xs:List V} {ns:List Int},VRs Γ μ H xs (ns.map D.int)->xs=ns.map V.int
 |_,[],.nil=>rfl
 |_,n::r,.cons q t=>by cases q;rw[U0j,VRs.Rh t]
end
abbrev Env:=List (Option D)
abbrev Store:=List (Option (List D))
def Cell(Γ:Fr)(μ:Mu)(H:Hp)(a:Addr)(ds:List D):Prop:=(∃xs,H a=some (.lst xs)/\VRs Γ μ H xs ds)∨∃kvs,ds=[.dcm kvs]/\H a=some (.dK kvs)
structure Rep(Γ:Fr)(μ:Mu)(σ:St)(H:Hp)(env:Env)(S:Store):Prop where
 vals:∀(i:Nat)(d:D),env[i]?=some (some d)->∃v,σ[i]?=some (some v)/\VR Γ μ H v d
 len:σ.length=env.length
 sto:∀(i:Nat)(ds:List D),S[i]?=some (some ds)->∃a,μ[i]?=some (some a)/\Cell Γ μ H a ds
 liv:∀(i:Nat)(a:Addr),μ[i]?=some (some a)->∃ds,S[i]?=some (some ds)
 inj:∀(i j:Nat)(a:Addr),μ[i]?=some (some a)->μ[j]?=some (some a)->i=j
 slen:S.length=μ.length
 ent:Ext (Γ.m0.map some) Γ.H0 μ H
 new:∀(i:Nat)(a:Addr),Γ.m0.length<=i->μ[i]?=some (some a)->Γ.H0 a=none
section
variable{Γ:Fr}{μ μ':Mu}{σ σ2:St}{H H':Hp}{env env2:Env}{S S':Store}
theorem Cell.kind{a:Addr}{ds:List D}(c:Cell Γ μ H a ds):IsL H a∨IsK H a:=by
 rcases c with ⟨xs,h,_⟩|⟨kvs,_,h⟩
 .exact .inl ⟨xs,h⟩
 .exact .inr ⟨kvs,h⟩
theorem Cell.list{a:Addr}{ds:List D}(c:Cell Γ μ H a ds)(l:IsL H a):∃xs,H a=some (.lst xs)/\VRs Γ μ H xs ds:=by
 rcases c with z|⟨kvs,_,h⟩
 .exact z
 .obtain⟨xs,q⟩:=l
  rw[h] at q;cases q
theorem Cell.dict{a:Addr}{ds:List D}(c:Cell Γ μ H a ds)(l:IsK H a):∃kvs,ds=[.dcm kvs]/\H a=some (.dK kvs):=by
 rcases c with ⟨xs,h,_⟩|z
 .obtain⟨xs,q⟩:=l
  rw[h] at q;cases q
 .exact z
theorem Cell.to{μ':Mu}{H':Hp}{a:Addr}{ds:List D}(c:Cell Γ μ H a ds)(x:Ext μ H μ' H')(e:∀o,H a=some o->H' a=some o):Cell Γ μ' H' a ds:=by
 rcases c with ⟨xs,h,r⟩|⟨kvs,q,h⟩
 .exact .inl ⟨xs,e _ h,r.ext x⟩
 .exact .inr ⟨kvs,q,e _ h⟩
theorem Rep.live(R:Rep Γ μ σ H env S){a:Addr}(h:DK μ a):IsL H a∨IsK H a:=by
 obtain⟨i,hi⟩:=U4e.mp h
 obtain⟨ds,hs⟩:=R.liv i a hi
 obtain⟨b,h1,h2⟩:=R.sto i ds hs
 rw[hi] at h1;cases h1
 exact h2.kind
theorem Rep.dead(R:Rep Γ μ σ H env S){p:Addr}(h:H p=none):¬DK μ p:=fun z=>by
 rcases R.live z with ⟨xs,e⟩|⟨xs,e⟩<;>(rw[h] at e;cases e)
theorem Rep.fresh(R:Rep Γ μ σ H env S){p:Addr}(h:H p=none):Γ.H0 p=none:=R.ent.none p h
theorem Rep.ok(R:Rep Γ μ σ H env S){p:Addr}(h:H p=none)(m:Bool):Γ.Ok m p:=⟨fun _=>R.fresh h,.inr (R.fresh h)⟩
theorem Rep.grow(R:Rep Γ μ σ H env S)(e:Same H H'):Rep Γ μ σ H' env S/\Ext μ H μ H':=by
 have x:Ext μ H μ H':=⟨fun a o h n=>⟨e a o h,n⟩,fun a xs h=>e a _ h,fun a h=>e.free h,fun _ _ _ h=>h,U0u _,fun a _ ⟨xs,h⟩=>⟨xs,e a _ h⟩,fun a _ ⟨xs,h⟩=>⟨xs,e a _ h⟩⟩
 refine⟨⟨fun i d h=>?_,R.len,fun i ds h=>?_,R.liv,R.inj,R.slen,R.ent.trans x,R.new⟩,x⟩
 .obtain⟨v,h1,h2⟩:=R.vals i d h
  exact⟨v,h1,h2.ext x⟩
 .obtain⟨a,h1,h2⟩:=R.sto i ds h
  exact⟨a,h1,h2.to x fun o q=>e _ _ q⟩
theorem Rep.back(R:Rep Γ μ σ H env S)(x:Ext μ H μ' H')(R2:Rep Γ μ' σ2 H' env2 S'):Rep Γ μ' σ H' env S' :=
 ⟨fun i d h=>let ⟨v,h1,h2⟩:=R.vals i d h;⟨v,h1,h2.ext x⟩,R.len,R2.sto,R2.liv,R2.inj,R2.slen,R2.ent,R2.new⟩
theorem Rep.jK(R:Rep Γ μ σ H env S)(i:Nat){v:V}{d:D}(r:VR Γ μ H v d):Rep Γ μ (σ.set i (some v)) H (env.set i (some d)) S:=by
 refine⟨fun j e h=>?_,by rw[U4d,U4d];exact R.len,R.sto,R.liv,R.inj,R.slen,R.ent,R.new⟩
 by_cases hj:i=j
 .subst hj
  have hl:i<env.length:=by
   have:=(U0o.mp h).1
   rw[U4d] at this;exact this
  rw[U21 hl] at h
  cases h
  exact⟨v,U21 (by rw[R.len];exact hl),r⟩
 .rw[U2p hj] at h ⊢
  exact R.vals j e h
theorem Rep.oN(R:Rep Γ μ σ H env S){p:Addr}{o:HO}{ds:List D}(hp:H p=none)(r:∀μ' H',Ext μ H μ' H'->H' p=some o->Cell Γ μ' H' p ds) :
  Rep Γ (μ++[some p]) σ (upd H p o) env (S++[some ds])/\Ext μ H (μ++[some p]) (upd H p o):=by
 have ne:∀a o,H a=some o->a≠p:=fun a o h z=>by rw[z,hp] at h;cases h
 have x:Ext μ H (μ++[some p]) (upd H p o):=by
  refine⟨fun a o h n=>⟨by rw[Bl (ne a o h)];exact h,fun z=>?_⟩,fun a ys h=>by rw[Bl (ne a _ h)];exact h,fun a h=>?_,fun i a hi h=>?_,by rw[U0s];omega,fun a _ ⟨ys,h⟩=>⟨ys,by rw[Bl (ne a _ h)];exact h⟩,fun a _ ⟨ys,h⟩=>⟨ys,by rw[Bl (ne a _ h)];exact h⟩⟩
  .rcases U2c.mp z with z|z
   .exact n z
   .have z':a=p:=by simpa using z
    exact ne a o h z'
  .by_cases ha:a=p
   .rw[ha,CK] at h;cases h
   .rw[Bl ha] at h;exact h
  .rw[U1f hi] at h;exact h
 have idx:∀i a,(μ++[some p])[i]?=some (some a)->(i<μ.length/\μ[i]?=some (some a))∨(i=μ.length/\a=p):=fun i a h=>by
  by_cases hi:i<μ.length
  .rw[U1f hi] at h;exact .inl ⟨hi,h⟩
  .rw[U2a (by omega)] at h
   have hl:=(U0o.mp h).1
   have hi':i=μ.length:=by simp at hl;omega
   subst hi'
   simp at h
   exact .inr ⟨rfl,h.symm⟩
 have no:∀a,μ[a]?=some (some p)->False:=fun i h=>R.dead hp (U1h h)
 refine⟨⟨fun i d h=>?_,R.len,fun i es h=>?_,fun i a h=>?_,fun i j a h1 h2=>?_,by rw[U0s,U0s,R.slen];rfl,R.ent.trans x,fun i a hi h=>?_⟩,x⟩
 .obtain⟨v,h1,h2⟩:=R.vals i d h
  exact⟨v,h1,h2.ext x⟩
 .by_cases hi:i<S.length
  .rw[U1f hi] at h
   obtain⟨a,h1,h2⟩:=R.sto i es h
   exact⟨a,by rw[U1f (by rw[←R.slen];exact hi)];exact h1,h2.to x fun o q=>by rw[Bl (ne a _ q)];exact q⟩
  .rw[U2a (by omega)] at h
   have hl:=(U0o.mp h).1
   have hi':i=S.length:=by simp at hl;omega
   subst hi'
   simp at h
   subst h
   exact⟨p,by rw[R.slen];simp,r _ _ x CK⟩
 .rcases idx i a h with ⟨hi,h⟩|⟨rfl,rfl⟩
  .obtain⟨ds',q⟩:=R.liv i a h
   exact⟨ds',by rw[U1f (by rw[R.slen];exact hi)];exact q⟩
  .exact⟨ds,by rw[←R.slen];simp⟩
 .rcases idx i a h1 with ⟨_,g1⟩|⟨e1,e2⟩
  .rcases idx j a h2 with ⟨_,g2⟩|⟨e3,e4⟩
   .exact R.inj i j a g1 g2
   .exact(no i (e4 ▸ g1)).elim
  .rcases idx j a h2 with ⟨_,g2⟩|⟨e3,_⟩
   .exact(no j (e2 ▸ g2)).elim
   .rw[e1,e3]
 .rcases idx i a h with ⟨_,h⟩|⟨rfl,rfl⟩
  .exact R.new i a hi h
  .exact R.fresh hp
theorem Rep.laid(R:Rep Γ μ σ H env S){p:Addr}{xs:List V}{ds:List D}(hp:H p=none)(r:VRs Γ μ H xs ds) :
  Rep Γ (μ++[some p]) σ (upd H p (.lst xs)) env (S++[some ds])/\Ext μ H (μ++[some p]) (upd H p (.lst xs)):=R.oN hp fun _ _ x q=>.inl ⟨xs,q,r.ext x⟩
theorem Rep.uT(R:Rep Γ μ σ H env S){i:Nat}{a:Addr}{o:HO}{ds:List D}(hi:μ[i]?=some (some a))(k1:IsL H a->IsL (upd H a o) a)(k2:IsK H a->IsK (upd H a o) a)(r:∀H',Ext μ H μ H'->H' a=some o->Cell Γ μ H' a ds) :
  Rep Γ μ σ (upd H a o) env (S.set i (some ds))/\Ext μ H μ (upd H a o):=by
 have hl:DK μ a:=U1h hi
 have hy:=R.live hl
 have x:Ext μ H μ (upd H a o):=by
  refine⟨fun b o h n=>⟨?_,n⟩,fun b zs h=>?_,fun b h=>?_,fun _ _ _ h=>h,U0u _,fun b _ h=>?_,fun b _ h=>?_⟩
  .rw[Bl (fun z=>n (by rw[z];exact hl))];exact h
  .rw[Bl (fun z=>by
    rw[z] at h
    rcases hy with ⟨_,q⟩|⟨_,q⟩<;>(rw[q] at h;cases h))];exact h
  .by_cases hb:b=a
   .rw[hb,CK] at h;cases h
   .rw[Bl hb] at h;exact h
  .by_cases hb:b=a
   .subst hb;exact k1 h
   .obtain⟨ys,h⟩:=h
    exact⟨ys,by rw[Bl hb];exact h⟩
  .by_cases hb:b=a
   .subst hb;exact k2 h
   .obtain⟨ys,h⟩:=h
    exact⟨ys,by rw[Bl hb];exact h⟩
 have hiS:i<S.length:=by rw[R.slen];exact(U0o.mp hi).1
 refine⟨⟨fun j d h=>?_,R.len,fun j es h=>?_,fun j b h=>?_,R.inj,by rw[U4d];exact R.slen,R.ent.trans x,R.new⟩,x⟩
 .obtain⟨v,h1,h2⟩:=R.vals j d h
  exact⟨v,h1,h2.ext x⟩
 .by_cases hj:i=j
  .subst hj
   rw[U21 hiS] at h
   cases h
   exact⟨a,hi,r _ x CK⟩
  .rw[U2p hj] at h
   obtain⟨b,h1,h2⟩:=R.sto j es h
   refine⟨b,h1,h2.to x fun o q=>?_⟩
   rw[Bl (fun z=>hj (R.inj i j a hi (by rw[←z];exact h1)))]
   exact q
 .by_cases hj:i=j
  .subst hj;exact⟨ds,U21 hiS⟩
  .rw[U2p hj];exact R.liv j b h
theorem Rep.put(R:Rep Γ μ σ H env S){i:Nat}{a:Addr}{xs:List V}{ds:List D}(hi:μ[i]?=some (some a))(hx:IsL H a)(r:VRs Γ μ H xs ds) :
  Rep Γ μ σ (upd H a (.lst xs)) env (S.set i (some ds))/\Ext μ H μ (upd H a (.lst xs)) :=
 R.uT hi (fun _=>⟨xs,CK⟩) (fun⟨_,q⟩=>by obtain⟨_,p⟩:=hx;rw[q] at p;cases p) fun _ x q=>.inl ⟨xs,q,r.ext x⟩
end
end VS
end
section
namespace VS
open PySem PySem.Spec L2
abbrev Az:=Env->Store->Option (D×Store)
abbrev Bu:=Env->Store->Option (List D×Store)
abbrev FQ:=Env->Store->Option (Bool×Store)
abbrev TX:=Env->Store->Option (Option Int×Store)
inductive Fl where|nx|brk|cnt|ret (d:D)
abbrev BP:=Env->Store->Option (Fl×Env×Store)
abbrev M5:=Env->Store->Option ((List D×List (Nat×List D))×Store)
abbrev Ka:=D->Env->Option Env
def Ab(i:Nat):Az:=fun env S=>(env[i]?.join).map fun d=>(d,S)
def eC(d:D):Az:=fun _ S=>some (d,S)
def eOp(g:Store->D->D->Option D)(a b:Az):Az:=fun env S=>(a env S).bind fun p=>(b env p.2).bind fun q=>(g q.2 p.1 q.1).map fun d=>(d,q.2)
def eUn(g:Store->D->Option D)(a:Az):Az:=fun env S=>(a env S).bind fun p=>(g p.2 p.1).map fun d=>(d,p.2)
def Ag:Bu:=fun _ S=>some ([],S)
def Aa(a:Az)(r:Bu):Bu:=fun env S=>(a env S).bind fun p=>(r env p.2).bind fun q=>some (p.1::q.1,q.2)
def eCB(g:Store->List D->Option D)(a:Bu):Az:=fun env S=>(a env S).bind fun p=>(g p.2 p.1).map fun d=>(d,p.2)
def TQ(a b:Az):Az:=fun env S=>(a env S).bind fun p=>match p.1 with|.bl true=>b env p.2|.bl false=>some (.bl false,p.2)|_=>none
def jT(a:Az):Az:=fun env S=>(a env S).bind fun p=>match p.1 with|.bl c=>some (.bl (!c),p.2)|_=>none
def Ux(g g':Store->D->D->Option D)(a b c:Az):Az:=fun env S=>(a env S).bind fun p=>(b env p.2).bind fun q=>(g q.2 p.1 q.1).bind fun z=>match z with
 |.bl true=>(c env q.2).bind fun r=>(g' r.2 q.1 r.1).map fun d=>(d,r.2)
 |.bl false=>some (.bl false,q.2)
 |_=>none
def Bb(a:Az):FQ:=fun env S=>(a env S).bind fun p=>match p.1 with|.bl c=>some (c,p.2)|_=>none
def LQ(a b:FQ):FQ:=fun env S=>(a env S).bind fun p=>if p.1=true then b env p.2 else some (false,p.2)
def tOr(a b:FQ):FQ:=fun env S=>(a env S).bind fun p=>if p.1=true then some (true,p.2) else b env p.2
def Jl(a:FQ):FQ:=fun env S=>(a env S).bind fun p=>some (!p.1,p.2)
def Ge:TX:=fun _ S=>some (none,S)
def Gd(a:Az):TX:=fun env S=>(a env S).bind fun p=>match p.1 with|.int i=>some (some i,p.2)|_=>none
def eSl(g:Store->D->Option Int->Option Int->Option D)(a:Az)(l h:TX):Az:=fun env S=>(a env S).bind fun p=>(l env p.2).bind fun q=>(h env q.2).bind fun r=>(g r.2 p.1 q.1 r.1).map fun d=>(d,r.2)
def Bj(a b:BP):BP:=fun env S=>(a env S).bind fun p=>match p.1 with|.nx=>b p.2.1 p.2.2|f=>some (f,p.2.1,p.2.2)
def Ey:BP:=fun env S=>some (.nx,env,S)
def Qq:BP:=fun _ _=>none
def Bo(i:Nat)(a:Az):BP:=fun env S=>(a env S).bind fun p=>some (.nx,env.set i (some p.1),p.2)
def Vc(a:Az)(g:Ka):BP:=fun env S=>(a env S).bind fun p=>(g p.1 env).bind fun e=>some (.nx,e,p.2)
def Gv(a:Az):BP:=fun env S=>(a env S).bind fun p=>some (.nx,env,p.2)
def Cy(a:Az):BP:=fun env S=>(a env S).bind fun p=>some (.ret p.1,env,p.2)
def sIf(c:FQ)(a b:BP):BP:=fun env S=>(c env S).bind fun p=>if p.1=true then a env p.2 else b env p.2
inductive Pat where
 |nm (i:Nat)|tp (ps:List Pat)
mutual
def Pat.sem:Pat->D->Env->Option Env
 |.nm i,d,env=>some (env.set i (some d))
 |.tp ps,.tup ds,env=>Ih ps ds env
 |.tp _,_,_=>none
def Ih:List Pat->List D->Env->Option Env
 |[],[],env=>some env
 |p::ps,d::ds,env=>(Pat.sem p d env).bind fun e=>Ih ps ds e
 |_,_,_=>none
end
mutual
def Pat.raw(K:U0a):Pat->TG
 |.nm i=>XM i
 |.tp ps=>jP K ps.length (K8 K ps)
def K8(K:U0a):List Pat->TGs
 |[]=>jQ
 |p::ps=>cg (Pat.raw K p) (K8 K ps)
end
mutual
def Pat.low(k:Nat):Pat->Bool
 |.nm i=>decide (i<k)
 |.tp ps=>cG k ps
def cG(k:Nat):List Pat->Bool
 |[]=>true
 |p::ps=>Pat.low k p&&cG k ps
end
mutual
theorem Pat.mono(K:U0a):∀(p:Pat)(x:V)(σ:St)(H:Hp)(Q Q':St->Hp->Prop),(∀σ' H',Q σ' H'->Q' σ' H')->p.raw K x σ H Q->p.raw K x σ H Q'
 |.nm i,x,σ,H,Q,Q',f,h=>by rw[Pat.raw] at h ⊢;exact f _ _ h
 |.tp ps,x,σ,H,Q,Q',f,h=>by rw[Pat.raw] at h ⊢;obtain⟨a,xs,e,hs,hl,q⟩:=h;exact⟨a,xs,e,hs,hl,cX K ps xs σ H Q Q' f q⟩
theorem cX(K:U0a):∀(ps:List Pat)(x:List V)(σ:St)(H:Hp)(Q Q':St->Hp->Prop),(∀σ' H',Q σ' H'->Q' σ' H')->K8 K ps x σ H Q->K8 K ps x σ H Q'
 |[],x,σ,H,Q,Q',f,h=>by rw[K8] at h ⊢;exact⟨h.1,f _ _ h.2⟩
 |p::ps,x,σ,H,Q,Q',f,h=>by rw[K8] at h ⊢;obtain⟨v,r,e,q⟩:=h;exact⟨v,r,e,Pat.mono K p v σ H _ _ (fun σ1 H1 z=>cX K ps r σ1 H1 Q Q' f z) q⟩
end
mutual
theorem Pat.cY(K:U0a){k:Nat}:∀(p:Pat),p.low k=true->Low k (p.raw K)
 |.nm i,h=>by rw[Pat.raw];rw[Pat.low] at h;exact mD (of_decide_eq_true h)
 |.tp ps,h=>by rw[Pat.raw];rw[Pat.low] at h;exact qg (fQ K ps h)
theorem fQ(K:U0a){k:Nat}:∀(ps:List Pat),cG k ps=true->Xd k (K8 K ps)
 |[],_=>by rw[K8];exact qj
 |p::ps,h=>by
  rw[K8]
  rw[cG,U1b] at h
  exact mG (Pat.cY K p h.1) (fQ K ps h.2) (Pat.mono K p) (cX K ps)
end
theorem YM:∀{ps:List Pat} {ds:List D} {env env':Env},Ih ps ds env=some env'->ds.length=ps.length
 |[],[],_,_,_=>rfl
 |[],_::_,_,_,h=>by simp[Ih] at h
 |_::_,[],_,_,h=>by simp[Ih] at h
 |p::ps,d::ds,env,env',h=>by
  rw[Ih] at h
  cases e1:p.sem d env with
  |none=>rw[e1] at h;cases h
  |some env1 =>
   rw[e1] at h
   rw[U0g,U0g,YM (show Ih ps ds env1=some env' from h)]
mutual
theorem Pat.run{Γ:Fr}{μ:Mu}{H:Hp}{S:Store}(K:U0a):∀(p:Pat){v:V}{d:D}{σ:St}{env env':Env}{Q:St->Hp->Prop},Rep Γ μ σ H env S->VR Γ μ H v d->p.sem d env=some env'->(∀σ',Rep Γ μ σ' H env' S->Q σ' H)->p.raw K v σ H Q
 |.nm i,v,d,σ,env,env',Q,R,r,e,q=>by
  rw[Pat.raw]
  rw[Pat.sem] at e
  cases e
  exact q _ (R.jK i r)
 |.tp ps,v,d,σ,env,env',Q,R,r,e,q=>by
  rw[Pat.raw]
  cases r with
  |@tup b xs ds hb rs =>
   rw[Pat.sem] at e
   obtain⟨hl,w⟩:=uG K ps R rs e q
   exact⟨b,xs,rfl,SqT.of hb,hl,w⟩
  |_=>simp[Pat.sem] at e
theorem uG{Γ:Fr}{μ:Mu}{H:Hp}{S:Store}(K:U0a):∀(ps:List Pat){vs:List V}{ds:List D}{σ:St}{env env':Env}{Q:St->Hp->Prop},Rep Γ μ σ H env S->VRs Γ μ H vs ds->Ih ps ds env=some env'->(∀σ',Rep Γ μ σ' H env' S->Q σ' H)->vs.length=ps.length/\K8 K ps vs σ H Q
 |[],vs,ds,σ,env,env',Q,R,r,e,q=>by
  rw[K8]
  cases r with
  |nil=>rw[Ih] at e;cases e;exact⟨rfl,rfl,q σ R⟩
  |cons _ _=>simp[Ih] at e
 |p::ps,vs,ds,σ,env,env',Q,R,r,e,q=>by
  rw[K8]
  cases r with
  |nil=>simp[Ih] at e
  |@cons y d ys ds' r1 r2 =>
   rw[Ih] at e
   cases e1:p.sem d env with
   |none=>rw[e1] at e;cases e
   |some env1 =>
    rw[e1] at e
    have e':Ih ps ds' env1=some env':=e
    have hl:ys.length=ps.length:=by rw[r2.length];exact YM e'
    exact⟨by rw[U0g,U0g,hl],y,ys,rfl,Pat.run K p R r1 e1 fun σ1 R1=>(uG K ps R1 r2 e' q).2⟩
end
def calm(w:List (Nat×List D))(S:Store):Prop:=∀p∈w,S[p.1]?=some (some p.2)
open Classical in
def loop(w:List (Nat×List D))(g:Ka)(b:BP):List D->BP
 |[],env,S=>if calm w S then some (.nx,env,S) else none
 |d::r,env,S=>if calm w S then (g d env).bind fun e=>(b e S).bind fun p=>match p.1 with
   |.nx=>loop w g b r p.2.1 p.2.2
   |.cnt=>loop w g b r p.2.1 p.2.2
   |.brk=>some (.nx,p.2.1,p.2.2)
   |.ret d=>some (.ret d,p.2.1,p.2.2)
  else none
def K7(it:M5)(g:Ka)(b:BP):BP:=fun env S=>(it env S).bind fun p=>loop p.1.2 g b p.1.1 env p.2
def Ke(c:FQ)(b:BP):Nat->BP
 |0,_,_=>none
 |n+1,env,S=>(c env S).bind fun p=>if p.1=true then (b env p.2).bind fun q=>match q.1 with
   |.nx=>Ke c b n q.2.1 q.2.2
   |.cnt=>Ke c b n q.2.1 q.2.2
   |.brk=>some (.nx,q.2.1,q.2.2)
   |.ret d=>some (.ret d,q.2.1,q.2.2)
  else some (.nx,env,p.2)
def J8(k:Nat)(caps:List Nat)(env:Env):Env:=U0h k none++caps.map fun j=>(env[j]?).join
open Classical in
def GD(w:List (Nat×List D))(e0:Env)(g:Ka)(t:FQ)(e:Az):List D->List D->Store->Option (List D×Store)
 |[],ys,S=>if calm w S/\ys.length<=1000000 then some (ys,S) else none
 |d::r,ys,S=>if calm w S/\ys.length<=1000000 then (g d e0).bind fun e1=>(t e1 S).bind fun p =>
   if p.1=true then (e e1 p.2).bind fun q=>GD w e0 g t e r (ys++[q.1]) q.2 else GD w e0 g t e r ys p.2
  else none
def Ej(k:Nat)(caps:List Nat)(it:M5)(g:Ka)(t:FQ)(e:Az):Bu:=fun env S=>(it env S).bind fun p=>GD p.1.2 (J8 k caps env) g t e p.1.1 [] p.2
def HY:FQ:=fun _ S=>some (true,S)
def Bq(a:Bu):Az:=fun env S=>(a env S).bind fun p=>some (.lst true p.1,p.2)
def Ly(a:Bu):Az:=fun env S=>(a env S).bind fun p=>some (.ref p.2.length,p.2++[some p.1])
def Cz(a:Bu):Az:=fun env S=>(a env S).bind fun p=>some (.tup p.1,p.2)
def wpE(K:U0a)(f:Az):TE:=fun σ H Q=>∃Γ μ env S d S',Γ.K=K/\Rep Γ μ σ H env S/\f env S=some (d,S')/\∀v μ' H',Ext μ H μ' H'->Rep Γ μ' σ H' env S'->VR Γ μ' H' v d->Q v H'
def wpA(K:U0a)(f:Bu):TA:=fun σ H Q=>∃Γ μ env S d S',Γ.K=K/\Rep Γ μ σ H env S/\f env S=some (d,S')/\∀v μ' H',Ext μ H μ' H'->Rep Γ μ' σ H' env S'->VRs Γ μ' H' v d->Q v H'
def wpT(K:U0a)(f:FQ):TT:=fun σ H Q=>∃Γ μ env S b S',Γ.K=K/\Rep Γ μ σ H env S/\f env S=some (b,S')/\∀μ' H',Ext μ H μ' H'->Rep Γ μ' σ H' env S'->Q b H'
def wpO(K:U0a)(f:TX):TO:=fun σ H Q=>∃Γ μ env S b S',Γ.K=K/\Rep Γ μ σ H env S/\f env S=some (b,S')/\∀μ' H',Ext μ H μ' H'->Rep Γ μ' σ H' env S'->Q b H'
def FlQ(Γ:Fr)(μ:Mu)(E:Ends)(σ:St)(H:Hp):Fl->Prop
 |.nx=>E.nx σ H
 |.brk=>E.bk σ H
 |.cnt=>E.ct σ H
 |.ret d=>∀v,VR Γ μ H v d->E.rt v H
def wpS(K:U0a)(f:BP):TS:=fun E σ H=>∃Γ μ env S fl env' S',Γ.K=K/\Rep Γ μ σ H env S/\f env S=some (fl,env',S')/\∀μ' σ' H',Ext μ H μ' H'->Rep Γ μ' σ' H' env' S'->FlQ Γ μ' E σ' H' fl
structure Xe(Γ:Fr)(μ:Mu)(H:Hp)(J:It)(ds:List D)(w:List (Nat×List D)):Prop where
 step:∀(i:Nat)(d:D)(μ':Mu)(H':Hp)(σ':St)(env':Env)(S':Store),ds[i]?=some d->Ext μ H μ' H'->Rep Γ μ' σ' H' env' S'->calm w S'->J.go i H'/\∀x H'',J.yld i H' x H''->Same H' H''/\VR Γ μ' H'' x d
 stop:∀(μ':Mu)(H':Hp)(σ':St)(env':Env)(S':Store),Ext μ H μ' H'->Rep Γ μ' σ' H' env' S'->calm w S'->J.stop ds.length H'
def wpI(K:U0a)(f:M5):TI:=fun σ H R=>∃Γ μ env S ds w S',Γ.K=K/\Rep Γ μ σ H env S/\f env S=some ((ds,w),S')/\∀J μ' H',Ext μ H μ' H'->Rep Γ μ' σ H' env S'->Xe Γ μ' H' J ds w->R J H'
structure JE(X:Cx)(e:Expr)(f:Az):Prop where
 pe:PE X e (wpE X.K f)
structure JA(X:Cx)(es:List Expr)(f:Bu):Prop where
 pa:PA X es (wpA X.K f)
structure JT(X:Cx)(e:Expr)(f:FQ):Prop where
 pt:PT X e (wpT X.K f)
structure JW(X:Cx)(e:Expr)(f:FQ):Prop where
 pw:PW X e (wpT X.K f)
structure JO(X:Cx)(e:Option Expr)(f:TX):Prop where
 po:PO X e (wpO X.K f)
structure JS(X:Cx)(st:Stmt)(f:BP):Prop where
 ps:PS X st (wpS X.K f)
structure JSs(X:Cx)(sts:List Stmt)(f:BP):Prop where
 ps:PSs X sts (wpS X.K f)
structure JI(X:Cx)(tg e:Expr)(f:M5):Prop where
 pi:PI X tg e (wpI X.K f)
structure JG(X:Cx)(tg:Expr)(p:Pat):Prop where
 pg:PG X tg (p.raw X.K)
structure JGs(X:Cx)(tgs:List Expr)(ps:List Pat):Prop where
 pg:PGs X tgs (K8 X.K ps)
structure JTs(X:Cx)(es:List Expr)(f:FQ):Prop where
 pt:PTs X es (wpT X.K f)
section
variable{X:Cx}
theorem PE.imp{e:Expr}{t t':TE}(h:PE X e t)(k:∀σ H Q,t' σ H Q->t σ H Q):PE X e t':=fun pins s σ H Q I q=>h pins s σ H Q I (k σ H Q q)
theorem PT.imp{e:Expr}{t t':TT}(h:PT X e t)(k:∀σ H Q,t' σ H Q->t σ H Q):PT X e t':=fun pins s σ H Q I q=>h pins s σ H Q I (k σ H Q q)
theorem PW.imp{e:Expr}{t t':TT}(h:PW X e t)(k:∀σ H Q,t' σ H Q->t σ H Q):PW X e t':=fun w pins s σ H Q I q=>h w pins s σ H Q I (k σ H Q q)
theorem PTs.imp{e:List Expr}{t t':TT}(h:PTs X e t)(k:∀σ H Q,t' σ H Q->t σ H Q):PTs X e t':=fun pins s σ H Q I q=>h pins s σ H Q I (k σ H Q q)
theorem PA.imp{e:List Expr}{t t':TA}(h:PA X e t)(k:∀σ H Q,t' σ H Q->t σ H Q):PA X e t':=fun p pins s σ H Q I q=>h p pins s σ H Q I (k σ H Q q)
theorem PO.imp{e:Option Expr}{t t':TO}(h:PO X e t)(k:∀σ H Q,t' σ H Q->t σ H Q):PO X e t':=fun pins s σ H Q I q=>h pins s σ H Q I (k σ H Q q)
theorem PS.imp{e:Stmt}{t t':TS}(h:PS X e t)(k:∀E σ H,t' E σ H->t E σ H):PS X e t':=fun pins s σ H E I q=>h pins s σ H E I (k E σ H q)
theorem PSs.imp{e:List Stmt}{t t':TS}(h:PSs X e t)(k:∀E σ H,t' E σ H->t E σ H):PSs X e t':=fun pins s σ H E I q=>h pins s σ H E I (k E σ H q)
theorem PI.imp{tg e:Expr}{t t':TI}(h:PI X tg e t)(k:∀σ H R,t' σ H R->t σ H R):PI X tg e t':=fun pins s σ H R I q=>h pins s σ H R I (k σ H R q)
theorem bind_some{α β:Type}{a:Option α}{f:α->Option β}{b:β}(h:a.bind f=some b):∃x,a=some x/\f x=some b:=by
 cases a with
 |none=>cases h
 |some x=>exact⟨x,rfl,h⟩
theorem map_some{α β:Type}{a:Option α}{f:α->β}{b:β}(h:a.map f=some b):∃x,a=some x/\f x=b:=by
 cases a with
 |none=>cases h
 |some x=>exact⟨x,rfl,U03 h⟩
def GQ(K:U0a)(r:R2)(g:Store->D->D->Option D):Prop:=∀(Γ:Fr)(μ:Mu)(σ:St)(H:Hp)(env:Env)(S:Store)(x y:V)(dx dy d:D),Γ.K=K->Rep Γ μ σ H env S->VR Γ μ H x dx->VR Γ μ H y dy->g S dx dy=some d ->
 ∀Q:VK,(∀v H',Same H H'->VR Γ μ H' v d->Q v H')->r x y H Q
def uZ(K:U0a)(r:V->Hp->VK->Prop)(g:Store->D->Option D):Prop:=∀(Γ:Fr)(μ:Mu)(σ:St)(H:Hp)(env:Env)(S:Store)(x:V)(dx d:D),Γ.K=K->Rep Γ μ σ H env S->VR Γ μ H x dx->g S dx=some d ->
 ∀Q:VK,(∀v H',Same H H'->VR Γ μ H' v d->Q v H')->r x H Q
def Lz(K:U0a)(r:List V->Hp->VK->Prop)(g:Store->List D->Option D):Prop:=∀(Γ:Fr)(μ:Mu)(σ:St)(H:Hp)(env:Env)(S:Store)(xs:List V)(ds:List D)(d:D),Γ.K=K->Rep Γ μ σ H env S->VRs Γ μ H xs ds->g S ds=some d ->
 ∀Q:VK,(∀v H',Same H H'->VR Γ μ H' v d->Q v H')->r xs H Q
def oV(K:U0a)(r:V->Option Int->Option Int->Hp->VK->Prop)(g:Store->D->Option Int->Option Int->Option D):Prop:=∀(Γ:Fr)(μ:Mu)(σ:St)(H:Hp)(env:Env)(S:Store)(x:V)(dx d:D)(l h:Option Int),Γ.K=K->Rep Γ μ σ H env S->VR Γ μ H x dx->g S dx l h=some d ->
 ∀Q:VK,(∀v H',Same H H'->VR Γ μ H' v d->Q v H')->r x l h H Q
theorem XF{K:U0a}{r:R2}{g:Store->D->D->Option D}{fa fb:Az}(hs:GQ K r g){σ:St}{H:Hp}{Q:VK}(h:wpE K (eOp g fa fb) σ H Q):tOp r (wpE K fa) (wpE K fb) σ H Q:=by
 obtain⟨Γ,μ,env,S,d,S',hK,R,e,q⟩:=h
 obtain⟨⟨x,S1⟩,e1,e⟩:=bind_some e
 obtain⟨⟨y,S2⟩,e2,e⟩:=bind_some e
 obtain⟨z,e3,e⟩:=map_some e
 cases e
 refine⟨Γ,μ,env,S,x,S1,hK,R,e1,fun v1 μ1 H1 x1 R1 r1=>?_⟩
 refine⟨Γ,μ1,env,S1,y,S2,hK,R1,e2,fun v2 μ2 H2 x2 R2 r2=>?_⟩
 refine hs Γ μ2 σ H2 env S2 v1 v2 x y _ hK R2 (r1.ext x2) r2 e3 Q fun v H' sm rv=>?_
 obtain⟨R3,x3⟩:=R2.grow sm
 exact q v μ2 H' (x1.trans (x2.trans x3)) R3 rv
theorem Bt{op:Operator}{r:R2}{g:Store->D->D->Option D}{a b:Expr}{fa fb:Az}{pos:Pos}(ho:OpR X (binaryOp op) r)(hs:GQ X.K r g)(ha:JE X a fa)(hb:JE X b fb):JE X (.BinOp a op b pos) (eOp g fa fb) :=
 ⟨PE.imp (oM ho ha.pe hb.pe) fun _ _ _ h=>XF hs h⟩
theorem PN{op:CmpOp}{r:R2}{g:Store->D->D->Option D}{a b:Expr}{fa fb:Az}{pos:Pos}(ho:OpR X (compareOp op) r)(hs:GQ X.K r g)(ha:JE X a fa)(hb:JE X b fb)(hm:behindInMarks op b=false):JE X (.Compare a [op] [b] pos) (eOp g fa fb) :=
 ⟨PE.imp (bF ho ha.pe hb.pe hm) fun _ _ _ h=>XF hs h⟩
theorem Bp{r:R2}{g:Store->D->D->Option D}{a b:Expr}{fa fb:Az}{pos:Pos}(ho:IxR X r)(hs:GQ X.K r g)(ha:JE X a fa)(hb:JE X b fb)(hp:Ry b):JE X (.Subscript a b pos) (eOp g fa fb) :=
 ⟨PE.imp (yd ho ha.pe hb.pe hp) fun _ _ _ h=>XF hs h⟩
theorem OJ{op:UnaryOp}{r:V->Hp->VK->Prop}{g:Store->D->Option D}{a:Expr}{fa:Az}{pos:Pos}(ho:UnR X (unaryOp op) r)(hs:uZ X.K r g)(ha:JE X a fa):JE X (.UnaryOp op a pos) (eUn g fa) :=
 ⟨PE.imp (yc ho ha.pe) fun σ H Q h=>by
  obtain⟨Γ,μ,env,S,d,S',hK,R,e,q⟩:=h
  obtain⟨⟨x,S1⟩,e1,e⟩:=bind_some e
  obtain⟨z,e3,e⟩:=map_some e
  cases e
  refine⟨Γ,μ,env,S,x,S1,hK,R,e1,fun v1 μ1 H1 x1 R1 r1=>?_⟩
  refine hs Γ μ1 σ H1 env S1 v1 x _ hK R1 r1 e3 Q fun v H' sm rv=>?_
  obtain⟨R3,x3⟩:=R1.grow sm
  exact q v μ1 H' (x1.trans x3) R3 rv⟩
theorem Ad(i:Nat){x:Str}{pos:Pos}(hN:X.N[i]?=some x:=by rfl)(hv:Vis X.env.scope x:=by first|exact U70 rfl|exact U7e (U70 rfl)|exact U7e (U7e rfl))(hd:(x==("__debug__":Str))=false:=by decide)
  (hcd:(x==("__classdict__":Str))=false:=by decide):JE X (.Name x pos) (Ab i) :=
 ⟨PE.imp (fD hN hv hd hcd) fun σ H Q h=>by
  obtain⟨Γ,μ,env,S,d,S',hK,R,e,q⟩:=h
  obtain⟨d',e1,e⟩:=map_some e
  cases e
  have e1':env[i]?=some (some d):=by
   cases h:env[i]? with
   |none=>rw[h] at e1;cases e1
   |some o=>rw[h] at e1;exact congrArg some e1
  obtain⟨v,h1,h2⟩:=R.vals i d e1'
  exact⟨v,h1,q v μ H (Ext.refl _ _) R h2⟩⟩
theorem bw{K:U0a}{v:V}{d:D}(h:∀Γ μ H,VR Γ μ H v d){σ:St}{H:Hp}{Q:VK}(w:wpE K (eC d) σ H Q):tC v σ H Q:=by
 obtain⟨Γ,μ,env,S,d',S',hK,R,e,q⟩:=w
 cases e
 exact q v μ H (Ext.refl _ _) R (h Γ μ H)
theorem Aj{i j pos}:JE X (.Constant (.int i) j pos) (eC (.int i)):=⟨PE.imp fH fun _ _ _=>bw fun _ _ _=>.int i⟩
theorem Oa{b j pos}:JE X (.Constant (.bool b) j pos) (eC (.bl b)):=⟨PE.imp yh fun _ _ _=>bw fun _ _ _=>.bl b⟩
theorem wN{j pos}:JE X (.Constant .none j pos) (eC .non):=⟨PE.imp vW fun _ _ _=>bw fun _ _ _=>.non⟩
theorem Rg{n:String}{x:Str}{pos:Pos}(hg:Gl X x)(hm:X.mg x=none)(hv:bootBuiltins x=some (.type n))(hn:x≠"__name__":=by decide)(hd:(x==("__debug__":Str))=false:=by decide):JE X (.Name x pos) (eC (.ty n)) :=
 ⟨PE.imp (qT (v:=.ty n) hg hm hv rfl hn hd) fun _ _ _=>bw fun _ _ _=>.ty n⟩
theorem Ai:JA X [] Ag:=⟨PA.imp PB fun σ H Q h=>by
 obtain⟨Γ,μ,env,S,d,S',hK,R,e,q⟩:=h
 cases e
 exact q [] μ H (Ext.refl _ _) R .nil⟩
theorem Ae{e:Expr}{es:List Expr}{f:Az}{r:Bu}(ha:JE X e f)(hr:JA X es r)(hs:starEach (e::es) X.env=(false,eval e X.env)::starEach es X.env:=by rfl):JA X (e::es) (Aa f r) :=
 ⟨PA.imp (Mw ha.pe hr.pa hs) fun σ H Q h=>by
  obtain⟨Γ,μ,env,S,d,S',hK,R,e,q⟩:=h
  obtain⟨⟨x,S1⟩,e1,e⟩:=bind_some e
  obtain⟨⟨y,S2⟩,e2,e⟩:=bind_some e
  cases e
  refine⟨Γ,μ,env,S,x,S1,hK,R,e1,fun v1 μ1 H1 x1 R1 r1=>?_⟩
  refine⟨Γ,μ1,env,S1,y,S2,hK,R1,e2,fun v2 μ2 H2 x2 R2 r2=>?_⟩
  exact q _ μ2 H2 (x1.trans x2) R2 (.cons (r1.ext x2) r2)⟩
theorem big{n:Nat}(h:n<=1000000):n<sizeLine:=U3z h (by decide)
theorem ug{K:U0a}{f:Bu}{σ:St}{H:Hp}{Q:VK}(hl:∀env S p,f env S=some p->p.1.length<=1000000)(h:wpE K (Cz f) σ H Q):u6 (wpA K f) σ H Q:=by
 obtain⟨Γ,μ,env,S,d,S',hK,R,e,q⟩:=h
 obtain⟨⟨x,S1⟩,e1,e⟩:=bind_some e
 cases e
 refine⟨Γ,μ,env,S,x,S1,hK,R,e1,fun vs μ1 H1 x1 R1 r1=>⟨by rw[r1.length];exact U2i (big (hl _ _ _ e1)),fun p hp=>?_⟩⟩
 have sm:=Dg hp (.tup vs)
 obtain⟨R2,x2⟩:=R1.grow sm
 exact q _ μ1 _ (x1.trans x2) R2 (.tup CK (r1.ext x2))
def Few(n:Nat)(f:Bu):Prop:=∀env S p,f env S=some p->p.1.length<=n
theorem BW:Few 0 Ag:=fun env S p h=>by cases h;exact U0u _
theorem Am{n:Nat}{f:Az}{r:Bu}(h:Few n r):Few (n+1) (Aa f r):=fun env S p e=>by
 obtain⟨⟨x,S1⟩,e1,e⟩:=bind_some e
 obtain⟨⟨y,S2⟩,e2,e⟩:=bind_some e
 cases e
 have:=h _ _ _ e2
 show(x::y).length<=n+1
 rw[U0g]
 exact Nat.succ_le_succ this
theorem Ds{es:List Expr}{f:Bu}{x1:Nat}{pos:Pos}{n:Nat}(h:JA X es f)(hf:Few n f)(hn:n<=1000000:=by decide):JE X (.Tuple es x1 pos) (Cz f):=⟨PE.imp (vR h.pa) fun _ _ _ w=>ug (fun env S p e=>U1c (hf env S p e) hn) w⟩
theorem Em{es:List Expr}{f:Bu}{pos:Pos}{n:Nat}(h:JA X es f)(hf:Few n f)(hn:n<=1000000:=by decide):JE X (.List es pos) (Bq f):=⟨PE.imp (fG h.pa) fun σ H Q w=>by
 obtain⟨Γ,μ,env,S,d,S',hK,R,e,q⟩:=w
 obtain⟨⟨x,S1⟩,e1,e⟩:=bind_some e
 cases e
 refine⟨Γ,μ,env,S,x,S1,hK,R,e1,fun vs μ1 H1 x1 R1 r1=>⟨by rw[r1.length];exact U2i (big (U1c (hf _ _ _ e1) hn)),fun p hp=>?_⟩⟩
 obtain⟨R2,x2⟩:=R1.grow (Dg hp (.lst vs))
 exact q _ μ1 _ (x1.trans x2) R2 (.lst (R1.ok hp true) (R1.dead hp) CK (r1.ext x2))⟩
theorem Pg{es:List Expr}{f:Bu}{pos:Pos}{n:Nat}(h:JA X es f)(hf:Few n f)(hn:n<=1000000:=by decide):JE X (.List es pos) (Ly f):=⟨PE.imp (fG h.pa) fun σ H Q w=>by
 obtain⟨Γ,μ,env,S,d,S',hK,R,e,q⟩:=w
 obtain⟨⟨x,S1⟩,e1,e⟩:=bind_some e
 cases e
 refine⟨Γ,μ,env,S,x,S1,hK,R,e1,fun vs μ1 H1 x1 R1 r1=>⟨by rw[r1.length];exact U2i (big (U1c (hf _ _ _ e1) hn)),fun p hp=>?_⟩⟩
 obtain⟨R2,x2⟩:=R1.laid hp r1
 exact q _ _ _ (x1.trans x2) R2 (.ref (by rw[U0s,R1.slen];simp) fun a h=>by
  rw[R1.slen] at h
  simp at h
  rw[←h]
  exact⟨rfl,⟨_,CK⟩⟩)⟩
end
end VS
end
section
namespace VS
open PySem PySem.Spec L2
section
variable{X:Cx}{a b c:Expr}{fa fb fc:Az}{pos:Pos}{rest:List Expr}
theorem Uv{op}(h:JE X a fa):JE X (.BoolOp op [a] pos) fa:=⟨vU h.pe⟩
theorem Qt(ha:JE X a fa)(hb:JE X (.BoolOp .And (b::rest) pos) fb):JE X (.BoolOp .And (a::b::rest) pos) (TQ fa fb):=⟨PE.imp (vY ha.pe hb.pe) fun σ H Q h=>by
 obtain⟨Γ,μ,env,S,d,S',hK,R,e,q⟩:=h
 obtain⟨⟨x,S1⟩,e1,e⟩:=bind_some e
 refine⟨Γ,μ,env,S,x,S1,hK,R,e1,fun v1 μ1 H1 x1 R1 r1=>?_⟩
 dsimp only at e
 split at e
 .cases r1
  exact⟨true,rfl,by rw[if_pos rfl];exact⟨Γ,μ1,env,S1,d,S',hK,R1,e,fun v μ' H' x' R' r'=>q v μ' H' (x1.trans x') R' r'⟩⟩
 .cases r1
  cases e
  exact⟨false,rfl,by rw[if_neg U1g];exact q _ μ1 H1 x1 R1 (.bl false)⟩
 .cases e⟩
theorem wM(ha:JE X a fa):JE X (.UnaryOp .Not a pos) (jT fa):=⟨PE.imp (vV ha.pe) fun σ H Q h=>by
 obtain⟨Γ,μ,env,S,d,S',hK,R,e,q⟩:=h
 obtain⟨⟨x,S1⟩,e1,e⟩:=bind_some e
 refine⟨Γ,μ,env,S,x,S1,hK,R,e1,fun v1 μ1 H1 x1 R1 r1=>?_⟩
 dsimp only at e
 split at e
 .rename_i c
  cases r1
  cases e
  exact⟨c,rfl,q _ μ1 H1 x1 R1 (.bl _)⟩
 .cases e⟩
theorem Kh{e:Expr}(h:JE X e fa)(he:∀whole,isTrue e X.env whole=(do let v ←whole;standAt e.pos;holding [v] (truthy v)):=by intro _;rfl):JT X e (Bb fa):=⟨PT.imp (vJ h.pe he) fun σ H Q h=>by
 obtain⟨Γ,μ,env,S,d,S',hK,R,e,q⟩:=h
 obtain⟨⟨x,S1⟩,e1,e⟩:=bind_some e
 refine⟨Γ,μ,env,S,x,S1,hK,R,e1,fun v1 μ1 H1 x1 R1 r1=>?_⟩
 dsimp only at e
 split at e
 .rename_i c
  cases r1
  cases e
  exact⟨_,rfl,q μ1 H1 x1 R1⟩
 .cases e⟩
theorem aQ{K:U0a}{f:Az}{t:TE}(ht:∀σ H Q,wpE K f σ H Q->t σ H Q){σ:St}{H:Hp}{Q:Bool->Hp->Prop}(h:wpT K (Bb f) σ H Q):cQ t σ H Q:=by
 obtain⟨Γ,μ,env,S,d,S',hK,R,e,q⟩:=h
 obtain⟨⟨x,S1⟩,e1,e⟩:=bind_some e
 refine ht σ H _ ⟨Γ,μ,env,S,x,S1,hK,R,e1,fun v1 μ1 H1 x1 R1 r1=>?_⟩
 dsimp only at e
 split at e
 .cases r1
  cases e
  exact⟨_,rfl,q μ1 H1 x1 R1⟩
 .cases e
theorem Ef{op:CmpOp}{r:R2}{g:Store->D->D->Option D}(ho:OpR X (compareOp op) r)(hs:GQ X.K r g)(ha:JE X a fa)(hb:JE X b fb)(hm:behindInMarks op b=false):JT X (.Compare a [op] [b] pos) (Bb (eOp g fa fb)) :=
 ⟨PT.imp (qC ho ha.pe hb.pe hm) fun σ H Q h=>aQ (fun _ _ _=>XF hs) h⟩
theorem jd{K:U0a}{r r':R2}{g g':Store->D->D->Option D}(hs:GQ K r g)(hs':GQ K r' g'){σ:St}{H:Hp}{Q:VK}(h:wpE K (Ux g g' fa fb fc) σ H Q):eV r r' (wpE K fa) (wpE K fb) (wpE K fc) σ H Q:=by
 obtain⟨Γ,μ,env,S,d,S',hK,R,e,q⟩:=h
 obtain⟨⟨x,S1⟩,e1,e⟩:=bind_some e
 obtain⟨⟨y,S2⟩,e2,e⟩:=bind_some e
 obtain⟨z,e3,e⟩:=bind_some e
 refine⟨Γ,μ,env,S,x,S1,hK,R,e1,fun v1 μ1 H1 x1 R1 r1=>?_⟩
 refine⟨Γ,μ1,env,S1,y,S2,hK,R1,e2,fun v2 μ2 H2 x2 R2 r2=>?_⟩
 refine hs Γ μ2 σ H2 env S2 v1 v2 x y _ hK R2 (r1.ext x2) r2 e3 _ fun v H3 sm rv=>?_
 obtain⟨R3,x3⟩:=R2.grow sm
 dsimp only at e
 split at e
 .cases rv
  refine⟨true,rfl,?_⟩
  rw[if_pos rfl]
  obtain⟨⟨u,S3⟩,e4,e⟩:=bind_some e
  obtain⟨w,e5,e⟩:=map_some e
  cases e
  refine⟨Γ,μ2,env,S2,u,S3,hK,R3,e4,fun v4 μ4 H4 x4 R4 r4=>?_⟩
  refine hs' Γ μ4 σ H4 env S3 v2 v4 y u _ hK R4 (r2.ext (x3.trans x4)) r4 e5 _ fun v5 H5 sm5 rv5=>?_
  obtain⟨R5,x5⟩:=R4.grow sm5
  exact q v5 μ4 H5 (x1.trans (x2.trans (x3.trans (x4.trans x5)))) R5 rv5
 .cases rv
  cases e
  refine⟨false,rfl,?_⟩
  rw[if_neg U1g]
  exact q _ μ2 H3 (x1.trans (x2.trans x3)) R3 (.bl false)
 .cases e
theorem mW{op op':CmpOp}{r r':R2}{g g':Store->D->D->Option D}(ho:OpR X (compareOp op) r)(hs:GQ X.K r g)(ho':OpR X (compareOp op') r')(hs':GQ X.K r' g')(ha:JE X a fa)(hb:JE X b fb)(hc:JE X c fc)
  (hm:lastMarks [op,op'] [b,c]=false:=by with_unfolding_all rfl):JT X (.Compare a [op,op'] [b,c] pos) (Bb (Ux g g' fa fb fc)):=⟨PT.imp (lE ho ho' ha.pe hb.pe hc.pe hm) fun _ _ _ h=>aQ (fun _ _ _=>jd hs hs') h⟩
variable{ta tb:FQ}
theorem Ma(h:JW X a ta):JT X a ta:=⟨h.pw.pt⟩
theorem Vl(ha:JT X a ta):JW X (.BoolOp .And [a] pos) ta:=⟨pY ha.pt⟩
theorem PL(ha:JT X a ta):JW X (.BoolOp .Or [a] pos) ta:=⟨vH ha.pt⟩
theorem Xp(ha:JT X a ta)(hb:JW X (.BoolOp .And (b::rest) pos) tb):JW X (.BoolOp .And (a::b::rest) pos) (LQ ta tb):=⟨PW.imp (vI ha.pt hb.pw) fun σ H Q h=>by
 obtain⟨Γ,μ,env,S,d,S',hK,R,e,q⟩:=h
 obtain⟨⟨x,S1⟩,e1,e⟩:=bind_some e
 refine⟨Γ,μ,env,S,x,S1,hK,R,e1,fun μ1 H1 x1 R1=>?_⟩
 dsimp only at e
 by_cases hx:x=true
 .rw[if_pos hx] at e ⊢
  exact⟨Γ,μ1,env,S1,d,S',hK,R1,e,fun μ' H' x' R'=>q μ' H' (x1.trans x') R'⟩
 .rw[if_neg hx] at e ⊢
  cases e
  exact q μ1 H1 x1 R1⟩
theorem OD(ha:JT X a ta)(hb:JW X (.BoolOp .Or (b::rest) pos) tb):JW X (.BoolOp .Or (a::b::rest) pos) (tOr ta tb):=⟨PW.imp (yX ha.pt hb.pw) fun σ H Q h=>by
 obtain⟨Γ,μ,env,S,d,S',hK,R,e,q⟩:=h
 obtain⟨⟨x,S1⟩,e1,e⟩:=bind_some e
 refine⟨Γ,μ,env,S,x,S1,hK,R,e1,fun μ1 H1 x1 R1=>?_⟩
 dsimp only at e
 by_cases hx:x=true
 .rw[if_pos hx] at e ⊢
  cases e
  exact q μ1 H1 x1 R1
 .rw[if_neg hx] at e ⊢
  exact⟨Γ,μ1,env,S1,d,S',hK,R1,e,fun μ' H' x' R'=>q μ' H' (x1.trans x') R'⟩⟩
theorem Kl(ha:JT X a ta):JT X (.UnaryOp .Not a pos) (Jl ta):=⟨PT.imp (vK ha.pt) fun σ H Q h=>by
 obtain⟨Γ,μ,env,S,d,S',hK,R,e,q⟩:=h
 obtain⟨⟨x,S1⟩,e1,e⟩:=bind_some e
 cases e
 exact⟨Γ,μ,env,S,x,S1,hK,R,e1,fun μ1 H1 x1 R1=>q μ1 H1 x1 R1⟩⟩
theorem IV:JTs X [] HY:=⟨PTs.imp pq fun σ H Q h=>by
 obtain⟨Γ,μ,env,S,d,S',hK,R,e,q⟩:=h
 cases e
 exact q μ H (Ext.refl _ _) R⟩
theorem bK(h:JT X c ta):JTs X [c] ta:=⟨pZ h.pt⟩
variable{lo hi:Option Expr}{ol oh:TX}{p2:Pos}
theorem Ld:JO X none Ge:=⟨PO.imp qL fun σ H Q h=>by
 obtain⟨Γ,μ,env,S,d,S',hK,R,e,q⟩:=h
 cases e
 exact q μ H (Ext.refl _ _) R⟩
theorem Lb(h:JE X a fa):JO X (some a) (Gd fa):=⟨PO.imp (qK h.pe) fun σ H Q h=>by
 obtain⟨Γ,μ,env,S,d,S',hK,R,e,q⟩:=h
 obtain⟨⟨x,S1⟩,e1,e⟩:=bind_some e
 refine⟨Γ,μ,env,S,x,S1,hK,R,e1,fun v1 μ1 H1 x1 R1 r1=>?_⟩
 dsimp only at e
 split at e
 .cases r1
  cases e
  exact⟨_,rfl,q μ1 H1 x1 R1⟩
 .cases e⟩
theorem KH{r:V->Option Int->Option Int->Hp->VK->Prop}{g:Store->D->Option Int->Option Int->Option D}(hr:SlR X r)(hs:oV X.K r g)(ha:JE X a fa)(hl:JO X lo ol)(hh:JO X hi oh) :
  JE X (.Subscript a (.Slice lo hi none p2) pos) (eSl g fa ol oh):=⟨PE.imp (lN hr ha.pe hl.po hh.po) fun σ H Q h=>by
 obtain⟨Γ,μ,env,S,d,S',hK,R,e,q⟩:=h
 obtain⟨⟨x,S1⟩,e1,e⟩:=bind_some e
 obtain⟨⟨l,S2⟩,e2,e⟩:=bind_some e
 obtain⟨⟨u,S3⟩,e3,e⟩:=bind_some e
 obtain⟨z,e4,e⟩:=map_some e
 cases e
 refine⟨Γ,μ,env,S,x,S1,hK,R,e1,fun v1 μ1 H1 x1 R1 r1=>?_⟩
 refine⟨Γ,μ1,env,S1,l,S2,hK,R1,e2,fun μ2 H2 x2 R2=>?_⟩
 refine⟨Γ,μ2,env,S2,u,S3,hK,R2,e3,fun μ3 H3 x3 R3=>?_⟩
 refine hs Γ μ3 σ H3 env S3 v1 x _ l u hK R3 (r1.ext (x2.trans x3)) e4 Q fun v H' sm rv=>?_
 obtain⟨R4,x4⟩:=R3.grow sm
 exact q v μ3 H' (x1.trans (x2.trans (x3.trans x4))) R4 rv⟩
theorem o8{K:U0a}{r:List V->Hp->VK->Prop}{g:Store->List D->Option D}{f:Bu}(hs:Lz K r g){σ:St}{H:Hp}{Q:VK}(h:wpE K (eCB g f) σ H Q):tCB r (wpA K f) σ H Q:=by
 obtain⟨Γ,μ,env,S,d,S',hK,R,e,q⟩:=h
 obtain⟨⟨x,S1⟩,e1,e⟩:=bind_some e
 obtain⟨z,e4,e⟩:=map_some e
 cases e
 refine⟨Γ,μ,env,S,x,S1,hK,R,e1,fun v1 μ1 H1 x1 R1 r1=>?_⟩
 refine hs Γ μ1 σ H1 env S1 v1 x _ hK R1 r1 e4 Q fun v H' sm rv=>?_
 obtain⟨R4,x4⟩:=R1.grow sm
 exact q v μ1 H' (x1.trans x4) R4 rv
variable{x:Str}{p:Pos}{e:Expr}{es:List Expr}{id T:String}{f:Bu}
theorem Cd{r:List V->Hp->VK->Prop}{g:Store->List D->Option D}(hc:Dn X (.builtin id) r)(hsm:Lz X.K r g)(hg:Gl X x)(hm:X.mg x=none)(hv:bootBuiltins x=some (.builtin id))(ha:JA X (e::es) f)(hn:x≠"__name__":=by decide)(hdb:(x==("__debug__":Str))=false:=by decide)
  (he:starEach (e::es) X.env=(false,eval e X.env)::starEach es X.env:=by rfl) (hpl:(backTo pos (starEach es X.env)).any (·.1)=false:=by rfl):JE X (.Call (.Name x p) (e::es) [] pos) (eCB g f) :=
 ⟨PE.imp (Tg hc hg hm hv ha.pa hn hdb he hpl) fun _ _ _ h=>o8 hsm h⟩
theorem RD{r:List V->Hp->VK->Prop}{g:Store->List D->Option D}(hc:Dn X (.type T) r)(hsm:Lz X.K r g)(hg:Gl X x)(hm:X.mg x=none)(hv:bootBuiltins x=some (.type T))(ha:JA X (e::es) f)(hn:x≠"__name__":=by decide)(hdb:(x==("__debug__":Str))=false:=by decide)
  (he:starEach (e::es) X.env=(false,eval e X.env)::starEach es X.env:=by rfl) (hpl:(backTo pos (starEach es X.env)).any (·.1)=false:=by rfl):JE X (.Call (.Name x p) (e::es) [] pos) (eCB g f) :=
 ⟨PE.imp (Lw hc hg hm hv ha.pa hn hdb he hpl) fun _ _ _ h=>o8 hsm h⟩
end
section
variable{X:Cx}{st:Stmt}{sts:List Stmt}{f g:BP}{fa:Az}{a:Expr}{pos:Pos}{K:U0a}
theorem yF{E:Ends}{σ:St}{H:Hp}{fl:Fl}(h:wpS K (fun env S=>some (fl,env,S)) E σ H):∃Γ μ,FlQ Γ μ E σ H fl:=by
 obtain⟨Γ,μ,env,S,fl',env',S',hK,R,e,q⟩:=h
 cases e
 exact⟨Γ,μ,q μ σ H (Ext.refl _ _) R⟩
theorem El:JSs X [] Ey:=⟨PSs.imp qG fun E σ H h=>let ⟨_,_,q⟩:=yF (fl:=.nx) h;q⟩
theorem Tn:JS X st Qq:=⟨PS.imp lH fun E σ H h=>by obtain⟨_,_,_,_,_,_,_,_,_,e,_⟩:=h;cases e⟩
theorem Aq(h1:JS X st f)(h2:JSs X sts g):JSs X (st::sts) (Bj f g):=⟨PSs.imp (lF h1.ps h2.ps) fun E σ H h=>by
 obtain⟨Γ,μ,env,S,fl,env',S',hK,R,e,q⟩:=h
 obtain⟨⟨fl1,env1,S1⟩,e1,e⟩:=bind_some e
 refine⟨Γ,μ,env,S,fl1,env1,S1,hK,R,e1,fun μ1 σ1 H1 x1 R1=>?_⟩
 dsimp only at e
 cases fl1 with
 |nx=>exact⟨Γ,μ1,env1,S1,fl,env',S',hK,R1,e,fun μ' σ' H' x' R'=>q μ' σ' H' (x1.trans x') R'⟩
 |brk=>cases e;exact q μ1 σ1 H1 x1 R1
 |cnt=>cases e;exact q μ1 σ1 H1 x1 R1
 |ret d=>cases e;exact q μ1 σ1 H1 x1 R1⟩
theorem Ay(h1:JS X st f):JSs X [st] f:=⟨qF h1.ps⟩
theorem Hs(he:JE X a fa)(hs:swapsWith a none pos.line X.env=pure false:=by rfl):JS X (.Expr a pos) (Gv fa):=⟨PS.imp (qI he.pe hs) fun E σ H h=>by
 obtain⟨Γ,μ,env,S,fl,env',S',hK,R,e,q⟩:=h
 obtain⟨⟨x,S1⟩,e1,e⟩:=bind_some e
 cases e
 exact⟨Γ,μ,env,S,x,S1,hK,R,e1,fun v1 μ1 H1 x1 R1 r1=>q μ1 σ H1 x1 R1⟩⟩
theorem CQ(he:JE X a fa):JS X (.Return (some a) pos) (Cy fa):=⟨PS.imp (vM he.pe) fun E σ H h=>by
 obtain⟨Γ,μ,env,S,fl,env',S',hK,R,e,q⟩:=h
 obtain⟨⟨x,S1⟩,e1,e⟩:=bind_some e
 cases e
 exact⟨Γ,μ,env,S,x,S1,hK,R,e1,fun v1 μ1 H1 x1 R1 r1=>q μ1 σ H1 x1 R1 v1 r1⟩⟩
theorem GC{c:Expr}{A B:List Stmt}{tc:FQ}(hc:JT X c tc)(ha:JSs X A f)(hb:JSs X B g):JS X (.If c A B pos) (sIf tc f g):=⟨PS.imp (yZ hc.pt ha.ps hb.ps) fun E σ H h=>by
 obtain⟨Γ,μ,env,S,fl,env',S',hK,R,e,q⟩:=h
 obtain⟨⟨x,S1⟩,e1,e⟩:=bind_some e
 refine⟨Γ,μ,env,S,x,S1,hK,R,e1,fun μ1 H1 x1 R1=>?_⟩
 dsimp only at e
 by_cases hx:x=true
 .rw[if_pos hx] at e ⊢
  exact⟨Γ,μ1,env,S1,fl,env',S',hK,R1,e,fun μ' σ' H' x' R'=>q μ' σ' H' (x1.trans x') R'⟩
 .rw[if_neg hx] at e ⊢
  exact⟨Γ,μ1,env,S1,fl,env',S',hK,R1,e,fun μ' σ' H' x' R'=>q μ' σ' H' (x1.trans x') R'⟩⟩
theorem Cv{i:Nat}{x:Str}{pos':Pos}(hN:X.N.Nodup)(he:JE X a fa)(hi:X.N[i]?=some x:=by rfl)(hx:Loc X.env.scope x:=by first|exact U70 rfl|exact U7e rfl)(hs:swapsWith a (some (.Name x pos')) pos.line X.env=pure false:=by rfl)
  (hf:X.fn x=true∨X.env.scope.names.lookup x=some .local:=by first|exact .inl rfl|exact .inr rfl|assumption):JS X (.Assign [.Name x pos'] a pos) (Bo i fa):=⟨PS.imp (vL hN hi hx he.pe hs hf) fun E σ H h=>by
 obtain⟨Γ,μ,env,S,fl,env',S',hK,R,e,q⟩:=h
 obtain⟨⟨y,S1⟩,e1,e⟩:=bind_some e
 cases e
 exact⟨Γ,μ,env,S,y,S1,hK,R,e1,fun v1 μ1 H1 x1 R1 r1=>q μ1 _ H1 x1 (R1.jK i r1)⟩⟩
theorem Bh{i:Nat}{x:Str}(hN:X.N.Nodup)(hi:X.N[i]?=some x:=by rfl)(hx:Loc X.env.scope x:=by first|exact U70 rfl|exact U7e rfl)
  (hf:X.fn x=true∨X.env.scope.names.lookup x=some .local:=by first|exact .inl rfl|exact .inr rfl|assumption):JG X (.Name x pos) (.nm i):=⟨by rw[Pat.raw];exact qN hN hi hx hf⟩
theorem Fy:JGs X [] []:=⟨by rw[K8];exact qM⟩
theorem CJ{e:Expr}{es:List Expr}{t:Pat}{u:List Pat}(h1:JG X e t)(h2:JGs X es u)
  (hs:(assignEach (e::es) X.env).map (·.2)=assign e X.env::(assignEach es X.env).map (·.2):=by rfl):JGs X (e::es) (t::u):=⟨by rw[K8];exact lK h1.pg h2.pg hs⟩
theorem Gq{es:List Expr}{k:Nat}{gs:List Pat}(hc:X.calm=true)(h:JGs X es gs)(hn:(assignEach es X.env).length=gs.length:=by rfl)(hst:(assignEach es X.env).findIdx? (·.1)=none:=by rfl):JG X (.Tuple es k pos) (.tp gs) :=
 ⟨by rw[Pat.raw];exact vP hc h.pg hn hst⟩
theorem fO{tg:Expr}{gg:Pat}(he:JE X a fa)(hg:JG X tg gg)(hs:swapsWithSole [tg] a pos.line X.env=pure false:=by rfl)(hw:swappedStores [tg] a X.env=pure none:=by rfl)
  (h1:(assignEach [tg] X.env).map (·.2)=[assign tg X.env]:=by rfl):JS X (.Assign [tg] a pos) (Vc fa gg.sem):=⟨PS.imp (fC he.pe hg.pg hs hw h1) fun E σ H h=>by
 obtain⟨Γ,μ,env,S,fl,env',S',hK,R,e,q⟩:=h
 obtain⟨⟨y,S1⟩,e1,e⟩:=bind_some e
 obtain⟨env1,e2,e⟩:=bind_some e
 cases e
 exact⟨Γ,μ,env,S,y,S1,hK,R,e1,fun v1 μ1 H1 x1 R1 r1=>gg.run X.K R1 r1 e2 fun σ' R'=>q μ1 σ' H1 x1 R'⟩⟩
theorem Hz{tg iter:Expr}{body:List Stmt}{it:M5}{gg:Pat}(hc:X.calm=true)(hi:JI X tg iter it)(hg:JG X tg gg)(hb:JSs X body f)(hp:PassesOwn (model X.prog X.w) X.A X.env X.xe)
  (hs:∀x,foldedSetIterable iter X.env x=pure x:=by intro _;rfl):JS X (.For tg iter body [] pos) (K7 it gg.sem f):=⟨PS.imp (vN hp hc hi.pi hg.pg hb.ps hs) fun E σ H h=>by
 obtain⟨Γ,μ,env,S,fl,env',S',hK,R,e,q⟩:=h
 obtain⟨⟨⟨ds,w⟩,S1⟩,e1,e⟩:=bind_some e
 refine⟨Γ,μ,env,S,ds,w,S1,hK,R,e1,fun J μ1 H1 x1 R1 ok=>?_⟩
 refine⟨fun i m σ2 H2=>∃μ2 env2 S2,m=ds.length-i/\i<=ds.length/\Ext μ1 H1 μ2 H2/\Rep Γ μ2 σ2 H2 env2 S2/\loop w gg.sem f (ds.drop i) env2 S2=some (fl,env',S'),⟨ds.length,μ1,env,S1,rfl,U3a _,Ext.refl _ _,R1,by rw[U7s];exact e⟩,?_⟩
 rintro i m σ2 H2 ⟨μ2,env2,S2,rfl,hi,x2,R2,el⟩
 by_cases hlt:i<ds.length
 .rw[U3g hlt] at el
  unfold loop at el
  by_cases hcm:calm w S2
  .rw[if_pos hcm] at el
   obtain⟨env3,e3,el⟩:=bind_some el
   obtain⟨⟨fl4,env4,S4⟩,e4,el⟩:=bind_some el
   obtain⟨go,yl⟩:=ok.step i ds[i] μ2 H2 σ2 env2 S2 (U0n hlt) x2 R2 hcm
   refine .inr ⟨go,fun σ5 H5=>∃μ5 env5 S5,Ext μ1 H1 μ5 H5/\Rep Γ μ5 σ5 H5 env5 S5/\loop w gg.sem f (ds.drop (i+1)) env5 S5=some (fl,env',S'),fun σ5 H5 ⟨μ5,env5,S5,x5,R5,e5⟩=>⟨ds.length-(i+1),by omega,μ5,env5,S5,rfl,hlt,x5,R5,e5⟩,fun x H3 y=>?_⟩
   obtain⟨sm,rx⟩:=yl x H3 y
   obtain⟨R3,x3⟩:=R2.grow sm
   refine gg.run X.K R3 rx e3 fun σ3 R3'=>?_
   refine⟨Γ,μ2,env3,S2,fl4,env4,S4,hK,R3',e4,fun μ4 σ4 H4 x4 R4=>?_⟩
   have x14:=x2.trans (x3.trans x4)
   dsimp only at el
   cases fl4 with
   |nx=>exact⟨μ4,env4,S4,x14,R4,el⟩
   |cnt=>exact⟨μ4,env4,S4,x14,R4,el⟩
   |brk=>cases el;exact q μ4 σ4 H4 (x1.trans x14) R4
   |ret d=>cases el;exact q μ4 σ4 H4 (x1.trans x14) R4
  .rw[if_neg hcm] at el;cases el
 .have hi':i=ds.length:=by omega
  subst hi'
  rw[List.drop_length] at el
  unfold loop at el
  by_cases hcm:calm w S2
  .rw[if_pos hcm] at el
   cases el
   exact .inl ⟨ok.stop μ2 H2 σ2 _ _ x2 R2 hcm,q μ2 σ2 H2 (x1.trans x2) R2⟩
  .rw[if_neg hcm] at el;cases el⟩
theorem mX{c:Expr}{body:List Stmt}{tc:FQ}(n:Nat)(hp:PassesOwn (model X.prog X.w) X.A X.env X.xe)(hc:JT X c tc)(hb:JSs X body f):JS X (.While c body [] pos) (Ke tc f n):=⟨PS.imp (lG hp hc.pt hb.ps) fun E σ H h=>by
 obtain⟨Γ,μ,env,S,fl,env',S',hK,R,e,q⟩:=h
 refine⟨fun m σ2 H2=>∃μ2 env2 S2,Ext μ H μ2 H2/\Rep Γ μ2 σ2 H2 env2 S2/\Ke tc f m env2 S2=some (fl,env',S'),⟨n,μ,env,S,Ext.refl _ _,R,e⟩,?_⟩
 rintro m σ2 H2 ⟨μ2,env2,S2,x2,R2,el⟩
 cases m with
 |zero=>cases el
 |succ m =>
  unfold Ke at el
  obtain⟨⟨b,S3⟩,e3,el⟩:=bind_some el
  refine⟨Γ,μ2,env2,S2,b,S3,hK,R2,e3,fun μ3 H3 x3 R3=>?_⟩
  dsimp only at el
  by_cases hb':b=true
  .rw[if_pos hb'] at el ⊢
   obtain⟨⟨fl4,env4,S4⟩,e4,el⟩:=bind_some el
   refine⟨fun σ5 H5=>∃μ5 env5 S5,Ext μ H μ5 H5/\Rep Γ μ5 σ5 H5 env5 S5/\Ke tc f m env5 S5=some (fl,env',S'),fun σ5 H5 ⟨μ5,env5,S5,x5,R5,e5⟩=>⟨m,U4x m,μ5,env5,S5,x5,R5,e5⟩,?_⟩
   refine⟨Γ,μ3,env2,S3,fl4,env4,S4,hK,R3,e4,fun μ4 σ4 H4 x4 R4=>?_⟩
   have x14:=x2.trans (x3.trans x4)
   dsimp only at el
   cases fl4 with
   |nx=>exact⟨μ4,env4,S4,x14,R4,el⟩
   |cnt=>exact⟨μ4,env4,S4,x14,R4,el⟩
   |brk=>cases el;exact q μ4 σ4 H4 x14 R4
   |ret d=>cases el;exact q μ4 σ4 H4 x14 R4
  .rw[if_neg hb'] at el ⊢
   cases el
   exact q μ3 σ2 H3 (x2.trans x3) R3⟩
end
end VS
end
section
namespace VS
open PySem PySem.Spec L2
theorem Rep.cap{Γ:Fr}{μ:Mu}{σ:St}{H:Hp}{env:Env}{S:Store}(R:Rep Γ μ σ H env S)(k:Nat)(caps:List Nat):Rep Γ μ (Jm k caps σ) H (J8 k caps env) S:=by
 refine⟨fun i d h=>?_,?_,R.sto,R.liv,R.inj,R.slen,R.ent,R.new⟩
 .unfold J8 at h
  by_cases hi:i<k
  .rw[U1f (by simpa using hi),U38,if_pos hi] at h
   cases h
  .rw[U2a (by simpa using hi),U1e,U0z] at h
   cases e:caps[i-k]? with
   |none=>rw[e] at h;cases h
   |some a =>
    rw[e] at h
    have h':(env[a]?).join=some d:=U03 h
    have h2:env[a]?=some (some d):=by
     cases q:env[a]? with
     |none=>rw[q] at h';cases h'
     |some o=>rw[q] at h';exact congrArg some h'
    obtain⟨v,h3,h4⟩:=R.vals a d h2
    refine⟨v,?_,h4⟩
    unfold Jm
    rw[U2a (by simpa using hi),U1e,U0z,e]
    show some (σ[a]?).join=some (some v)
    rw[h3];rfl
 .unfold Jm J8
  rw[U0s,U0s,U0i,U0i,U1e,U1e]
section
variable{X:Cx}
theorem aR{K:U0a}{k:Nat}{caps:List Nat}{it:M5}{p:Pat}{t:FQ}{f:Az}{σ:St}{H:Hp}{Q:VK} (h:∃Γ μ env S ys S',Γ.K=K/\Rep Γ μ σ H env S/\Ej k caps it p.sem t f env S=some (ys,S') /\
  ∀xs μ' H',Ext μ H μ' H'->Rep Γ μ' σ H' env S'->VRs Γ μ' H' xs ys->∀q,H' q=none->Q (.ref q) (upd H' q (.lst xs))):cR k caps (wpI K it) (p.raw K) (wpT K t) (wpE K f) σ H Q:=by
 obtain⟨Γ,μ,env,S,ys,S',hK,R,e,q⟩:=h
 obtain⟨⟨⟨ds,w⟩,S1⟩,e1,e⟩:=bind_some e
 refine⟨Γ,μ,env,S,ds,w,S1,hK,R,e1,fun J μ1 H1 x1 R1 ok=>?_⟩
 refine⟨fun i m zs H2=>∃μ2 S2 dzs,m=ds.length-i/\i<=ds.length/\Ext μ1 H1 μ2 H2/\Rep Γ μ2 σ H2 env S2/\VRs Γ μ2 H2 zs dzs/\GD w (J8 k caps env) p.sem t f (ds.drop i) dzs S2=some (ys,S'),
  ⟨ds.length,μ1,S1,[],rfl,U3a _,Ext.refl _ _,R1,.nil,by rw[U7s];exact e⟩,?_⟩
 rintro i m zs H2 ⟨μ2,S2,dzs,rfl,hi,x2,R2,rz,el⟩
 by_cases hlt:i<ds.length
 .rw[U3g hlt] at el
  unfold GD at el
  by_cases hcm:calm w S2/\dzs.length<=1000000
  .rw[if_pos hcm] at el
   obtain⟨env3,e3,el⟩:=bind_some el
   obtain⟨⟨b,S4⟩,e4,el⟩:=bind_some el
   have R2c:=R2.cap k caps
   obtain⟨go,yl⟩:=ok.step i ds[i] μ2 H2 _ _ S2 (U0n hlt) x2 R2c hcm.1
   refine .inr ⟨go,by rw[rz.length];exact big hcm.2,fun x H3 y=>?_⟩
   obtain⟨sm,rx⟩:=yl x H3 y
   obtain⟨R3,x3⟩:=R2c.grow sm
   obtain⟨R3o,_⟩:=R2.grow sm
   refine p.run K R3 rx e3 fun σ3 R3'=>?_
   refine⟨Γ,μ2,env3,S2,b,S4,hK,R3',e4,fun μ4 H4 x4 R4=>?_⟩
   dsimp only at el
   by_cases hb:b=true
   .rw[if_pos hb] at el ⊢
    obtain⟨⟨d5,S5⟩,e5,el⟩:=bind_some el
    refine⟨Γ,μ4,env3,S4,d5,S5,hK,R4,e5,fun v μ5 H5 x5 R5 r5=>?_⟩
    exact⟨ds.length-(i+1),by omega,μ5,S5,dzs++[d5],rfl,hlt,x2.trans (x3.trans (x4.trans x5)),R3o.back (x4.trans x5) R5,((rz.ext (x3.trans (x4.trans x5)))).append (.cons r5 .nil),el⟩
   .rw[if_neg hb] at el ⊢
    exact⟨ds.length-(i+1),by omega,μ4,S4,dzs,rfl,hlt,x2.trans (x3.trans x4),R3o.back x4 R4,rz.ext (x3.trans x4),el⟩
  .rw[if_neg hcm] at el;cases el
 .have hi':i=ds.length:=by omega
  subst hi'
  rw[List.drop_length] at el
  unfold GD at el
  by_cases hcm:calm w S2/\dzs.length<=1000000
  .rw[if_pos hcm] at el
   cases el
   exact .inl ⟨ok.stop μ2 H2 σ env _ x2 R2 hcm.1,fun p hp=>q zs μ2 H2 (x1.trans x2) R2 rz p hp⟩
  .rw[if_neg hcm] at el;cases el
structure JC(X:Cx)(N2:List Str)(scope:Scope)(tg:Expr)(ifs:List Expr)(elt:Expr)(p:Pat)(t:FQ)(f:Az):Prop where
 all:∀(cl:List (Str×Addr))(C:Addr)(s:Shared)(H:Hp)(ex:List Addr),JG (Eb X N2 scope cl C s H ex) tg p/\JTs (Eb X N2 scope cl C s H ex) ifs t/\JE (Eb X N2 scope cl C s H ex) elt f
theorem Hf{elt tg iter:Expr}{ifs:List Expr}{scope:Scope}{pos:Pos}{N2:List Str}{k:Nat}{caps:List Nat}{it:M5}{p:Pat}{t:FQ}{f:Az}
  (hc:X.calm=true) (hS:Fe X.env.scope X.N N2 k caps scope) (hlow:p.low k=true) (hi:JI X tg iter it) (hb:JC X N2 scope tg ifs elt p t f)
  (hs:∀x,foldedSetIterable iter X.env x=pure x:=by intro _;rfl):JE X (.ListComp elt [⟨tg,iter,ifs,0⟩] scope pos) (Bq (Ej k caps it p.sem t f)) :=
 ⟨PE.imp (qQ hc hS (p.cY X.K hlow) hi.pi (fun cl C s H ex=>let ⟨a,b,c⟩:=hb.all cl C s H ex;⟨a.pg,b.pt,c.pe⟩) hs) fun σ H Q h=>by
  obtain⟨Γ,μ,env,S,d,S',hK,R,e,q⟩:=h
  obtain⟨⟨ys,S1⟩,e1,e⟩:=bind_some e
  cases e
  refine aR ⟨Γ,μ,env,S,ys,S1,hK,R,e1,fun xs μ1 H1 x1 R1 r1 z hz=>?_⟩
  obtain⟨R2,x2⟩:=R1.grow (Dg hz (.lst xs))
  exact q _ μ1 _ (x1.trans x2) R2 (.lst (R1.ok hz true) (R1.dead hz) CK (r1.ext x2))⟩
theorem pW{Γ:Fr}{μ:Mu}{H:Hp}{p:Addr}{n:Nat}(h:n=μ.length)(hl:IsL H p:=by exact⟨_,CK⟩):VR Γ (μ++[some p]) H (.ref p) (.ref n):=by
 subst h
 refine .ref (by rw[U0s];simp) fun a h=>?_
 simp at h
 rw[←h]
 exact⟨rfl,hl⟩
theorem Sg{elt tg iter:Expr}{ifs:List Expr}{scope:Scope}{pos py spos:Pos}{N2:List Str}{k i:Nat}{y:Str}{caps:List Nat}{it:M5}{p:Pat}{t:FQ}{f:Az}
  (hc:X.calm=true) (hN:X.N.Nodup) (hS:Fe X.env.scope X.N N2 k caps scope) (hlow:p.low k=true) (hi:JI X tg iter it) (hb:JC X N2 scope tg ifs elt p t f) (hi':X.N[i]?=some y:=by rfl)
  (hx:X.env.scope.names.lookup y=some .local:=by rfl) (hsw:swapsWith (.ListComp elt [⟨tg,iter,ifs,0⟩] scope pos) (some (.Name y py)) spos.line X.env=pure true:=by rfl)
  (hs:∀x,foldedSetIterable iter X.env x=pure x:=by intro _;rfl):JS X (.Assign [.Name y py] (.ListComp elt [⟨tg,iter,ifs,0⟩] scope pos) spos) (Bo i (Bq (Ej k caps it p.sem t f))) :=
 ⟨PS.imp (qH hc hN hi' hS (p.cY X.K hlow) hi.pi (fun cl C s H ex=>let ⟨a,b,c⟩:=hb.all cl C s H ex;⟨a.pg,b.pt,c.pe⟩) hx hsw hs) fun E σ H h=>by
  obtain⟨Γ,μ,env,S,fl,env',S',hK,R,e,q⟩:=h
  obtain⟨⟨d,S1⟩,e1,e⟩:=bind_some e
  cases e
  obtain⟨⟨ys,S2⟩,e2,e1⟩:=bind_some e1
  cases e1
  refine aR ⟨Γ,μ,env,S,ys,_,hK,R,e2,fun xs μ1 H1 x1 R1 r1 z hz=>?_⟩
  obtain⟨R2,x2⟩:=R1.grow (Dg hz (.lst xs))
  exact q μ1 _ _ (x1.trans x2) (R2.jK i (.lst (R1.ok hz true) (R1.dead hz) CK (r1.ext x2)))⟩
end
def listOf(S:Store):D->Option (List D)
 |.lst _ ds=>some ds
 |.ref i=>(S[i]?).join
 |_=>none
def Cu(S:Store):D->Option (List D)
 |.tup ds=>some ds
 |.scr ns=>some (ns.map .int)
 |d=>listOf S d
def idOf(ds:List D):D->List (Nat×List D)
 |.ref i=>[(i,ds)]
 |_=>[]
section
variable{Γ:Fr}{μ:Mu}{σ:St}{H:Hp}{env:Env}{S:Store}{v:V}{d:D}{ds:List D}
theorem join_some{α:Type}{a:Option (Option α)}{b:α}(h:a.join=some b):a=some (some b):=by
 cases a with
 |none=>cases h
 |some o=>exact congrArg some h
theorem VR.list(R:Rep Γ μ σ H env S)(r:VR Γ μ H v d)(h:listOf S d=some ds):∃a xs,v=.ref a/\H a=some (.lst xs)/\VRs Γ μ H xs ds:=by
 cases r with
 |lst o n hb rs=>cases h;exact⟨_,_,rfl,hb,rs⟩
 |@ref i v hi f =>
  obtain⟨a,h1,hc⟩:=R.sto i ds (join_some h)
  obtain⟨f1,f2⟩:=f a h1
  obtain⟨xs,h2,h3⟩:=hc.list f2
  exact⟨a,xs,f1,h2,h3⟩
 |_=>cases h
theorem VR.seq(hK:Γ.K=K)(R:Rep Γ μ σ H env S)(r:VR Γ μ H v d)(h:Cu S d=some ds):∃a xs,v=.ref a/\(SqL K H a xs∨SqT K H a xs)/\VRs Γ μ H xs ds:=by
 subst hK
 cases d with
 |tup es=>cases r with|tup hb rs=>cases h;exact⟨_,_,rfl,.inr (SqT.of hb),rs⟩
 |scr ns =>
  cases h
  cases r with
  |scrK hk=>exact⟨_,_,rfl,.inl (hk H),VRs.ints ns⟩
  |scrR n hb=>exact⟨_,_,rfl,.inl (.inl (.inr ⟨_,hb⟩)),VRs.ints ns⟩
 |lst m es=>obtain⟨a,xs,e1,e2,e3⟩:=VR.list R r h;exact⟨a,xs,e1,.inl (SqL.of e2),e3⟩
 |ref i=>obtain⟨a,xs,e1,e2,e3⟩:=VR.list R r h;exact⟨a,xs,e1,.inl (SqL.of e2),e3⟩
 |_=>cases h
end
def Dt(a:Az):M5:=fun env S=>(a env S).bind fun p=>(Cu p.2 p.1).map fun ds=>((ds,idOf ds p.1),p.2)
section
variable{X:Cx}{tg:Expr}
def yH(K:U0a)(tl:TE):TI:=fun σ H R=>tl σ H fun x H1=>∃a,x=.ref a/\(((∃xs,SqL K H1 a xs)/\R (Itl K a) H1)∨((∃xs,SqT K H1 a xs)/\R (Itt K a) H1))
theorem vO{l:Expr}{tl:TE}(hl:PE X l tl):PI X tg l (yH X.K tl):=by
 intro pins s σ H R I h
 refine thn (hl pins s σ H _ I h) fun v s1 ⟨x,H1,I1,r1,q1⟩=>?_
 obtain⟨a,e,⟨⟨xs,hq⟩,q⟩|⟨⟨xs,hq⟩,q⟩⟩:=q1
 .subst e
  cases r1
  obtain⟨its,rv,p,hz⟩:=I1.list hq
  refine U5k p.isList ?_
  refine⟨s1.heap.objs.size,[s1.heap.objs.size],_,_,H1,rfl,I1.kept (t':=s1.toks) fun b o e=>U0c _ e,gF a _,⟨_,U0v _ rfl,rfl,rfl⟩,fun b hb=>?_,q⟩
  have e:b=s1.heap.objs.size:=by simpa using hb
  subst e
  exact I1.cI (U0u _) (I1.hok.fresh (U0u _))
 .subst e
  cases r1
  obtain⟨its,rv,p,hz⟩:=I1.tuple hq
  refine U51 (show s1.heap.IsTuple a its.toArray from p) ?_
  refine⟨s1.heap.objs.size,[s1.heap.objs.size],_,_,H1,rfl,I1.kept (t':=s1.toks) fun b o e=>U0c _ e,cu a _,⟨_,U0v _ rfl,rfl,rfl⟩,fun b hb=>?_,q⟩
  have e:b=s1.heap.objs.size:=by simpa using hb
  subst e
  exact I1.cI (U0u _) (I1.hok.fresh (U0u _))
theorem gM{d:D}{ds:List D}{S S':Store}(h:Cu S d=some ds)(c:calm (idOf ds d) S'):Cu S' d=some ds:=by
 cases d with
 |ref i =>
  have c':S'[i]?=some (some ds):=c (i,ds) (U01.mpr rfl)
  show(S'[i]?).join=some ds
  rw[c'];rfl
 |_=>exact h
theorem VR.cC{K:U0a}{Γ:Fr}{μ:Mu}{σ:St}{H:Hp}{env:Env}{S:Store}{v:V}{d:D}{ds:List D}(hK:Γ.K=K)(R:Rep Γ μ σ H env S)(r:VR Γ μ H v d)(h:Cu S d=some ds):(∃es,d=.tup es)∨∃a xs,v=.ref a/\SqL K H a xs/\VRs Γ μ H xs ds:=by
 subst hK
 cases d with
 |tup es=>exact .inl ⟨es,rfl⟩
 |scr ns =>
  cases h
  cases r with
  |scrK hk=>exact .inr ⟨_,_,rfl,hk H,VRs.ints ns⟩
  |scrR n hb=>exact .inr ⟨_,_,rfl,.inl (.inr ⟨_,hb⟩),VRs.ints ns⟩
 |lst m es=>obtain⟨a,xs,e1,e2,e3⟩:=VR.list R r h;exact .inr ⟨a,xs,e1,SqL.of e2,e3⟩
 |ref i=>obtain⟨a,xs,e1,e2,e3⟩:=VR.list R r h;exact .inr ⟨a,xs,e1,SqL.of e2,e3⟩
 |_=>cases h
theorem rE{Γ:Fr}{μ:Mu}{H:Hp}{a:Addr}{ds:List D}{K:U0a}{w:List (Nat×List D)}(hr:∀μ' H' σ' env' S',Ext μ H μ' H'->Rep Γ μ' σ' H' env' S'->calm w S'->∃xs,SqL K H' a xs/\VRs Γ μ' H' xs ds):Xe Γ μ H (Itl K a) ds w:=by
 refine⟨fun i d μ' H' σ' env' S' hi x R c=>?_,fun μ' H' σ' env' S' x R c=>?_⟩
 .obtain⟨xs,h1,h2⟩:=hr μ' H' σ' env' S' x R c
  obtain⟨y,e1,e2⟩:=h2.get hi
  refine⟨⟨xs,y,h1,e1⟩,fun z H'' yl=>?_⟩
  obtain⟨e,f⟩:=yl
  subst e
  have:=f xs h1
  rw[e1] at this;cases this
  exact⟨Same.refl _,e2⟩
 .obtain⟨xs,h1,h2⟩:=hr μ' H' σ' env' S' x R c
  exact⟨xs,h1,by rw[h2.length];exact U0u _⟩
theorem fP{Γ:Fr}{μ:Mu}{H:Hp}{a:Addr}{ds:List D}{K:U0a}{w:List (Nat×List D)}(hr:∀μ' H' σ' env' S',Ext μ H μ' H'->Rep Γ μ' σ' H' env' S'->calm w S'->∃xs,SqT K H' a xs/\VRs Γ μ' H' xs ds):Xe Γ μ H (Itt K a) ds w:=by
 refine⟨fun i d μ' H' σ' env' S' hi x R c=>?_,fun μ' H' σ' env' S' x R c=>?_⟩
 .obtain⟨xs,h1,h2⟩:=hr μ' H' σ' env' S' x R c
  obtain⟨y,e1,e2⟩:=h2.get hi
  refine⟨⟨xs,y,h1,e1⟩,fun z H'' yl=>?_⟩
  obtain⟨e,f⟩:=yl
  subst e
  have:=f xs h1
  rw[e1] at this;cases this
  exact⟨Same.refl _,e2⟩
 .obtain⟨xs,h1,h2⟩:=hr μ' H' σ' env' S' x R c
  exact⟨xs,h1,by rw[h2.length];exact U0u _⟩
theorem Fd{l:Expr}{f:Az}(hl:JE X l f):JI X tg l (Dt f):=⟨PI.imp (vO hl.pe) fun σ H Q h=>by
 obtain⟨Γ,μ,env,S,ds,w,S',hK,R,e,q⟩:=h
 obtain⟨⟨d,S1⟩,e1,e⟩:=bind_some e
 obtain⟨ds',e2,e⟩:=map_some e
 cases e
 refine⟨Γ,μ,env,S,d,S1,hK,R,e1,fun v μ1 H1 x1 R1 r1=>?_⟩
 rcases VR.cC hK R1 r1 e2 with ⟨es,rfl⟩|⟨a,xs,rfl,hq,rs⟩
 .cases r1 with
  |@tup a xs _ hb rs =>
   refine⟨a,rfl,.inr ⟨⟨xs,SqT.of hb⟩,q _ μ1 H1 x1 R1 (fP fun μ' H' σ' env' S' x' R' c=>?_)⟩⟩
   have e2':es=ds:=U03 e2
   subst e2'
   exact⟨xs,SqT.of (x'.tups _ _ hb),rs.ext x'⟩
 .by_cases ht:∃es,d=.tup es
  .obtain⟨es,rfl⟩:=ht
   cases r1 with
   |@tup b ys _ hb rs' =>
    refine⟨a,rfl,.inr ⟨⟨ys,SqT.of hb⟩,q _ μ1 H1 x1 R1 (fP fun μ' H' σ' env' S' x' R' c=>?_)⟩⟩
    have e2':es=ds:=U03 e2
    subst e2'
    exact⟨ys,SqT.of (x'.tups _ _ hb),rs'.ext x'⟩
  .refine⟨a,rfl,.inl ⟨⟨xs,hq⟩,q _ μ1 H1 x1 R1 (rE fun μ' H' σ' env' S' x' R' c=>?_)⟩⟩
   rcases VR.cC hK R' (r1.ext x') (gM e2 c) with z|⟨b,ys,e,h1,h2⟩
   .exact absurd z ht
   .cases e
    exact⟨ys,h1,h2⟩⟩
def upD(lo:Int)(n:Nat):List D:=(U0k n).map fun(i:Nat)=>.int (lo+i)
theorem mq{Γ:Fr}{μ:Mu}{H:Hp}(lo:Int)(n:Nat):Xe Γ μ H (Itr lo n) (upD lo n) []:=by
 have len:(upD lo n).length=n:=by unfold upD;rw[U0i,U5l]
 refine⟨fun i d μ' H' σ' env' S' hi x R c=>?_,fun μ' H' σ' env' S' x R c=>?_⟩
 .have hi':i<n:=by rw[←len];exact(U0o.mp hi).1
  refine⟨hi',fun y H'' yl=>?_⟩
  obtain⟨e1,e2⟩:=yl
  subst e1 e2
  unfold upD at hi
  rw[U0z,List.getElem?_range hi'] at hi
  cases hi
  exact⟨Same.refl _,.int _⟩
 .show n<=(upD lo n).length
  rw[len];exact U0u _
def r62(j:Int):Prop:=-(2^62)<=j/\j<2^62
instance(j:Int):Decidable (r62 j):=by unfold r62;infer_instance
def Jb(a:Bu):M5:=fun env S=>(a env S).bind fun p=>match p.1 with|[.int j]=>if r62 j then some ((upD 0 j.toNat,[]),p.2) else none|_=>none
theorem VRs.one{Γ:Fr}{μ:Mu}{H:Hp}{vs:List V}{d:D}(h:VRs Γ μ H vs [d]):∃v,vs=[v]/\VR Γ μ H v d:=by
 cases h with|cons r t=>cases t;exact⟨_,rfl,r⟩
theorem VRs.two{Γ:Fr}{μ:Mu}{H:Hp}{vs:List V}{d e:D}(h:VRs Γ μ H vs [d,e]):∃v u,vs=[v,u]/\VR Γ μ H v d/\VR Γ μ H u e:=by
 cases h with|cons r t=>cases t with|cons r' t=>cases t;exact⟨_,_,rfl,r,r'⟩
theorem RB{a:Expr}{f:Bu}{p pos:Pos}(hg:Gl X "range")(hm:X.mg "range"=none)(ha:JA X [a] f)(hs:starEach [a] X.env=[(false,eval a X.env)]:=by rfl):JI X tg (.Call (.Name "range" p) [a] [] pos) (Jb f) :=
 ⟨PI.imp (gq hg hm ha.pa hs) fun σ H Q h=>by
  obtain⟨Γ,μ,env,S,ds,w,S',hK,R,e,q⟩:=h
  obtain⟨⟨d,S1⟩,e1,e⟩:=bind_some e
  refine⟨Γ,μ,env,S,d,S1,hK,R,e1,fun v μ1 H1 x1 R1 r1=>?_⟩
  dsimp only at e
  split at e
  .rename_i j
   by_cases hj:r62 j
   .rw[if_pos hj] at e
    cases e
    obtain⟨v,rfl,r⟩:=r1.one
    cases r
    exact⟨j,rfl,hj.1,hj.2,q _ μ1 H1 x1 R1 (mq 0 _)⟩
   .rw[if_neg hj] at e;cases e
  .cases e⟩
end
end VS
end
section
namespace VS
open PySem PySem.Spec L2
section
variable{X:Cx}{tg:Expr}
def Dw:List D->List D->List D
 |x::xs,y::ys=>.tup [x,y]::Dw xs ys
 |_,_=>[]
theorem Y7:∀{xs ys:List D} {i:Nat} {d:D},(Dw xs ys)[i]?=some d->∃x y,xs[i]?=some x/\ys[i]?=some y/\d=.tup [x,y]
 |[],_,_,_,h=>by simp[Dw] at h
 |_::_,[],_,_,h=>by simp[Dw] at h
 |x::xs,y::ys,0,d,h=>by simp[Dw] at h;exact⟨x,y,rfl,rfl,h.symm⟩
 |x::xs,y::ys,i+1,d,h=>by
  simp[Dw] at h
  obtain⟨a,b,h1,h2,h3⟩:=Y7 h
  exact⟨a,b,by simpa using h1,by simpa using h2,h3⟩
theorem Y6:∀(xs ys:List D),((Dw xs ys).length=xs.length/\xs.length<=ys.length)∨((Dw xs ys).length<xs.length/\(Dw xs ys).length=ys.length)
 |[],_=>.inl ⟨rfl,U3a _⟩
 |_::_,[]=>.inr ⟨by simp[Dw],rfl⟩
 |x::xs,y::ys=>by
  rcases Y6 xs ys with ⟨h1,h2⟩|⟨h1,h2⟩
  .left;simp[Dw];omega
  .right;simp[Dw];omega
def Px(a:Bu):M5:=fun env S=>(a env S).bind fun p=>match p.1 with
 |[.tup xs,.tup ys]=>some ((Dw xs ys,[]),p.2)
 |[x,.tup ys]=>(listOf p.2 x).bind fun xs=>some ((Dw xs ys,idOf xs x),p.2)
 |[x,y]=>(listOf p.2 x).bind fun xs=>(listOf p.2 y).bind fun ys=>some ((Dw xs ys,idOf xs x++idOf ys y),p.2)
 |_=>none
theorem QT{d:D}{ds:List D}{S S':Store}(h:listOf S d=some ds)(c:calm (idOf ds d) S'):listOf S' d=some ds:=by
 cases d with
 |ref i =>
  have c':S'[i]?=some (some ds):=c (i,ds) (U01.mpr rfl)
  show(S'[i]?).join=some ds
  rw[c'];rfl
 |_=>exact h
theorem Xr{Γ:Fr}{μ:Mu}{H:Hp}{L M:Bool}{a b:Addr}{xs ys:List D}{w:List (Nat×List D)}(hr:∀μ' H' σ' env' S',Ext μ H μ' H'->Rep Γ μ' σ' H' env' S'->calm w S'->∃us vs,H' a=some (HB L us)/\VRs Γ μ' H' us xs/\H' b=some (HB M vs)/\VRs Γ μ' H' vs ys) :
  Xe Γ μ H (Itz L M a b) (Dw xs ys) w:=by
 refine⟨fun i d μ' H' σ' env' S' hi x R c=>?_,fun μ' H' σ' env' S' x R c=>?_⟩
 .obtain⟨us,vs,h1,h2,h3,h4⟩:=hr μ' H' σ' env' S' x R c
  obtain⟨p,q,e1,e2,e3⟩:=Y7 hi
  obtain⟨u,f1,f2⟩:=h2.get e1
  obtain⟨v,g1,g2⟩:=h4.get e2
  refine⟨⟨us,vs,u,v,h1,h3,f1,g1⟩,fun z H'' yl=>?_⟩
  obtain⟨t,u',v',ht,rfl,rfl,k1,k2⟩:=yl
  have k1':=k1 us h1
  have k2':=k2 vs h3
  rw[f1] at k1';cases k1'
  rw[g1] at k2';cases k2'
  subst e3
  have sm:=Dg ht (.tup [u,v])
  obtain⟨_,x2⟩:=R.grow sm
  exact⟨sm,.tup CK (.cons (f2.ext x2) (.cons (g2.ext x2) .nil))⟩
 .obtain⟨us,vs,h1,h2,h3,h4⟩:=hr μ' H' σ' env' S' x R c
  refine⟨us,vs,h1,h3,?_⟩
  rw[h2.length,h4.length]
  rcases Y6 xs ys with z|z
  .exact .inl z.1
  .exact .inr z
theorem PI.or{e:Expr}{t u:TI}(h:PI X tg e t)(k:PI X tg e u):PI X tg e (fun σ H R=>t σ H R∨u σ H R):=fun pins s σ H R I q=>q.elim (fun z=>h pins s σ H R I z) fun z=>k pins s σ H R I z
theorem Xq{a b:Expr}{f:Bu}{p pos:Pos}{elts:List Expr}{x1:Nat}{tpos:Pos}(hg:Gl X "zip")(hm:X.mg "zip"=none)(ha:JA X [a,b] f)(hs:starEach [a,b] X.env=[(false,eval a X.env),(false,eval b X.env)]:=by rfl)(hs2:starEach [b] X.env=[(false,eval b X.env)]:=by rfl) :
  JI X (.Tuple elts x1 tpos) (.Call (.Name "zip" p) [a,b] [] pos) (Px f) :=
 ⟨PI.imp (PI.or (Xm true true (.inl rfl) hg hm ha.pa hs hs2) (PI.or (Xm false false (.inl rfl) hg hm ha.pa hs hs2) (Xm true false (.inr ⟨rfl,rfl⟩) hg hm ha.pa hs hs2))) fun σ H Q h=>by
  obtain⟨Γ,μ,env,S,ds,w,S',hK,R,e,q⟩:=h
  obtain⟨⟨d,S1⟩,e1,e⟩:=bind_some e
  dsimp only at e
  split at e
  .rename_i xs ys
   cases e
   refine .inr (.inl ⟨Γ,μ,env,S,_,_,hK,R,e1,fun v μ1 H1 x1 R1 r1=>?_⟩)
   obtain⟨u,v,rfl,r,r'⟩:=r1.two
   cases r with
   |@tup a us _ ha ra =>
    cases r' with
    |@tup b vs _ hb rb =>
     exact⟨a,b,us,vs,rfl,ha,hb,q _ μ1 H1 x1 R1 (Xr fun μ' H' σ' env' S' x' R' c=>⟨us,vs,x'.tups _ _ ha,ra.ext x',x'.tups _ _ hb,rb.ext x'⟩)⟩
  .rename_i x ys _
   obtain⟨xs,e2,e⟩:=bind_some e
   cases e
   refine .inr (.inr ⟨Γ,μ,env,S,_,_,hK,R,e1,fun v μ1 H1 x1 R1 r1=>?_⟩)
   obtain⟨u,v,rfl,r,r'⟩:=r1.two
   obtain⟨a,us,rfl,ha,ra⟩:=VR.list R1 r e2
   cases r' with
   |@tup b vs _ hb rb =>
    refine⟨a,b,us,vs,rfl,ha,hb,q _ μ1 H1 x1 R1 (Xr fun μ' H' σ' env' S' x' R' c=>?_)⟩
    obtain⟨a',us',e4,ha',ra'⟩:=VR.list R' (r.ext x') (QT e2 c)
    cases e4
    exact⟨us',vs,ha',ra',x'.tups _ _ hb,rb.ext x'⟩
  .rename_i x y _ _
   obtain⟨xs,e2,e⟩:=bind_some e
   obtain⟨ys,e3,e⟩:=bind_some e
   cases e
   refine .inl ⟨Γ,μ,env,S,_,_,hK,R,e1,fun v μ1 H1 x1 R1 r1=>?_⟩
   obtain⟨u,v,rfl,r,r'⟩:=r1.two
   obtain⟨a,us,rfl,ha,ra⟩:=VR.list R1 r e2
   obtain⟨b,vs,rfl,hb,rb⟩:=VR.list R1 r' e3
   refine⟨a,b,us,vs,rfl,ha,hb,q _ μ1 H1 x1 R1 (Xr fun μ' H' σ' env' S' x' R' c=>?_)⟩
   obtain⟨a',us',e4,ha',ra'⟩:=VR.list R' (r.ext x') (QT e2 fun p hp=>c p (U28 _ hp))
   obtain⟨b',vs',e5,hb',rb'⟩:=VR.list R' (r'.ext x') (QT e3 fun p hp=>c p (U1d _ hp))
   cases e4
   cases e5
   exact⟨us',vs',ha',ra',hb',rb'⟩
  .cases e⟩
def Vf(K:U0a)(r:V->List V->Hp->VK->Prop)(g:Store->D->List D->Option (D×Store)):Prop:=∀(Γ:Fr)(μ:Mu)(σ:St)(H:Hp)(env:Env)(S:Store)(x:V)(xs:List V)(dx:D)(ds:List D)(d:D)(S':Store),Γ.K=K->Rep Γ μ σ H env S->VR Γ μ H x dx->VRs Γ μ H xs ds->g S dx ds=some (d,S') ->
 ∀Q:VK,(∀v μ' H',Ext μ H μ' H'->Rep Γ μ' σ H' env S'->VR Γ μ' H' v d->Q v H')->r x xs H Q
def FJ(g:Store->D->List D->Option (D×Store))(o:Az)(a:Bu):Az:=fun env S=>(o env S).bind fun p=>if (listOf p.2 p.1).isSome then (a env p.2).bind fun q=>g q.2 p.1 q.1 else none
theorem pA{K:U0a}{r:V->List V->Hp->VK->Prop}{g:Store->D->List D->Option (D×Store)}{o:Az}{a:Bu}(hs:Vf K r g){σ:St}{H:Hp}{Q:VK}(h:wpE K (FJ g o a) σ H Q):tBM K "list" r (wpE K o) (wpA K a) σ H Q:=by
 obtain⟨Γ,μ,env,S,d,S',hK,R,e,q⟩:=h
 obtain⟨⟨x,S1⟩,e1,e⟩:=bind_some e
 refine⟨Γ,μ,env,S,x,S1,hK,R,e1,fun v1 μ1 H1 x1 R1 r1=>?_⟩
 dsimp only at e
 by_cases hl:(listOf S1 x).isSome=true
 .rw[if_pos hl] at e
  obtain⟨⟨ds,S2⟩,e2,e⟩:=bind_some e
  obtain⟨xs,hx⟩:=U33.mp hl
  obtain⟨b,us,rfl,hb,rb⟩:=VR.list R1 r1 hx
  refine⟨.inl ⟨rfl,us,SqL.of hb⟩,Γ,μ1,env,S1,ds,S2,hK,R1,e2,fun vs μ2 H2 x2 R2 r2=>?_⟩
  exact hs Γ μ2 σ H2 env S2 _ vs x ds d S' hK R2 (r1.ext x2) r2 e Q fun v μ' H' x' R' rv=>q v μ' H' (x1.trans (x2.trans x')) R' rv
 .rw[if_neg hl] at e;cases e
theorem jc{K:U0a}{r:V->List V->Hp->VK->Prop}{g:Store->D->List D->Option (D×Store)}{o:Az}(hs:Vf K r g){σ:St}{H:Hp}{Q:VK}(h:wpE K (FJ g o Ag) σ H Q):uD K "list" r (wpE K o) σ H Q:=by
 obtain⟨Γ,μ,env,S,d,S',hK,R,e,q⟩:=h
 obtain⟨⟨x,S1⟩,e1,e⟩:=bind_some e
 refine⟨Γ,μ,env,S,x,S1,hK,R,e1,fun v1 μ1 H1 x1 R1 r1=>?_⟩
 dsimp only at e
 by_cases hl:(listOf S1 x).isSome=true
 .rw[if_pos hl] at e
  obtain⟨⟨ds,S2⟩,e2,e⟩:=bind_some e
  cases e2
  obtain⟨xs,hx⟩:=U33.mp hl
  obtain⟨b,us,rfl,hb,rb⟩:=VR.list R1 r1 hx
  refine⟨.inl ⟨rfl,us,SqL.of hb⟩,?_⟩
  exact hs Γ μ1 σ H1 env _ _ [] x [] d S' hK R1 r1 .nil e Q fun v μ' H' x' R' rv=>q v μ' H' (x1.trans x') R' rv
 .rw[if_neg hl] at e;cases e
variable{o e:Expr}{es:List Expr}{fo:Az}{fa:Bu}{name:Str}{apos cpos:Pos}{id:String}{r:V->List V->Hp->VK->Prop}{g:Store->D->List D->Option (D×Store)}
theorem Yg(pa:PlainAttrs "list")(slot:Slot "list" name id)(hty:typeOf (.builtin id)=pure (.type "method_descriptor"))(hm:MtR X id r)(hsm:Vf X.K r g)(ho:JE X o fo)
  (hbase:attributeBase o name X.env (eval o X.env)=eval o X.env:=by rfl) (hline:(apos.endLine==cpos.line)=true:=by rfl):JE X (.Call (.Attribute o name apos) [] [] cpos) (FJ g fo Ag) :=
 ⟨PE.imp (vX pa slot hty hm ho.pe hbase hline) fun _ _ _ h=>jc hsm h⟩
theorem Ja(pa:PlainAttrs "list")(slot:Slot "list" name id)(hty:typeOf (.builtin id)=pure (.type "method_descriptor"))(hm:MtR X id r)(hsm:Vf X.K r g)(ho:JE X o fo)(ha:JA X (e::es) fa)
  (hbase:attributeBase o name X.env (eval o X.env)=eval o X.env:=by rfl)
  (hfew:((backTo cpos (starEach (e::es) X.env)).all (fun x=>!x.1)&&(backToKw cpos (keywordEach [] X.env)).all (fun x=>x.1.isSome)
   && decide ((e::es).length+([]:List Keyword).length+(if ([]:List Keyword).isEmpty then 0 else 1)<30))=true:=by rfl)
  (hline:(apos.endLine==cpos.line)=true:=by rfl) (hs:starEach (e::es) X.env=(false,eval e X.env)::starEach es X.env:=by rfl) (hplain:(backTo cpos (starEach es X.env)).any (·.1)=false:=by rfl) :
  JE X (.Call (.Attribute o name apos) (e::es) [] cpos) (FJ g fo fa) :=
 ⟨PE.imp (yg pa slot hty hm ho.pe ha.pa hbase hfew hline hs hplain) fun _ _ _ h=>pA hsm h⟩
theorem VR.cD{Γ:Fr}{μ:Mu}{σ:St}{H:Hp}{env:Env}{S:Store}{v:V}{i:Nat}{ds:List D}(R:Rep Γ μ σ H env S)(r:VR Γ μ H v (.ref i))(h:S[i]?=some (some ds)):∃a xs,v=.ref a/\μ[i]?=some (some a)/\H a=some (.lst xs)/\VRs Γ μ H xs ds:=by
 cases r with
 |ref hi f =>
  obtain⟨a,h1,hc⟩:=R.sto i ds h
  obtain⟨f1,f2⟩:=f a h1
  obtain⟨xs,h2,h3⟩:=hc.list f2
  exact⟨a,xs,f1,h1,h2,h3⟩
def Ew(S:Store):D->List D->Option (D×Store)
 |.ref i,[d]=>match S[i]? with
  |some (some ds)=>if ds.length<1000000 then some (.non,S.set i (some (ds++[d]))) else none
  |_=>none
 |_,_=>none
theorem Ht{K:U0a}:Vf K bA Ew:=by
 intro Γ μ σ H env S x xs dx ds d S' hK R rx rs e Q q
 unfold Ew at e
 split at e
 .rename_i i d1
  split at e
  .rename_i es he
   by_cases hl:es.length<1000000
   .rw[if_pos hl] at e
    cases e
    obtain⟨a,us,rfl,h1,h2,h3⟩:=VR.cD R rx he
    obtain⟨y,rfl,ry⟩:=rs.one
    obtain⟨R2,x2⟩:=R.put h1 ⟨_,h2⟩ (h3.append (.cons ry .nil))
    exact⟨a,us,y,rfl,rfl,h2,by rw[h3.length];exact big (U2i hl),q _ μ _ x2 R2 .non⟩
   .rw[if_neg hl] at e;cases e
  .cases e
 .cases e
def Ja7(S:Store):D->List D->Option (D×Store)
 |.ref i,[]=>match S[i]? with
  |some (some _)=>some (.non,S.set i (some []))
  |_=>none
 |_,_=>none
def Ja6(S:Store):D->List D->Option (D×Store)
 |.ref i,[.int k]=>match S[i]? with
  |some (some ds)=>if -(2^63)<=k/\k<2^63 then (PySem.seqIndex? k ds.length).bind fun j=>(ds[j]?).bind fun d=>some (d,S.set i (some (ds.eraseIdx j))) else none
  |_=>none
 |_,_=>none
def TJ(S:Store):D->List D->Option (D×Store)
 |.ref i,[]=>match S[i]? with
  |some (some ds)=>(ds[ds.length-1]?).bind fun d=>some (d,S.set i (some ds.dropLast))
  |_=>none
 |_,_=>none
theorem VRs.dropLast{Γ:Fr}{μ:Mu}{H:Hp}{xs:List V}{ds:List D}(h:VRs Γ μ H xs ds):VRs Γ μ H xs.dropLast ds.dropLast:=by
 rw[List.dropLast_eq_take,List.dropLast_eq_take,h.length]
 exact h.take _
theorem eY{K:U0a}:Vf K uM TJ:=by
 intro Γ μ σ H env S x xs dx ds d S' hK R rx rs e Q q
 unfold TJ at e
 split at e
 .rename_i i
  split at e
  .rename_i es he
   obtain⟨d',e3,e⟩:=bind_some e
   cases e
   obtain⟨a,us,rfl,h1,h2,h3⟩:=VR.cD R rx he
   cases rs
   obtain⟨u,f1,f2⟩:=h3.get e3
   obtain⟨R2,x2⟩:=R.put h1 ⟨_,h2⟩ h3.dropLast
   exact⟨a,us,u,rfl,rfl,h2,by rw[h3.length];exact f1,q _ μ _ x2 R2 (f2.ext x2)⟩
  .cases e
 .cases e
def Kf(v o i:Az):BP:=fun env S=>(v env S).bind fun p=>(o env p.2).bind fun q=>(i env q.2).bind fun r=>match q.1,r.1 with
 |.ref j,.int k=>(match r.2[j]? with
  |some (some ds)=>(ixN ds.length k).bind fun n=>some (.nx,env,r.2.set j (some (ds.set n p.1)))
  |_=>none)
 |_,_=>none
theorem Np{a i:Expr}{fv fi:Az}{pos tpos:Pos}(he:JE X a fv)(ho:JE X o fo)(hi:JE X i fi)
  (ha:∀v,assign (.Subscript o i tpos) X.env v=(do
   let ov ←holding [v] (eval o X.env)
   let iv ←holding [v,ov] (eval i X.env)
   standAt tpos
   holding [v,ov,iv] (setItem ov iv v)
   release [v,ov,iv] []):=by intro _;rfl)
  (hs:swapsWithSole [.Subscript o i tpos] a pos.line X.env=pure false:=by rfl) (hw:swappedStores [.Subscript o i tpos] a X.env=pure none:=by rfl)
  (h1:(assignEach [.Subscript o i tpos] X.env).map (·.2)=[assign (.Subscript o i tpos) X.env]:=by rfl):JS X (.Assign [.Subscript o i tpos] a pos) (Kf fv fo fi) :=
 ⟨PS.imp (fC he.pe (vQ ho.pe hi.pe set_list ha) hs hw h1) fun E σ H h=>by
  obtain⟨Γ,μ,env,S,fl,env',S',hK,R,e,q⟩:=h
  obtain⟨⟨x,S1⟩,e1,e⟩:=bind_some e
  obtain⟨⟨y,S2⟩,e2,e⟩:=bind_some e
  obtain⟨⟨z,S3⟩,e3,e⟩:=bind_some e
  refine⟨Γ,μ,env,S,x,S1,hK,R,e1,fun v1 μ1 H1 x1 R1 r1=>?_⟩
  refine⟨Γ,μ1,env,S1,y,S2,hK,R1,e2,fun v2 μ2 H2 x2 R2 r2=>?_⟩
  refine⟨Γ,μ2,env,S2,z,S3,hK,R2,e3,fun v3 μ3 H3 x3 R3 r3=>?_⟩
  dsimp only at e
  split at e
  .rename_i j k
   split at e
   .rename_i ds hd
    obtain⟨n,e4,e⟩:=bind_some e
    cases e
    obtain⟨b,us,rfl,g1,g2,g3⟩:=VR.cD R3 (r2.ext x3) hd
    cases r3
    have r1':=r1.ext (x2.trans x3)
    obtain⟨R4,x4⟩:=R3.put g1 ⟨_,g2⟩ (g3.set r1' n)
    exact⟨b,us,_,n,rfl,rfl,g2,by rw[g3.length];exact e4,q μ3 σ _ (x1.trans (x2.trans (x3.trans x4))) R4⟩
   .cases e
  .cases e⟩
end
end VS
end
section
namespace VS
open PySem PySem.Spec L2
mutual
def Ba:D->Bool
 |.ref _=>false
 |.dref _=>false
 |.dcm _=>false
 |.tup ds=>Ax ds
 |.lst _ ds=>Ax ds
 |_=>true
def Ax:List D->Bool
 |[]=>true
 |d::r=>Ba d&&Ax r
end
mutual
def Ck:D->Bool
 |.ref _=>false
 |.dref _=>false
 |.dcf _=>false
 |.dcm _=>false
 |.lst _ _=>false
 |.scr _=>false
 |.emp=>false
 |.tup ds=>Ei ds
 |_=>true
def Ei:List D->Bool
 |[]=>true
 |d::r=>Ck d&&Ei r
end
mutual
def newD:D->Bool
 |.ref _=>false
 |.dref _=>false
 |.dcf _=>false
 |.dcm _=>false
 |.lst m ds=>m&&newL ds
 |.scr _=>false
 |.emp=>false
 |.tup ds=>newL ds
 |_=>true
def newL:List D->Bool
 |[]=>true
 |d::r=>newD d&&newL r
end
mutual
def den(k:Nat)(S:Store):D->Option D
 |.tup ds=>(CZ k S ds).map .tup
 |.lst m ds=>(CZ k S ds).map (.lst m)
 |.ref i=>if i<k then none else match S[i]? with|some (some ds)=>if Ax ds=true then some (.lst true ds) else none|_=>none
 |.non=>some .non
 |.bl b=>some (.bl b)
 |.int i=>some (.int i)
 |.str x=>some (.str x)
 |.ty n=>some (.ty n)
 |.scr ns=>some (.scr ns)
 |.emp=>some .emp
 |.dref i=>if i<k then none else match S[i]? with|some (some [.dcm kvs])=>some (.dcf kvs)|_=>none
 |.dcf kvs=>some (.dcf kvs)
 |.dcm _=>none
def CZ(k:Nat)(S:Store):List D->Option (List D)
 |[]=>some []
 |d::r=>(den k S d).bind fun x=>(CZ k S r).bind fun xs=>some (x::xs)
end
mutual
def age:D->D
 |.tup ds=>.tup (Bk ds)
 |.lst _ ds=>.lst false (Bk ds)
 |.ref i=>.ref i
 |.non=>.non
 |.bl b=>.bl b
 |.int i=>.int i
 |.str x=>.str x
 |.ty n=>.ty n
 |.scr ns=>.scr ns
 |.emp=>.emp
 |.dref i=>.dref i
 |.dcf kvs=>.dcf kvs
 |.dcm kvs=>.dcm kvs
def Bk:List D->List D
 |[]=>[]
 |d::r=>age d::Bk r
end
mutual
theorem JM:∀{d:D},Ck d=true->Ba d=true
 |.ref _,h=>by simp[Ck] at h
 |.lst _ _,h=>by simp[Ck] at h
 |.scr _,h=>by simp[Ck] at h
 |.emp,h=>by simp[Ck] at h
 |.dref _,h=>by simp[Ck] at h
 |.dcf _,h=>by simp[Ck] at h
 |.dcm _,h=>by simp[Ck] at h
 |.tup ds,h=>by rw[Ck] at h;rw[Ba];exact Br h
 |.non,_=>rfl
 |.bl _,_=>rfl
 |.int _,_=>rfl
 |.str _,_=>rfl
 |.ty _,_=>rfl
theorem Br:∀{ds:List D},Ei ds=true->Ax ds=true
 |[],_=>rfl
 |d::r,h=>by
  rw[Ei,U1b] at h
  rw[Ax,JM h.1,Br h.2];rfl
end
mutual
theorem QB:∀{d:D},Ck d=true->newD d=true
 |.ref _,h=>by simp[Ck] at h
 |.lst _ _,h=>by simp[Ck] at h
 |.scr _,h=>by simp[Ck] at h
 |.emp,h=>by simp[Ck] at h
 |.dref _,h=>by simp[Ck] at h
 |.dcf _,h=>by simp[Ck] at h
 |.dcm _,h=>by simp[Ck] at h
 |.tup ds,h=>by rw[Ck] at h;rw[newD];exact Oi h
 |.non,_=>rfl
 |.bl _,_=>rfl
 |.int _,_=>rfl
 |.str _,_=>rfl
 |.ty _,_=>rfl
theorem Oi:∀{ds:List D},Ei ds=true->newL ds=true
 |[],_=>rfl
 |d::r,h=>by
  rw[Ei,U1b] at h
  rw[newL,QB h.1,Oi h.2];rfl
end
mutual
theorem Lg(k:Nat)(S:Store):∀{d:D},Ba d=true->den k S d=some d
 |.ref _,h=>by simp[Ba] at h
 |.lst m ds,h=>by rw[Ba] at h;rw[den,Cp k S h];rfl
 |.tup ds,h=>by rw[Ba] at h;rw[den,Cp k S h];rfl
 |.non,_=>by rw[den]
 |.bl _,_=>by rw[den]
 |.int _,_=>by rw[den]
 |.str _,_=>by rw[den]
 |.ty _,_=>by rw[den]
 |.scr _,_=>by rw[den]
 |.emp,_=>by rw[den]
 |.dref _,h=>by simp[Ba] at h
 |.dcf _,_=>by rw[den]
 |.dcm _,h=>by simp[Ba] at h
theorem Cp(k:Nat)(S:Store):∀{ds:List D},Ax ds=true->CZ k S ds=some ds
 |[],_=>by rw[CZ]
 |d::r,h=>by
  rw[Ax,U1b] at h
  rw[CZ,Lg k S h.1,Cp k S h.2];rfl
end
mutual
theorem QC:∀{d:D},Ck d=true->age d=d
 |.ref _,h=>by simp[Ck] at h
 |.lst _ _,h=>by simp[Ck] at h
 |.scr _,h=>by simp[Ck] at h
 |.emp,h=>by simp[Ck] at h
 |.dref _,h=>by simp[Ck] at h
 |.dcf _,h=>by simp[Ck] at h
 |.dcm _,h=>by simp[Ck] at h
 |.tup ds,h=>by rw[Ck] at h;rw[age,Gw h]
 |.non,_=>by rw[age]
 |.bl _,_=>by rw[age]
 |.int _,_=>by rw[age]
 |.str _,_=>by rw[age]
 |.ty _,_=>by rw[age]
theorem Gw:∀{ds:List D},Ei ds=true->Bk ds=ds
 |[],_=>by rw[Bk]
 |d::r,h=>by
  rw[Ei,U1b] at h
  rw[Bk,QC h.1,Gw h.2]
end
section
variable{Γ Γ':Fr}{μ μ':Mu}{H:Hp}
mutual
theorem VR.age(hK:Γ'.K=Γ.K)(hN:∀a,¬DK μ a->Γ.N a∨Γ.H0 a=none->Γ'.N a)(hl:∀a o,H a=some o->¬DK μ a->¬DK μ' a):∀{v:V} {d:D},Ba d=true->VR Γ μ H v d->VR Γ' μ' H v (VS.age d)
 |_,_,_,.non=>by rw[VS.age];exact .non
 |_,_,_,.bl b=>by rw[VS.age];exact .bl b
 |_,_,_,.int i=>by rw[VS.age];exact .int i
 |_,_,_,.str x=>by rw[VS.age];exact .str x
 |_,_,_,.ty n=>by rw[VS.age];exact .ty n
 |_,_,h,.tup hb t=>by rw[Ba] at h;rw[VS.age];exact .tup hb (VRs.age hK hN hl h t)
 |_,_,h,.lst o n hb t=>by rw[Ba] at h;rw[VS.age];exact .lst ⟨fun z=>(by cases z),.inl (hN _ n o.2)⟩ (hl _ _ hb n) hb (VRs.age hK hN hl h t)
 |_,_,h,.ref _ _=>by simp[Ba] at h
 |_,_,_,.scrK k=>by rw[VS.age];exact .scrK (by rw[hK];exact k)
 |_,_,_,.scrR n hb=>by rw[VS.age];exact .scrR (hl _ _ hb n) hb
 |_,_,_,.emp o n hb=>by rw[VS.age];exact .emp ⟨fun z=>(by cases z),.inl (hN _ n o.2)⟩ (hl _ _ hb n) hb
 |_,_,h,.dref _ _=>by simp[Ba] at h
 |_,_,_,.dcf o n hb=>by rw[VS.age];exact .dcf ⟨fun z=>(by cases z),.inl (hN _ n o.2)⟩ (hl _ _ hb n) hb
theorem VRs.age(hK:Γ'.K=Γ.K)(hN:∀a,¬DK μ a->Γ.N a∨Γ.H0 a=none->Γ'.N a)(hl:∀a o,H a=some o->¬DK μ a->¬DK μ' a):∀{v:List V} {d:List D},Ax d=true->VRs Γ μ H v d->VRs Γ' μ' H v (Bk d)
 |_,_,_,.nil=>by rw[Bk];exact .nil
 |_,_,h,.cons r t=>by
  rw[Ax,U1b] at h
  rw[Bk];exact .cons (VR.age hK hN hl h.1 r) (VRs.age hK hN hl h.2 t)
end
mutual
theorem VR.pure(hK:Γ'.K=Γ.K)(hN:∀m a xs,¬DK μ a->Γ.Ok m a->H a=some xs->Γ'.Ok m a/\¬DK μ' a)(ho:∀a o,H a=some o->¬DK μ a->(∀xs,o≠.lst xs)->(∀xs,o≠.dK xs)->¬DK μ' a):∀{v:V} {d:D},Ba d=true->VR Γ μ H v d->VR Γ' μ' H v d
 |_,_,_,.non=>.non
 |_,_,_,.bl b=>.bl b
 |_,_,_,.int i=>.int i
 |_,_,_,.str x=>.str x
 |_,_,_,.ty n=>.ty n
 |_,_,h,.tup hb t=>by rw[Ba] at h;exact .tup hb (VRs.pure hK hN ho h t)
 |_,_,h,.lst o n hb t=>by rw[Ba] at h;exact .lst (hN _ _ _ n o hb).1 (hN _ _ _ n o hb).2 hb (VRs.pure hK hN ho h t)
 |_,_,h,.ref _ _=>by simp[Ba] at h
 |_,_,_,.scrK k=>.scrK (by rw[hK];exact k)
 |_,_,_,.scrR n hb=>.scrR (ho _ _ hb n (fun _ z=>by cases z) fun _ z=>by cases z) hb
 |_,_,_,.emp o n hb=>.emp (hN _ _ _ n o hb).1 (hN _ _ _ n o hb).2 hb
 |_,_,h,.dref _ _=>by simp[Ba] at h
 |_,_,_,.dcf o n hb=>.dcf (hN _ _ _ n o hb).1 (hN _ _ _ n o hb).2 hb
theorem VRs.pure(hK:Γ'.K=Γ.K)(hN:∀m a xs,¬DK μ a->Γ.Ok m a->H a=some xs->Γ'.Ok m a/\¬DK μ' a)(ho:∀a o,H a=some o->¬DK μ a->(∀xs,o≠.lst xs)->(∀xs,o≠.dK xs)->¬DK μ' a):∀{v:List V} {d:List D},Ax d=true->VRs Γ μ H v d->VRs Γ' μ' H v d
 |_,_,_,.nil=>.nil
 |_,_,h,.cons r t=>by
  rw[Ax,U1b] at h
  exact .cons (VR.pure hK hN ho h.1 r) (VRs.pure hK hN ho h.2 t)
end
mutual
theorem VR.den{σ:St}{env:Env}{S S0:Store}{k:Nat}(R:Rep Γ μ σ H env S)(hK:Γ'.K=Γ.K)(h0:∀(i:Nat)(ds:List D)(a:Addr),k<=i->S0[i]?=some (some ds)->S[i]?=some (some ds)/\(μ[i]?=some (some a)->¬DK μ' a/\Γ'.Ok true a))
  (hN:∀m a,¬DK μ a->Γ.Ok m a->Γ'.Ok m a) (hl:∀a o,H a=some o->¬DK μ a->¬DK μ' a):∀{v:V} {d e:D},VR Γ μ H v d->VS.den k S0 d=some e->VR Γ' μ' H v e
 |_,_,_,.non,h=>by rw[VS.den] at h;cases h;exact .non
 |_,_,_,.bl b,h=>by rw[VS.den] at h;cases h;exact .bl b
 |_,_,_,.int i,h=>by rw[VS.den] at h;cases h;exact .int i
 |_,_,_,.str x,h=>by rw[VS.den] at h;cases h;exact .str x
 |_,_,_,.ty n,h=>by rw[VS.den] at h;cases h;exact .ty n
 |_,_,_,.tup hb t,h=>by
  rw[VS.den] at h
  obtain⟨es,e1,e2⟩:=map_some h
  subst e2
  exact .tup hb (VRs.den R hK h0 hN hl t e1)
 |_,_,_,.lst o n hb t,h=>by
  rw[VS.den] at h
  obtain⟨es,e1,e2⟩:=map_some h
  subst e2
  exact .lst (hN _ _ n o) (hl _ _ hb n) hb (VRs.den R hK h0 hN hl t e1)
 |_,.ref i,_,.ref hi f,h=>by
  rw[VS.den] at h
  by_cases hk:i<k
  .rw[if_pos hk] at h;cases h
  .rw[if_neg hk] at h
   split at h
   .rename_i ds hd
    by_cases hp:Ax ds=true
    .rw[if_pos hp] at h
     cases h
     have hS:=(h0 i ds 0 (by omega) hd).1
     obtain⟨a,h1,hc⟩:=R.sto i ds hS
     obtain⟨hv,f2⟩:=f a h1
     obtain⟨xs,h2,h3⟩:=hc.list f2
     subst hv
     obtain⟨z1,z2⟩:=(h0 i ds a (by omega) hd).2 h1
     exact .lst z2 z1 h2 (VRs.pure hK (fun m b ys n o hb=>⟨hN m b n o,hl b _ hb n⟩) (fun b o hb n _ _=>hl b o hb n) hp h3)
    .rw[if_neg hp] at h;cases h
   .cases h
 |_,_,_,.scrK k,h=>by rw[VS.den] at h;cases h;exact .scrK (by rw[hK];exact k)
 |_,_,_,.scrR n hb,h=>by rw[VS.den] at h;cases h;exact .scrR (hl _ _ hb n) hb
 |_,_,_,.emp o n hb,h=>by rw[VS.den] at h;cases h;exact .emp (hN _ _ n o) (hl _ _ hb n) hb
 |_,.dref i,_,.dref hi f,h=>by
  rw[VS.den] at h
  by_cases hk:i<k
  .rw[if_pos hk] at h;cases h
  .rw[if_neg hk] at h
   split at h
   .rename_i kvs hd
    cases h
    have hS:=(h0 i _ 0 (by omega) hd).1
    obtain⟨a,h1,hc⟩:=R.sto i _ hS
    obtain⟨hv,f2⟩:=f a h1
    obtain⟨kvs',q1,h2⟩:=hc.dict f2
    cases q1
    subst hv
    have z:=(h0 i _ a (by omega) hd).2 h1
    exact .dcf ⟨fun z=>(by cases z),z.2.2⟩ z.1 h2
   .cases h
 |_,_,_,.dcf o n hb,h=>by rw[VS.den] at h;cases h;exact .dcf (hN _ _ n o) (hl _ _ hb n) hb
theorem VRs.den{σ:St}{env:Env}{S S0:Store}{k:Nat}(R:Rep Γ μ σ H env S)(hK:Γ'.K=Γ.K)(h0:∀(i:Nat)(ds:List D)(a:Addr),k<=i->S0[i]?=some (some ds)->S[i]?=some (some ds)/\(μ[i]?=some (some a)->¬DK μ' a/\Γ'.Ok true a))
  (hN:∀m a,¬DK μ a->Γ.Ok m a->Γ'.Ok m a) (hl:∀a o,H a=some o->¬DK μ a->¬DK μ' a):∀{v:List V} {d e:List D},VRs Γ μ H v d->VS.CZ k S0 d=some e->VRs Γ' μ' H v e
 |_,_,_,.nil,h=>by rw[CZ] at h;cases h;exact .nil
 |_,_,_,.cons r t,h=>by
  rw[CZ] at h
  obtain⟨x,e1,h⟩:=bind_some h
  obtain⟨xs,e2,h⟩:=bind_some h
  cases h
  exact .cons (VR.den R hK h0 hN hl r e1) (VRs.den R hK h0 hN hl t e2)
end
mutual
theorem VR.new(hN:∀a xs,¬DK μ a->Γ.Ok true a->H a=some (.lst xs)->Γ'.Ok true a/\¬DK μ' a):∀{v:V} {d:D},newD d=true->VR Γ μ H v d->VR Γ' μ' H v d
 |_,_,_,.non=>.non
 |_,_,_,.bl b=>.bl b
 |_,_,_,.int i=>.int i
 |_,_,_,.str x=>.str x
 |_,_,_,.ty n=>.ty n
 |_,_,h,.tup hb t=>by rw[newD] at h;exact .tup hb (VRs.new hN h t)
 |_,.lst m ds,h,.lst o n hb t=>by
  rw[newD,U1b] at h
  obtain⟨rfl,h⟩:=h
  exact .lst (hN _ _ n o hb).1 (hN _ _ n o hb).2 hb (VRs.new hN h t)
 |_,_,h,.ref _ _=>by simp[newD] at h
 |_,_,h,.scrK _=>by simp[newD] at h
 |_,_,h,.scrR _ _=>by simp[newD] at h
 |_,_,h,.emp _ _ _=>by simp[newD] at h
 |_,_,h,.dref _ _=>by simp[newD] at h
 |_,_,h,.dcf _ _ _=>by simp[newD] at h
theorem VRs.new(hN:∀a xs,¬DK μ a->Γ.Ok true a->H a=some (.lst xs)->Γ'.Ok true a/\¬DK μ' a):∀{v:List V} {d:List D},newL d=true->VRs Γ μ H v d->VRs Γ' μ' H v d
 |_,_,_,.nil=>.nil
 |_,_,h,.cons r t=>by
  rw[newL,U1b] at h
  exact .cons (VR.new hN h.1 r) (VRs.new hN h.2 t)
end
mutual
theorem VR.flat:∀{v:V} {d:D},Ck d=true->VR Γ μ H v d->VR Γ' μ' H v d
 |_,_,_,.non=>.non
 |_,_,_,.bl b=>.bl b
 |_,_,_,.int i=>.int i
 |_,_,_,.str x=>.str x
 |_,_,_,.ty n=>.ty n
 |_,_,h,.tup hb t=>by rw[Ck] at h;exact .tup hb (VRs.flat h t)
 |_,_,h,.lst _ _ _ _=>by simp[Ck] at h
 |_,_,h,.ref _ _=>by simp[Ck] at h
 |_,_,h,.scrK _=>by simp[Ck] at h
 |_,_,h,.scrR _ _=>by simp[Ck] at h
 |_,_,h,.emp _ _ _=>by simp[Ck] at h
 |_,_,h,.dref _ _=>by simp[Ck] at h
 |_,_,h,.dcf _ _ _=>by simp[Ck] at h
theorem VRs.flat:∀{v:List V} {d:List D},Ei d=true->VRs Γ μ H v d->VRs Γ' μ' H v d
 |_,_,_,.nil=>.nil
 |_,_,h,.cons r t=>by
  rw[Ei,U1b] at h
  exact .cons (VR.flat h.1 r) (VRs.flat h.2 t)
end
mutual
theorem U8{k:Nat}{S:Store}:∀{d e:D},den k S d=some e->Ba e=true
 |.tup ds,e,h=>by
  rw[den] at h
  obtain⟨es,e1,e2⟩:=map_some h
  subst e2
  rw[Ba];exact Oj e1
 |.lst m ds,e,h=>by
  rw[den] at h
  obtain⟨es,e1,e2⟩:=map_some h
  subst e2
  rw[Ba];exact Oj e1
 |.ref i,e,h=>by
  rw[den] at h
  by_cases hk:i<k
  .rw[if_pos hk] at h;cases h
  .rw[if_neg hk] at h
   split at h
   .rename_i ds hd
    by_cases hp:Ax ds=true
    .rw[if_pos hp] at h;cases h;rw[Ba];exact hp
    .rw[if_neg hp] at h;cases h
   .cases h
 |.non,e,h=>by rw[den] at h;cases h;rfl
 |.bl _,e,h=>by rw[den] at h;cases h;rfl
 |.int _,e,h=>by rw[den] at h;cases h;rfl
 |.str _,e,h=>by rw[den] at h;cases h;rfl
 |.ty _,e,h=>by rw[den] at h;cases h;rfl
 |.scr _,e,h=>by rw[den] at h;cases h;rfl
 |.emp,e,h=>by rw[den] at h;cases h;rfl
 |.dref i,e,h=>by
  rw[den] at h
  by_cases hk:i<k
  .rw[if_pos hk] at h;cases h
  .rw[if_neg hk] at h
   split at h
   .cases h;rfl
   .cases h
 |.dcf _,e,h=>by rw[den] at h;cases h;rfl
 |.dcm _,e,h=>by rw[den] at h;cases h
theorem Oj{k:Nat}{S:Store}:∀{d e:List D},CZ k S d=some e->Ax e=true
 |[],e,h=>by rw[CZ] at h;cases h;rfl
 |d::r,e,h=>by
  rw[CZ] at h
  obtain⟨x,e1,h⟩:=bind_some h
  obtain⟨xs,e2,h⟩:=bind_some h
  cases h
  rw[Ax,U8 e1,Oj e2];rfl
end
end
end VS
end
section
namespace VS
open PySem PySem.Spec L2
abbrev DQ:=List D->Option D
abbrev M4:=List Int->List D->Option (D×List Int)
def intsOf:List D->Option (List Int)
 |[]=>some []
 |.int i::r=>(intsOf r).map (i::·)
 |_=>none
theorem J5:∀{ds:List D} {ns:List Int},intsOf ds=some ns->ds=ns.map D.int
 |[],_,h=>by cases h;rfl
 |.int i::r,ns,h=>by
  obtain⟨ms,e1,e2⟩:=map_some h
  subst e2
  rw[U0j,J5 e1]
 |.non::_,_,h=>by cases h
 |.bl _::_,_,h=>by cases h
 |.str _::_,_,h=>by cases h
 |.ty _::_,_,h=>by cases h
 |.tup _::_,_,h=>by cases h
 |.lst _ _::_,_,h=>by cases h
 |.ref _::_,_,h=>by cases h
 |.scr _::_,_,h=>by cases h
 |.emp::_,_,h=>by cases h
 |.dref _::_,_,h=>by cases h
 |.dcf _::_,_,h=>by cases h
 |.dcm _::_,_,h=>by cases h
@[simp] theorem Mj(ns:List Int):intsOf (ns.map D.int)=some ns:=by
 induction ns with
 |nil=>rfl
 |cons n r ih=>rw[U0j,intsOf,ih];rfl
def Eu(np n:Nat)(f:BP):DQ:=fun ds=>if ds.length=np then (f (ds.map some++U0h (n-ds.length) none) []).bind fun p=>match p.1 with|.ret d=>den 0 p.2.2 d|.nx=>some .non|_=>none else none
def runM(np n:Nat)(f:BP):M4:=fun ns ds=>if ds.length+1=np then (f (some (.ref 0)::(ds.map some++U0h (n-1-ds.length) none)) [some (ns.map D.int)]).bind fun p=>match p.2.2[0]? with
 |some (some cs)=>(intsOf cs).bind fun ms=>(match p.1 with|.ret d=>(den 1 p.2.2 d).map fun r=>(r,ms)|.nx=>some (.non,ms)|_=>none)
 |_=>none
 else none
def spP(K:U0a)(sem:DQ)(n:Nat):Sp:=fun vs H Q _=>∃(N:Addr->Prop)(ds:List D)(r:D),vs.length=n/\VRs ⟨K,H,N,[]⟩ [] H vs ds/\sem ds=some r/\∀v H',Same H H'->VR ⟨K,H,N,[]⟩ [] H' v r->Q v H'
def spM(K:U0a)(sem:M4)(n:Nat):Sp:=fun vs H Q _=>∃(N:Addr->Prop)(a:Addr)(us:List V)(ns:List Int)(ds:List D)(r:D)(ms:List Int),vs=.ref a::us/\vs.length=n/\H a=some (.lst (ns.map V.int))/\VRs ⟨K,H,N,[a]⟩ [some a] H us ds/\sem ns ds=some (r,ms) /\
 ∀v H',(∀b o,b≠a->H b=some o->H' b=some o)->H' a=some (.lst (ms.map V.int))->VR ⟨K,H,N,[a]⟩ [some a] H' v r->Q v H'
section
variable{P:Program}{w:World}{K:U0a}{mg:Str->Option Value}{base:Heap}
theorem WK{N:List Str}{vs:List V}{ds:List D}{Γ:Fr}{μ:Mu}{H:Hp}(r:VRs Γ μ H vs ds){i:Nat}{d:D}{n:Nat}(h:(ds.map some++U0h n none:Env)[i]?=some (some d)):∃v,(vs.map some++U0h (N.length-vs.length) none:St)[i]?=some (some v)/\VR Γ μ H v d:=by
 have hi:i<ds.length:=by
  by_cases hi:i<ds.length
  .exact hi
  .rw[U2a (by simpa using hi),U38] at h
   split at h<;>cases h
 rw[U1f (by simpa using hi),U0z] at h
 have h2:ds[i]?=some d:=by
  cases q:ds[i]? with
  |none=>rw[q] at h;cases h
  |some e=>rw[q] at h;cases h;rfl
 obtain⟨v,e1,e2⟩:=r.get h2
 refine⟨v,?_,e2⟩
 rw[U1f (by rw[U0i,r.length];exact hi),U0z,e1]
 rfl
theorem JD{a:Addr}:¬DK [] a:=fun z=>by simp[DK] at z
theorem Q5{a b:Addr}:DK [some b] a↔a=b:=by simp[DK]
theorem fnP{x qual:Str}{st:Stmt}{f:Addr}{fd:FuncData}{N ps:List Str}{k:Nat}{fs:BP}(F:Fun K x qual st f fd)(Sc:CP N ps (Ak st))
  (hb:∀(cdv:Value)(A:Around)(outer:List PySem.Env)(s:Shared)(H:Hp)(E:XK),FT k (A.deeper (PyProof.Rows.envOfC qual (Ak st) s.heap.objs.size f cdv))->JSs (Qn CX0 P w K mg base N qual (Ak st) f cdv A outer s H E).nox (Bw st) fs) :
  DY P w K mg base CX0 (k+1) f fd ps (spP K (Eu ps.length N.length fs) ps.length):=by
 refine F.ok Sc (fun vs H Q E h=>?_) (fun cdv A outer s H vs Q E hr h=>?_)
 .obtain⟨_,_,_,hl,_⟩:=h;exact hl
 obtain⟨Nn,ds,r,hl,rs,e,q⟩:=h
 refine⟨_,(hb cdv A outer s H E hr).ps,?_⟩
 have hdl:=rs.length
 unfold Eu at e
 rw[if_pos (by omega)] at e
 obtain⟨⟨fl,env',S'⟩,e1,e⟩:=bind_some e
 have hpl:ps.length<=N.length:=by have:=congrArg U5d Sc.pre;rw[U2j] at this;omega
 refine⟨⟨K,H,Nn,[]⟩,[],_,[],fl,env',S',rfl,⟨fun i d h=>WK rs h,?_,fun i ds h=>by simp at h,fun i a h=>by simp at h,fun i j a h=>by simp at h,rfl,Ext.refl _ _,fun i a _ h=>by simp at h⟩,e1,fun μ' σ' H' x' R'=>?_⟩
 .unfold L2.start
  rw[U0s,U0i,U1e,U0s,U0i,U1e,hdl]
 have sm:Same H H':=fun b o hb=>(x'.keep b o hb JD).1
 dsimp only at e
 cases fl with
 |nx=>cases e;exact q _ H' sm .non
 |brk=>cases e
 |cnt=>cases e
 |ret d =>
  intro v rv
  refine q v H' sm (VR.den R' rfl (fun i ds a _ hs=>⟨hs,fun hm=>⟨JD,?_⟩⟩) (fun m a _ o=>o) (fun a o _ _=>JD) rv e)
  have hn:=R'.new i a (U3a _) hm
  exact⟨fun _=>hn,.inr hn⟩
theorem fnM{x qual:Str}{st:Stmt}{f:Addr}{fd:FuncData}{N ps:List Str}{k:Nat}{fs:BP}(F:Fun K x qual st f fd)(Sc:CP N ps (Ak st))
  (hb:∀(cdv:Value)(A:Around)(outer:List PySem.Env)(s:Shared)(H:Hp)(E:XK),FT k (A.deeper (PyProof.Rows.envOfC qual (Ak st) s.heap.objs.size f cdv))->JSs (Qn CX0 P w K mg base N qual (Ak st) f cdv A outer s H E).nox (Bw st) fs) :
  DY P w K mg base CX0 (k+1) f fd ps (spM K (runM ps.length N.length fs) ps.length):=by
 refine F.ok Sc (fun vs H Q E h=>?_) (fun cdv A outer s H vs Q E hr h=>?_)
 .obtain⟨_,_,_,_,_,_,_,_,hl,_⟩:=h;exact hl
 obtain⟨Nn,a,us,ns,ds,r,ms,rfl,hl,ha,rs,e,q⟩:=h
 refine⟨_,(hb cdv A outer s H E hr).ps,?_⟩
 have hdl:=rs.length
 rw[U0g] at hl
 unfold runM at e
 rw[if_pos (by omega)] at e
 obtain⟨⟨fl,env',S'⟩,e1,e⟩:=bind_some e
 have hpl:ps.length<=N.length:=by have:=congrArg U5d Sc.pre;rw[U2j] at this;omega
 refine⟨⟨K,H,Nn,[a]⟩,[some a],_,[some (ns.map D.int)],fl,env',S',rfl,⟨fun i d h=>?_,?_,fun i es h=>?_,fun i b h=>?_,fun i j b h1 h2=>?_,rfl,Ext.refl _ _,fun i b hi h=>?_⟩,e1,fun μ' σ' H' x' R'=>?_⟩
 .cases i with
  |zero =>
   simp at h
   subst h
   refine⟨.ref a,by simp[L2.start],.ref (by simp) fun b hb=>?_⟩
   simp at hb;rw[←hb];exact⟨rfl,⟨_,ha⟩⟩
  |succ i =>
   rw[List.getElem?_cons_succ] at h
   obtain⟨v,e1,e2⟩:=WK (N:=U0h (N.length-1) "") rs h
   refine⟨v,?_,e2⟩
   unfold L2.start
   rw[U0j,U15,List.getElem?_cons_succ,U0g]
   rw[U1e] at e1
   rw[show N.length-(us.length+1)=N.length-1-us.length by omega]
   exact e1
 .unfold L2.start
  rw[U0s,U0i,U1e,U0g,U0g,U0s,U0i,U1e,hdl]
  omega
 .cases i with
  |zero=>simp at h;subst h;exact⟨a,by simp,.inl ⟨_,ha,VRs.ints ns⟩⟩
  |succ i=>simp at h
 .cases i with
  |zero=>exact⟨_,rfl⟩
  |succ i=>simp at h
 .cases i with
  |zero=>cases j with
   |zero=>rfl
   |succ j=>simp at h2
  |succ i=>simp at h1
 .cases i with
  |zero=>simp at hi
  |succ i=>simp at h
 have sm:∀b o,b≠a->H b=some o->H' b=some o:=fun b o hb h=>(x'.keep b o h fun z=>hb (Q5.mp z)).1
 dsimp only at e
 split at e
 .rename_i cs hc
  obtain⟨ms',e3,e5⟩:=bind_some e
  clear e
  obtain⟨a',g1,gc⟩:=R'.sto 0 cs hc
  obtain⟨xs',g2,g3⟩:∃xs,H' a'=some (.lst xs)/\VRs _ μ' H' xs cs:=by
   rcases gc with z|⟨kvs,q,_⟩
   .exact z
   .rw[q] at e3;cases e3
  have ea:a'=a:=by
   have:=x'.ids 0 a' (by simp) g1
   simp at this;exact this.symm
  subst ea
  have ec:=J5 e3
  subst ec
  have ex:=g3.Rh
  subst ex
  cases fl with
  |nx=>cases e5;exact q _ H' sm g2 .non
  |brk=>cases e5
  |cnt=>cases e5
  |ret d =>
   intro v rv
   dsimp only at e5
   obtain⟨r',e4,e6⟩:=map_some e5
   cases e6
   refine q v H' sm g2 (VR.den R' rfl (fun i es b hi hs=>⟨hs,fun hm=>⟨fun z=>?_,?_⟩⟩) (fun m b _ o=>o) (fun b o _ n z=>n ?_) rv e4)
   .have:b=a':=Q5.mp z
    subst this
    have:=R'.inj 0 i b g1 hm
    omega
   .have hn:=R'.new i b hi hm
    exact⟨fun _=>hn,.inr hn⟩
   .have:b=a':=Q5.mp z
    subst this
    exact U1h g1
 .cases e
end
theorem DR{np n:Nat}{f:BP}{ds:List D}{r:D}(h:Eu np n f ds=some r):ds.length=np/\Ba r=true:=by
 unfold Eu at h
 by_cases hl:ds.length=np
 .rw[if_pos hl] at h
  obtain⟨⟨fl,env',S'⟩,e1,e⟩:=bind_some h
  refine⟨hl,?_⟩
  dsimp only at e
  cases fl with
  |nx=>cases e;rfl
  |brk=>cases e
  |cnt=>cases e
  |ret d=>exact U8 e
 .rw[if_neg hl] at h;cases h
theorem Pb{np n:Nat}{f:BP}{ns:List Int}{ds:List D}{r:D×List Int}(h:runM np n f ns ds=some r):ds.length+1=np/\Ba r.1=true:=by
 unfold runM at h
 by_cases hl:ds.length+1=np
 .rw[if_pos hl] at h
  obtain⟨⟨fl,env',S'⟩,e1,e⟩:=bind_some h
  refine⟨hl,?_⟩
  dsimp only at e
  split at e
  .rename_i cs hc
   obtain⟨ms',e3,e⟩:=bind_some e
   cases fl with
   |nx=>cases e;rfl
   |brk=>cases e
   |cnt=>cases e
   |ret d =>
    dsimp only at e
    obtain⟨r',e4,e⟩:=map_some e
    cases e
    exact U8 e4
  .cases e
 .rw[if_neg hl] at h;cases h
end VS
end
section
namespace VS
open PySem PySem.Spec L2
structure CG(P:Program)(w:World)(K:U0a)(mg:Str->Option Value)(base:Heap)(x:Str)(k:Nat)(sem:DQ):Prop where
 cal:∃ps,Cal P w K mg base x k ps (spP K sem ps.length)/\∀ds r,sem ds=some r->ds.length=ps.length/\Ba r=true
structure Kc(P:Program)(w:World)(K:U0a)(mg:Str->Option Value)(base:Heap)(x:Str)(k:Nat)(sem:M4):Prop where
 cal:∃ps,Cal P w K mg base x k ps (spM K sem ps.length)/\∀ns ds r,sem ns ds=some r->ds.length+1=ps.length/\Ba r.1=true
def Aw(sem:DQ)(a:Bu):Az:=fun env S=>(a env S).bind fun p=>(CZ 0 p.2 p.1).bind fun ds=>(sem (Bk ds)).bind fun r=>if (Ax p.1||newD r)=true then some (r,p.2) else none
def Bv(sem:M4)(a:Bu):Az:=fun env S=>(a env S).bind fun p=>match p.1 with
 |.ref i::rest=>(match p.2[i]? with
  |some (some cs)=>(intsOf cs).bind fun ns=>(CZ 0 (p.2.set i none) rest).bind fun ds=>(sem ns (Bk ds)).bind fun r=>if (Ax rest||newD r.1)=true then some (r.1,p.2.set i (some (r.2.map D.int))) else none
  |_=>none)
 |_=>none
def XH(n:Nat):List D->Option (List D×List D)
 |[]=>none
 |d::r=>if Ck d=true then (XH n r).map fun p=>(d::p.1,p.2) else match d with
  |.lst true ds=>if (Ei ds&&Ei r)=true then some (.ref n::r,ds) else none
  |_=>none
def N7(n:Nat):D->Option (D×List D)
 |.lst true ds=>if Ei ds=true then some (.ref n,ds) else none
 |.tup es=>(XH n es).map fun p=>(.tup p.1,p.2)
 |_=>none
def GX(sem:DQ)(a:Bu):Az:=fun env S=>(Aw sem a env S).bind fun p=>(N7 p.2.length p.1).bind fun q=>some (q.1,p.2++[some q.2])
section
variable{Γ:Fr}{μ:Mu}{σ:St}{H H':Hp}{env:Env}{S:Store}
theorem lend{K:U0a}(hK:Γ.K=K)(R:Rep Γ μ σ H env S){S0:Store}{m0:List Addr}{vs:List V}{ds es:List D}(r:VRs Γ μ H vs ds)(e:CZ 0 S0 ds=some es)(h0:∀(i:Nat)(ds:List D)(a:Addr),S0[i]?=some (some ds)->S[i]?=some (some ds)/\(μ[i]?=some (some a)->¬DK (m0.map some) a))(hm:∀a∈m0,DK μ a)
  (c:Bool) (hc:(Ax ds||c)=true):∃N:Addr->Prop,VRs ⟨K,H,N,m0⟩ (m0.map some) H vs (Bk es)/\(c=true∨∀a,N a->¬DK μ a/\(Γ.N a∨Γ.H0 a=none)):=by
 subst hK
 have hl:∀a o,H a=some o->¬DK μ a->¬DK (m0.map some) a:=fun a o _ n z=>n (hm a (by simpa [DK] using z))
 by_cases hp:Ax ds=true
 .rw[Cp 0 S0 hp] at e
  cases e
  exact⟨fun a=>¬DK μ a/\(Γ.N a∨Γ.H0 a=none),VRs.age (Γ:=Γ) (Γ':=⟨Γ.K,H,fun a=>¬DK μ a/\(Γ.N a∨Γ.H0 a=none),m0⟩) rfl (fun a n o=>⟨n,o⟩) hl hp r,.inr fun a z=>z⟩
 .have hc':c=true:=by simpa [hp] using hc
  refine⟨fun _=>True,?_,.inl hc'⟩
  have r1:VRs ⟨Γ.K,fun _=>none,fun _=>True,m0⟩ (m0.map some) H vs es:=VRs.den (Γ':=⟨Γ.K,fun _=>none,fun _=>True,m0⟩) R rfl (fun i ds a _ hs=>⟨(h0 i ds a hs).1,fun z=>⟨(h0 i ds a hs).2 z,⟨fun _=>rfl,.inl trivial⟩⟩⟩) (fun m a _ _=>⟨fun _=>rfl,.inl trivial⟩) hl r e
  exact VRs.age (Γ:=⟨Γ.K,fun _=>none,fun _=>True,m0⟩) (Γ':=⟨Γ.K,H,fun _=>True,m0⟩) (μ:=m0.map some) rfl (fun a _ _=>trivial) (fun a o _ n=>n) (Oj e) r1
theorem home{K:U0a}(hK:Γ.K=K)(R:Rep Γ μ σ H env S){N:Addr->Prop}{m0:List Addr}{v:V}{r:D}(lv:∀a,DK μ a->IsL H' a∨IsK H' a)(hp:Ba r=true)(c:newD r=true∨∀a,N a->¬DK μ a/\(Γ.N a∨Γ.H0 a=none))
  (rv:VR ⟨K,H,N,m0⟩ (m0.map some) H' v r):VR Γ μ H' v r:=by
 subst hK
 rcases c with c|c
 .exact VR.new (fun a xs n o hb=>⟨R.ok (o.1 rfl) true,R.dead (o.1 rfl)⟩) c rv
 .refine VR.pure (Γ:=⟨Γ.K,H,N,m0⟩) (Γ':=Γ) rfl (fun m a xs n o hb=>?_) (fun a o hb n hx hy z=>?_) hp rv
  .rcases o.2 with z|z
   .refine⟨⟨fun hm=>R.fresh (o.1 hm),(c a z).2⟩,(c a z).1⟩
   .exact⟨R.ok z m,R.dead z⟩
  .rcases lv a z with ⟨xs,q⟩|⟨xs,q⟩
   .rw[q] at hb
    exact hx xs (U03 hb).symm
   .rw[q] at hb
    exact hy xs (U03 hb).symm
theorem Rep.adopt(R:Rep Γ μ σ H env S)(sm:Same H H'){a:Addr}{xs:List V}{ds:List D}(hn:H a=none)(ha:H' a=some (.lst xs))(hf:Ei ds=true){Γ':Fr}{μ':Mu}(rs:VRs Γ' μ' H' xs ds) :
  Rep Γ (μ++[some a]) σ H' env (S++[some ds])/\Ext μ H (μ++[some a]) H':=by
 have ne:∀b o,H b=some o->b≠a:=fun b o h z=>by rw[z,hn] at h;cases h
 have x:Ext μ H (μ++[some a]) H':=by
  refine⟨fun b o h n=>⟨sm b o h,fun z=>?_⟩,fun b ys h=>sm b _ h,fun b h=>sm.free h,fun i b hi h=>?_,by rw[U0s];omega,fun b _ ⟨ys,h⟩=>⟨ys,sm b _ h⟩,fun b _ ⟨ys,h⟩=>⟨ys,sm b _ h⟩⟩
  .rcases U2c.mp z with z|z
   .exact n z
   .have z':b=a:=by simpa using z
    exact ne b o h z'
  .rw[U1f hi] at h;exact h
 have idx:∀i b,(μ++[some a])[i]?=some (some b)->(i<μ.length/\μ[i]?=some (some b))∨(i=μ.length/\b=a):=fun i b h=>by
  by_cases hi:i<μ.length
  .rw[U1f hi] at h;exact .inl ⟨hi,h⟩
  .rw[U2a (by omega)] at h
   have hl:=(U0o.mp h).1
   have hi':i=μ.length:=by simp at hl;omega
   subst hi'
   simp at h
   exact .inr ⟨rfl,h.symm⟩
 have no:∀i,μ[i]?=some (some a)->False:=fun i h=>R.dead hn (U1h h)
 refine⟨⟨fun i d h=>?_,R.len,fun i es h=>?_,fun i b h=>?_,fun i j b h1 h2=>?_,by rw[U0s,U0s,R.slen];rfl,R.ent.trans x,fun i b hi h=>?_⟩,x⟩
 .obtain⟨v,h1,h2⟩:=R.vals i d h
  exact⟨v,h1,h2.ext x⟩
 .by_cases hi:i<S.length
  .rw[U1f hi] at h
   obtain⟨b,h1,h2⟩:=R.sto i es h
   exact⟨b,by rw[U1f (by rw[←R.slen];exact hi)];exact h1,h2.to x fun o q=>sm _ _ q⟩
  .rw[U2a (by omega)] at h
   have hl:=(U0o.mp h).1
   have hi':i=S.length:=by simp at hl;omega
   subst hi'
   simp at h
   subst h
   exact⟨a,by rw[R.slen];simp,.inl ⟨xs,ha,VRs.flat hf rs⟩⟩
 .rcases idx i b h with ⟨hi,h⟩|⟨rfl,rfl⟩
  .obtain⟨ds',q⟩:=R.liv i b h
   exact⟨ds',by rw[U1f (by rw[R.slen];exact hi)];exact q⟩
  .exact⟨ds,by rw[←R.slen];simp⟩
 .rcases idx i b h1 with ⟨_,g1⟩|⟨e1,e2⟩
  .rcases idx j b h2 with ⟨_,g2⟩|⟨e3,e4⟩
   .exact R.inj i j b g1 g2
   .exact(no i (e4 ▸ g1)).elim
  .rcases idx j b h2 with ⟨_,g2⟩|⟨e3,_⟩
   .exact(no j (e2 ▸ g2)).elim
   .rw[e1,e3]
 .rcases idx i b h with ⟨_,h⟩|⟨rfl,rfl⟩
  .exact R.new i b hi h
  .exact R.fresh hn
end
theorem YG{Γ:Fr}{μ:Mu}{H:Hp}{n:Nat}:∀{vs:List V} {ds:List D} {p:List D×List D},XH n ds=some p->VRs Γ μ H vs ds ->
  ∃a xs,Γ.Ok true a/\H a=some (.lst xs)/\VRs Γ μ H xs p.2/\Ei p.2=true/\∀(Γ':Fr)(μ':Mu),μ'[n]?=some (some a)->VRs Γ' μ' H vs p.1
 |_,[],_,h,_=>by cases h
 |_,d::r,p,h,.cons (xs:=vr) rd rr=>by
  unfold XH at h
  by_cases hf:Ck d=true
  .rw[if_pos hf] at h
   obtain⟨q,e1,e2⟩:=map_some h
   subst e2
   obtain⟨a,xs,h1,h2,h3,h4,h5⟩:=YG e1 rr
   exact⟨a,xs,h1,h2,h3,h4,fun Γ' μ' z=>.cons (VR.flat hf rd) (h5 Γ' μ' z)⟩
  .rw[if_neg hf] at h
   split at h
   .rename_i ds
    by_cases hg:(Ei ds&&Ei r)=true
    .rw[if_pos hg] at h
     cases h
     rw[U1b] at hg
     cases rd with
     |@lst _ a xs _ o nl hb t =>
      refine⟨a,xs,o,hb,t,hg.1,fun Γ' μ' z=>.cons (.ref (U0o.mp z).1 fun b hb'=>?_) (VRs.flat hg.2 rr)⟩
      rw[z] at hb';cases hb';exact⟨rfl,⟨_,hb⟩⟩
    .rw[if_neg hg] at h;cases h
   .cases h
theorem pI{Γ:Fr}{μ:Mu}{H:Hp}{n:Nat}{v:V}{d:D}{p:D×List D}(h:N7 n d=some p)(r:VR Γ μ H v d) :
  ∃a xs,Γ.Ok true a/\H a=some (.lst xs)/\VRs Γ μ H xs p.2/\Ei p.2=true/\∀(Γ':Fr)(μ':Mu),μ'[n]?=some (some a)->VR Γ' μ' H v p.1:=by
 unfold N7 at h
 split at h
 .rename_i ds
  by_cases hg:Ei ds=true
  .rw[if_pos hg] at h
   cases h
   cases r with
   |@lst _ a xs _ o nl hb t =>
    refine⟨a,xs,o,hb,t,hg,fun Γ' μ' z=>.ref (U0o.mp z).1 fun b hb'=>?_⟩
    rw[z] at hb';cases hb';exact⟨rfl,⟨_,hb⟩⟩
  .rw[if_neg hg] at h;cases h
 .rename_i es
  obtain⟨q,e1,e2⟩:=map_some h
  subst e2
  cases r with
  |@tup b xs _ hb t =>
   obtain⟨a,ys,h1,h2,h3,h4,h5⟩:=YG e1 t
   exact⟨a,ys,h1,h2,h3,h4,fun Γ' μ' z=>.tup hb (h5 Γ' μ' z)⟩
 .cases h
section
variable{X:Cx}{x:Str}{k k':Nat}{e:Expr}{es:List Expr}{f:Bu}{p pos:Pos}
theorem Bm{sem:DQ}(c:CG X.prog X.w X.K X.mg X.base x k sem)(hr:FT k' X.A)(hk:k<=k')(hg:Gl X x)(ha:JA X (e::es) f)
  (hdb:(x==("__debug__":Str))=false:=by decide) (he:starEach (e::es) X.env=(false,eval e X.env)::starEach es X.env:=by rfl) (hpl:(backTo pos (starEach es X.env)).any (·.1)=false:=by rfl) :
  JE X (.Call (.Name x p) (e::es) [] pos) (Aw sem f):=by
 obtain⟨ps,c,hok⟩:=c.cal
 refine⟨PE.imp (Tf c hr hk hg ha.pa hdb he hpl) fun σ H Q h=>?_⟩
 obtain⟨Γ,μ,env,S,d,S',hK,R,e,q⟩:=h
 obtain⟨⟨as,S1⟩,e1,e⟩:=bind_some e
 obtain⟨ds,e2,e⟩:=bind_some e
 obtain⟨r,e3,e⟩:=bind_some e
 refine⟨Γ,μ,env,S,as,S1,hK,R,e1,fun vs μ1 H1 x1 R1 r1=>?_⟩
 show spP X.K sem ps.length (vs++[]) H1 Q E0
 rw[U2u]
 dsimp only at e e2
 by_cases hc:(Ax as||newD r)=true
 .rw[if_pos hc] at e
  cases e
  obtain⟨hl,hp⟩:=hok _ _ e3
  obtain⟨N,rs,cN⟩:=lend hK R1 (m0:=[]) r1 e2 (fun i ds a hs=>⟨hs,fun _=>JD⟩) (fun a z=>by simp at z) (newD d) hc
  refine⟨N,_,d,?_,rs,e3,fun v H' sm rv=>?_⟩
  .rw[rs.length,hl]
  obtain⟨R2,x2⟩:=R1.grow sm
  exact q v μ1 H' (x1.trans x2) R2 (home hK R1 (fun a z=>R2.live z) hp cN rv)
 .rw[if_neg hc] at e;cases e
theorem Nq{sem:DQ}(c:CG X.prog X.w X.K X.mg X.base x k sem)(hr:FT k' X.A)(hk:k<=k')(hg:Gl X x)(ha:JA X (e::es) f)
  (hdb:(x==("__debug__":Str))=false:=by decide) (he:starEach (e::es) X.env=(false,eval e X.env)::starEach es X.env:=by rfl) (hpl:(backTo pos (starEach es X.env)).any (·.1)=false:=by rfl) :
  JE X (.Call (.Name x p) (e::es) [] pos) (GX sem f):=by
 obtain⟨ps,c,hok⟩:=c.cal
 refine⟨PE.imp (Tf c hr hk hg ha.pa hdb he hpl) fun σ H Q h=>?_⟩
 obtain⟨Γ,μ,env,S,d,S',hK,R,e,q⟩:=h
 obtain⟨⟨d0,S0⟩,e0,e⟩:=bind_some e
 obtain⟨t,et,e⟩:=bind_some e
 cases e
 obtain⟨⟨as,S1⟩,e1,e⟩:=bind_some e0
 obtain⟨ds,e2,e⟩:=bind_some e
 obtain⟨r,e3,e⟩:=bind_some e
 refine⟨Γ,μ,env,S,as,S1,hK,R,e1,fun vs μ1 H1 x1 R1 r1=>?_⟩
 show spP X.K sem ps.length (vs++[]) H1 Q E0
 rw[U2u]
 dsimp only at e e2
 by_cases hc:(Ax as||newD r)=true
 .rw[if_pos hc] at e
  cases e
  obtain⟨hl,hp⟩:=hok _ _ e3
  obtain⟨N,rs,cN⟩:=lend hK R1 (m0:=[]) r1 e2 (fun i ds a hs=>⟨hs,fun _=>JD⟩) (fun a z=>by simp at z) (newD d0) hc
  refine⟨N,_,d0,?_,rs,e3,fun v H' sm rv=>?_⟩
  .rw[rs.length,hl]
  obtain⟨a,xs,h1,h2,h3,h4,h5⟩:=pI et rv
  obtain⟨R2,x2⟩:=R1.adopt sm (h1.1 rfl) h2 h4 h3
  exact q v _ H' (x1.trans x2) R2 (h5 _ _ (by rw[R1.slen];simp))
 .rw[if_neg hc] at e;cases e
theorem FW{sem:M4}(c:Kc X.prog X.w X.K X.mg X.base x k sem)(hr:FT k' X.A)(hk:k<=k')(hg:Gl X x)(ha:JA X (e::es) f)
  (hdb:(x==("__debug__":Str))=false:=by decide) (he:starEach (e::es) X.env=(false,eval e X.env)::starEach es X.env:=by rfl) (hpl:(backTo pos (starEach es X.env)).any (·.1)=false:=by rfl) :
  JE X (.Call (.Name x p) (e::es) [] pos) (Bv sem f):=by
 obtain⟨ps,c,hok⟩:=c.cal
 refine⟨PE.imp (Tf c hr hk hg ha.pa hdb he hpl) fun σ H Q h=>?_⟩
 obtain⟨Γ,μ,env,S,d,S',hK,R,e,q⟩:=h
 obtain⟨⟨as,S1⟩,e1,e⟩:=bind_some e
 refine⟨Γ,μ,env,S,as,S1,hK,R,e1,fun vs μ1 H1 x1 R1 r1=>?_⟩
 show spM X.K sem ps.length (vs++[]) H1 Q E0
 rw[U2u]
 dsimp only at e
 split at e
 .rename_i i rest
  split at e
  .rename_i cs hcs
   obtain⟨ns,e4,e⟩:=bind_some e
   obtain⟨ds,e2,e⟩:=bind_some e
   obtain⟨⟨r,ms⟩,e3,e⟩:=bind_some e
   dsimp only at e
   by_cases hc:(Ax rest||newD r)=true
   .rw[if_pos hc] at e
    cases e
    obtain⟨hl,hp⟩:=hok _ _ _ e3
    have ecs:=J5 e4
    subst ecs
    cases r1 with
    |@cons v0 _ us _ r0 rr =>
     obtain⟨a,xs,rfl,h1,h2,h3⟩:=VR.cD R1 r0 hcs
     have ex:=h3.Rh
     subst ex
     have hi:i<S1.length:=(U0o.mp hcs).1
     obtain⟨N,rs,cN⟩:=lend hK R1 (S0:=S1.set i none) (m0:=[a]) rr e2 (fun j es b hs=>by
      have hj:i≠j:=fun z=>by
       subst z
       rw[U21 hi] at hs;cases hs
      rw[U2p hj] at hs
      exact⟨hs,fun hm z=>hj (R1.inj i j a h1 (by rw[show a=b from (Q5.mp z).symm];exact hm))⟩) (fun b z=>by
       have:b=a:=by simpa using z
       rw[this];exact U1h h1) (newD d) hc
     refine⟨N,a,us,ns,_,d,ms,rfl,?_,h2,rs,e3,fun v H' sm ha' rv=>?_⟩
     .rw[U0g,rs.length,hl]
     obtain⟨R2,x2⟩:=R1.put h1 ⟨_,h2⟩ (VRs.ints ms)
     have sm2:Same (upd H1 a (.lst (ms.map V.int))) H':=fun b o hb=>by
      by_cases z:b=a
      .rw[z,CK] at hb;cases hb;rw[z];exact ha'
      .rw[Bl z] at hb;exact sm b o z hb
     obtain⟨R3,x3⟩:=R2.grow sm2
     exact q v μ1 H' (x1.trans (x2.trans x3)) R3 (home hK R1 (fun a z=>R3.live z) hp cN rv)
   .rw[if_neg hc] at e;cases e
  .cases e
 .cases e
end
end VS
end
section
namespace VS
open PySem PySem.Spec L2
theorem OpR.or{X:Cx}{f:Value->Value->Sem Value}{r r':R2}(h:OpR X f r)(h':OpR X f r'):OpR X f (fun x y H Q=>r x y H Q∨r' x y H Q):=fun pins s σ H x y v u Q I rx ry q=>q.elim (fun z=>h pins s σ H x y v u Q I rx ry z) fun z=>h' pins s σ H x y v u Q I rx ry z
theorem Dn.or{X:Cx}{f:Value}{r r':List V->Hp->VK->Prop}(h:Dn X f r)(h':Dn X f r'):Dn X f (fun xs H Q=>r xs H Q∨r' xs H Q):=fun pins s σ H xs us Q I rs q=>q.elim (fun z=>h pins s σ H xs us Q I rs z) fun z=>h' pins s σ H xs us Q I rs z
def oI(c:Int->Int->Bool)(g:Int->Int->D)(_:Store):D->D->Option D
 |.int i,.int j=>if c i j=true then some (g i j) else none
 |_,_=>none
def Hi(_ _:Int):Bool:=true
theorem cT{K:U0a}{C:Int->Int->Prop}{c:Int->Int->Bool}(g:Int->Int->Int)(hc:∀i j,c i j=true->C i j):GQ K (rI C fun i j=>.int (g i j)) (oI c fun i j=>.int (g i j)):=by
 intro Γ μ σ H env S x y dx dy d hK R rx ry e Q q
 unfold oI at e
 split at e
 .rename_i i j
  by_cases h:c i j=true
  .rw[if_pos h] at e;cases e;cases rx;cases ry
   exact⟨i,j,rfl,rfl,hc i j h,q _ H (Same.refl H) (.int _)⟩
  .rw[if_neg h] at e;cases e
 .cases e
theorem uz{K:U0a}(g:Int->Int->Int):GQ K (rI0 fun i j=>.int (g i j)) (oI Hi fun i j=>.int (g i j)):=by
 intro Γ μ σ H env S x y dx dy d hK R rx ry e Q q
 unfold oI at e
 split at e
 .rename_i i j
  rw[if_pos (show Hi i j=true from rfl)] at e;cases e;cases rx;cases ry
  exact⟨i,j,rfl,rfl,q _ H (Same.refl H) (.int _)⟩
 .cases e
theorem Uq{K:U0a}(g:Int->Int->Bool):GQ K (rI0 fun i j=>.bl (g i j)) (oI Hi fun i j=>.bl (g i j)):=by
 intro Γ μ σ H env S x y dx dy d hK R rx ry e Q q
 unfold oI at e
 split at e
 .rename_i i j
  rw[if_pos (show Hi i j=true from rfl)] at e;cases e;cases rx;cases ry
  exact⟨i,j,rfl,rfl,q _ H (Same.refl H) (.bl _)⟩
 .cases e
def Gj:=oI Hi fun i j=>.int (i-j)
def NP(i j:Int):Bool:=(decide (-(2^64)<i)&&decide (i<2^64))||(decide (-(2^64)<j)&&decide (j<2^64))
def Ve(_ j:Int):Bool:=decide (0<j)&&decide (j<2^64)
def Vd(_ j:Int):Bool:=decide (0<j)
def NK(i j:Int):Bool:=decide (0<=j)&&decide (j<=1000000)&&decide (i.natAbs<2^64)
def oDiv:=oI Ve fun i j=>.int (i/j)
def oMod:=oI Vd fun i j=>.int (i%j)
def Hw:=oI NK fun i j=>.int (i^j.toNat)
def oLt:=oI Hi fun i j=>.bl (decide (i<j))
def oLe:=oI Hi fun i j=>.bl (decide (i<=j))
def oGt:=oI Hi fun i j=>.bl (decide (j<i))
def oGe:=oI Hi fun i j=>.bl (decide (j<=i))
theorem Im{K:U0a}:GQ K (rI0 fun i j=>.int (i-j)) Gj:=uz _
theorem ao{K:U0a}:GQ K (rI (fun _ j=>0<j/\j<2^64) fun i j=>.int (i/j)) oDiv:=cT _ fun i j h=>by simpa [Ve] using h
theorem Mt{K:U0a}:GQ K (rI (fun _ j=>0<j) fun i j=>.int (i%j)) oMod:=cT _ fun i j h=>by simpa [Vd] using h
theorem Ms{K:U0a}:GQ K (rI jY fun i j=>.int (i^j.toNat)) Hw:=cT _ fun i j h=>by simpa [NK,jY,and_assoc] using h
theorem Xi{K:U0a}:GQ K (rI0 fun i j=>.bl (decide (i<j))) oLt:=Uq _
theorem uy{K:U0a}:GQ K (rI0 fun i j=>.bl (decide (i<=j))) oLe:=Uq _
theorem Nf{K:U0a}:GQ K (rI0 fun i j=>.bl (decide (j<i))) oGt:=Uq _
theorem Xj{K:U0a}:GQ K (rI0 fun i j=>.bl (decide (j<=i))) oGe:=Uq _
def Fi(_:Store):D->Option D
 |.int i=>some (.int (-i))
 |_=>none
theorem KJ{K:U0a}:uZ K (rU fun i=>.int (-i)) Fi:=by
 intro Γ μ σ H env S x dx d hK R rx e Q q
 unfold Fi at e
 split at e
 .cases e;cases rx;exact⟨_,rfl,q _ H (Same.refl H) (.int _)⟩
 .cases e
def Bx(S:Store):D->D->Option D
 |.int i,.int j=>some (.int (i+j))
 |.tup a,.tup b=>if a.length+b.length<=1000000 then some (.tup (a++b)) else none
 |.str x,.str y=>if x.length+y.length<=1000000 then some (.str (x++y)) else none
 |x,y=>(listOf S x).bind fun a=>(listOf S y).bind fun b=>if a.length+b.length<=1000000 then some (.lst true (a++b)) else none
def oJ:R2:=fun x y H Q=>∃(a b:Addr)(xs ys:List V),x=.ref a/\y=.ref b/\H a=some (.tup xs)/\H b=some (.tup ys)/\xs.length+ys.length<=sizeLine/\∀p H',Same H H'->H' p=some (.tup (xs++ys))->Q (.ref p) H'
def yW:R2:=fun x y H Q=>∃i j,x=.str i/\y=.str j/\i.length+j.length<=sizeLine/\Q (.str (i++j)) H
def oK:R2:=fun x y H Q=>(rI0 fun i j=>.int (i+j)) x y H Q∨oJ x y H Q∨yW x y H Q∨uR x y H Q
theorem Dm{X:Cx}:OpR X (binaryOp .Add) oK:=OpR.or vh (OpR.or qY (OpR.or dG vg))
theorem Dl{K:U0a}:GQ K oK Bx:=by
 intro Γ μ σ H env S x y dx dy d hK R rx ry e Q q
 unfold Bx at e
 split at e
 .cases e;cases rx;cases ry;exact .inl ⟨_,_,rfl,rfl,q _ H (Same.refl H) (.int _)⟩
 .rename_i a b
  by_cases h:a.length+b.length<=1000000
  .rw[if_pos h] at e;cases e
   cases rx with
   |@tup p xs _ hp rp =>
    cases ry with
    |@tup p2 ys _ hp2 rp2 =>
     refine .inr (.inl ⟨p,p2,xs,ys,rfl,rfl,hp,hp2,by rw[rp.length,rp2.length];exact U2i (big h),fun t H' sm ht=>?_⟩)
     obtain⟨R2,x2⟩:=R.grow sm
     exact q _ H' sm (.tup ht ((rp.append rp2).ext x2))
  .rw[if_neg h] at e;cases e
 .rename_i a b
  by_cases h:a.length+b.length<=1000000
  .rw[if_pos h] at e;cases e;cases rx;cases ry
   exact .inr (.inr (.inl ⟨_,_,rfl,rfl,U2i (big h),q _ H (Same.refl H) (.str _)⟩))
  .rw[if_neg h] at e;cases e
 .obtain⟨a,e1,e⟩:=bind_some e
  obtain⟨b,e2,e⟩:=bind_some e
  by_cases h:a.length+b.length<=1000000
  .rw[if_pos h] at e;cases e
   obtain⟨p,xs,rfl,hp,rp⟩:=VR.list R rx e1
   obtain⟨p2,ys,rfl,hp2,rp2⟩:=VR.list R ry e2
   refine .inr (.inr (.inr ⟨p,p2,xs,ys,rfl,rfl,hp,hp2,by rw[rp.length,rp2.length];exact U2i (big h),fun t ht=>?_⟩))
   obtain⟨R2,x2⟩:=R.grow (Dg ht (.lst (xs++ys)))
   exact q _ _ (Dg ht _) (.lst (R.ok ht true) (R.dead ht) CK ((rp.append rp2).ext x2))
  .rw[if_neg h] at e;cases e
def Hy(S:Store):D->D->Option D
 |.int i,.int j=>if NP i j=true then some (.int (i*j)) else none
 |.tup a,.int k=>if a≠[]/\1<=k/\k<2^60/\a.length*k.toNat<=1000000 then some (.tup (U0h k.toNat a).flatten) else none
 |x,.int k=>(listOf S x).bind fun a=>if -(2^63)<=k/\k<2^63/\a.length*k.toNat<=1000000 then some (.lst true (U0h k.toNat a).flatten) else none
 |_,_=>none
def oH:R2:=fun x y H Q=>(rI Xg fun i j=>.int (i*j)) x y H Q∨oG x y H Q∨uL x y H Q
theorem JZ{X:Cx}:OpR X (binaryOp .Mult) oH:=OpR.or vd (OpR.or qW fJ)
theorem JV{K:U0a}:GQ K oH Hy:=by
 intro Γ μ σ H env S x y dx dy d hK R rx ry e Q q
 unfold Hy at e
 split at e
 .rename_i i j
  by_cases h:NP i j=true
  .rw[if_pos h] at e;cases e;cases rx;cases ry
   exact .inl ⟨_,_,rfl,rfl,by simpa [NP,Xg] using h,q _ H (Same.refl H) (.int _)⟩
  .rw[if_neg h] at e;cases e
 .rename_i a k
  by_cases h:a≠[]/\1<=k/\k<2^60/\a.length*k.toNat<=1000000
  .rw[if_pos h] at e;cases e
   cases ry
   cases rx with
   |@tup p xs _ hp rp =>
    have hl:=rp.length
    refine .inr (.inl ⟨p,k,xs,rfl,rfl,hp,fun z=>h.1 (U3r.mp (by rw[←hl,z];rfl)),h.2.1,h.2.2.1,by rw[hl];exact U2i (big h.2.2.2),fun t H' sm ht=>?_⟩)
    obtain⟨R2,x2⟩:=R.grow sm
    exact q _ H' sm (.tup ht ((rp.rep _).ext x2))
  .rw[if_neg h] at e;cases e
 .rename_i k _ _
  obtain⟨a,e1,e⟩:=bind_some e
  by_cases h:-(2^63)<=k/\k<2^63/\a.length*k.toNat<=1000000
  .rw[if_pos h] at e;cases e
   cases ry
   obtain⟨p,xs,rfl,hp,rp⟩:=VR.list R rx e1
   refine .inr (.inr ⟨p,k,xs,rfl,rfl,hp,h.1,h.2.1,by rw[rp.length];exact U2i (big h.2.2),fun t ht=>?_⟩)
   obtain⟨R2,x2⟩:=R.grow (Dg ht (.lst (U0h k.toNat xs).flatten))
   exact q _ _ (Dg ht _) (.lst (R.ok ht true) (R.dead ht) CK ((rp.rep _).ext x2))
  .rw[if_neg h] at e;cases e
 .cases e
def oIx(S:Store):D->D->Option D
 |x,.int i=>(Cu S x).bind fun ds=>atI ds i
 |_,_=>none
theorem sV{Γ:Fr}{μ:Mu}{H:Hp}{xs:List V}{ds:List D}{i:Int}{d:D}(r:VRs Γ μ H xs ds)(h:atI ds i=some d):∃x,atI xs i=some x/\VR Γ μ H x d:=by
 unfold atI at h ⊢
 obtain⟨j,e1,e2⟩:=bind_some h
 obtain⟨x,f1,f2⟩:=r.get e2
 exact⟨x,by rw[r.length,e1];exact f1,f2⟩
theorem BX{K:U0a}:GQ K (rIx K) oIx:=by
 intro Γ μ σ H env S x y dx dy d hK R rx ry e Q q
 unfold oIx at e
 split at e
 .rename_i i
  obtain⟨ds,e1,e⟩:=bind_some e
  cases ry
  obtain⟨a,xs,rfl,hq,rs⟩:=VR.seq hK R rx e1
  obtain⟨v,f1,f2⟩:=sV rs e
  rcases hq with hq|hq
  .exact .inl ⟨a,xs,i,v,rfl,rfl,hq,f1,q _ H (Same.refl H) f2⟩
  .exact .inr (.inl ⟨a,xs,i,v,rfl,rfl,hq,f1,q _ H (Same.refl H) f2⟩)
 .cases e
def cut(xs:List D)(lo hi:Option Int):List D:=(xs.drop (HT.sIx xs.length 0 lo)).take (HT.sIx xs.length xs.length hi-HT.sIx xs.length 0 lo)
def oSl(S:Store)(x:D)(lo hi:Option Int):Option D:=match x with
 |.tup ds=>some (.tup (cut ds lo hi))
 |x=>(Cu S x).map fun ds=>.lst true (cut ds lo hi)
def uJ:V->Option Int->Option Int->Hp->VK->Prop:=fun x lo hi H Q=>∃(a:Addr)(xs:List V),x=.ref a/\H a=some (.tup xs)/\∀p H',Same H H'->H' p=some (.tup (KY xs lo hi))->Q (.ref p) H'
def uK(K:U0a):V->Option Int->Option Int->Hp->VK->Prop:=fun x lo hi H Q=>uJ x lo hi H Q∨uI K x lo hi H Q
theorem NT{X:Cx}:SlR X (uK X.K):=SlR.or pL pN
theorem NZ{K:U0a}:oV K (uK K) oSl:=by
 intro Γ μ σ H env S x dx d l h hK R rx e Q q
 have key:∀{xs:List V} {ds:List D} {H':Hp},VRs Γ μ H' xs ds->VRs Γ μ H' (KY xs l h) (cut ds l h):=fun r=>by
  unfold KY cut
  rw[r.length]
  exact(r.drop _).take _
 unfold oSl at e
 split at e
 .cases e
  cases rx with
  |@tup p xs _ hp rp =>
   refine .inl ⟨p,xs,rfl,hp,fun t H' sm ht=>?_⟩
   obtain⟨R2,x2⟩:=R.grow sm
   exact q _ H' sm (.tup ht (key (rp.ext x2)))
 .rename_i ht
  obtain⟨ds,e1,e2⟩:=map_some e
  subst e2
  rcases VR.cC hK R rx e1 with ⟨es,z⟩|⟨a,xs,rfl,hq,rs⟩
  .exact absurd z (ht es)
  .refine .inr ⟨a,xs,rfl,hq,fun t htt=>?_⟩
   obtain⟨R2,x2⟩:=R.grow (Dg htt (.lst (KY xs l h)))
   exact q _ _ (Dg htt _) (.lst (R.ok htt true) (R.dead htt) CK (key (rs.ext x2)))
def Ed(S:Store):List D->Option D
 |[x]=>(Cu S x).map fun ds=>.int ds.length
 |_=>none
theorem HD{K:U0a}:Lz K (Jaa K) Ed:=by
 intro Γ μ σ H env S xs ds d hK R rs e Q q
 unfold Ed at e
 split at e
 .obtain⟨es,e1,e2⟩:=map_some e
  subst e2
  obtain⟨v,rfl,r⟩:=rs.one
  obtain⟨a,xs,rfl,hq,rx⟩:=VR.seq hK R r e1
  refine⟨a,xs,rfl,hq,?_⟩
  rw[rx.length]
  exact q _ H (Same.refl H) (.int _)
 .cases e
def cM(S:Store):List D->Option D
 |[x]=>(Cu S x).map fun ds=>.tup ds
 |_=>none
theorem gO{K:U0a}:Lz K (lC K) cM:=by
 intro Γ μ σ H env S xs ds d hK R rs e Q q
 unfold cM at e
 split at e
 .rename_i x
  obtain⟨es,e1,e2⟩:=map_some e
  subst e2
  obtain⟨v,rfl,r⟩:=rs.one
  rcases VR.cC hK R r e1 with ⟨fs,rfl⟩|⟨a,xs,rfl,hq,rx⟩
  .cases r with
   |@tup p xs _ hp rp=>cases e1;exact⟨p,xs,rfl,.inr ⟨SqT.of hp,q _ H (Same.refl H) (.tup hp rp)⟩⟩
  .refine⟨a,xs,rfl,.inl ⟨hq,fun l hl=>?_⟩⟩
   obtain⟨R2,x2⟩:=R.grow (Dg hl (.tup xs))
   exact q _ _ (Dg hl _) (.tup CK (rx.ext x2))
 .cases e
def NQ(S:Store):List D->Option D
 |[x]=>(listOf S x).bind fun ds=>(boolsOf ds).map fun bs=>.bl (bs.all id)
 |_=>none
where boolsOf:List D->Option (List Bool)
 |[]=>some []
 |.bl b::r=>(boolsOf r).map (b::·)
 |_=>none
@[simp] theorem aJ(bs:List Bool):NQ.boolsOf (bs.map D.bl)=some bs:=by
 induction bs with
 |nil=>rfl
 |cons b r ih=>rw[U0j,NQ.boolsOf,ih];rfl
theorem T7{Γ:Fr}{μ:Mu}{H:Hp}:∀{xs:List V} {ds:List D} {bs:List Bool},VRs Γ μ H xs ds->NQ.boolsOf ds=some bs->xs=bs.map V.bl
 |_,[],_,.nil,h=>by cases h;rfl
 |_,.bl b::r,bs,.cons q t,h=>by
  rw[NQ.boolsOf] at h
  obtain⟨cs,e1,e2⟩:=map_some h
  subst e2
  cases q
  rw[U0j,T7 t e1]
 |_,.non::_,_,_,h=>by cases h
 |_,.int _::_,_,_,h=>by cases h
 |_,.str _::_,_,_,h=>by cases h
 |_,.ty _::_,_,_,h=>by cases h
 |_,.tup _::_,_,_,h=>by cases h
 |_,.lst _ _::_,_,_,h=>by cases h
 |_,.ref _::_,_,_,h=>by cases h
 |_,.scr _::_,_,_,h=>by cases h
 |_,.emp::_,_,_,h=>by cases h
def Jad(K:U0a):List V->Hp->VK->Prop:=fun xs H Q=>∃(p:Addr)(bs:List Bool),xs=[.ref p]/\SqL K H p (bs.map V.bl)/\Q (.bl (bs.all id)) H
theorem aq{K:U0a}:Lz K (Jad K) NQ:=by
 intro Γ μ σ H env S xs ds d hK R rs e Q q
 unfold NQ at e
 split at e
 .obtain⟨es,e1,e⟩:=bind_some e
  obtain⟨bs,e2,e3⟩:=map_some e
  subst e3
  obtain⟨v,rfl,r⟩:=rs.one
  obtain⟨a,xs,rfl,ha,rx⟩:=VR.list R r e1
  have:=T7 rx e2
  subst this
  exact⟨a,bs,rfl,SqL.of ha,q _ H (Same.refl H) (.bl _)⟩
 .cases e
def XR(_:Store):List D->Option D
 |[.int i,.int j]=>some (.int (if j>i then j else i))
 |_=>none
def XQ(_:Store):List D->Option D
 |[.int i,.int j]=>some (.int (if j<i then j else i))
 |_=>none
def Pn(_:Store):List D->Option D
 |[.int i]=>some (.int i)
 |[.bl k]=>some (.int (if k then 1 else 0))
 |_=>none
theorem kE{K:U0a}:Lz K (fun xs H Q=>∃i j,xs=[.int i,.int j]/\Q (.int (if j>i then j else i)) H) XR:=by
 intro Γ μ σ H env S xs ds d hK R rs e Q q
 unfold XR at e
 split at e
 .cases e
  obtain⟨v,u,rfl,r1,r2⟩:=rs.two
  cases r1;cases r2
  exact⟨_,_,rfl,q _ H (Same.refl H) (.int _)⟩
 .cases e
theorem jz{K:U0a}:Lz K (fun xs H Q=>∃i j,xs=[.int i,.int j]/\Q (.int (if j<i then j else i)) H) XQ:=by
 intro Γ μ σ H env S xs ds d hK R rs e Q q
 unfold XQ at e
 split at e
 .cases e
  obtain⟨v,u,rfl,r1,r2⟩:=rs.two
  cases r1;cases r2
  exact⟨_,_,rfl,q _ H (Same.refl H) (.int _)⟩
 .cases e
theorem ak{K:U0a}:Lz K (fun xs H Q=>(∃i,xs=[.int i]/\Q (.int i) H)∨∃k,xs=[.bl k]/\Q (.int (if k then 1 else 0)) H) Pn:=by
 intro Γ μ σ H env S xs ds d hK R rs e Q q
 unfold Pn at e
 split at e
 .cases e
  obtain⟨v,rfl,r1⟩:=rs.one
  cases r1
  exact .inl ⟨_,rfl,q _ H (Same.refl H) (.int _)⟩
 .cases e
  obtain⟨v,rfl,r1⟩:=rs.one
  cases r1
  exact .inr ⟨_,rfl,q _ H (Same.refl H) (.int _)⟩
 .cases e
def Lx:List Int->Option Int
 |[]=>none
 |n::r=>some (r.foldl (fun a b=>if a<b then b else a) n)
theorem rY(r:List Int):∀n:Int,(r.foldl (fun a b=>if a<b then b else a) n=n∨r.foldl (fun a b=>if a<b then b else a) n∈r)/\n<=r.foldl (fun a b=>if a<b then b else a) n/\∀m∈r,m<=r.foldl (fun a b=>if a<b then b else a) n:=by
 induction r with
 |nil=>intro n;exact⟨.inl rfl,U5q _,fun m h=>by simp at h⟩
 |cons x r ih =>
  intro n
  rw[U16]
  by_cases h:n<x
  .rw[if_pos h]
   obtain⟨h1,h2,h3⟩:=ih x
   refine⟨.inr (by rcases h1 with z|z;(rw[z];exact U0l);exact U0p _ z),by omega,fun m hm=>?_⟩
   rcases U0t.mp hm with z|z
   .rw[z];exact h2
   .exact h3 m z
  .rw[if_neg h]
   obtain⟨h1,h2,h3⟩:=ih n
   refine⟨by rcases h1 with z|z;exact .inl z;exact .inr (U0p _ z),h2,fun m hm=>?_⟩
   rcases U0t.mp hm with z|z
   .rw[z];omega
   .exact h3 m z
theorem bG{ns:List Int}{m:Int}(h:Lx ns=some m):m∈ns/\∀n∈ns,n<=m:=by
 cases ns with
 |nil=>cases h
 |cons x r =>
  cases h
  obtain⟨h1,h2,h3⟩:=rY r x
  refine⟨by rcases h1 with z|z;(rw[z];exact U0l);exact U0p _ z,fun n hn=>?_⟩
  rcases U0t.mp hn with z|z
  .rw[z];exact h2
  .exact h3 n z
def jV(K:U0a)(r:List V->Hp->VK->Prop)(g:Store->List D->Option (List D)):Prop:=∀(Γ:Fr)(μ:Mu)(σ:St)(H:Hp)(env:Env)(S:Store)(xs:List V)(ds es:List D),Γ.K=K->Rep Γ μ σ H env S->VRs Γ μ H xs ds->g S ds=some es ->
 ∀Q:VK,(∀l ys,H l=none->VRs Γ μ H ys es->Q (.ref l) (upd H l (.lst ys)))->r xs H Q
def Ui(g:Store->List D->Option (List D))(a:Bu):Az:=fun env S=>(a env S).bind fun p=>(g p.2 p.1).map fun es=>(.lst true es,p.2)
theorem p7{K:U0a}{r:List V->Hp->VK->Prop}{g:Store->List D->Option (List D)}{f:Bu}(hs:jV K r g){σ:St}{H:Hp}{Q:VK}(h:wpE K (Ui g f) σ H Q):tCB r (wpA K f) σ H Q:=by
 obtain⟨Γ,μ,env,S,d,S',hK,R,e,q⟩:=h
 obtain⟨⟨x,S1⟩,e1,e⟩:=bind_some e
 obtain⟨z,e4,e⟩:=map_some e
 cases e
 refine⟨Γ,μ,env,S,x,S1,hK,R,e1,fun v1 μ1 H1 x1 R1 r1=>?_⟩
 refine hs Γ μ1 σ H1 env S1 v1 x _ hK R1 r1 e4 Q fun l ys hl ry=>?_
 obtain⟨R4,x4⟩:=R1.grow (Dg hl (.lst ys))
 exact q _ μ1 _ (x1.trans x4) R4 (.lst (R1.ok hl true) (R1.dead hl) CK (ry.ext x4))
section
variable{X:Cx}{x:Str}{p pos:Pos}{e:Expr}{es:List Expr}{T:String}{f:Bu}{r:List V->Hp->VK->Prop}{g:Store->List D->Option (List D)}
theorem qy(hc:Dn X (.type T) r)(hsm:jV X.K r g)(hg:Gl X x)(hm:X.mg x=none)(hv:bootBuiltins x=some (.type T))(ha:JA X (e::es) f)(hn:x≠"__name__":=by decide)(hdb:(x==("__debug__":Str))=false:=by decide)
  (he:starEach (e::es) X.env=(false,eval e X.env)::starEach es X.env:=by rfl) (hpl:(backTo pos (starEach es X.env)).any (·.1)=false:=by rfl):JE X (.Call (.Name x p) (e::es) [] pos) (Ui g f) :=
 ⟨PE.imp (Lw hc hg hm hv ha.pa hn hdb he hpl) fun _ _ _ h=>p7 hsm h⟩
end
def nList(S:Store):List D->Option (List D)
 |[x]=>Cu S x
 |_=>none
theorem kI{K:U0a}:jV K (pX K) nList:=by
 intro Γ μ σ H env S xs ds es hK R rs e Q q
 unfold nList at e
 split at e
 .obtain⟨v,rfl,r⟩:=rs.one
  obtain⟨a,ys,rfl,hq,ry⟩:=VR.seq hK R r e
  exact⟨a,ys,rfl,hq,fun l hl=>q l ys hl ry⟩
 .cases e
end VS
end
section
namespace VS
open PySem PySem.Spec L2
mutual
def toP:D->Option PyData
 |.non=>some .none
 |.bl b=>some (.bool b)
 |.int i=>some (.int i)
 |.str x=>some (.str x)
 |.tup ds=>(GP ds).map .tuple
 |.lst _ ds=>(GP ds).map .list
 |.emp=>some (.dict [])
 |.ref _=>none
 |.scr _=>none
 |.ty _=>none
 |.dref _=>none
 |.dcf _=>none
 |.dcm _=>none
def GP:List D->Option (List PyData)
 |[]=>some []
 |d::r=>(toP d).bind fun x=>(GP r).bind fun xs=>some (x::xs)
end
mutual
theorem VR.tr{Γ:Fr}{μ:Mu}{H:Hp}:∀{v:V} {d:D} {p:PyData},VR Γ μ H v d->toP d=some p->Tr (fun _=>True) H v p
 |_,_,_,.non,h=>by rw[toP] at h;cases h;exact .non
 |_,_,_,.bl b,h=>by rw[toP] at h;cases h;exact .bl b
 |_,_,_,.int i,h=>by rw[toP] at h;cases h;exact .int i
 |_,_,_,.str x,h=>by rw[toP] at h;cases h;exact .str x
 |_,_,_,.ty _,h=>by rw[toP] at h;cases h
 |_,_,_,.tup hb t,h=>by
  rw[toP] at h
  obtain⟨ps,e1,e2⟩:=map_some h
  subst e2
  exact .tup trivial hb (VRs.tr t e1)
 |_,_,_,.lst _ _ hb t,h=>by
  rw[toP] at h
  obtain⟨ps,e1,e2⟩:=map_some h
  subst e2
  exact .lst trivial hb (VRs.tr t e1)
 |_,_,_,.ref _ _,h=>by rw[toP] at h;cases h
 |_,_,_,.scrK _,h=>by rw[toP] at h;cases h
 |_,_,_,.scrR _ _,h=>by rw[toP] at h;cases h
 |_,_,_,.emp _ _ hb,h=>by rw[toP] at h;cases h;exact .dct trivial hb
 |_,_,_,.dref _ _,h=>by rw[toP] at h;cases h
 |_,_,_,.dcf _ _ _,h=>by rw[toP] at h;cases h
theorem VRs.tr{Γ:Fr}{μ:Mu}{H:Hp}:∀{v:List V} {d:List D} {p:List PyData},VRs Γ μ H v d->GP d=some p->Kd (fun _=>True) H v p
 |_,_,_,.nil,h=>by rw[GP] at h;cases h;exact .nil
 |_,_,_,.cons r t,h=>by
  rw[GP] at h
  obtain⟨x,e1,h⟩:=bind_some h
  obtain⟨xs,e2,h⟩:=bind_some h
  cases h
  exact .cons (VR.tr r e1) (VRs.tr t e2)
end
def Ca(S:Store)(d:D):Option PyData:=(den 0 S d).bind toP
theorem VR.see{Γ:Fr}{μ:Mu}{σ:St}{H:Hp}{env:Env}{S:Store}{v:V}{d:D}{p:PyData}(R:Rep Γ μ σ H env S)(r:VR Γ μ H v d)(h:Ca S d=some p):Tr (fun _=>True) H v p:=by
 obtain⟨e,e1,e2⟩:=bind_some h
 have r1:VR ⟨Γ.K,fun _=>none,fun _=>True,[]⟩ [] H v e:=VR.den (Γ':=⟨Γ.K,fun _=>none,fun _=>True,[]⟩) R rfl (fun i ds a _ hs=>⟨hs,fun z=>⟨JD,⟨fun _=>rfl,.inl trivial⟩⟩⟩) (fun m a _ _=>⟨fun _=>rfl,.inl trivial⟩) (fun a o _ _=>JD) r e1
 exact r1.tr e2
def eqP(neg:Bool)(S:Store)(x y:D):Option D:=(Ca S x).bind fun p=>(Ca S y).bind fun q=>if (U2v p&&U2v q)=true then some (.bl (neg ^^ U7v p q)) else none
def oEq(neg:Bool)(S:Store):D->D->Option D
 |.int i,.int j=>some (.bl (neg ^^ decide (i=j)))
 |x,y=>eqP neg S x y
def Jac:R2:=fun x y H Q=>∃(N N':Addr->Prop)(d e:PyData),Tr N H x d/\Tr N' H y e/\U2v d=true/\U2v e=true/\Q (.bl (U7v d e)) H
def zy:R2:=fun x y H Q=>∃(N N':Addr->Prop)(d e:PyData),Tr N H x d/\Tr N' H y e/\U2v d=true/\U2v e=true/\Q (.bl (!PyData.eqv d e)) H
def uQ:R2:=fun x y H Q=>rEq x y H Q∨Jac x y H Q
def jM:R2:=fun x y H Q=>rNe x y H Q∨zy x y H Q
theorem Ju{X:Cx}{k:Nat}(hr:FT k X.A):OpR X (compareOp .Eq) uQ:=OpR.or yt (vf hr)
theorem Kg{X:Cx}{k:Nat}(hr:FT k X.A):OpR X (compareOp .NotEq) jM:=OpR.or yq (vZ hr)
theorem Js{K:U0a}:GQ K uQ (oEq false):=by
 intro Γ μ σ H env S x y dx dy d hK R rx ry e Q q
 unfold oEq at e
 split at e
 .rename_i i j
  cases e;cases rx;cases ry
  refine .inl ⟨rfl,?_⟩
  have:decide (V.int i=V.int j)=decide (i=j):=by simp
  rw[this]
  exact q _ H (Same.refl H) (by simpa using VR.bl (decide (i=j)))
 .unfold eqP at e
  obtain⟨p,e1,e⟩:=bind_some e
  obtain⟨p2,e2,e⟩:=bind_some e
  by_cases h:(U2v p&&U2v p2)=true
  .rw[if_pos h] at e
   cases e
   rw[U1b] at h
   exact .inr ⟨_,_,p,p2,rx.see R e1,ry.see R e2,h.1,h.2,q _ H (Same.refl H) (by simpa using VR.bl (U7v p p2))⟩
  .rw[if_neg h] at e;cases e
theorem Nb{K:U0a}:GQ K jM (oEq true):=by
 intro Γ μ σ H env S x y dx dy d hK R rx ry e Q q
 unfold oEq at e
 split at e
 .rename_i i j
  cases e;cases rx;cases ry
  refine .inl ⟨rfl,?_⟩
  have:decide (V.int i=V.int j)=decide (i=j):=by simp
  rw[this]
  exact q _ H (Same.refl H) (by simpa using VR.bl (!decide (i=j)))
 .unfold eqP at e
  obtain⟨p,e1,e⟩:=bind_some e
  obtain⟨p2,e2,e⟩:=bind_some e
  by_cases h:(U2v p&&U2v p2)=true
  .rw[if_pos h] at e
   cases e
   rw[U1b] at h
   exact .inr ⟨_,_,p,p2,rx.see R e1,ry.see R e2,h.1,h.2,q _ H (Same.refl H) (by simpa using VR.bl (!PyData.eqv p p2))⟩
  .rw[if_neg h] at e;cases e
def Xa(D:List (PyData×PyData))(_:Store):VS.D->Option VS.D
 |.int i=>some (.bl (lookup (.int i) D).isSome)
 |_=>none
def Ur(D:List (PyData×PyData))(_:Store):VS.D->Option VS.D
 |.int i=>match lookup (.int i) D with|some (.int j)=>some (.int j)|_=>none
 |_=>none
section
variable{X:Cx}{a:Expr}{fa:Az}{x:Str}{p pos:Pos}{dM:Addr}{D:List (PyData×PyData)}
theorem uh{K:U0a}{σ:St}{H:Hp}{Q:VK}(h:wpE K (eUn (Xa D) fa) σ H Q):tOp (fun x y H Q=>∃(i:Int),x=.int i/\y=.ref dM/\Q (.bl (lookup (.int i) D).isSome) H) (wpE K fa) (tC (.ref dM)) σ H Q:=by
 obtain⟨Γ,μ,env,S,d,S',hK,R,e,q⟩:=h
 obtain⟨⟨y,S1⟩,e1,e⟩:=bind_some e
 obtain⟨z,e3,e⟩:=map_some e
 cases e
 refine⟨Γ,μ,env,S,y,S1,hK,R,e1,fun v1 μ1 H1 x1 R1 r1=>?_⟩
 dsimp only at e3
 unfold Xa at e3
 split at e3
 .cases e3;cases r1;exact⟨_,rfl,rfl,q _ μ1 H1 x1 R1 (.bl _)⟩
 .cases e3
theorem mj(hT:∀h,X.K.In h->U5s X.prog X.w h dM D)(ha:JE X a fa)(hg:Gl X x)(hm:X.mg x=some (.ref dM))(hk:behindInMarks .In (.Name x p)=false:=by with_unfolding_all rfl)(hd:(x==("__debug__":Str))=false:=by decide):JE X (.Compare a [.In] [.Name x p] pos) (eUn (Xa D) fa) :=
 ⟨PE.imp (bF (lU hT) ha.pe (bD (v:=.ref dM) hg hm rfl hd) hk) fun _ _ _ h=>uh h⟩
theorem mZ(hT:∀h,X.K.In h->U5s X.prog X.w h dM D)(hb:JE X a fa)(hg:Gl X x)(hm:X.mg x=some (.ref dM))(hs:Ry a)(hd:(x==("__debug__":Str))=false:=by decide)
  (hgo:∀r,letTemporaryGo (.Name x p) (.ref dM) r=pure ():=by intro _;with_unfolding_all rfl):JE X (.Subscript (.Name x p) a pos) (eUn (Ur D) fa) :=
 ⟨PE.imp (lO hT (bD (v:=.ref dM) hg hm rfl hd) hb.pe hs hgo) fun σ H Q h=>by
  obtain⟨Γ,μ,env,S,d,S',hK,R,e,q⟩:=h
  obtain⟨⟨y,S1⟩,e1,e⟩:=bind_some e
  obtain⟨z,e3,e⟩:=map_some e
  cases e
  refine⟨Γ,μ,env,S,y,S1,hK,R,e1,fun v1 μ1 H1 x1 R1 r1=>?_⟩
  dsimp only at e3
  unfold Ur at e3
  split at e3
  .split at e3
   .rename_i hl
    cases e3;cases r1;exact⟨_,_,rfl,rfl,hl,q _ μ1 H1 x1 R1 (.int _)⟩
   .cases e3
  .cases e3⟩
end
def isT(T:String)(d:PyData):Bool:=match T with
 |"str"=>(match d with|.str _=>true|_=>false)
 |T=>Xc T d
theorem qu{K:U0a}(d:PyData):U3p K (.type (tyName d)) (.type "str")=some (isT "str" d):=by
 cases d with
 |none=>exact DN (a:="NoneType") (r:=false) (by decide +kernel)
 |bool _=>exact DN (a:="bool") (r:=false) (by decide +kernel)
 |int _=>exact DN (a:="int") (r:=false) (by decide +kernel)
 |str _=>exact DN (a:="str") (r:=true) (by decide +kernel)
 |list _=>exact DN (a:="list") (r:=false) (by decide +kernel)
 |tuple _=>exact DN (a:="tuple") (r:=false) (by decide +kernel)
 |dict _=>exact DN (a:="dict") (r:=false) (by decide +kernel)
def KZ(S:Store):List D->Option D
 |[x,.ty "int"]=>(Ca S x).map fun p=>.bl (isT "int" p)
 |[x,.ty "bool"]=>(Ca S x).map fun p=>.bl (isT "bool" p)
 |[x,.ty "tuple"]=>(Ca S x).map fun p=>.bl (isT "tuple" p)
 |[x,.ty "list"]=>(Ca S x).map fun p=>.bl (isT "list" p)
 |[x,.ty "str"]=>(Ca S x).map fun p=>.bl (isT "str" p)
 |[x,.tup [.ty "tuple",.ty "list"]]=>(Ca S x).bind fun p=>if noDict p=true then some (.bl (isSeq p)) else none
 |_=>none
def Jab(K:U0a):List V->Hp->VK->Prop:=fun xs H Q=>∃(x:V)(T:String)(t:Value)(b:Bool),xs=[x,.ty T]/\K9 K H x t/\U3p K t (.type T)=some b/\Q (.bl b) H
def yU:List V->Hp->VK->Prop:=fun xs H Q=>∃(N:Addr->Prop)(x:V)(d:PyData)(p:Addr),xs=[x,.ref p]/\H p=some (.tup [.ty "tuple",.ty "list"])/\Tr N H x d/\noDict d=true/\Q (.bl (isSeq d)) H
def cU(K:U0a):List V->Hp->VK->Prop:=fun xs H Q=>Jab K xs H Q∨yU xs H Q
theorem Lh{X:Cx}:Dn X (.builtin "isinstance") (cU X.K):=Dn.or aG XD
theorem Mv{K:U0a}:Lz K (cU K) KZ:=by
 intro Γ μ σ H env S xs ds d hK R rs e Q q
 have go:∀(T:String)(x:D),(∀p:PyData,U3p K (.type (tyName p)) (.type T)=some (isT T p))->ds=[x,.ty T]->((Ca S x).map fun p=>D.bl (isT T p))=some d->cU K xs H Q:=fun T x hk hd e'=>by
  subst hd
  obtain⟨p,e1,e2⟩:=map_some e'
  subst e2
  obtain⟨v,u,rfl,r1,r2⟩:=rs.two
  cases r2
  exact .inl ⟨v,T,_,_,rfl,(r1.see R e1).ty,hk p,q _ H (Same.refl H) (.bl _)⟩
 unfold KZ at e
 split at e
 .exact go "int" _ qw rfl e
 .exact go "bool" _ mV rfl e
 .exact go "tuple" _ kit_tuple rfl e
 .exact go "list" _ mU rfl e
 .exact go "str" _ qu rfl e
 .obtain⟨p,e1,e⟩:=bind_some e
  by_cases h:noDict p=true
  .rw[if_pos h] at e
   cases e
   obtain⟨v,u,rfl,r1,r2⟩:=rs.two
   cases r2 with
   |@tup a ys _ ha ry =>
    cases ry with
    |cons q1 t1 =>
     cases t1 with
     |cons q2 t2 =>
      cases t2;cases q1;cases q2
      exact .inr ⟨_,v,p,a,rfl,ha,r1.see R e1,h,q _ H (Same.refl H) (.bl _)⟩
  .rw[if_neg h] at e;cases e
 .cases e
def Fj(S:Store):List D->Option D
 |[x]=>(Ca S x).bind fun p=>if (p.showable&&decide (p.depth<=60)&&decide (p.shown.length<=1000000))=true then some (.str p.shown) else none
 |_=>none
def yS:List V->Hp->VK->Prop:=fun xs H Q=>∃(N:Addr->Prop)(v:V)(d:PyData),xs=[v]/\Tr N H v d/\d.showable=true/\d.depth<=60/\d.shown.length<=sizeLine/\Q (.str d.shown) H
theorem Q0{K:U0a}:Lz K yS Fj:=by
 intro Γ μ σ H env S xs ds d hK R rs e Q q
 unfold Fj at e
 split at e
 .obtain⟨p,e1,e⟩:=bind_some e
  by_cases h:(p.showable&&decide (p.depth<=60)&&decide (p.shown.length<=1000000))=true
  .rw[if_pos h] at e
   cases e
   simp only[U1b,decide_eq_true_eq] at h
   obtain⟨v,rfl,r1⟩:=rs.one
   exact⟨_,v,p,rfl,r1.see R e1,h.1.1,h.1.2,U2i (big h.2),q _ H (Same.refl H) (.str _)⟩
  .rw[if_neg h] at e;cases e
 .cases e
def G9(ns:List Int):List Int:=(SetP.once ns).mergeSort fun a b=>decide (a<=b)
theorem Uy{ns ms:List Int}(h:ms.Perm (SetP.once ns))(s:ms.Pairwise (·<=·)):ms=G9 ns:=by
 have h2:(G9 ns).Perm (SetP.once ns):=U3d _ _
 have s2:(G9 ns).Pairwise (·<=·):=by
  have:=U44 (le:=fun a b:Int=>decide (a<=b)) (by intro a b c h1 h2;simp at *;omega) (by intro a b;simp;omega) (SetP.once ns)
  exact this.imp fun h=>by simpa using h
 exact U4s.eq_of_pairwise (fun a b _ _ h1 h2=>U7l h1 h2) s s2 (h.trans h2.symm)
def Tw(a:Az):Az:=fun env S=>(a env S).bind fun p=>(listOf p.2 p.1).bind fun ds=>(intsOf ds).bind fun ns=>if ns.length<1000/\(SetP.once ns).length<64 then some (.lst true ((G9 ns).map .int),p.2) else none
theorem dg{X:Cx}{a:Expr}{f:Az}{p p2 pos pos2:Pos}(hc:X.calm=true)(ha:JE X a f)(hg:Gl X "sorted")(hm:X.mg "sorted"=none)(hg2:Gl X "set")(hm2:X.mg "set"=none) 
  (he:starEach [a] X.env=[(false,eval a X.env)]:=by rfl) (he2:starEach [.Call (.Name "set" p2) [a] [] pos2] X.env=[(false,eval (.Call (.Name "set" p2) [a] [] pos2) X.env)]:=by rfl):JE X (.Call (.Name "sorted" p) [.Call (.Name "set" p2) [a] [] pos2] [] pos) (Tw f) :=
 ⟨PE.imp (Tg (W4 hc) hg hm Wo (Mw (Lw (nW hc) hg2 hm2 wz (Mw ha.pe PB he) (he:=he) (hpl:=rfl)) PB he2) (he:=he2) (hpl:=rfl)) fun σ H Q h=>by
  obtain⟨Γ,μ,env,S,d,S',hK,R,e,q⟩:=h
  obtain⟨⟨y,S1⟩,e1,e⟩:=bind_some e
  obtain⟨ds,e2,e⟩:=bind_some e
  obtain⟨ns,e3,e⟩:=bind_some e
  by_cases hl:ns.length<1000/\(SetP.once ns).length<64
  .rw[if_pos hl] at e
   cases e
   refine⟨Γ,μ,env,S,y,_,hK,R,e1,fun v1 μ1 H1 x1 R1 r1=>?_⟩
   obtain⟨b,xs,rfl,hb,rb⟩:=VR.list R1 r1 e2
   have:=J5 e3
   subst this
   have:=rb.Rh
   subst this
   refine⟨b,ns,rfl,SqL.of hb,hl.1,fun s hs=>?_⟩
   obtain⟨R2,x2⟩:=R1.grow (Dg hs (XS X.prog X.w s (SetP.once ns)))
   refine⟨s,_,rfl,CK,hl.2,fun l ms hl' hp hsrt=>?_⟩
   have:=Uy hp hsrt
   subst this
   obtain⟨R3,x3⟩:=R2.grow (Dg hl' (.lst ((G9 ns).map V.int)))
   exact q _ μ1 _ (x1.trans (x2.trans x3)) R3 (.lst (R2.ok hl' true) (R2.dead hl') CK (VRs.ints _))
  .rw[if_neg hl] at e;cases e⟩
def GF(a:Bu):Az:=fun env S=>(a env S).bind fun p=>match p.1 with
 |[.int j]=>if r62 j/\j.toNat<=1000 then some (.lst true (upD 0 j.toNat),p.2) else none
 |[.int i,.int j]=>if r62 i/\r62 j/\(j-i).toNat<=1000 then some (.lst true (upD i (j-i).toNat),p.2) else none
 |_=>none
theorem pF{Γ:Fr}{μ:Mu}{H:Hp}(lo:Int)(n:Nat):VRs Γ μ H ((upTo lo n).map V.int) (upD lo n):=by
 have:upD lo n=(upTo lo n).map D.int:=by unfold upD L2.upTo;rw[U0e];rfl
 rw[this];exact VRs.ints _
def YT:List V->Hp->VK->Prop:=fun xs H Q=>(∃(n:Int),xs=[.int n]/\∀p,H p=none->Q (.ref p) (upd H p (.rng 0 n)))∨∃(a b:Int),xs=[.int a,.int b]/\∀p,H p=none->Q (.ref p) (upd H p (.rng a b))
theorem ZX{X:Cx}:Dn X (.type "range") YT:=Dn.or aF aD
theorem Yz{K:U0a}{f:Bu}{σ:St}{H:Hp}{Q:VK} (h:∃Γ μ env S ds S',Γ.K=K/\Rep Γ μ σ H env S/\f env S=some (ds,S')/\∃lo n,((∃j,ds=[.int j]/\r62 j/\j.toNat<=1000/\lo=0/\n=j.toNat)∨∃i j,ds=[.int i,.int j]/\r62 i/\r62 j/\(j-i).toNat<=1000/\lo=i/\n=(j-i).toNat) /\
   ∀μ' H',Ext μ H μ' H'->Rep Γ μ' σ H' env S'->∀l,H' l=none->Q (.ref l) (upd H' l (.lst ((upTo lo n).map V.int)))) :
  tCB (fun xs H Q=>∃(r:Addr)(lo hi:Int),xs=[.ref r]/\H r=some (.rng lo hi)/\-(2^62)<=lo/\lo<2^62/\-(2^62)<=hi/\hi<2^62/\(hi-lo).toNat<=1000/\∀l,H l=none->Q (.ref l) (upd H l (.lst ((upTo lo (hi-lo).toNat).map V.int)))) (oA (tCB YT (wpA K f)) u9) σ H Q:=by
 obtain⟨Γ,μ,env,S,ds,S',hK,R,e1,lo,n,hc,q⟩:=h
 refine⟨Γ,μ,env,S,ds,S',hK,R,e1,fun vs μ1 H1 x1 R1 r1=>?_⟩
 rcases hc with ⟨j,rfl,h1,h2,rfl,rfl⟩|⟨i,j,rfl,h1,h2,h3,rfl,rfl⟩
 .obtain⟨v,rfl,r⟩:=r1.one
  cases r
  refine .inl ⟨j,rfl,fun p hp=>⟨p,0,j,rfl,CK,by decide,by decide,h1.1,h1.2,by simpa using h2,fun l hl=>?_⟩⟩
  obtain⟨R2,x2⟩:=R1.grow (Dg hp (.rng 0 j))
  have:=q μ1 _ (x1.trans x2) R2 l hl
  simpa using this
 .obtain⟨v,u,rfl,r,r'⟩:=r1.two
  cases r
  cases r'
  refine .inr ⟨lo,j,rfl,fun p hp=>⟨p,lo,j,rfl,CK,h1.1,h1.2,h2.1,h2.2,h3,fun l hl=>?_⟩⟩
  obtain⟨R2,x2⟩:=R1.grow (Dg hp (.rng lo j))
  exact q μ1 _ (x1.trans x2) R2 l hl
section
variable{X:Cx}{a:Expr}{as:List Expr}{f:Bu}{p p2 pos pos2:Pos}
theorem RZ(hc:X.calm=true)(ha:JA X (a::as) f)(hg:Gl X "list")(hm:X.mg "list"=none)(hg2:Gl X "range")(hm2:X.mg "range"=none)
  (he:starEach (a::as) X.env=(false,eval a X.env)::starEach as X.env:=by rfl) (hpl:(backTo pos2 (starEach as X.env)).any (·.1)=false:=by rfl) (he2:starEach [.Call (.Name "range" p2) (a::as) [] pos2] X.env=[(false,eval (.Call (.Name "range" p2) (a::as) [] pos2) X.env)]:=by rfl) :
  JE X (.Call (.Name "list" p) [.Call (.Name "range" p2) (a::as) [] pos2] [] pos) (GF f) :=
 ⟨PE.imp (Lw (W5 hc) hg hm Vu (Mw (Lw ZX hg2 hm2 nZ ha.pa (he:=he) (hpl:=hpl)) PB he2) (he:=he2) (hpl:=rfl)) fun σ H Q h=>by
  obtain⟨Γ,μ,env,S,d,S',hK,R,e,q⟩:=h
  obtain⟨⟨ds,S1⟩,e1,e⟩:=bind_some e
  refine Yz ⟨Γ,μ,env,S,ds,S1,hK,R,e1,?_⟩
  have fin:∀lo n,d=.lst true (upD lo n)->S1=S'->∀μ' H',Ext μ H μ' H'->Rep Γ μ' σ H' env S1->∀l,H' l=none->Q (.ref l) (upd H' l (.lst ((upTo lo n).map V.int))):=fun lo n hd hs μ' H' x' R' l hl=>by
   subst hd hs
   obtain⟨R2,x2⟩:=R'.grow (Dg hl (.lst ((upTo lo n).map V.int)))
   exact q _ μ' _ (x'.trans x2) R2 (.lst (R'.ok hl true) (R'.dead hl) CK (pF lo n))
  dsimp only at e
  split at e
  .rename_i j
   by_cases hj:r62 j/\j.toNat<=1000
   .rw[if_pos hj] at e;cases e
    exact⟨0,_,.inl ⟨j,rfl,hj.1,hj.2,rfl,rfl⟩,fin _ _ rfl rfl⟩
   .rw[if_neg hj] at e;cases e
  .rename_i i j
   by_cases hj:r62 i/\r62 j/\(j-i).toNat<=1000
   .rw[if_pos hj] at e;cases e
    exact⟨i,_,.inr ⟨i,j,rfl,hj.1,hj.2.1,hj.2.2,rfl,rfl⟩,fin _ _ rfl rfl⟩
   .rw[if_neg hj] at e;cases e
  .cases e⟩
end
end VS
end
section
namespace VS
open PySem PySem.Spec L2
def Uo(K:U0a):Sp:=fun vs H Q _=>∃(l:Addr)(ns:List Int),vs=[.ref l]/\Only H/\ns.length<=63/\SqL K H l (ns.map V.int)/\∀H',Q (.bl true) H'
theorem wH{K:U0a}{sem:DQ}(h:∀ns:List Int,ns.length<=63->sem [.scr ns]=some (.bl true)):∀vs H Q E,Uo K vs H Q E->spP K sem 1 vs H Q E:=by
 intro vs H Q E ⟨l,ns,e,hO,hl,hq,q⟩
 subst e
 refine⟨fun _=>False,[.scr ns],.bl true,rfl,.cons ?_ .nil,h ns hl,fun v H' sm rv=>?_⟩
 .rcases hq with hq|hq
  .rcases hq with hq|⟨o,hq⟩
   .rcases hO l with z|⟨o,xs,z⟩
    .rw[z] at hq;cases hq
    .rw[z] at hq;cases hq
   .exact .scrR JD hq
  .exact .scrK fun H'=>.inr hq
 .cases rv;exact q H'
theorem rZ{P:Program}{w:World}{K:U0a}{mg:Str->Option Value}{base:Heap}{k:Nat}{f:Addr}{fd:FuncData}{ps:List Str}{n:Nat}(hn:n=ps.length):DY P w K mg base CX0 k f fd ps (spP K (fun _=>none) n) :=
 ⟨fun vs H Q E ⟨_,_,_,hl,_⟩=>hl.trans hn,fun A outer s H args us vs Q E hr e0 hb hv ⟨_,_,_,_,_,e,_⟩=>by cases e⟩
end VS
end
section
namespace VS
open PySem L2
theorem HF(a b:BP)(env:VS.Env)(S:Store):VS.Bj a b env S=(a env S).bind fun p=>match p.1 with|.nx=>b p.2.1 p.2.2|f=>some (f,p.2.1,p.2.2):=rfl
theorem Cg(i:Nat)(a:Az)(env:VS.Env)(S:Store):VS.Bo i a env S=(a env S).bind fun p=>some (.nx,env.set i (some p.1),p.2):=rfl
theorem Ci(a:Az)(env:VS.Env)(S:Store):VS.Cy a env S=(a env S).bind fun p=>some (.ret p.1,env,p.2):=rfl
theorem JB(c:FQ)(a b:BP)(env:VS.Env)(S:Store):VS.sIf c a b env S=(c env S).bind fun p=>if p.1=true then a env p.2 else b env p.2:=rfl
theorem au(a:Az)(g:Ka)(env:VS.Env)(S:Store):VS.Vc a g env S=(a env S).bind fun p=>(g p.1 env).bind fun e=>some (.nx,e,p.2):=rfl
theorem KN(a:Az)(env:VS.Env)(S:Store):VS.Gv a env S=(a env S).bind fun p=>some (.nx,env,p.2):=rfl
theorem JX(env:VS.Env)(S:Store):VS.Ey  env S=some (.nx,env,S):=rfl
theorem gW(env:VS.Env)(S:Store):VS.Qq  env S=none:=rfl
theorem HJ(it:M5)(g:Ka)(b:BP)(env:VS.Env)(S:Store):VS.K7 it g b env S=(it env S).bind fun p=>loop p.1.2 g b p.1.1 env p.2:=rfl
theorem KR(v o i:Az)(env:VS.Env)(S:Store):VS.Kf v o i env S=(v env S).bind fun p=>(o env p.2).bind fun q=>(i env q.2).bind fun r=>match q.1,r.1 with
 |.ref j,.int k=>(match r.2[j]? with
  |some (some ds)=>(ixN ds.length k).bind fun n=>some (.nx,env,r.2.set j (some (ds.set n p.1)))
  |_=>none)
 |_,_=>none:=rfl
theorem BJ(i:Nat)(env:VS.Env)(S:Store):VS.Ab i env S=(env[i]?.join).map fun d=>(d,S):=rfl
theorem Ea(d:D)(env:VS.Env)(S:Store):VS.eC d env S=some (d,S):=rfl
theorem BL(g:Store->D->D->Option D)(a b:Az)(env:VS.Env)(S:Store):VS.eOp g a b env S=(a env S).bind fun p=>(b env p.2).bind fun q=>(g q.2 p.1 q.1).map fun d=>(d,q.2):=rfl
theorem fV(g:Store->D->Option D)(a:Az)(env:VS.Env)(S:Store):VS.eUn g a env S=(a env S).bind fun p=>(g p.2 p.1).map fun d=>(d,p.2):=rfl
theorem CV(env:VS.Env)(S:Store):VS.Ag  env S=some ([],S):=rfl
theorem Ao(a:Az)(r:Bu)(env:VS.Env)(S:Store):VS.Aa a r env S=(a env S).bind fun p=>(r env p.2).bind fun q=>some (p.1::q.1,q.2):=rfl
theorem FN(g:Store->List D->Option D)(a:Bu)(env:VS.Env)(S:Store):VS.eCB g a env S=(a env S).bind fun p=>(g p.2 p.1).map fun d=>(d,p.2):=rfl
theorem Rv(a b:Az)(env:VS.Env)(S:Store):VS.TQ a b env S=(a env S).bind fun p=>match p.1 with|.bl true=>b env p.2|.bl false=>some (.bl false,p.2)|_=>none:=rfl
theorem sI(a:Az)(env:VS.Env)(S:Store):VS.jT a env S=(a env S).bind fun p=>match p.1 with|.bl c=>some (.bl (!c),p.2)|_=>none:=rfl
theorem j4(g g':Store->D->D->Option D)(a b c:Az)(env:VS.Env)(S:Store):VS.Ux g g' a b c env S=(a env S).bind fun p=>(b env p.2).bind fun q=>(g q.2 p.1 q.1).bind fun z=>match z with
 |.bl true=>(c env q.2).bind fun r=>(g' r.2 q.1 r.1).map fun d=>(d,r.2)
 |.bl false=>some (.bl false,q.2)
 |_=>none:=rfl
theorem Dk(a:Az)(env:VS.Env)(S:Store):VS.Bb a env S=(a env S).bind fun p=>match p.1 with|.bl c=>some (c,p.2)|_=>none:=rfl
theorem Pa(a b:FQ)(env:VS.Env)(S:Store):VS.LQ a b env S=(a env S).bind fun p=>if p.1=true then b env p.2 else some (false,p.2):=rfl
theorem Xh(a b:FQ)(env:VS.Env)(S:Store):VS.tOr a b env S=(a env S).bind fun p=>if p.1=true then some (true,p.2) else b env p.2:=rfl
theorem Rk(a:FQ)(env:VS.Env)(S:Store):VS.Jl a env S=(a env S).bind fun p=>some (!p.1,p.2):=rfl
theorem lY(env:VS.Env)(S:Store):VS.Ge  env S=some (none,S):=rfl
theorem lX(a:Az)(env:VS.Env)(S:Store):VS.Gd a env S=(a env S).bind fun p=>match p.1 with|.int i=>some (some i,p.2)|_=>none:=rfl
theorem Xv(g:Store->D->Option Int->Option Int->Option D)(a:Az)(l h:TX)(env:VS.Env)(S:Store):VS.eSl g a l h env S=(a env S).bind fun p=>(l env p.2).bind fun q=>(h env q.2).bind fun r=>(g r.2 p.1 q.1 r.1).map fun d=>(d,r.2):=rfl
theorem Dd(a:Bu)(env:VS.Env)(S:Store):VS.Bq a env S=(a env S).bind fun p=>some (.lst true p.1,p.2):=rfl
theorem Vr(a:Bu)(env:VS.Env)(S:Store):VS.Ly a env S=(a env S).bind fun p=>some (.ref p.2.length,p.2++[some p.1]):=rfl
theorem HN(a:Bu)(env:VS.Env)(S:Store):VS.Cz a env S=(a env S).bind fun p=>some (.tup p.1,p.2):=rfl
theorem Gx(sem:DQ)(a:Bu)(env:VS.Env)(S:Store):VS.Aw sem a env S=(a env S).bind fun p=>(CZ 0 p.2 p.1).bind fun ds=>(sem (Bk ds)).bind fun r=>if (Ax p.1||newD r)=true then some (r,p.2) else none:=rfl
theorem Wj(sem:M4)(a:Bu)(env:VS.Env)(S:Store):VS.Bv sem a env S=(a env S).bind fun p=>match p.1 with
 |.ref i::rest=>(match p.2[i]? with
  |some (some cs)=>(intsOf cs).bind fun ns=>(CZ 0 (p.2.set i none) rest).bind fun ds=>(sem ns (Bk ds)).bind fun r=>if (Ax rest||newD r.1)=true then some (r.1,p.2.set i (some (r.2.map D.int))) else none
  |_=>none)
 |_=>none:=rfl
theorem iy(sem:DQ)(a:Bu)(env:VS.Env)(S:Store):VS.GX sem a env S=(Aw sem a env S).bind fun p=>(N7 p.2.length p.1).bind fun q=>some (q.1,p.2++[some q.2]):=rfl
theorem Yq(g:Store->D->List D->Option (D×Store))(o:Az)(a:Bu)(env:VS.Env)(S:Store):VS.FJ g o a env S=(o env S).bind fun p=>if (listOf p.2 p.1).isSome then (a env p.2).bind fun q=>g q.2 p.1 q.1 else none:=rfl
theorem nM(g:Store->List D->Option (List D))(a:Bu)(env:VS.Env)(S:Store):VS.Ui g a env S=(a env S).bind fun p=>(g p.2 p.1).map fun es=>(.lst true es,p.2):=rfl
theorem X8(a:Bu)(env:VS.Env)(S:Store):VS.GF a env S=(a env S).bind fun p=>match p.1 with
 |[.int j]=>if r62 j/\j.toNat<=1000 then some (.lst true (upD 0 j.toNat),p.2) else none
 |[.int i,.int j]=>if r62 i/\r62 j/\(j-i).toNat<=1000 then some (.lst true (upD i (j-i).toNat),p.2) else none
 |_=>none:=rfl
theorem Zz(a:Az)(env:VS.Env)(S:Store):VS.Tw a env S=(a env S).bind fun p=>(listOf p.2 p.1).bind fun ds=>(intsOf ds).bind fun ns=>if ns.length<1000/\(SetP.once ns).length<64 then some (.lst true ((G9 ns).map .int),p.2) else none:=rfl
theorem G7(a:Az)(env:VS.Env)(S:Store):VS.Dt a env S=(a env S).bind fun p=>(Cu p.2 p.1).map fun ds=>((ds,idOf ds p.1),p.2):=rfl
theorem Yl(a:Bu)(env:VS.Env)(S:Store):VS.Px a env S=(a env S).bind fun p=>match p.1 with
 |[.tup xs,.tup ys]=>some ((Dw xs ys,[]),p.2)
 |[x,.tup ys]=>(VS.listOf p.2 x).bind fun xs=>some ((Dw xs ys,VS.idOf xs x),p.2)
 |[x,y]=>(listOf p.2 x).bind fun xs=>(listOf p.2 y).bind fun ys=>some ((Dw xs ys,idOf xs x++idOf ys y),p.2)
 |_=>none:=rfl
theorem DW(np n:Nat)(f:BP)(ds:List D):VS.Eu np n f ds=if ds.length=np then (f (ds.map some++U0h (n-ds.length) none) []).bind fun p=>match p.1 with|.ret d=>den 0 p.2.2 d|.nx=>some .non|_=>none else none:=rfl
theorem La(np n:Nat)(f:BP)(ns:List Int)(ds:List D):VS.runM np n f ns ds=if ds.length+1=np then (f (some (.ref 0)::(ds.map some++U0h (n-1-ds.length) none)) [some (ns.map D.int)]).bind fun p=>match p.2.2[0]? with
 |some (some cs)=>(intsOf cs).bind fun ms=>(match p.1 with|.ret d=>(den 1 p.2.2 d).map fun r=>(r,ms)|.nx=>some (.non,ms)|_=>none)
 |_=>none
 else none:=rfl
theorem Dy(i:Nat)(d:D)(env:VS.Env):Pat.sem (.nm i) d env=some (env.set i (some d)):=by rw[Pat.sem]
theorem GR(ps:List Pat)(ds:List D)(env:VS.Env):Pat.sem (.tp ps) (.tup ds) env=Ih ps ds env:=by rw[Pat.sem]
theorem En(env:VS.Env):Ih [] [] env=some env:=by rw[Ih]
theorem Ec(p:Pat)(ps:List Pat)(d:D)(ds:List D)(env:VS.Env):Ih (p::ps) (d::ds) env=(Pat.sem p d env).bind fun e=>Ih ps ds e:=by rw[Ih]
@[simp] theorem Jaw(S:Store):calm [] S=True:=by simp[calm]
@[simp] theorem Jav(i:Nat)(ds:List D)(S:Store):calm [(i,ds)] S=(S[i]?=some (some ds)):=by simp[calm]
@[simp] theorem Ja8{α:Type}(S:List α)(a:α):(S++[a])[S.length]?=some a:=by simp
@[simp] theorem Ja3{α:Type}(S:List α)(a b:α):(S++[a]).set S.length b=S++[b]:=by simp
theorem N5{n k:Nat}(h:k<n):ixN n (k:Int)=some k:=by
 unfold ixN
 rw[if_pos (by omega),if_pos (by omega)];simp
@[simp] theorem zF{n:Nat}:ixN (n+1) 0=some 0:=N5 (k:=0) (by omega)
@[simp] theorem zE{n:Nat}:ixN (n+2) 1=some 1:=N5 (k:=1) (by omega)
@[simp] theorem zB{n:Nat}:ixN (n+3) 2=some 2:=N5 (k:=2) (by omega)
@[simp] theorem zA{n:Nat}:ixN (n+4) 3=some 3:=N5 (k:=3) (by omega)
@[simp] theorem Jbe{α:Type}(a:α)(l:List α):atI (a::l) 0=some a:=by unfold atI;rw[U0g,zF];rfl
@[simp] theorem Jbd{α:Type}(a b:α)(l:List α):atI (a::b::l) 1=some b:=by unfold atI;rw[U0g,U0g,zE];rfl
@[simp] theorem Jbc{α:Type}(a b c:α)(l:List α):atI (a::b::c::l) 2=some c:=by unfold atI;rw[U0g,U0g,U0g,zB];rfl
@[simp] theorem Jbb{α:Type}(a b c d:α)(l:List α):atI (a::b::c::d::l) 3=some d:=by unfold atI;rw[U0g,U0g,U0g,U0g,zA];rfl
theorem qm{w:List (Nat×List D)}{g:Ka}{b:BP}(I:Nat->Env->Store->Prop)(R:D->Store->Prop){ds:List D}{env:Env}{S:Store}(h0:I 0 env S)(hc:∀i env S,I i env S->calm w S)
  (step:∀i d env S,ds[i]?=some d->I i env S->∃env1,g d env=some env1/\((∃env2 S2,(b env1 S=some (.nx,env2,S2)∨b env1 S=some (.cnt,env2,S2))/\I (i+1) env2 S2)∨∃r env2 S2,b env1 S=some (.ret r,env2,S2)/\R r S2)) :
  (∃env' S',loop w g b ds env S=some (.nx,env',S')/\I ds.length env' S')∨∃r env' S',loop w g b ds env S=some (.ret r,env',S')/\R r S':=by
 have key:∀(l:List D)(i:Nat)(env:Env)(S:Store),ds.drop i=l->i<=ds.length->I i env S->(∃env' S',loop w g b l env S=some (.nx,env',S')/\I ds.length env' S')∨∃r env' S',loop w g b l env S=some (.ret r,env',S')/\R r S':=by
  intro l
  induction l with
  |nil =>
   intro i env S hd hi h
   have:i=ds.length:=by
    have:=congrArg U5d hd
    simp at this;omega
   subst this
   exact .inl ⟨env,S,by unfold loop;rw[if_pos (hc _ _ _ h)],h⟩
  |cons d r ih =>
   intro i env S hd hi h
   have hlt:i<ds.length:=by
    have:=congrArg U5d hd
    simp at this;omega
   have e:ds[i]?=some d:=by
    rw[U3g hlt] at hd
    rw[U0n hlt,(U63 hd).1]
   have hr:ds.drop (i+1)=r:=by
    rw[U3g hlt] at hd
    exact(U63 hd).2
   obtain⟨env1,e1,q⟩:=step i d env S e h
   rcases q with ⟨env2,S2,e2,q⟩|⟨v,env2,S2,e2,q⟩
   .have e3:loop w g b (d::r) env S=loop w g b r env2 S2:=by
     rcases e2 with e2|e2<;>(rw[loop,if_pos (hc _ _ _ h),e1];show(b env1 S).bind _=_;rw[e2];rfl)
    rw[e3]
    exact ih (i+1) env2 S2 hr hlt q
   .refine .inr ⟨v,env2,S2,?_,q⟩
    rw[loop,if_pos (hc _ _ _ h),e1]
    show(b env1 S).bind _=_
    rw[e2];rfl
 exact key ds 0 env S (by simp) (U3a _) h0
theorem G8{w:List (Nat×List D)}{g:Ka}{b:BP}(I:Nat->Env->Store->Prop){ds:List D}{env:Env}{S:Store}(h0:I 0 env S)(hc:∀i env S,I i env S->calm w S)
  (step:∀i d env S,ds[i]?=some d->I i env S->∃env1,g d env=some env1/\∃env2 S2,b env1 S=some (.nx,env2,S2)/\I (i+1) env2 S2) :
  ∃env' S',loop w g b ds env S=some (.nx,env',S')/\I ds.length env' S':=by
 rcases qm I (fun _ _=>False) h0 hc (fun i d env S e h=>by
  obtain⟨env1,e1,env2,S2,e2,q⟩:=step i d env S e h
  exact⟨env1,e1,.inl ⟨env2,S2,.inl e2,q⟩⟩) with h|⟨_,_,_,_,h⟩
 .exact h
 .exact h.elim
theorem comp_map{w:List (Nat×List D)}{e0:Env}{g:Ka}{t:FQ}{f:Az}{S:Store}(hc:calm w S)(p:D->Bool)(F:D->D):∀(ds ys:List D),ys.length+ds.length<=1000000 ->
  (∀d∈ds,∃e1,g d e0=some e1/\t e1 S=some (p d,S)/\(p d=true->f e1 S=some (F d,S)))->GD w e0 g t f ds ys S=some (ys++(ds.filter p).map F,S)
 |[],ys,hl,_=>by unfold GD;rw[if_pos ⟨hc,by simpa using hl⟩];simp
 |d::r,ys,hl,h=>by
  rw[U0g] at hl
  obtain⟨e1,h1,h2,h3⟩:=h d U0l
  unfold GD
  rw[if_pos ⟨hc,by omega⟩,h1]
  show(t e1 S).bind _=_
  rw[h2]
  show(if p d=true then _ else _)=_
  have hr:∀x∈r,_:=fun x hx=>h x (U0p _ hx)
  by_cases hp:p d=true
  .rw[if_pos hp,h3 hp]
   show GD w e0 g t f r (ys++[F d]) S=_
   rw[comp_map hc p F r (ys++[F d]) (by rw[U0s];simp;omega) hr,List.filter_cons_of_pos hp]
   simp
  .rw[if_neg hp,List.filter_cons_of_neg hp]
   exact comp_map hc p F r ys (by omega) hr
theorem Yt{w:List (Nat×List D)}{e0:Env}{g:Ka}{f:Az}{S:Store}(hc:calm w S)(F:D->D)(ds:List D)(hl:ds.length<=1000000)(h:∀d∈ds,∃e1,g d e0=some e1/\f e1 S=some (F d,S)):GD w e0 g HY f ds [] S=some (ds.map F,S):=by
 have:=comp_map (t:=HY) hc (fun _=>true) F ds [] (by simpa using hl) (fun d hd=>let ⟨e1,h1,h2⟩:=h d hd;⟨e1,h1,rfl,fun _=>h2⟩)
 rw[this,U1n,U5t.mpr (by simp)]
theorem nT{w:List (Nat×List D)}{e0:Env}{g:Ka}{f:Az}(I:Nat->List D->Store->Prop){ds:List D}{S:Store}(h0:I 0 [] S)(hc:∀i ys S,I i ys S->calm w S/\ys.length<=1000000)
  (step:∀i d ys S,ds[i]?=some d->I i ys S->∃e1 y S2,g d e0=some e1/\f e1 S=some (y,S2)/\I (i+1) (ys++[y]) S2):∃ys S',GD w e0 g HY f ds [] S=some (ys,S')/\I ds.length ys S':=by
 have key:∀(l:List D)(i:Nat)(ys:List D)(S:Store),ds.drop i=l->i<=ds.length->I i ys S->∃ys' S',GD w e0 g HY f l ys S=some (ys',S')/\I ds.length ys' S':=by
  intro l
  induction l with
  |nil =>
   intro i ys S hd hi h
   have:i=ds.length:=by
    have:=congrArg U5d hd
    simp at this;omega
   subst this
   exact⟨ys,S,by unfold GD;rw[if_pos (hc _ _ _ h)],h⟩
  |cons d r ih =>
   intro i ys S hd hi h
   have hlt:i<ds.length:=by
    have:=congrArg U5d hd
    simp at this;omega
   have e:ds[i]?=some d:=by
    rw[U3g hlt] at hd
    rw[U0n hlt,(U63 hd).1]
   have hr:ds.drop (i+1)=r:=by
    rw[U3g hlt] at hd
    exact(U63 hd).2
   obtain⟨e1,y,S2,h1,h2,h3⟩:=step i d ys S e h
   obtain⟨ys',S',h4,h5⟩:=ih (i+1) (ys++[y]) S2 hr hlt h3
   refine⟨ys',S',?_,h5⟩
   unfold GD
   rw[if_pos (hc _ _ _ h),h1]
   simp only[U0b,HY,if_true,h2]
   exact h4
 exact key ds 0 [] S (by simp) (U3a _) h0
theorem N6{α:Type}{w:List (Nat×List D)}{e0:VS.Env}{g:Ka}{t:FQ}{f:Az}{S:Store}(hc:calm w S)(enc:α->D)(p:α->Bool)(F:α->D):∀(l:List α)(ys:List D),ys.length+l.length<=1000000 ->
  (∀a∈l,∃e1,g (enc a) e0=some e1/\t e1 S=some (p a,S)/\(p a=true->f e1 S=some (F a,S)))->GD w e0 g t f (l.map enc) ys S=some (ys++(l.filter p).map F,S)
 |[],ys,hl,_=>by rw[U1j,GD,if_pos ⟨hc,by simpa using hl⟩];simp
 |d::r,ys,hl,h=>by
  rw[U0g] at hl
  obtain⟨e1,h1,h2,h3⟩:=h d U0l
  have hr:∀x∈r,_:=fun x hx=>h x (U0p _ hx)
  rw[U0j,GD,if_pos ⟨hc,by omega⟩,h1]
  simp only[U0b,h2]
  by_cases hp:p d=true
  .simp only[hp,if_true,h3 hp,U0b]
   rw[N6 hc enc p F r (ys++[F d]) (by rw[U0s];simp;omega) hr,List.filter_cons_of_pos hp]
   simp
  .rw[if_neg hp,List.filter_cons_of_neg hp]
   exact N6 hc enc p F r ys (by omega) hr
theorem KQ{α:Type}{w:List (Nat×List D)}{e0:VS.Env}{g:Ka}{f:Az}{S:Store}(hc:calm w S)(enc F:α->D)(l:List α)(hl:l.length<=1000000)(h:∀a∈l,∃e1,g (enc a) e0=some e1/\f e1 S=some (F a,S)):GD w e0 g VS.HY f (l.map enc) [] S=some (l.map F,S):=by
 have:=N6 (t:=VS.HY) hc enc (fun _=>true) F l [] (by simpa using hl) (fun d hd=>let ⟨e1,h1,h2⟩:=h d hd;⟨e1,h1,rfl,fun _=>h2⟩)
 rw[this,U1n,U5t.mpr (by simp)]
theorem Rj(lo:Int)(n:Nat):(upD lo n).length=n:=by unfold upD;rw[U0i,U5l]
theorem aU{lo:Int}{n i:Nat}{d:D}(h:(upD lo n)[i]?=some d):i<n/\d=.int (lo+i):=by
 have hi:i<n:=by rw[←Rj lo n];exact(U0o.mp h).1
 unfold upD at h
 rw[U0z,List.getElem?_range hi] at h
 cases h
 exact⟨hi,rfl⟩
theorem gZ{j:Int}(h0:-1000000<=j)(h1:j<=1000000):r62 j:=⟨Int.le_trans (by decide) h0,Int.lt_of_le_of_lt h1 (by decide)⟩
theorem Xl{f:Bu}{env:VS.Env}{S S':Store}{j:Int}(n:Nat)(hf:f env S=some ([.int j],S'))(hn:j.toNat=n)(h0:-1000000<=j)(h1:j<=1000000):Jb f env S=some ((upD 0 n,[]),S'):=by
 unfold Jb
 rw[hf,U0b]
 show(if r62 j then some ((upD 0 j.toNat,([]:List (Nat×List D))),S') else none)=_
 rw[if_pos (gZ h0 h1),hn]
theorem RL{S:Store}{ds:List D}(h:Ei ds=true):CZ 0 S ds=some ds:=Cp 0 S (Br h)
theorem Dp{α:Type}{F:α->D}(l:List α)(h:∀a∈l,Ck (F a)=true):Ei (l.map F)=true:=by
 induction l with
 |nil=>rfl
 |cons a r ih=>rw[U0j,Ei,h a U0l,ih fun b hb=>h b (U0p _ hb)];rfl
theorem YF{α:Type}{F:α->D}{G:α->PyData}(l:List α)(h:∀a∈l,toP (F a)=some (G a)):GP (l.map F)=some (l.map G):=by
 induction l with
 |nil=>rw[U1j,GP];rfl
 |cons a r ih=>rw[U0j,GP,h a U0l,ih fun b hb=>h b (U0p _ hb)];rfl
abbrev St2:=Int×Int
def Ac(p:St2):D:=.tup [.int p.1,.int p.2]
def Af(b:List St2):D:=.tup (b.map Ac)
def Al(m:Bool)(n:Nat)(bs:List (List St2)):D:=.tup [.int n,.lst m (bs.map Af)]
@[simp] theorem Di(p:St2):Ck (Ac p)=true:=rfl
@[simp] theorem Ig(b:List St2):Ck (Af b)=true:=by rw[Af,Ck];exact Dp b fun p _=>Di p
theorem DG(bs:List (List St2)):Ei (bs.map Af)=true:=Dp bs fun b _=>Ig b
def pS(p:St2):PyData:=.tuple [.int p.1,.int p.2]
def pB(b:List St2):PyData:=.tuple (b.map pS)
theorem Td(p:St2):toP (Ac p)=some (pS p):=by simp[Ac,toP,GP,pS]
theorem YD(b:List St2):toP (Af b)=some (pB b):=by rw[Af,toP,YF b fun p _=>Td p];rfl
theorem d8(bs:List (List St2)):GP (bs.map Af)=some (bs.map pB):=YF bs fun b _=>YD b
@[simp] theorem Jaz(S:Store)(x:D):KZ S [x,.ty "int"]=(Ca S x).map fun p=>.bl (isT "int" p):=rfl
@[simp] theorem xV:isT "int" (.none)=false:=rfl
@[simp] theorem xY(b:Bool):isT "int" (.bool b)=true:=rfl
@[simp] theorem yC(i:Int):isT "int" (.int i)=true:=rfl
@[simp] theorem xu(s:Str):isT "int" (.str s)=false:=rfl
@[simp] theorem xW(l:List PyData):isT "int" (.list l)=false:=rfl
@[simp] theorem tV(l:List PyData):isT "int" (.tuple l)=false:=rfl
@[simp] theorem xX(l:List (PyData×PyData)):isT "int" (.dict l)=false:=rfl
@[simp] theorem zZ(S:Store)(x:D):KZ S [x,.ty "bool"]=(Ca S x).map fun p=>.bl (isT "bool" p):=rfl
@[simp] theorem tW:isT "bool" (.none)=false:=rfl
@[simp] theorem tZ(b:Bool):isT "bool" (.bool b)=true:=rfl
@[simp] theorem xg(i:Int):isT "bool" (.int i)=false:=rfl
@[simp] theorem xZ(s:Str):isT "bool" (.str s)=false:=rfl
@[simp] theorem tX(l:List PyData):isT "bool" (.list l)=false:=rfl
@[simp] theorem tH(l:List PyData):isT "bool" (.tuple l)=false:=rfl
@[simp] theorem tY(l:List (PyData×PyData)):isT "bool" (.dict l)=false:=rfl
@[simp] theorem zT(S:Store)(x:D):KZ S [x,.ty "tuple"]=(Ca S x).map fun p=>.bl (isT "tuple" p):=rfl
@[simp] theorem sY:isT "tuple" (.none)=false:=rfl
@[simp] theorem tE(b:Bool):isT "tuple" (.bool b)=false:=rfl
@[simp] theorem tL(i:Int):isT "tuple" (.int i)=false:=rfl
@[simp] theorem tK(s:Str):isT "tuple" (.str s)=false:=rfl
@[simp] theorem sZ(l:List PyData):isT "tuple" (.list l)=false:=rfl
@[simp] theorem oW(l:List PyData):isT "tuple" (.tuple l)=true:=rfl
@[simp] theorem su(l:List (PyData×PyData)):isT "tuple" (.dict l)=false:=rfl
@[simp] theorem zY(S:Store)(x:D):KZ S [x,.ty "list"]=(Ca S x).map fun p=>.bl (isT "list" p):=rfl
@[simp] theorem tO:isT "list" (.none)=false:=rfl
@[simp] theorem tU(b:Bool):isT "list" (.bool b)=false:=rfl
@[simp] theorem xU(i:Int):isT "list" (.int i)=false:=rfl
@[simp] theorem xT(s:Str):isT "list" (.str s)=false:=rfl
@[simp] theorem tQ(l:List PyData):isT "list" (.list l)=true:=rfl
@[simp] theorem tG(l:List PyData):isT "list" (.tuple l)=false:=rfl
@[simp] theorem tR(l:List (PyData×PyData)):isT "list" (.dict l)=false:=rfl
@[simp] theorem Jax(S:Store)(x:D):KZ S [x,.ty "str"]=(Ca S x).map fun p=>.bl (isT "str" p):=rfl
@[simp] theorem xO:isT "str" (.none)=false:=rfl
@[simp] theorem xR(b:Bool):isT "str" (.bool b)=false:=rfl
@[simp] theorem xr(i:Int):isT "str" (.int i)=false:=rfl
@[simp] theorem xq(s:Str):isT "str" (.str s)=true:=rfl
@[simp] theorem xP(l:List PyData):isT "str" (.list l)=false:=rfl
@[simp] theorem tM(l:List PyData):isT "str" (.tuple l)=false:=rfl
@[simp] theorem xQ(l:List (PyData×PyData)):isT "str" (.dict l)=false:=rfl
@[simp] theorem Jay(S:Store)(x:D):KZ S [x,.tup [.ty "tuple",.ty "list"]]=(Ca S x).bind fun p=>if noDict p=true then some (.bl (isSeq p)) else none:=rfl
@[simp] theorem Jao(S:Store)(i:Int):Ca S (.int i)=some (.int i):=by simp[Ca,den,toP]
@[simp] theorem Ja4(S:Store)(b:Bool):Ca S (.bl b)=some (.bool b):=by simp[Ca,den,toP]
@[simp] theorem Jam(S:Store):Ca S .non=some .none:=by simp[Ca,den,toP]
@[simp] theorem Jal(S:Store)(x:Str):Ca S (.str x)=some (.str x):=by simp[Ca,den,toP]
@[simp] theorem gP(S:Store)(p:St2):Ca S (Ac p)=some (pS p):=by rw[Ca,Lg 0 S (JM (Di p))];exact Td p
@[simp] theorem gQ(S:Store)(b:List St2):Ca S (Af b)=some (pB b):=by rw[Ca,Lg 0 S (JM (Ig b))];exact YD b
theorem QL(S:Store)(m:Bool)(bs:List (List St2)):Ca S (.lst m (bs.map Af))=some (.list (bs.map pB)):=by
 rw[Ca,den,RL (DG bs)]
 show toP (.lst m (bs.map Af))=_
 rw[toP,d8];rfl
theorem Qz(S:Store)(m:Bool)(n:Nat)(bs:List (List St2)):Ca S (Al m n bs)=some (.tuple [.int n,.list (bs.map pB)]):=by
 have h:=QL S m bs
 rw[Ca,den,RL (DG bs)] at h
 have h':toP (.lst m (bs.map Af))=some (.list (bs.map pB)):=h
 simp[Ca,Al,den,CZ,RL (DG bs),toP,GP]
 rw[toP] at h'
 obtain⟨ps,e1,e2⟩:=map_some h'
 rw[e1]
 cases e2
 rfl
@[simp] theorem Ml(ns:List Int):Ei (ns.map D.int)=true:=Dp ns fun _ _=>rfl
@[simp] theorem j5(k:Nat)(S:Store)(ns:List Int):CZ k S (ns.map D.int)=some (ns.map D.int):=Cp k S (Br (Ml ns))
@[simp] theorem jG(ns:List Int):Bk (ns.map D.int)=ns.map D.int:=Gw (Ml ns)
@[simp] theorem Ik(ns:List Int):Ax (ns.map D.int)=true:=Br (Ml ns)
@[simp] theorem zX(ns:List Int):newL (ns.map D.int)=true:=Oi (Ml ns)
theorem YC(lo:Int)(n:Nat):upD lo n=((U0k n).map fun(i:Nat)=>lo+(i:Int)).map D.int:=by unfold upD;rw[U0e];rfl
@[simp] theorem Jau(k:Nat)(S:Store)(lo:Int)(n:Nat):CZ k S (upD lo n)=some (upD lo n):=by rw[YC];exact j5 ..
@[simp] theorem zW(lo:Int)(n:Nat):Ax (upD lo n)=true:=by rw[YC];exact Ik _
@[simp] theorem zR(k:Nat)(S:Store)(bs:List (List St2)):CZ k S (bs.map Af)=some (bs.map Af):=Cp k S (Br (DG bs))
@[simp] theorem eG(bs:List (List St2)):Bk (bs.map Af)=bs.map Af:=Gw (DG bs)
@[simp] theorem Zk(bs:List (List St2)):Ax (bs.map Af)=true:=Br (DG bs)
@[simp] theorem zQ(bs:List (List St2)):newL (bs.map Af)=true:=Oi (DG bs)
@[simp] theorem yD(bs:List (List St2)):Ei (bs.map Af)=true:=DG bs
@[simp] theorem Jar(k:Nat)(S:Store)(p:St2):den k S (Ac p)=some (Ac p):=Lg k S (JM (Di p))
@[simp] theorem Jat(k:Nat)(S:Store)(b:List St2):den k S (Af b)=some (Af b):=Lg k S (JM (Ig b))
@[simp] theorem Ja0(p:St2):age (Ac p)=Ac p:=QC (Di p)
@[simp] theorem Ja2(b:List St2):age (Af b)=Af b:=QC (Ig b)
@[simp] theorem zU(p:St2):Ba (Ac p)=true:=JM (Di p)
@[simp] theorem WQ(b:List St2):Ba (Af b)=true:=JM (Ig b)
@[simp] theorem Jap(p:St2):newD (Ac p)=true:=QB (Di p)
@[simp] theorem Jaq(b:List St2):newD (Af b)=true:=QB (Ig b)
@[simp] theorem Jas(k:Nat)(S:Store)(m:Bool)(n:Nat)(bs:List (List St2)):den k S (Al m n bs)=some (Al m n bs):=by simp[Al,den,CZ,Cp k S (Br (DG bs))]
@[simp] theorem Ja1(m:Bool)(n:Nat)(bs:List (List St2)):age (Al m n bs)=Al false n bs:=by simp[Al,age,Bk,Gw (DG bs)]
@[simp] theorem zV(m:Bool)(n:Nat)(bs:List (List St2)):Ba (Al m n bs)=true:=by simp[Al,Ba,Ax,Br (DG bs)]
structure Good(n:Nat)(bs:List (List St2)):Prop where
 ways:n=1∨n=2∨n=3
 most:bs.length<=[0,20,10,6].getD n 0
 box:∀b∈bs,b.length=n/\∀p∈b,p.1<p.2/\-1000000000<=p.1/\p.2<=1000000000
theorem Good.n3{n:Nat}{bs:List (List St2)}(g:Good n bs):1<=n/\n<=3:=by have:=g.ways;omega
theorem Good.few{n:Nat}{bs:List (List St2)}(g:Good n bs):bs.length<=20:=by
 have:=g.most
 rcases g.ways with h|h|h<;>subst h<;>simp at this<;>omega
theorem xM{α:Type}{l:List α}{i:Int}{j:Nat}(e:i=(j:Int))(h:j<l.length):atI l i=some l[j]:=by
 subst e
 exact Le (U0n h)
theorem Vv{α β:Type}{F:α->β}{l:List α}{i:Int}(h0:0<=i)(h1:i<l.length):∃a,atI (l.map F) i=some (F a)/\l[i.toNat]?=some a:=by
 have hj:i.toNat<l.length:=by omega
 refine⟨l[i.toNat],?_,U0n hj⟩
 rw[xM (j:=i.toNat) (by omega) (by simpa using hj)];simp
theorem YQ{n d:Nat}{a:Int}(h0:0<=a)(h1:a<=n):HT.sIx n d (some a)=a.toNat:=by
 show(if a<0 then (a+(n:Int)).toNat else min a.toNat n)=a.toNat
 rw[if_neg (by omega)]
 omega
theorem wj{xs:List D}{a:Int}(h0:0<=a)(h1:a<=xs.length):cut xs none (some a)=xs.take a.toNat:=by
 unfold cut
 rw[YQ h0 h1]
 simp[HT.sIx]
theorem U9{xs:List D}{a:Int}(h0:0<=a)(h1:a<=xs.length):cut xs (some a) none=xs.drop a.toNat:=by
 unfold cut
 rw[YQ h0 h1]
 simp only[HT.sIx]
 rw[U6d]
 simp
def lev:Nat->PyData->Bool
 |_,.none=>true
 |_,.bool _=>true
 |_,.int _=>true
 |k+1,.list xs=>xs.all (lev k)
 |k+1,.tuple xs=>xs.all (lev k)
 |_,_=>false
theorem Vk{k:Nat}(ih:∀d,lev k d=true->U4u d=true/\d.depth<=k):∀xs:List PyData,xs.all (lev k)=true->U59 xs=true/\U4g xs<=k
 |[],_=>⟨by rw[U59],by rw[U4g];omega⟩
 |x::xs,h=>by
  rw[U62,U1b] at h
  obtain⟨h1,h2⟩:=ih x h.1
  obtain⟨h3,h4⟩:=Vk ih xs h.2
  exact⟨by rw[U59,h1,h3];rfl,by rw[U4g];omega⟩
theorem Us:∀(k:Nat)(d:PyData),lev k d=true->U4u d=true/\d.depth<=k
 |k,.none,_=>⟨by rw[U4u],by rw[U3n];omega⟩
 |k,.bool _,_=>⟨by rw[U4u],by rw[U3n];omega⟩
 |k,.int _,_=>⟨by rw[U4u],by rw[U3n];omega⟩
 |0,.list _,h=>by simp[lev] at h
 |0,.tuple _,h=>by simp[lev] at h
 |k,.str _,h=>by cases k<;>simp[lev] at h
 |k,.dict _,h=>by cases k<;>simp[lev] at h
 |k+1,.list xs,h=>by
  rw[lev] at h
  obtain⟨h1,h2⟩:=Vk (Us k) xs h
  exact⟨by rw[U4u];exact h1,by rw[U3n];omega⟩
 |k+1,.tuple xs,h=>by
  rw[lev] at h
  obtain⟨h1,h2⟩:=Vk (Us k) xs h
  exact⟨by rw[U4u];exact h1,by rw[U3n];omega⟩
theorem V3{k:Nat}{d:PyData}(h:lev k d=true)(hk:k<=60):U2v d=true:=by
 obtain⟨h1,h2⟩:=Us k d h
 unfold U2v
 rw[h1,Bool.true_and]
 exact decide_eq_true (by omega)
theorem QD{neg:Bool}{S:Store}{x y:D}{p:PyData}(k:Nat)(hx:Ca S x=some p)(hy:Ca S y=some p)(h:lev k p=true)(hk:k<=60):eqP neg S x y=some (.bl (neg ^^ true)):=by
 unfold eqP
 rw[hx,hy]
 simp only[U0b]
 rw[V3 h hk,SeqAt.eqv_refl _ (Us k p h).1];rfl
theorem Vq{neg:Bool}{S:Store}{x:D}{m:Bool}{l:List PyData}(k:Nat)(hx:Ca S x=some (.list l))(h:lev k (.list l)=true)(hk:k<=60):eqP neg S x (.lst m [])=some (.bl (neg ^^ l.isEmpty)):=by
 unfold eqP
 have hy:Ca S (.lst m [])=some (.list []):=by simp[Ca,den,CZ,toP,GP]
 rw[hx,hy]
 simp only[U0b]
 rw[V3 h hk]
 cases l with
 |nil=>rfl
 |cons a r=>rfl
theorem fL(k:Nat)(p:St2):lev (k+1) (pS p)=true:=by simp[pS,lev]
theorem wF(k:Nat)(b:List St2):lev (k+2) (pB b)=true:=by
 rw[pB,lev,List.all_map,U3m]
 exact fun p _=>fL k p
theorem Wa(k:Nat)(bs:List (List St2)):lev (k+3) (.list (bs.map pB))=true:=by
 rw[lev,List.all_map,U3m]
 exact fun p _=>wF k p
theorem mK(k:Nat)(n:Nat)(bs:List (List St2)):lev (k+4) (.tuple [.int n,.list (bs.map pB)])=true:=by
 rw[lev,U62,U62,Wa k bs]
 rfl
theorem BR{a b:BP}{env env1:VS.Env}{S S1:Store}(h:a env S=some (.nx,env1,S1)):Bj a b env S=b env1 S1:=by rw[HF,h];rfl
theorem Ng{c:FQ}{a b:BP}{env:VS.Env}{S S1:Store}(h:c env S=some (true,S1)):sIf c a b env S=a env S1:=by rw[JB,h];rfl
theorem Ij{c:FQ}{a b:BP}{env:VS.Env}{S S1:Store}(h:c env S=some (false,S1)):sIf c a b env S=b env S1:=by rw[JB,h];rfl
end VS
end
section
namespace VS
open PySem PySem.Spec L2
end VS
namespace HT
open PySem PySem.Spec PyProof PyProof.Rows
end HT
namespace L2
open PySem PySem.Spec PyProof PyProof.Rows
end L2
namespace VS
open PySem PySem.Spec L2
end VS
end
section
set_option maxRecDepth 100000
namespace HT
open PySem PySem.Spec PyProof.Rows
section
variable{prog:Program}{w:World}{A:Around}{E:Value->Shared->Prop}{s:Shared}
theorem Zb{a:Addr}{o:Obj}{Q:Option Obj->Shared->Prop}(e:s.heap.get? a=some o)(q:Q (some o) s):wpAny (model prog w) A (loadIfAlive a) Q E s:=by
 intro Γ p _
 unfold loadIfAlive
 rw[Sem.wp_loadIfAlive,e]
 exact(Sem.wp_pure ..).mpr q
abbrev Ni(h:Heap)(z TI TO T:Addr)(c:Bool):Prop:=h.get? z=some { cls:=.type "zip",dict:=none,data:=.fields #[rawInt T,.bool c,.bool false,.ref TI,.ref TO],slots:=#[] }
variable{z TI TO i1 i2 T:Addr}{fp1 fp2:List Addr}{n1 n2 k:Nat}{P1 P2:Nat->Value->Prop}{S1 S2:Nat->Heap->Prop}{c:Bool}
theorem aP{Q:Bool->Shared->Prop}(hZ:Ni s.heap z TI TO T c)(hT:∃o,s.heap.get? T=some o)(q:∀h',Ni h' z TI TO T true->U07 z s.heap h'->Q false { s with heap:=h' }) :
  wpAny (model prog w) A (U11 (.ref z)) Q E s:=by
 obtain⟨o,hT⟩:=hT
 unfold U11
 refine U0 (U2m hZ rfl (x:=rawInt T) rfl ?_)
 show wpAny _ _ (loadIfAlive (Int.toNat (T:Int)) >>= _) _ _ _
 rw[U2z]
 refine U0 (Zb hT ?_)
 simp only[Option.isNone_some,U1t,if_false]
 refine U0 (U2m hZ rfl (x:=.bool c) rfl ?_)
 cases c with
 |false =>
  rw[if_pos (by decide)]
  refine U0 (U30 hZ (by simp) fun g z' m=>?_)
  exact U0d (q g z' m)
 |true =>
  rw[if_neg (by decide)]
  exact U0d (q s.heap hZ (U07.refl ..))
theorem za{Q:Value->Shared->Prop}(D1:Draws prog w A i1 fp1 n1 P1 S1)(D2:Draws prog w A i2 fp2 n2 P2 S2)(D:Apart z TI TO i1 i2 fp1 fp2)(hZ:Ni s.heap z TI TO T c)(hI:IsPair s.heap TI (.ref i1) (.ref i2))(hT:∃o,s.heap.get? T=some o)
  (s1:S1 k s.heap) (s2:S2 k s.heap) (k1:k<n1) (k2:k<n2)
  (q:∀x y h' tk,P1 k x->P2 k y->Ni h' z TI TO T true->S1 (k+1) h'->S2 (k+1) h'->IsPair h' s.heap.objs.size x y->h'.objs.size=s.heap.objs.size+1 ->
   (∀c o,c≠z->c≠i1->c≠i2->s.heap.get? c=some o->h'.get? c=some o)->Q (.ref s.heap.objs.size) { s with heap:=h',toks:=tk }) :
  wpAny (model prog w) A (Builtin.«zip.__next__» ⟨[.ref z],[]⟩) (fun fin s'=>∃v,fin=.done (.ret v)/\Q v s') E s:=by
 obtain⟨hp,g,d,tk0,os⟩:=s
 refine(show wpAny _ _ (field (.ref z) 2 >>= _) _ _ _ from U0 (U2m hZ rfl (x:=.bool false) rfl ?_))
 refine(show wpAny _ _ (field (.ref z) 3 >>= _) _ _ _ from U0 (U2m hZ rfl (x:=.ref TI) rfl (U0 (U2n hI rfl ?_))))
 refine(show wpAny _ _ (U11 (.ref z) >>= _) _ _ _ from U0 (aP hZ hT fun g1 z1 m1=>?_))
 replace m1:U07 z hp g1:=m1
 simp only[U1t,if_false]
 have t1:S1 k g1:=D1.frame _ _ _ s1 fun c hc o e=>m1.extBut _ _ (D.b1 c hc).1 e
 have u1:S2 k g1:=D2.frame _ _ _ s2 fun c hc o e=>m1.extBut _ _ (D.b2 c hc).1 e
 refine U0 ?_
 simp only[List.forIn_toArray,U4f,U53]
 refine U0 (U0 (U19 (show wpAny _ _ (U1k (.ref i1) >>= _) _ _ _ from U0 (D1.item k ⟨g1,g,d,tk0,os⟩ _ _ k1 t1 fun x g2 tk1 px t2 m2=>U0d ?_))))
 replace m2:U07 i1 g1 g2:=m2
 have u2:S2 k g2:=D2.frame _ _ _ u1 fun c hc o e=>m2.extBut _ _ (D.b2 c hc).2.2 e
 refine U0d ?_
 refine U0 (U0 (U19 (show wpAny _ _ (U1k (.ref i2) >>= _) _ _ _ from U0 (D2.item k ⟨g2,g,d,tk1,os⟩ _ _ k2 u2 fun y g3 tk2 py u3 m3=>U0d ?_))))
 replace m3:U07 i2 g2 g3:=m3
 refine U0d (U0d ?_)
 refine U0 (wpAny_newTuple ?_ (by simp[sizeLine]))
 have sz:g3.objs.size=hp.objs.size:=by rw[m3.1,m2.1,m1.1]
 refine U0d ⟨_,rfl,?_⟩
 show Q (.ref g3.objs.size) _
 have z3:Ni g3 z TI TO T true:=m3.extBut _ _ (U1l D.c2.1) (m2.extBut _ _ (U1l D.c1.1) z1)
 have q3:=q x y (g3.push { cls:=.type "tuple",data:=.seq #[x,y] }) tk2 px py (U0c _ z3)
  (D1.frame _ _ _ t2 fun c hc o e=>U0c _ (m3.extBut _ _ (D.b1 c hc).2.2 e)) (D2.frame _ _ _ u3 fun c hc o e=>U0c _ e)
  (by show IsPair _ hp.objs.size x y;rw[←sz];exact U0v _ rfl) (by rw[U18,sz])
  fun c o n1 n3 n4 e=>U0c _ (m3.extBut _ _ n4 (m2.extBut _ _ n3 (m1.extBut _ _ n1 e)))
 rw[sz]
 exact q3
theorem yE{Q:PySem.Fin->Shared->Prop}(D1:Draws prog w A i1 fp1 n1 P1 S1)(D2:Draws prog w A i2 fp2 n2 P2 S2)(D:Apart z TI TO i1 i2 fp1 fp2)(hZ:Ni s.heap z TI TO T c)(hI:IsPair s.heap TI (.ref i1) (.ref i2))(hT:∃o,s.heap.get? T=some o)
  (s1:S1 k s.heap) (s2:S2 k s.heap) (ke:k=n1∨(k<n1/\k=n2))
  (q:∀h' e tk,(∀c o,c≠z->c≠i1->c≠i2->s.heap.get? c=some o->h'.get? c=some o)->(∃o,h'.get? e=some o/\o.cls=.type "StopIteration")->E (.ref e) { s with heap:=h',toks:=tk }) :
  wpAny (model prog w) A (Builtin.«zip.__next__» ⟨[.ref z],[]⟩) Q E s:=by
 obtain⟨hp,g,d,tk0,os⟩:=s
 refine(show wpAny _ _ (field (.ref z) 2 >>= _) _ _ _ from U0 (U2m hZ rfl (x:=.bool false) rfl ?_))
 refine(show wpAny _ _ (field (.ref z) 3 >>= _) _ _ _ from U0 (U2m hZ rfl (x:=.ref TI) rfl (U0 (U2n hI rfl ?_))))
 refine(show wpAny _ _ (U11 (.ref z) >>= _) _ _ _ from U0 (aP hZ hT fun g1 z1 m1=>?_))
 replace m1:U07 z hp g1:=m1
 simp only[U1t,if_false]
 have t1:S1 k g1:=D1.frame _ _ _ s1 fun c hc o e=>m1.extBut _ _ (D.b1 c hc).1 e
 have u1:S2 k g1:=D2.frame _ _ _ s2 fun c hc o e=>m1.extBut _ _ (D.b2 c hc).1 e
 refine U0 ?_
 simp only[List.forIn_toArray,U4f,U53]
 rcases ke with ke|⟨k1,ke⟩
 .subst ke
  refine U0 (U0 (U19 (show wpAny _ _ (U1k (.ref i1) >>= _) _ _ _ from U0 (D1.done ⟨g1,g,d,tk0,os⟩ _ _ t1 fun g2 e m2 he=>?_))))
  replace m2:U5p i1 g1 g2:=m2
  exact q g2 e tk0 (fun c o n1 n3 _ x=>m2 _ _ n3 (m1.extBut _ _ n1 x)) he
 .refine U0 (U0 (U19 (show wpAny _ _ (U1k (.ref i1) >>= _) _ _ _ from U0 (D1.item k ⟨g1,g,d,tk0,os⟩ _ _ k1 t1 fun x g2 tk1 px t2 m2=>U0d ?_))))
  replace m2:U07 i1 g1 g2:=m2
  have u2:S2 k g2:=D2.frame _ _ _ u1 fun c hc o e=>m2.extBut _ _ (D.b2 c hc).2.2 e
  rw[ke] at u2
  refine U0d ?_
  refine U0 (U0 (U19 (show wpAny _ _ (U1k (.ref i2) >>= _) _ _ _ from U0 (D2.done ⟨g2,g,d,tk1,os⟩ _ _ u2 fun g3 e m3 he=>?_))))
  replace m3:U5p i2 g2 g3:=m3
  exact q g3 e tk1 (fun c o n1 n3 n4 x=>m3 _ _ n4 (m2.extBut _ _ n3 (m1.extBut _ _ n1 x))) he
def ZS(z TI TO i1 i2:Addr)(S1 S2:Nat->Heap->Prop)(k:Nat)(h:Heap):Prop :=
 IsPair h TI (.ref i1) (.ref i2)/\S1 k h/\S2 k h/\((∃a b,IsZip h z TI TO .none/\IsPair h TO a b)∨∃T c o,Ni h z TI TO T c/\h.get? T=some o/\T≠z/\T≠i1/\T≠i2)
theorem ZS.type(st:ZS z TI TO i1 i2 S1 S2 k s.heap):s.TypeIs (.ref z) "zip":=by
 obtain⟨_,_,_,⟨_,_,h,_⟩|⟨_,_,_,h,_⟩⟩:=st
 .exact⟨_,h,rfl⟩
 .exact⟨_,h,rfl⟩
theorem ZS.lt{h:Heap}(st:ZS z TI TO i1 i2 S1 S2 k h):z<h.objs.size:=by
 obtain⟨_,_,_,⟨_,_,h,_⟩|⟨_,_,_,h,_⟩⟩:=st
 .exact U0m h
 .exact U0m h
theorem ZS.frame{h h':Heap}(D1:Draws prog w A i1 fp1 n1 P1 S1)(D2:Draws prog w A i2 fp2 n2 P2 S2)(st:ZS z TI TO i1 i2 S1 S2 k h){S:Addr}(f1:S ∉ fp1)(f2:S ∉ fp2)(n1:S≠z)(n2:S≠TI)(n3:S≠TO)(lv:∃o,h'.get? S=some o)(m:∀c o,c≠S->h.get? c=some o->h'.get? c=some o):ZS z TI TO i1 i2 S1 S2 k h':=by
 obtain⟨a1,a2,a3,a4⟩:=st
 refine⟨m _ _ (U1l n2) a1,D1.frame _ _ _ a2 fun c hc o e=>m c o (fun q=>f1 (q ▸ hc)) e,D2.frame _ _ _ a3 fun c hc o e=>m c o (fun q=>f2 (q ▸ hc)) e,?_⟩
 rcases a4 with ⟨a,b,b1,b2⟩|⟨T,c,o,b1,b2,b3⟩
 .exact .inl ⟨a,b,m _ _ (U1l n1) b1,m _ _ (U1l n3) b2⟩
 .by_cases q:T=S
  .obtain⟨o',e⟩:=lv
   exact .inr ⟨T,c,o',m _ _ (U1l n1) b1,q ▸ e,b3⟩
  .exact .inr ⟨T,c,o,m _ _ (U1l n1) b1,m _ _ q b2,b3⟩
theorem uf{Q:Option Value->Shared->Prop}(D1:Draws prog w A.in1 i1 fp1 n1 P1 S1)(D2:Draws prog w A.in1 i2 fp2 n2 P2 S2)(D:Apart z TI TO i1 i2 fp1 fp2)(st:ZS z TI TO i1 i2 S1 S2 k s.heap)(k1:k<n1)(k2:k<n2)
  (q:∀x y h' tk,P1 k x->P2 k y->ZS z TI TO i1 i2 S1 S2 (k+1) h'->IsPair h' s.heap.objs.size x y->h'.objs.size=s.heap.objs.size+1->(∀c o,c≠z->c≠TO->c≠i1->c≠i2->s.heap.get? c=some o->h'.get? c=some o)->Q (some (.ref s.heap.objs.size)) { s with heap:=h',toks:=tk }) :
  wpAny (model prog w) A (pyNext (.ref z)) Q E s:=by
 have T:=st.type
 have lz:=st.lt
 obtain⟨a1,a2,a3,a4⟩:=st
 obtain⟨_,l1⟩:=D1.live _ _ a2
 obtain⟨_,l2⟩:=D2.live _ _ a3
 rcases a4 with ⟨a,b,b1,b2⟩|⟨T',c,o,b1,b2,b3,b4,b5⟩
 .refine aO D1 D2 D b1 a1 b2 a2 a3 k1 k2 fun x y h' tk p1 p2 c1 c2 c3 c4 c5 c6 c7=>q x y h' tk p1 p2 ⟨c7 _ _ D.a1 D.a3 (U1l D.c1.2.2) (U1l D.c2.2.2) a1,c3,c4,.inr ⟨_,false,_,c1,c5,U1q lz,U1q (U0m l1),U1q (U0m l2)⟩⟩ c5 c6 c7
 .unfold pyNext
  refine U0 (U5o (wpAny_callSpecial?_slot (name:=U3j "__next__") T U2y (U2k U2y T U5h (za D1 D2 D b1 a1 ⟨o,b2⟩ a2 a3 k1 k2 fun x y h' tk p1 p2 c1 c3 c4 c5 c6 c7=>U0d (q x y h' tk p1 p2 ?_ c5 c6 fun c o n1 _ n3 n4 e=>c7 c o n1 n3 n4 e)) (U43 _))))
  exact⟨c7 _ _ D.a1 (U1l D.c1.2.2) (U1l D.c2.2.2) a1,c3,c4,.inr ⟨T',true,o,c1,c7 _ _ b3 b4 b5 b2,b3,b4,b5⟩⟩
theorem oX{Q:Option Value->Shared->Prop}(D1:Draws prog w A.in1 i1 fp1 n1 P1 S1)(D2:Draws prog w A.in1 i2 fp2 n2 P2 S2)(D:Apart z TI TO i1 i2 fp1 fp2)(st:ZS z TI TO i1 i2 S1 S2 k s.heap)(ke:k=n1∨(k<n1/\k=n2))
  (q:∀h' tk,(∀c o,c≠z->c≠TO->c≠i1->c≠i2->s.heap.get? c=some o->h'.get? c=some o)->Q none { s with heap:=h',toks:=tk }):wpAny (model prog w) A (pyNext (.ref z)) Q E s:=by
 have T:=st.type
 obtain⟨a1,a2,a3,a4⟩:=st
 rcases a4 with ⟨a,b,b1,b2⟩|⟨T',c,o,b1,b2,b3,b4,b5⟩
 .exact aN D1 D2 D b1 a1 b2 a2 a3 ke q
 .unfold pyNext
  refine U0 (U5o (wpAny_callSpecial?_slot (name:=U3j "__next__") T U2y (U2k U2y T U5h (yE D1 D2 D b1 a1 ⟨o,b2⟩ a2 a3 ke fun h' e tk kk he=>?_) (U43 _))))
  obtain⟨o,e1,e2⟩:=he
  exact U0 (U4z (T:="StopIteration") (b:=true) ⟨o,e1,e2⟩ isSubtype_stop (U0d (q h' tk fun c o n1 _ n3 n4 e=>kk c o n1 n3 n4 e)))
def Laid(P1 P2:Nat->Value->Prop)(t0 k:Nat)(h:Heap):Prop:=∀j,j<k->∃x y,P1 j x/\P2 j y/\IsPair h (t0+j) x y
theorem ou{R:Result->Shared->Prop}(D1:Draws prog w A.in1.in1 i1 fp1 n1 P1 S1)(D2:Draws prog w A.in1.in1 i2 fp2 n2 P2 S2)(D:Apart z TI TO i1 i2 fp1 fp2){m t0:Nat}(hm:∀k,k<m->k<n1/\k<n2)(he:m=n1∨(m<n1/\m=n2))(hs:m<=1000000)(S:Addr)(f1:S ∉ fp1)(f2:S ∉ fp2)(e1:S≠z)(e2:S≠TI)(e3:S≠TO)(e4:S≠i1)(e5:S≠i2)(e6:S<t0)
  (far:z<t0/\TO<t0/\i1<t0/\i2<t0) (res:Value) :
  ∀(j k:Nat)(s:Shared)(acc:Array Value)(c:Nat),m-k=j->k<=m->ZS z TI TO i1 i2 S1 S2 k s.heap->s.heap.get? S=some { cls:=.type "list",dict:=none,data:=.seq acc c,slots:=#[] }->acc=((U0k k).map fun j=>U12 (t0+j)).toArray->s.heap.objs.size=t0+k->Laid P1 P2 t0 k s.heap ->
  (∀h' tk c',(∀b o,b≠z->b≠TO->b≠i1->b≠i2->b≠S->s.heap.get? b=some o->h'.get? b=some o)->h'.get? S=some { cls:=.type "list",dict:=none,data:=.seq ((U0k m).map fun j=>U12 (t0+j)).toArray c',slots:=#[] }->Laid P1 P2 t0 m h'->R (.ok (.ret res)) { s with heap:=h',toks:=tk }) ->
  codeAny (model prog w) A (.builtin "list.extend.loop" ⟨[.ref S,.ref z,res],[]⟩) R s:=by
 have aw:∀j:Nat,t0+j≠z/\t0+j≠TO/\t0+j≠i1/\t0+j≠i2/\t0+j≠S:=fun j=>⟨U1q (U0w far.1 (U1m _ _)),U1q (U0w far.2.1 (U1m _ _)),U1q (U0w far.2.2.1 (U1m _ _)),U1q (U0w far.2.2.2 (U1m _ _)),U1q (U0w e6 (U1m _ _))⟩
 have hs2:m<=sizeLine:=U1c hs (by decide)
 intro j
 induction j with
 |zero =>
  intro k s acc c hj hk st hS ha hz hl q
  have hkm:k=m:=by omega
  subst hkm
  refine codeAny_builtin PySem.F.entry_extend_loop ?_
  rw[U2l U4q _]
  show wpAny _ A.in1 (pyNext (.ref z) >>= _) _ _ s
  refine U0 (oX D1 D2 D st he fun h' tk kk=>U0d (q h' tk c (fun b o n1 n2 n3 n4 _ e=>kk b o n1 n2 n3 n4 e) ?_ ?_))
  .rw[←ha];exact kk _ _ e1 e3 e4 e5 hS
  .intro j hj
   obtain⟨x,y,p1,p2,t⟩:=hl j hj
   exact⟨x,y,p1,p2,kk _ _ (aw j).1 (aw j).2.1 (aw j).2.2.1 (aw j).2.2.2.1 t⟩
 |succ j ih =>
  intro k s acc c hj hk st hS ha hz hl q
  have hlt:k<m:=by omega
  refine codeAny_builtin PySem.F.entry_extend_loop ?_
  rw[U2l U4q _]
  show wpAny _ A.in1 (pyNext (.ref z) >>= _) _ _ s
  refine U0 (uf D1 D2 D st (hm k hlt).1 (hm k hlt).2 fun x y h' tk p1 p2 st' tp sz kk=>?_)
  have hS':=kk _ _ e1 e3 e4 e5 hS
  have hlen:acc.size=k:=by rw[ha];simp
  show wpAny _ A.in1 (updateSeq S (·.push (.ref s.heap.objs.size)) >>= _) _ _ _
  refine U0 ?_
  have oth:∀b o,b≠S->h'.get? b=some o->(h'.update S (U1r (·.push (U12 s.heap.objs.size)))).get? b=some o:=fun b o n e=>(U04 _ _ (U1l n)).trans e
  have hS2:=U1o (U1r (·.push (U12 s.heap.objs.size))) hS' rfl
  have szu:(h'.update S (U1r (·.push (U12 s.heap.objs.size)))).objs.size=h'.objs.size:=(U10 ..).1
  refine U26 hS' rfl (U0d ⟨plainId_quiet U4q _,ih (k+1) _ (acc.push (.ref s.heap.objs.size)) _ (by omega) hlt (ZS.frame D1 D2 st' f1 f2 e1 e2 e3 ⟨_,hS2⟩ oth) hS2 ?_ ?_ ?_ fun h'' tk'' c'' kk2 hS3 hl3=>?_⟩)
   (by rw[hlen];omega) (by show(acc.push _).size<=sizeLine+1;rw[Array.size_push,hlen];omega)
  .rw[ha,hz,List.range_succ];simp
  .rw[show(U6y _).objs.size=_ from szu,sz,hz];omega
  .intro j hj
   by_cases q':j=k
   .subst q'
    refine⟨x,y,p1,p2,oth _ _ (aw _).2.2.2.2 ?_⟩
    rw[←hz];exact tp
   .obtain⟨x',y',r1,r2,t⟩:=hl j (by omega)
    exact⟨x',y',r1,r2,oth _ _ (aw j).2.2.2.2 (kk _ _ (aw j).1 (aw j).2.1 (aw j).2.2.1 (aw j).2.2.2.1 t)⟩
  .exact q h'' tk'' c'' (fun b o n1 n2 n3 n4 n5 e=>kk2 b o n1 n2 n3 n4 n5 (oth b o n5 (kk b o n1 n2 n3 n4 e))) hS3 hl3
theorem jZ:typeLookup (.type "zip") "__len__"=pure none:=by rw[typeLookup_type,builtinLookup_eq_fast];kernel_rfl
theorem gD:typeLookup (.type "zip") "__length_hint__"=pure none:=by rw[typeLookup_type,builtinLookup_eq_fast];kernel_rfl
theorem ZS.push{h:Heap}(D1:Draws prog w A i1 fp1 n1 P1 S1)(D2:Draws prog w A i2 fp2 n2 P2 S2)(st:ZS z TI TO i1 i2 S1 S2 k h)(o:Obj):ZS z TI TO i1 i2 S1 S2 k (h.push o):=by
 obtain⟨a1,a2,a3,a4⟩:=st
 refine⟨U0c _ a1,D1.frame _ _ _ a2 fun c hc o e=>U0c _ e,D2.frame _ _ _ a3 fun c hc o e=>U0c _ e,?_⟩
 rcases a4 with ⟨a,b,b1,b2⟩|⟨T,c,o,b1,b2,b3⟩
 .exact .inl ⟨a,b,U0c _ b1,U0c _ b2⟩
 .exact .inr ⟨T,c,o,U0c _ b1,U0c _ b2,b3⟩
theorem rD{Q:Value->Shared->Prop}(T:s.TypeIs (.ref z) "zip")(q:Q (.ref z) s):wpAny (model prog w) A (pyIter (.ref z)) Q E s :=
 U7 T PySem.F.slot_zip_iter (U2k PySem.F.slot_zip_iter T PySem.F.entry_zip_iter (show wpAny _ _ (ret (.ref z)) _ _ s from U0d ⟨_,rfl,"zip",_,T,U2y.lookup,q⟩) (PySem.F.args_zip_iter_1 _))
theorem qp{Q:Value->Shared->Prop}(D1:Draws prog w A.in1.in1.in1 i1 fp1 n1 P1 S1)(D2:Draws prog w A.in1.in1.in1 i2 fp2 n2 P2 S2)(D:Apart z TI TO i1 i2 fp1 fp2){m:Nat}(hm:∀k,k<m->k<n1/\k<n2)(he:m=n1∨(m<n1/\m=n2))(hs:m<=1000000)(st:ZS z TI TO i1 i2 S1 S2 0 s.heap)
  (l1:∀b∈fp1,b<s.heap.objs.size) (l2:∀b∈fp2,b<s.heap.objs.size) (l3:z<s.heap.objs.size/\TI<s.heap.objs.size/\TO<s.heap.objs.size/\i1<s.heap.objs.size/\i2<s.heap.objs.size)
  (q:∀h' tk c',(∀b o,b≠z->b≠TO->b≠i1->b≠i2->s.heap.get? b=some o->h'.get? b=some o)->h'.get? s.heap.objs.size=some { cls:=.type "list",dict:=none,data:=.seq ((U0k m).map fun j=>U12 (s.heap.objs.size+1+j)).toArray c',slots:=#[] } ->
   Laid P1 P2 (s.heap.objs.size+1) m h'->Q (.ref s.heap.objs.size) { s with heap:=h',toks:=tk }):wpAny (model prog w) A (call (.type "list") [.ref z]) Q E s:=by
 refine callType_codes (Q₁:=fun obj s₁=>obj=.ref s.heap.objs.size/\s₁={ s with heap:=s.heap.push { cls:=.type "list",data:=.seq #[] } }) PySem.F.called_list (PySem.F.typeCall_list_1 _) PySem.F.entry_list_init (code_list_new _ ⟨rfl,rfl⟩) fun obj s₁ h₁=>?_
 obtain⟨rfl,rfl⟩:=h₁
 have g0:(s.heap.push { cls:=.type "list",data:=.seq #[] }).get? s.heap.objs.size=some { cls:=.type "list",data:=.seq #[] }:=U0v _ rfl
 refine⟨⟨_,g0,rfl⟩,PySem.F.args_list_init_2 _ _,?_⟩
 generalize hS:s.heap.objs.size=S at *
 have st0:=ZS.push D1 D2 st { cls:=.type "list",data:=.seq #[] }
 have sz0:(s.heap.push { cls:=.type "list",data:=.seq #[] }).objs.size=S+1:=by rw[U18,hS]
 have k0:∀b o,s.heap.get? b=some o->(s.heap.push { cls:=.type "list",data:=.seq #[] }).get? b=some o:=fun b o e=>U0c _ e
 generalize s.heap.push { cls:=.type "list",data:=.seq #[] }=h0 at *
 have ne1:S≠z:=U1q l3.1
 have ne2:S≠TI:=U1q l3.2.1
 have ne3:S≠TO:=U1q l3.2.2.1
 have ne4:S≠i1:=U1q l3.2.2.2.1
 have ne5:S≠i2:=U1q l3.2.2.2.2
 have nf1:S ∉ fp1:=fun z=>U3u _ (l1 _ z)
 have nf2:S ∉ fp2:=fun z=>U3u _ (l2 _ z)
 -- one write of the new list after the other
 have wr:∀(h:Heap)(f:Array Value->Array Value)(xs:Array Value)(c:Nat),h.get? S=some { cls:=.type "list",data:=.seq xs c }->(∀b o,b≠S->h.get? b=some o->(h.update S (U1r f)).get? b=some o)/\(h.update S (U1r f)).objs.size=h.objs.size:=fun h f xs c e=>⟨fun b o n e=>(U04 _ _ (U1l n)).trans e,(U10 ..).1⟩
 refine(show wpAny _ _ (do let old ←Builtin.List.listItems (.ref S);Builtin.List.listUpdate (.ref S) (fun _=>#[]);letGo old.toList.reverse;U2x (.ref S) (.ref z) .none) _ _ _ from U0 ?_)
 unfold Builtin.List.listItems
 refine U0 (U2n g0 rfl (U0d (show wpAny _ _ (updateSeq S (fun _=>#[]) >>= fun _=>letGo (#[]:Array Value).toList.reverse >>= fun _=>U2x (.ref S) (.ref z) .none) _ _ _ from U0 (U26 g0 rfl (U0 (U5g ?_))))))
 have g1:=U1o (U1r (fun _=>(#[]:Array Value))) g0 rfl
 obtain⟨o1,z1⟩:=wr h0 (fun _=>#[]) _ _ g0
 have st1:=ZS.frame D1 D2 st0 nf1 nf2 ne1 ne2 ne3 ⟨_,g1⟩ o1
 unfold U2x
 refine U0 (U4v (st1.type (s:={ s with heap:=_ })) ?_)
 have b1:U3l (.ref S) (.ref z)=false:=by simp[U3l,ne1]
 rw[if_neg (by rw[b1];decide)]
 have ty1:U47 { s with heap:=h0.update S (U1r (fun _=>(#[]:Array Value))) } (.ref z) "zip":=st1.type (s:={ s with heap:=_ })
 refine U0 (rD ty1 ?_)
 refine U0 (U19 ?_)
 unfold U3t
 refine U0 (U5w ty1 jZ ?_)
 refine(show wpAny _ _ (specialOf (U12 z) (U3j "__length_hint__") >>= _) _ _ _ from U0 (U5w ty1 gD (U0d ?_)))
 refine(show wpAny _ _ (rule "list.extend.makes-room" >>= fun _=>U6e (.ref S) >>= fun _=>again (.builtin "list.extend.loop" ⟨[.ref S,.ref z,.none],[]⟩)) _ _ _ from U0 (U4p (U0 ?_)))
 refine(show wpAny _ _ (updateSeq S (·.push .none) >>= fun _=>updateSeq S (·.pop)) _ _ _ from U0 (U26 g1 rfl ?_))
 have g2:=U1o (U1r (·.push U2h)) g1 rfl
 obtain⟨o2,z2⟩:=wr _ (·.push U2h) _ _ g1
 have g3:=U1o (U1r (·.pop)) g2 rfl
 obtain⟨o3,z3⟩:=wr _ (·.pop) _ _ g2
 refine U26 (hz:=by seq_fits) g2 rfl ?_
 have st3:=ZS.frame D1 D2 (ZS.frame D1 D2 st1 nf1 nf2 ne1 ne2 ne3 ⟨_,g2⟩ o2) nf1 nf2 ne1 ne2 ne3 ⟨_,g3⟩ o3
 refine U0d ⟨plainId_quiet U4q _,ou D1 D2 D (t0:=S+1) hm he hs S nf1 nf2 ne1 ne2 ne3 ne4 ne5 (U4x _) ⟨U24 l3.1,U24 l3.2.2.1,U24 l3.2.2.2.1,U24 l3.2.2.2.2⟩ _ m 0 _ _ _ rfl (U3a _) st3 g3 ?_ ?_ (fun j hj=>absurd hj (U7j _)) fun h' tk c' kk hS' hl=>⟨rfl,q h' tk c' (fun b o n1 n2 n3 n4 e=>?_) hS' hl⟩⟩
 .simp
 .show(Heap.update _ _ _).objs.size=_
  rw[z3,z2,z1,sz0]
 .have nb:b≠S:=U0y (hS ▸ U0m e)
  exact kk b o n1 n2 n3 n4 nb (o3 b o nb (o2 b o nb (o1 b o nb (k0 b o e))))
end
end HT
end
section
namespace L2
open PySem PySem.Spec PyProof.Rows
section
variable{X:Cx}{pins:List (Addr×Obj)}{σ:St}{H:Hp}{s:Shared}
theorem Inv.yx{H':Hp}{h':Heap}{d':Drawn}{t':Nat}(I:Inv X pins σ H s)(k:∀b u,s.heap.get? b=some u->h'.get? b=some u)(old:∀b,b<s.heap.objs.size->H' b=H b)(ext:∀b o,H b=some o->H' b=some o)
  (new:∀b o,H' b=some o->H b=none->Dh X.prog X.w H' h' b o):Inv X pins σ H' { s with heap:=h',drawn:=d',toks:=t' }:=by
 refine I.step (g':=s.gens) (ch:=[]) (fun _ z=>nomatch z) (fun b u _ _ _ e _=>k b u e) (fun b u _ _ _ e _=>⟨u.slots,k b u e⟩) (fun b u _ e n=>by rw[old b (U0m e)];exact n) (fun b u _ e=>⟨u,k b u e⟩)
  (fun b xs e=>ext _ _ e) (fun b u xs e=>ext _ _ e) (fun b ps e=>⟨#[],by rw[ext _ _ e];simp⟩) (fun m hm=>?_) (fun b u e=>?_) I.bare (fun n=>by rw[old _ I.cL];exact n)
 .obtain⟨ob,es,ep,e,r⟩:=hm
  exact⟨ob,es,ep,k _ _ e,r⟩
 .cases q:H b with
  |none=>exact new b u e q
  |some o =>
   have:=ext b o q
   rw[this] at e
   cases e
   exact(I.hok b _ q).stay (fun c v _ q=>k c v q) (fun c q=>ext _ _ q) fun c xs q=>ext _ _ q
end
def jq(L:Bool)(ta:TA):TE:=fun σ H Q=>ta σ H fun vs H1=>∃a b xs ys,vs=[.ref a,.ref b]/\H1 a=some (HB L xs)/\H1 b=some (HB L ys)/\(xs.zip ys).length<=1000000 /\
 ∀l t0 H2,H1 l=none->(∀c o,H1 c=some o->H2 c=some o)->H2 l=some (.lst ((U0k (xs.zip ys).length).map fun j=>V.ref (t0+j)))->(∀j p,(xs.zip ys)[j]?=some p->H2 (t0+j)=some (.tup [p.1,p.2]))->Q (.ref l) H2
section
variable{X:Cx}
theorem dF(L:Bool){a b:Expr}{ta:TA}{p p2 pos pos2:Pos}(hc:X.calm=true)(hg:Gl X "list")(hm:X.mg "list"=none)(hg2:Gl X "zip")(hm2:X.mg "zip"=none)(ha:PA X [a,b] ta)(hs:starEach [a,b] X.env=[(false,eval a X.env),(false,eval b X.env)]:=by rfl)(hs2:starEach [b] X.env=[(false,eval b X.env)]:=by rfl)
  (he2:starEach [.Call (.Name "zip" p2) [a,b] [] pos2] X.env=[(false,eval (.Call (.Name "zip" p2) [a,b] [] pos2) X.env)]:=by rfl):PE X (.Call (.Name "list" p) [.Call (.Name "zip" p2) [a,b] [] pos2] [] pos) (jq L ta):=by
 intro pins s σ H Q I h
 refine U5 (Ls I hg hm (by decide +kernel:bootBuiltins "list"=some (.type "list")) (U3s ?_ he2 rfl))
 rw[he2]
 refine(show wpAny _ _ (spliced ((false,eval (.Call (.Name "zip" p2) [a,b] [] pos2) X.env)::backTo pos (starEach [] X.env))) _ _ s from U5x ?_)
 refine Call_ (Ls I hg2 hm2 (by decide +kernel:bootBuiltins "zip"=some (.type "zip")) (U3s (thn (ha pos2 pins s σ H _ I h) fun us s1 ⟨vs,H1,I1,r1,q1⟩=>?_) (by rw[hs,hs2]) (by rw[hs2];rfl)))
 obtain⟨l,m,xs,ys,e,e1,e2,hl,q⟩:=q1
 subst e
 obtain⟨us1,us2⟩:us=[.ref l,.ref m]/\True:=by
  cases r1 with
  |cons r rr =>
   cases rr with
   |cons r' rr =>
    cases rr
    cases r
    cases r'
    exact⟨rfl,trivial⟩
 subst us1
 obtain⟨its1,rv1,p1⟩:=I1.Ql e1
 obtain⟨its2,rv2,p2⟩:=I1.Ql e2
 have fin:∀h',IsZip h' (s1.heap.objs.size+4) (s1.heap.objs.size+2) (s1.heap.objs.size+3) .none->IsPair h' (s1.heap.objs.size+2) (.ref s1.heap.objs.size) (.ref (s1.heap.objs.size+1))->IsPair h' (s1.heap.objs.size+3) .none .none ->
   Jy L h' s1.heap.objs.size l 0->Jy L h' (s1.heap.objs.size+1) m 0->(∀c o,s1.heap.get? c=some o->h'.get? c=some o)->wpAny (model X.prog X.w) X.A (spliced (backTo pos (starEach [] X.env))) (fun us s2=>wpAny (model X.prog X.w) X.A (call (.type "list") (.ref (s1.heap.objs.size+4)::us)) (fun v s3=>∃x H',Inv X pins σ H' s3/\RelV x v/\Q x H') X.xe s2) X.xe { s1 with heap:=h' }:=fun h' c1 c2 c3 c4 c5 k=>by
  refine U66 ?_
  generalize hn:s1.heap.objs.size=n at *
  have seqAt:∀(t:Addr)(ws:Array Value),cO L s1.heap t ws->cO L h' t ws/\t<n:=fun t ws x=>by
   cases L with
   |true =>
    refine⟨Heap.IsList.at x fun o e=>k _ _ e,?_⟩
    obtain⟨o,e,_⟩:=(show s1.heap.IsList t ws from x)
    exact hn ▸ U0m e
   |false =>
    refine⟨U50.at x fun o e=>k _ _ e,?_⟩
    obtain⟨o,e,_⟩:=(show s1.heap.IsTuple t ws from x)
    exact hn ▸ U0m e
  obtain⟨q1,ll⟩:=seqAt _ _ p1
  obtain⟨q2,lm⟩:=seqAt _ _ p2
  have lz:n+4<h'.objs.size:=U0m c1
  have lz0:n<h'.objs.size:=U2q (Nat.lt_add_of_pos_right (by decide)) lz
  have lz1:n+1<h'.objs.size:=U2q (U6s (by decide) n) lz
  have lz2:n+2<h'.objs.size:=U2q (U6s (by decide) n) lz
  have lz3:n+3<h'.objs.size:=U2q (U6s (by decide) n) lz
  have hh:X.A.in1.in1.in1.handled=none:=I1.ok.hd hc
  have sl1:=rv1.length
  have sl2:=rv2.length
  have hlen:(xs.zip ys).length=min its1.length its2.length:=by rw[U5c,sl1,sl2]
  refine HT.qp (z:=n+4) (TI:=n+2) (TO:=n+3) (i1:=n) (i2:=n+1) (m:=(xs.zip ys).length) (PX L hh n l (U0y ll) its1.toArray) (PX L hh (n+1) m (U0y (U24 lm)) its2.toArray)
   (UL (by simp) (by simp) (by simp) ⟨by simp,by simp,by simp⟩ ⟨by simp,by simp,by simp⟩ (by simp) (by simp only[U0t,U13,or_false,not_or];exact⟨U0y (U0w ll (U1m _ _)),U0y (U0w ll (U1m _ _)),U0y (U0w ll (U1m _ _)),U0y ll,U0y (U0w ll (U1m _ _))⟩)
    (by simp only[U0t,U13,or_false,not_or];exact⟨U0y (U0w lm (U1m _ _)),U0y (U0w lm (U1m _ _)),U0y (U0w lm (U1m _ _)),U0y lm,U0y (U0w lm (U1m _ _))⟩))
   (fun j hj=>by rw[hlen] at hj;simp;omega) (by rw[hlen];simp;omega) hl ⟨c2,⟨c4,q1⟩,⟨c5,q2⟩,.inl ⟨_,_,c1,c3⟩⟩ ?_ ?_ ⟨lz,lz2,lz3,lz0,lz1⟩ fun h2 tk c' kk hS hL=>?_
  .intro b hb
   simp only[U0t,U13,or_false] at hb
   show b<h'.objs.size
   rcases hb with rfl|rfl
   .exact lz0
   .exact U2q ll lz0
  .intro b hb
   simp only[U0t,U13,or_false] at hb
   show b<h'.objs.size
   rcases hb with rfl|rfl
   .exact lz1
   .exact U2q lm lz0
  .generalize hS':h'.objs.size=S at *
   have up:∀b u,s1.heap.get? b=some u->b<n:=fun b u e=>hn ▸ U0m e
   have k2:∀b u,s1.heap.get? b=some u->h2.get? b=some u:=fun b u e=>by
    have:=up b u e
    exact kk b u (U0y (U0w this (U1m _ _))) (U0y (U0w this (U1m _ _))) (U0y this) (U0y (U0w this (U1m _ _))) (k b u e)
   let refs:List V:=(U0k (xs.zip ys).length).map fun j=>V.ref (S+1+j)
   let H2:Hp:=fun b=>if b=S then some (.lst refs) else match (if S+1<=b then (xs.zip ys)[b-(S+1)]? else none) with|some p=>some (.tup [p.1,p.2])|none=>H1 b
   have old:∀b,b<n->H2 b=H1 b:=fun b hb=>by
    have h1:b≠S:=U0y (U2q hb lz0)
    have h2:¬S+1<=b:=Nat.not_le_of_lt (U2q hb (U24 lz0))
    show(if b=S then _ else _)=_
    rw[if_neg h1,if_neg h2]
   have ext:∀b o,H1 b=some o->H2 b=some o:=fun b o e=>by
    obtain⟨ob,e'⟩:=(I1.hok b o e).obj
    rw[old b (up b ob e')];exact e
   have hpair:∀j p,(xs.zip ys)[j]?=some p->H2 (S+1+j)=some (.tup [p.1,p.2]):=fun j p e=>by
    show(if S+1+j=S then _ else _)=_
    rw[if_neg (by omega),if_pos (by omega),show S+1+j-(S+1)=j by omega,e]
   have hlst:H2 S=some (.lst refs):=by show(if S=S then _ else _)=_;rw[if_pos rfl]
   have fresh:∀b,n<=b->H1 b=none:=fun b hb=>I1.hok.fresh (hn ▸ hb)
   refine⟨.ref S,H2,I1.yx (h':=h2) (d':=s1.drawn) (t':=tk) k2 (hn ▸ old) ext fun b o e e'=>?_,rfl,q S (S+1) H2 (fresh S (U2i lz0)) ext hlst hpair⟩
   by_cases hb:b=S
   .subst hb
    rw[hlst] at e
    cases e
    refine⟨?_,(U0k (xs.zip ys).length).map (fun j=>U12 (b+1+j)),c',?_,hS⟩
    .show((U0k (xs.zip ys).length).map _).length<=_
     rw[U0i,U5l];exact U1c hl (by decide)
    .show Vals ((U0k (xs.zip ys).length).map _) _
     generalize U0k (xs.zip ys).length=r
     induction r with
     |nil=>exact .nil
     |cons j r ih=>exact .cons rfl ih
   .by_cases hb2:S+1<=b
    .obtain⟨j,rfl⟩:∃j,b=S+1+j:=⟨b-(S+1),(Nat.add_sub_cancel' hb2).symm⟩
     cases hz:(xs.zip ys)[j]? with
     |none =>
      have:H2 (S+1+j)=H1 (S+1+j):=by
       show(if S+1+j=S then _ else _)=_
       rw[if_neg hb,if_pos hb2,show S+1+j-(S+1)=j by omega,hz]
      rw[this,e'] at e;cases e
     |some p =>
      rw[hpair j p hz] at e
      cases e
      obtain⟨hj,_⟩:=U0o.mp hz
      obtain⟨x,y,r1,r2,t⟩:=hL j hj
      have z1:=List.getElem?_zip_eq_some.mp hz
      obtain⟨u,hu,ru⟩:=rv1.get z1.1
      obtain⟨v,hv,rv⟩:=rv2.get z1.2
      have g1:its1[j]?=some x:=by simpa using r1
      have g2:its2[j]?=some y:=by simpa using r2
      rw[hu] at g1
      rw[hv] at g2
      have g1':=U03 g1
      have g2':=U03 g2
      rw[g1'] at ru
      rw[g2'] at rv
      exact⟨(by decide:2<=sizeLine),[x,y],.cons ru (.cons rv .nil),⟨_,t,rfl,_,rfl⟩⟩
    .have:H2 b=H1 b:=by
      show(if b=S then _ else _)=_
      rw[if_neg hb,if_neg hb2]
     rw[this,e'] at e;cases e
 cases L with
 |true=>exact call_zip_2 p1 p2 fun h' c1 c2 c3 c4 c5 _ k=>fin h' c1 c2 c3 c4 c5 k
 |false=>exact HT.Yx p1 p2 fun h' c1 c2 c3 c4 c5 k=>fin h' c1 c2 c3 c4 c5 k
end
end L2
end
section
namespace VS
open PySem PySem.Spec L2 PyProof.Rows
theorem WW{Γ:Fr}{μ:Mu}{H:Hp}:∀{as bs:List V} {xs ys:List D} (t0:Nat),VRs Γ μ H as xs->VRs Γ μ H bs ys->(∀j p,(as.zip bs)[j]?=some p->H (t0+j)=some (.tup [p.1,p.2]))->VRs Γ μ H ((U75 t0 (as.zip bs).length).map V.ref) (Dw xs ys)
 |[],_,_,_,_,.nil,_,_=>by simp[Dw];exact .nil
 |_::_,[],_,_,_,.cons _ _,.nil,_=>by simp[Dw];exact .nil
 |a::as,b::bs,_,_,t0,.cons ra rs,.cons rb rt,h=>by
  rw[List.zip_cons_cons,U0g,List.range'_succ,U0j,Dw]
  refine .cons (.tup (h 0 (a,b) rfl) (.cons ra (.cons rb .nil))) (WW (t0+1) rs rt fun j p hp=>?_)
  have:=h (j+1) p (by simpa using hp)
  rw[show t0+1+j=t0+(j+1) by omega]
  exact this
theorem W6:∀(xs ys:List D),(Dw xs ys).length=(xs.zip ys).length
 |[],_=>by simp[Dw]
 |_::_,[]=>by simp[Dw]
 |_::xs,_::ys=>by simp[Dw,W6 xs ys]
def Tz(a:Bu):Az:=fun env S=>(a env S).bind fun p=>match p.1 with
 |[x,y]=>(listOf p.2 x).bind fun xs=>(listOf p.2 y).bind fun ys=>if (Dw xs ys).length<=1000000 then some (.lst true (Dw xs ys),p.2) else none
 |_=>none
theorem dh{X:Cx}{a b:Expr}{f:Bu}{p p2 pos pos2:Pos}(hc:X.calm=true)(ha:JA X [a,b] f)(hg:Gl X "list")(hm:X.mg "list"=none)(hg2:Gl X "zip")(hm2:X.mg "zip"=none)(hs:starEach [a,b] X.env=[(false,eval a X.env),(false,eval b X.env)]:=by rfl)(hs2:starEach [b] X.env=[(false,eval b X.env)]:=by rfl)
  (he2:starEach [.Call (.Name "zip" p2) [a,b] [] pos2] X.env=[(false,eval (.Call (.Name "zip" p2) [a,b] [] pos2) X.env)]:=by rfl):JE X (.Call (.Name "list" p) [.Call (.Name "zip" p2) [a,b] [] pos2] [] pos) (Tz f) :=
 ⟨PE.imp (dF true hc hg hm hg2 hm2 ha.pa hs hs2 he2) fun σ H Q h=>by
  obtain⟨Γ,μ,env,S,d,S',hK,R,e,q⟩:=h
  obtain⟨⟨ds,S1⟩,e1,e⟩:=bind_some e
  dsimp only at e
  split at e
  .rename_i x y
   obtain⟨xs,e2,e⟩:=bind_some e
   obtain⟨ys,e3,e⟩:=bind_some e
   by_cases hl:(Dw xs ys).length<=1000000
   .rw[if_pos hl] at e;cases e
    refine⟨Γ,μ,env,S,[x,y],_,hK,R,e1,fun vs μ1 H1 x1 R1 r1=>?_⟩
    obtain⟨v,u,rfl,ra,rb⟩:=r1.two
    obtain⟨pa,as,rfl,ha',rx⟩:=VR.list R1 ra e2
    obtain⟨pb,bs,rfl,hb',ry⟩:=VR.list R1 rb e3
    refine⟨pa,pb,as,bs,rfl,ha',hb',?_,fun l t0 H2 hn hx hl2 hp=>?_⟩
    .rw[W6,U5c,←rx.length,←ry.length] at hl
     rw[U5c];exact hl
    .obtain⟨R2,x2⟩:=R1.grow (show Same H1 H2 from hx)
     have hr:(U0k (as.zip bs).length).map (fun j=>V.ref (t0+j))=(U75 t0 (as.zip bs).length).map V.ref:=by
      rw[List.range'_eq_map_range,U0e];rfl
     exact q _ μ1 H2 (x1.trans x2) R2 (.lst (R1.ok hn true) (R1.dead hn) hl2 (by rw[hr];exact WW t0 (rx.ext x2) (ry.ext x2) hp))
   .rw[if_neg hl] at e;cases e
  .cases e⟩
def Py(a b:Az):Az:=fun env S=>(a env S).bind fun p=>(b env p.2).bind fun q=>match q.1 with
 |.int k=>(listOf q.2 p.1).bind fun ds=>if -(2^63)<=k/\k<2^63/\ds.length*k.toNat<=1000000 then some (.ref q.2.length,q.2++[some (U0h k.toNat ds).flatten]) else none
 |_=>none
theorem bM{X:Cx}{a b:Expr}{fa fb:Az}{pos:Pos}(ha:JE X a fa)(hb:JE X b fb):JE X (.BinOp a .Mult b pos) (Py fa fb) :=
 ⟨PE.imp (oM fJ ha.pe hb.pe) fun σ H Q h=>by
  obtain⟨Γ,μ,env,S,d,S',hK,R,e,q⟩:=h
  obtain⟨⟨x,S1⟩,e1,e⟩:=bind_some e
  obtain⟨⟨y,S2⟩,e2,e⟩:=bind_some e
  dsimp only at e
  split at e
  .rename_i k
   obtain⟨ds,e3,e⟩:=bind_some e
   by_cases hl:-(2^63)<=k/\k<2^63/\ds.length*k.toNat<=1000000
   .rw[if_pos hl] at e;cases e
    refine⟨Γ,μ,env,S,x,S1,hK,R,e1,fun v1 μ1 H1 x1 R1 r1=>?_⟩
    refine⟨Γ,μ1,env,S1,.int k,S2,hK,R1,e2,fun v2 μ2 H2 x2 R2 r2=>?_⟩
    cases r2
    obtain⟨p,xs,rfl,hp,rp⟩:=VR.list R2 (r1.ext x2) e3
    refine⟨p,k,xs,rfl,rfl,hp,hl.1,hl.2.1,by rw[rp.length];exact U2i (big hl.2.2),fun t ht=>?_⟩
    obtain⟨R3,x3⟩:=R2.laid ht (rp.rep k.toNat)
    exact q _ _ _ (x1.trans (x2.trans x3)) R3 (pW R2.slen)
   .rw[if_neg hl] at e;cases e
  .cases e⟩
theorem aA(a:Bu)(env:VS.Env)(S:Store):VS.Tz a env S=(a env S).bind fun p=>match p.1 with
 |[x,y]=>(listOf p.2 x).bind fun xs=>(listOf p.2 y).bind fun ys=>if (Dw xs ys).length<=1000000 then some (.lst true (Dw xs ys),p.2) else none
 |_=>none:=rfl
theorem nJ(a b:Az)(env:VS.Env)(S:Store):VS.Py a b env S=(a env S).bind fun p=>(b env p.2).bind fun q=>match q.1 with
 |.int k=>(listOf q.2 p.1).bind fun ds=>if -(2^63)<=k/\k<2^63/\ds.length*k.toNat<=1000000 then some (.ref q.2.length,q.2++[some (U0h k.toNat ds).flatten]) else none
 |_=>none:=rfl
end VS
end
section
namespace VS
open PySem PySem.Spec L2
end VS
end
section
namespace HT
open PySem PySem.Spec PyProof PyProof.Rows
end HT
namespace L2
open PySem PySem.Spec PyProof PyProof.Rows
end L2
end
section
namespace VS
open PySem PySem.Spec L2
def Ou(neg:Bool)(_:Store):D->D->Option D
 |.str a,.str b=>some (.bl (neg ^^ decide (a=b)))
 |_,_=>none
theorem aj{K:U0a}:GQ K jM (Ou true):=by
 intro Γ μ σ H env S x y dx dy d hK R rx ry e Q q
 unfold Ou at e
 split at e
 .rename_i a b
  cases e;cases rx;cases ry
  refine .inl ⟨rfl,?_⟩
  have:decide (V.str a=V.str b)=decide (a=b):=by simp
  rw[this]
  exact q _ H (Same.refl H) (by simpa using VR.bl (!decide (a=b)))
 .cases e
end VS
end
section
namespace L2
open PySem PySem.Spec PyProof PyProof.Rows
section
variable{X:Cx}
def uH(K:U0a):List V->Hp->VK->Prop:=fun xs H Q=>∃(p:Addr)(ns:List Int),xs=[.ref p]/\SqL K H p (ns.map V.int)/\Q (.int ns.sum) H
theorem Wm(hc:X.calm=true):Dn X (.builtin "sum") (uH X.K):=by
 intro pins s σ H xs us Q I r h
 obtain⟨p,ns,rfl,hq,q⟩:=h
 obtain⟨u,rfl,rx⟩:=vals1 r
 cases rx
 obtain⟨its,rv,pl,hz⟩:=I.list hq
 have hi:IntsAre its ns:=intsAre_of rv
 obtain⟨ys,hy⟩:=hi.allInts.items
 have hn:=hi.numsOf
 have hl:=pl.isList
 rw[hy] at hl
 refine sum_intListG (I.ok.hd hc) hl fun h' tk t' hk=>⟨.int ns.sum,H,I.kept (h':=h') (t':=tk) hk,⟨t',?_⟩,q⟩
 have e:its=(intItems ys).toList:=by rw[←hy]
 rw[e,nums_intItems] at hn
 rw[preSum_eq,U6d (by simp),hn]
end
end L2
end
section
namespace HT
open PySem PySem.Spec PyProof PyProof.Rows
section
variable{P0:Program}{wd:World}{Ar:Around}{Er:Value->Shared->Prop}{sh:Shared}
theorem jE{nm:String}{bi:Builtin}{xs:List Value}{kv:List (Str×Value)}{Qv:Value->Shared->Prop}(k1:builtinKind nm=none)(k2:plainId nm=true)(k3:entryFor table nm=some bi)(k4:argsOk nm ⟨xs,kv⟩)
  (k5:wpAny (model P0 wd) Ar.in1 (bi ⟨xs,kv⟩) (fun fin t=>match fin with
   |.done f=>(match (Except.ok f:Result) with|.ok (.ret v)=>Qv v t|.ok _=>False|.error e=>Er e t)
   |.again c=>c.quiet=true/\codeAny (model P0 wd) Ar c (fun r t'=>match r with|.ok (.ret v)=>Qv v t'|.ok _=>False|.error e=>Er e t') t) Er sh):wpAny (model P0 wd) Ar (call (.builtin nm) xs kv) Qv Er sh:=by
 apply wpAny_call;apply codeAny_call_builtin k2 k3
 simp only[checkBuiltinCall,k1]
 cases g:Manifest.signature? nm with
 |none=>exact U0d k5
 |some sg =>
  have e:Bind.checkArgs nm sg ⟨xs,kv⟩=pure ():=by simpa only[argsOk,g] using k4
  simp only[e];exact U0d k5
theorem Rq:(toString "max"++toString ".loop":String)="max.loop":=by decide
variable{J:Addr}{fp wr:List Addr}{n:Nat}{P:Nat->Value->Prop}{St:Nat->Heap->Prop}{Rr:Result->Shared->Prop}{dv:Value}
theorem iJ(W:Walks P0 wd Ar.in1 J fp wr n P St)(bt:Nat->Nat->Bool)(hG:CmpOf P0 wd Ar.in1 .Gt P bt)(B:Addr)(nB:B ∉ fp) :
  ∀(k j:Nat)(t:Shared)(vb:Value)(c:Nat),n-(j+1)=k->j+1<=n->St (j+1) t.heap->P (argBest bt j) vb->t.heap.get? B=some { cls:=.type "list",dict:=none,data:=.seq #[vb,vb] c,slots:=#[] } ->
  (∀v h' tk,P (argBest bt (n-1)) v->(∀b o,b ∉ wr->b≠B->t.heap.get? b=some o->h'.get? b=some o)->Rr (.ok (.ret v)) { t with heap:=h',toks:=tk }) ->
  codeAny (model P0 wd) Ar (.builtin "max.loop" ⟨[.ref J,.none,.ref B],[("default",dv)]⟩) Rr t:=by
 have wB:B ∉ wr:=fun h=>nB (W.sub _ h)
 intro k
 induction k with
 |zero =>
  intro j t vb c q1 q2 q3 q4 q5 q6
  have jn:j+1=n:=by omega
  apply codeAny_builtin U7g;rw[U2l U4 _]
  show wpAny _ Ar.in1 (seqItems? (.ref B) >>= _) _ _ t
  apply U0;apply U2n q5 rfl
  show wpAny _ Ar.in1 (tryCatch (pyNext (.ref J)) _ >>= _) _ _ t
  refine U0 (U54 (W.done t _ _ (jn ▸ q3) fun h1 tk1 kp=>?_))
  have q5':=kp B _ wB q5
  show wpAny _ Ar.in1 (updateSeq B (fun _=>#[]) >>= _) _ _ _
  apply U0;apply U26 q5' rfl
  refine U0 (U5g (U0d (q6 vb _ tk1 (by rw[←jn];exact q4) fun b o n1 n2 e=>(U04 _ _ (U1l n2)).trans (kp b o n1 e))))
 |succ k ih =>
  intro j t vb c q1 q2 q3 q4 q5 q6
  have jn:j+1<n:=by omega
  apply codeAny_builtin U7g;rw[U2l U4 _]
  show wpAny _ Ar.in1 (seqItems? (.ref B) >>= _) _ _ t
  apply U0;apply U2n q5 rfl
  show wpAny _ Ar.in1 (tryCatch (pyNext (.ref J)) _ >>= _) _ _ t
  refine U0 (U54 (W.item (j+1) t _ _ jn q3 fun v h1 tk1 pv st1 kp=>?_))
  have q5':=kp B _ wB q5
  show wpAny _ Ar.in1 (tryCatch (holding [v,v] (richCompare .Gt v vb >>= _)) _ >>= _) _ _ _
  refine U0 (U54 (U19 (U0 (hG (j+1) (argBest bt j) v vb _ _ _ pv q4 (U0 (U19 (U3c (U0 (U5g (U0d ?_))))))))))
  cases hb:bt (j+1) (argBest bt j) with
  |true =>
   simp only[if_true]
   apply U0;apply U26 q5' rfl
   refine U0 (U5g ?_)
   rw[Rq]
   refine U0d ⟨plainId_quiet U4 _,ih (j+1) _ v _ (by omega) jn (W.frame _ _ _ st1 fun b hbf o e=>(U04 _ _ (fun h:B=b=>nB (by rw[h];exact hbf))).trans e) (by simp only[argBest,hb,if_true];exact pv) (U1o _ q5' rfl) fun v' h2 tk2 pv' kp2=>?_⟩
   exact q6 v' h2 tk2 pv' fun b o n1 n2 e=>kp2 b o n1 n2 ((U04 _ _ (U1l n2)).trans (kp b o n1 e))
  |false =>
   simp only[U1t,if_false]
   refine U0 (U5g ?_)
   rw[Rq]
   exact U0d ⟨plainId_quiet U4 _,ih (j+1) _ vb c (by omega) jn st1 (by simp only[argBest,hb,U1t,if_false];exact q4) q5' fun v' h2 tk2 pv' kp2=>q6 v' h2 tk2 pv' fun b o n1 n2 e=>kp2 b o n1 n2 (kp b o n1 e)⟩
theorem qe(W:Walks P0 wd Ar.in1 J fp wr n P St)(bt:Nat->Nat->Bool)(hG:CmpOf P0 wd Ar.in1 .Gt P bt)(B:Addr)(nB:B ∉ fp){t:Shared}{c:Nat}(st:St 0 t.heap)(q5:t.heap.get? B=some { cls:=.type "list",dict:=none,data:=.seq #[] c,slots:=#[] })
  (q6:∀v h' tk,(n=0/\v=dv∨0<n/\P (argBest bt (n-1)) v)->(∀b o,b ∉ wr->b≠B->t.heap.get? b=some o->h'.get? b=some o)->Rr (.ok (.ret v)) { t with heap:=h',toks:=tk }) :
  codeAny (model P0 wd) Ar (.builtin "max.loop" ⟨[.ref J,.none,.ref B],[("default",dv)]⟩) Rr t:=by
 have wB:B ∉ wr:=fun h=>nB (W.sub _ h)
 apply codeAny_builtin U7g;rw[U2l U4 _]
 show wpAny _ Ar.in1 (seqItems? (.ref B) >>= _) _ _ t
 apply U0;apply U2n q5 rfl
 show wpAny _ Ar.in1 (tryCatch (pyNext (.ref J)) _ >>= _) _ _ t
 by_cases h0:n=0
 .refine U0 (U54 (W.done t _ _ (h0 ▸ st) fun h1 tk1 kp=>?_))
  show wpAny _ Ar.in1 (rule _ >>= _) _ _ _
  exact U0 (U4p (U0d (q6 dv _ tk1 (.inl ⟨h0,rfl⟩) fun b o n1 n2 e=>kp b o n1 e)))
 .have hn:0<n:=by omega
  refine U0 (U54 (W.item 0 t _ _ hn st fun v h1 tk1 pv st1 kp=>?_))
  have q5':=kp B _ wB q5
  show wpAny _ Ar.in1 (updateSeq B (fun _=>#[v,v]) >>= _) _ _ _
  apply U0;apply U26 q5' rfl
  rw[Rq]
  refine U0d ⟨plainId_quiet U4 _,iJ W bt hG B nB _ 0 _ v _ rfl hn (W.frame _ _ _ st1 fun b hbf o e=>(U04 _ _ (fun h:B=b=>nB (by rw[h];exact hbf))).trans e) pv (U1o _ q5' rfl) fun v' h2 tk2 pv' kp2=>?_⟩
  exact q6 v' h2 tk2 (.inr ⟨hn,pv'⟩) fun b o n1 n2 e=>kp2 b o n1 n2 ((U04 _ _ (U1l n2)).trans (kp b o n1 e))
theorem jF(a d:Value):argsOk "max" ⟨[a],[("default",d)]⟩:=by unfold argsOk;kernel_rfl
end
end HT
namespace L2
open PySem PySem.Spec PyProof PyProof.Rows
section
variable{X:Cx}
theorem jC(hc:X.calm=true){pins:List (Addr×Obj)}{σ:St}{H:Hp}{s:Shared}(I:Inv X pins σ H s){p:Addr}{ns:List Int}{d:Int}{t:Tok}(hq:SqL X.K H p (ns.map V.int)){Q:VK}(q0:ns=[]->Q (.int d) H)(q1:ns≠[]->∀m∈ns,(∀n∈ns,n<=m)->Q (.int m) H) :
  wpAny (model X.prog X.w) X.A (call (.builtin "max") [.ref p] [("default",.int d t)]) (EP X pins σ Q) X.xe s:=by
 obtain⟨its,rv,pl,hz⟩:=I.list hq
 have hlen:=rv.length
 rw[U0i] at hlen
 have hl:=pl.isList
 have hlt:p<s.heap.objs.size:=by obtain⟨o,ho,_⟩:=hl;exact U0m ho
 have hval:∀i v,its.toArray[i]?=some v->∃t,v=U3x (ns.getD i 0) t:=fun i v e=>by
  rw[U5m] at e
  have hi:i<ns.length:=by rw[hlen];exact(U0o.mp e).1
  obtain⟨u,e1,ru⟩:=rv.get (i:=i) (x:=.int ns[i]) (by rw[U0z,U0n hi];rfl)
  rw[e] at e1;cases e1
  rw[show ns.getD i 0=ns[i] by rw[U0r,U0n hi];rfl]
  exact ru
 refine HT.jE F.kind_max F.plain_max F.entry_max (HT.jF _ _) ?_
 show wpAny _ X.A.in1 (Builtin.Builtins.bindParams "max" ["key","default"] 0 ⟨[],[("default",.int d t)]⟩ >>= _) _ _ s
 refine U0 (wpAny_of_eq (show Builtin.Builtins.bindParams "max" ["key","default"] 0 ⟨[],[("default",.int d t)]⟩=pure [none,some (.int d t)] by kernel_rfl) ?_)
 refine U0 (U0d (U0 (U5k hl (U0 (U2d ?_)))))
 rw[HT.Rq]
 have W:=Walks.list (prog:=X.prog) (w:=X.w) (A:=X.A.in1) (by simpa using I.ok.hd hc) s.heap.objs.size p (U0y hlt) its.toArray
 refine U0d ⟨plainId_quiet U4 _,HT.qe W _ (CmpOf.ints_gt (fun i=>ns.getD i 0) hval) _ ?_ ⟨⟨_,U0c _ (U0v _ rfl),rfl,rfl⟩,(hl.push _).push _⟩ (U0v _ rfl) fun v h' tk hv hk=>?_⟩
 .intro hm
  rw[U18] at hm
  rcases U0t.mp hm with z|z
  .exact absurd z (U1q (U4x _))
  .exact absurd (U01.mp z) (U1q (U24 hlt))
 .have J:Inv X pins σ H { s with heap:=h',toks:=tk }:=I.kept (h':=h') (t':=tk) fun b o e=>hk b o (fun z=>absurd (U01.mp z) (U0y (U0m e))) (fun z=>absurd (U0m e) (by rw[z,U18];exact U7u.mpr (U5e _))) (U0c _ (U0c _ e))
  rcases hv with ⟨h0,rfl⟩|⟨h0,hP⟩
  .exact⟨.int d,H,J,⟨t,rfl⟩,q0 (U3r.mp (by rw[hlen];simpa using h0))⟩
  .obtain⟨g1,g2⟩:=argBest_gt (fun i=>ns.getD i 0) (its.toArray.size-1)
   obtain⟨t',rfl⟩:=hval _ _ hP
   rw[U0x,←hlen] at g1 g2 h0
   have hb:argBest (fun i j=>decide (ns.getD i 0>ns.getD j 0)) (ns.length-1)<ns.length:=by omega
   rw[U0x,←hlen]
   refine⟨.int _,H,J,⟨t',rfl⟩,q1 (fun z=>by rw[z] at h0;simp at h0) _ ?_ fun n hn=>?_⟩
   .rw[U0r,U0n hb]
    exact U3k hb
   .obtain⟨j,hj,rfl⟩:=U6t hn
    have:=g2 j (by omega)
    rw[U0r,U0n hj] at this
    exact this
def yL(K:U0a)(d:Int)(te:TE):TE:=fun σ H Q=>te σ H fun x H1=>∃(p:Addr)(ns:List Int),x=.ref p/\SqL K H1 p (ns.map V.int)/\(ns=[]->Q (.int d) H1)/\(ns≠[]->∀m∈ns,(∀n∈ns,n<=m)->Q (.int m) H1)
theorem qO{e:Expr}{te:TE}{d:Int}{j:Nat}{p pos kp kp0:Pos}(hc:X.calm=true)(hg:Gl X "max")(hm:X.mg "max"=none)(he:PE X e te)(hs:starEach [e] X.env=[(false,eval e X.env)]:=by rfl) :
  PE X (.Call (.Name "max" p) [e] [⟨some "default",.Constant (.int d) j kp0,kp⟩] pos) (yL X.K d te):=by
 intro pins s σ H Q I h
 refine U5 (Ls I hg hm (by decide +kernel:bootBuiltins "max"=some (.builtin "max")) ?_)
 refine PyProof.Rows.callWith_kw ?_ (by rw[hs];rfl) (by rw[hs];rfl) rfl rfl
 refine thn (Mw he PB hs pos pins s σ H (fun vs H1=>match vs with
  |[x]=>∃(p:Addr)(ns:List Int),x=.ref p/\SqL X.K H1 p (ns.map V.int)/\(ns=[]->Q (.int d) H1)/\(ns≠[]->∀m∈ns,(∀n∈ns,n<=m)->Q (.int m) H1)
  |_=>False) I h) fun us s1 ⟨vs,H1,I1,r1,q1⟩=>?_
 cases r1 with
 |nil=>exact q1.elim
 |cons rx rr =>
  cases rr with
  |cons _ _=>exact q1.elim
  |nil =>
   obtain⟨a,ns,rfl,hq,q0,q2⟩:=q1
   cases rx
   refine PyProof.Rows.kws_cons (thn (fH pins s1 σ H1 (fun y H2=>y=.int d/\H2=H1) I1 ⟨rfl,rfl⟩) fun u s2 ⟨y,H2,I2,r2,e1,e2⟩=>PyProof.Rows.kws_nil ?_)
   subst e1 e2
   obtain⟨t0,rfl⟩:=(show ∃t,u=U3x d t from r2)
   exact jC hc I2 hq q0 q2
end
end L2
end
section
namespace VS
open PySem PySem.Spec L2
theorem fX:bootBuiltins "sum"=some (.builtin "sum"):=by decide +kernel
def TV(S:Store):List D->Option D
 |[x]=>(listOf S x).bind fun ds=>(intsOf ds).map fun ns=>.int ns.sum
 |_=>none
theorem aZ{K:U0a}:Lz K (uH K) TV:=by
 intro Γ μ σ H env S xs ds d hK R rs e Q q
 unfold TV at e
 split at e
 .obtain⟨es,e1,e⟩:=bind_some e
  obtain⟨ns,e2,e4⟩:=map_some e
  subst e4
  obtain⟨v,rfl,r⟩:=rs.one
  obtain⟨a,ys,rfl,ha,rx⟩:=VR.list R r e1
  have:=J5 e2
  subst this
  have:=rx.Rh
  subst this
  exact⟨a,ns,rfl,SqL.of ha,q _ H (Same.refl H) (.int _)⟩
 .cases e
def Uj(d:Int)(a:Az):Az:=fun env S=>(a env S).bind fun p=>(listOf p.2 p.1).bind fun ds=>(intsOf ds).map fun ns=>(.int ((Lx ns).getD d),p.2)
theorem nO(d:Int)(a:Az)(env:VS.Env)(S:Store):Uj d a env S=(a env S).bind fun p=>(listOf p.2 p.1).bind fun ds=>(intsOf ds).map fun ns=>(.int ((Lx ns).getD d),p.2):=rfl
theorem qz{X:Cx}{e:Expr}{f:Az}{d:Int}{j:Nat}{p pos kp kp0:Pos}(hc:X.calm=true)(hg:Gl X "max")(hm:X.mg "max"=none)(he:JE X e f)(hs:starEach [e] X.env=[(false,eval e X.env)]:=by rfl) :
  JE X (.Call (.Name "max" p) [e] [⟨some "default",.Constant (.int d) j kp0,kp⟩] pos) (Uj d f) :=
 ⟨PE.imp (qO hc hg hm he.pe hs) fun σ H Q h=>by
  obtain⟨Γ,μ,env,S,y,S',hK,R,e,q⟩:=h
  obtain⟨⟨x,S1⟩,e1,e⟩:=bind_some e
  obtain⟨ds,e2,e⟩:=bind_some e
  obtain⟨ns,e3,e⟩:=map_some e
  cases e
  refine⟨Γ,μ,env,S,x,S1,hK,R,e1,fun v1 μ1 H1 x1 R1 r1=>?_⟩
  obtain⟨a,xs,rfl,ha,rs⟩:=VR.list R1 r1 e2
  have:=J5 e3
  subst this
  have:=rs.Rh
  subst this
  refine⟨a,ns,rfl,SqL.of ha,fun z=>?_,fun z m h1 h2=>?_⟩
  .have:=q (.int ((Lx ns).getD d)) μ1 H1 x1 R1 (.int _)
   rw[z] at this
   exact this
  .cases hm:Lx ns with
   |none =>
    cases ns with
    |nil=>exact absurd rfl z
    |cons a r=>simp[Lx] at hm
   |some m' =>
    obtain⟨g1,g2⟩:=bG hm
    have e:m=m':=U7l (g2 _ h1) (h2 _ g1)
    have:=q (.int ((Lx ns).getD d)) μ1 H1 x1 R1 (.int _)
    rw[hm] at this
    rw[e]
    exact this⟩
end VS
end
section
namespace VS
open PySem PySem.Spec L2
end VS
end
section
set_option maxRecDepth 100000
namespace HT
open PySem PySem.Spec PyProof.Rows
section
variable{prog:Program}{w:World}{A:Around}{E:Value->Shared->Prop}{s:Shared}
structure Jba(z TI TO i1 i2 i3:Addr)(fp1 fp2 fp3:List Addr):Prop where
 a1:TI≠z
 a2:TO≠z
 a3:TI≠TO
 b1:∀b∈fp1,b≠z/\b≠TO/\b≠i2/\b≠i3
 b2:∀b∈fp2,b≠z/\b≠TO/\b≠i1/\b≠i3
 b3:∀b∈fp3,b≠z/\b≠TO/\b≠i1/\b≠i2
 c1:i1≠z/\i1≠TO/\i1≠TI
 c2:i2≠z/\i2≠TO/\i2≠TI
 c3:i3≠z/\i3≠TO/\i3≠TI
section
variable{z TI TO i1 i2 i3:Addr}{fp1 fp2 fp3:List Addr}{n1 n2 n3 k:Nat}{P1 P2 P3:Nat->Value->Prop}{S1 S2 S3:Nat->Heap->Prop}{a b c:Value}
end
set_option maxHeartbeats 4000000 in
end
end HT
end
section
namespace HT
open PySem PySem.Spec PyProof.Rows
section
variable{prog:Program}{w:World}{A:Around}{E:Value->Shared->Prop}{s:Shared}
end
end HT
namespace L2
open PySem PySem.Spec PyProof.Rows
end L2
end
section
namespace L2
open PySem PySem.Spec PyProof.Rows
section
variable{X:Cx}
end
end L2
end
section
namespace VS
open PySem PySem.Spec L2
section
variable{X:Cx}
end
end VS
end
section
set_option maxRecDepth 100000
namespace L2
open PySem PySem.Spec PyProof.Rows
section
variable{κ:Type}[DecidableEq κ]
def J6(kvs:List (κ×V))(k:κ):Option V:=(kvs.find? fun kv=>decide (kv.1=k)).map (·.2)
def putK(kvs:List (κ×V))(k:κ)(v:V):List (κ×V) :=
 if (kvs.any fun kv=>decide (kv.1=k))=true then kvs.map (fun kv=>if kv.1=k then (kv.1,v) else kv) else kvs++[(k,v)]
theorem TY{p:κ×V}{r:List (κ×V)}{k:κ}(e:p.1=k):J6 (p::r) k=some p.2:=by simp[J6,U3h,e]
theorem Tc{p:κ×V}{r:List (κ×V)}{k:κ}(e:¬p.1=k):J6 (p::r) k=J6 r k:=by simp[J6,U3h,e]
theorem YB(k:κ):∀kvs:List (κ×V),(kvs.any fun kv=>decide (kv.1=k))=(J6 kvs k).isSome
 |[]=>rfl
 |p::r=>by
  rw[U7x]
  by_cases e:p.1=k
  .simp only[TY e,decide_eq_true e,U73,U6z]
  .rw[Tc e,decide_eq_false e,Bool.false_or];exact YB k r
theorem SQ(kvs:List (κ×V))(k:κ)(v:V):(putK kvs k v).length<=kvs.length+1:=by
 unfold putK
 split
 .rw[U0i];omega
 .rw[U0s,U0g,U1a];omega
theorem LR.iW{o:Option V}{u:Option Value}(r:LR o u):o.isSome=u.isSome:=by
 cases o with
 |none=>cases u with
  |none=>rfl
  |some _=>exact(show False from r).elim
 |some _=>cases u with
  |none=>exact(show False from r).elim
  |some _=>rfl
theorem LR.getD{o:Option V}{u:Option Value}{d:V}{d':Value}(r:LR o u)(rd:RelV d d'):RelV (o.getD d) (u.getD d'):=by
 cases o with
 |none=>cases u with
  |none=>exact rd
  |some _=>exact(show False from r).elim
 |some _=>cases u with
  |none=>exact(show False from r).elim
  |some _=>exact r
theorem KV.val{kvs:List (κ×V)}{vs:List (κ×Value)}(r:KV kvs vs)(k:κ):LR (J6 kvs k) (valueAt vs k):=by
 unfold KV at r
 induction r with
 |nil=>exact U49
 |@cons p q ps qs h t ih =>
  obtain⟨h1,h2⟩:=h
  by_cases e:p.1=k
  .have e':q.1=k:=h1.symm.trans e
   have b:valueAt (q::qs) k=some q.2:=by simp[valueAt,U3h,e']
   rw[TY e,b];exact h2
  .have e':¬q.1=k:=fun z=>e (h1.trans z)
   have b:valueAt (q::qs) k=valueAt qs k:=by simp[valueAt,U3h,e']
   rw[Tc e,b];exact ih
theorem KV.any{kvs:List (κ×V)}{vs:List (κ×Value)}(r:KV kvs vs)(k:κ):(kvs.any fun kv=>decide (kv.1=k))=vs.any fun kv=>decide (kv.1=k):=by
 unfold KV at r
 induction r with
 |nil=>rfl
 |cons h t ih=>rw[U7x,U7x,ih,h.1]
theorem KV.repl{kvs:List (κ×V)}{vs:List (κ×Value)}(r:KV kvs vs)(k:κ){y:V}{u:Value}(ry:RelV y u) :
  KV (kvs.map fun kv=>if kv.1=k then (kv.1,y) else kv) (vs.map fun kv=>if kv.1=k then (kv.1,u) else kv):=by
 unfold KV at r ⊢
 induction r with
 |nil=>exact .nil
 |@cons p q ps qs h t ih =>
  rw[U0j,U0j]
  refine .cons ?_ ih
  obtain⟨h1,h2⟩:=h
  by_cases e:p.1=k
  .rw[if_pos e,if_pos (h1.symm.trans e)];exact⟨h1,ry⟩
  .rw[if_neg e,if_neg (fun z=>e (h1.trans z))];exact⟨h1,h2⟩
theorem KV.put{kvs:List (κ×V)}{vs:List (κ×Value)}(r:KV kvs vs)(k:κ){y:V}{u:Value}(ry:RelV y u):KV (putK kvs k y) (stored vs k u):=by
 unfold putK stored
 rw[r.any k]
 by_cases e:(vs.any fun kv=>decide (kv.1=k))=true
 .rw[if_pos e,if_pos e];exact r.repl k ry
 .rw[if_neg e,if_neg e];exact Paired.snoc r ⟨rfl,ry⟩
theorem KV.keys{kvs:List (κ×V)}{vs:List (κ×Value)}(r:KV kvs vs):kvs.map (·.1)=vs.map (·.1):=by
 unfold KV at r
 induction r with
 |nil=>rfl
 |cons h t ih=>rw[U0j,U0j,ih,h.1]
theorem KV.length{kvs:List (κ×V)}{vs:List (κ×Value)}(r:KV kvs vs):kvs.length=vs.length:=Paired.length r
end
theorem XJ{P:Program}{w:World}{k:Key}{u:Value}(r:RelV (kV k) u):(Fx P w).is k u=true:=by
 cases k with
 |inl i=>obtain⟨t,e⟩:=(show ∃t,u=U3x i t from r);subst e;exact Zw P w i t
 |inr x=>obtain⟨t,e⟩:=(show ∃t,u=U7h x t from r);subst e;exact Zv P w x t
theorem Wd{P:Program}{w:World}:∀{ks:List Key} {us:List Value},Vals (ks.map kV) us->ItemsAre (Fx P w) ks us
 |[],_,r=>by rw[U1j] at r;cases r;exact .nil
 |k::ks,_,r=>by
  rw[U0j] at r
  cases r with
  |cons h t=>exact .cons (XJ h) (Wd t)
abbrev KT(H:Hp):List (List Key×V)->List (List Key×Addr×Value)->Prop:=Paired fun p q=>p.1=q.1/\H q.2.1=some (.tup (p.1.map kV))/\RelV p.2 q.2.2
theorem KT.val{H:Hp}{kvs:List (List Key×V)}{xs:List (List Key×Addr×Value)}(r:KT H kvs xs)(k:List Key):LR (J6 kvs k) ((atKey xs k).map (·.2)):=by
 induction r with
 |nil=>exact U49
 |@cons p q ps qs h t ih =>
  obtain⟨h1,_,h2⟩:=h
  by_cases e:p.1=k
  .have e':q.1=k:=h1.symm.trans e
   have b:atKey (q::qs) k=some q.2:=by simp[atKey,U3h,e']
   rw[TY e,b];exact h2
  .have e':¬q.1=k:=fun z=>e (h1.trans z)
   have b:atKey (q::qs) k=atKey qs k:=by simp[atKey,U3h,e']
   rw[Tc e,b];exact ih
theorem KT.repl{H:Hp}{kvs:List (List Key×V)}{xs:List (List Key×Addr×Value)}(r:KT H kvs xs)(k:List Key){y:V}{u:Value}(ry:RelV y u) :
  KT H (kvs.map fun kv=>if kv.1=k then (kv.1,y) else kv) (xs.map (putAt k u)):=by
 induction r with
 |nil=>exact .nil
 |@cons p q ps qs h t ih =>
  rw[U0j,U0j]
  refine .cons ?_ ih
  obtain⟨h1,h2,h3⟩:=h
  unfold putAt
  by_cases e:p.1=k
  .rw[if_pos e,if_pos (h1.symm.trans e)];exact⟨h1,h2,ry⟩
  .rw[if_neg e,if_neg (fun z=>e (h1.trans z))];exact⟨h1,h2,h3⟩
theorem KT.put{H:Hp}{kvs:List (List Key×V)}{xs:List (List Key×Addr×Value)}(r:KT H kvs xs)(k:List Key){b:Addr}{y:V}{u:Value}(hb:H b=some (.tup (k.map kV)))(ry:RelV y u) :
  KT H (putK kvs k y) (storedH xs k b u):=by
 have e:(kvs.any fun kv=>decide (kv.1=k))=(atKey xs k).isSome:=by
  rw[YB,(r.val k).iW,Option.isSome_map]
 unfold putK storedH
 rw[e]
 by_cases q:(atKey xs k).isSome=true
 .rw[if_pos q,if_pos q];exact r.repl k ry
 .rw[if_neg q,if_neg q];exact Paired.snoc r ⟨rfl,hb,ry⟩
theorem KT.keeps{H H':Hp}{kvs:List (List Key×V)}{xs:List (List Key×Addr×Value)}(r:KT H kvs xs)(ht:∀b ys,H b=some (.tup ys)->H' b=some (.tup ys)):KT H' kvs xs :=
 Paired.jO r fun _ _ z=>⟨z.1,ht _ _ z.2.1,z.2.2⟩
section
variable{P:Program}{w:World}{H:Hp}{h:Heap}{a:Addr}
theorem oF{u:HO}(ok:HOk P w H h)(e:Rd H a u):Dh P w H h a u:=e.ok ok
theorem Um{kvs:List (Key×V)}(ok:HOk P w H h)(e:Rd H a (.dK kvs)):kvs.length<=sizeLine/\(a==sysModules)=false/\∃vs,KV kvs vs/\h.DictOf (Fx P w) a vs :=
 show Dh P w H h a (.dK kvs) from oF ok e
theorem oU{kvs:List (Key×V)}(ok:HOk P w H h)(e:H a=some (.dK kvs)):kvs.length<=sizeLine/\(a==sysModules)=false/\∃vs,KV kvs vs/\h.DictOf (Fx P w) a vs:=Um ok (.inl e)
theorem Uu{ks:List Key}(ok:HOk P w H h)(e:H a=some (.tup (ks.map kV))):(tupleKind (Fx P w)).is h ks a:=by
 obtain⟨_,its,r,o,h1,h2,n,h3⟩:=(show Dh P w H h a (.tup (ks.map kV)) from ok a _ e)
 exact⟨o,its.toArray,n,h1,h2,h3,by simpa using Wd r⟩
theorem Ul{kvs:List (List Key×V)}(ok:HOk P w H h)(e:Rd H a (.dT kvs)):kvs.length<=sizeLine/\(a==sysModules)=false /\
  ∃xs,KT H kvs xs/\h.DictOfH (tupleKind (Fx P w)) a xs:=by
 obtain⟨z,y,xs,r,o,es,ep,h1,h2,h3,h4,h5⟩:=(show Dh P w H h a (.dT kvs) from oF ok e)
 refine⟨z,y,xs,r,o,es,ep,h1,h2,h3,h4,fun x hx=>?_,h5⟩
 have all:∀{l:List (List Key×V)} {m:List (List Key×Addr×Value)},KT H l m->∀x∈m,(tupleKind (Fx P w)).is h x.1 x.2.1:=by
  intro l m q
  induction q with
  |nil=>intro x hx;exact nomatch hx
  |@cons p q ps qs hq t ih =>
   intro x hx
   rcases U0t.mp hx with e|hx
   .subst e
    exact Uu ok (by rw[←hq.1];exact hq.2.1)
   .exact ih x hx
 exact all r x hx
theorem zM{kvs:List (List Key×V)}(ok:HOk P w H h)(e:H a=some (.dT kvs)):kvs.length<=sizeLine/\(a==sysModules)=false /\
  ∃xs,KT H kvs xs/\h.DictOfH (tupleKind (Fx P w)) a xs:=Ul ok (.inl e)
end
def Pq(H:Hp)(a:Addr)(y:V)(r:Option V):Prop :=
 (∃kvs k,Rd H a (.dK kvs)/\y=kV k/\r=J6 kvs k)∨∃kvs k b,Rd H a (.dT kvs)/\y=.ref b/\H b=some (.tup (k.map kV))/\r=J6 kvs k
def Xf(H:Hp)(a:Addr)(y v:V)(H':Hp):Prop :=
 (∃kvs k,H a=some (.dK kvs)/\y=kV k/\kvs.length<sizeLine/\H'=upd H a (.dK (putK kvs k v))) ∨
 ∃kvs k b,H a=some (.dT kvs)/\y=.ref b/\H b=some (.tup (k.map kV))/\kvs.length<sizeLine/\H'=upd H a (.dT (putK kvs k v))
theorem Pq.k{H:Hp}{a:Addr}{kvs:List (Key×V)}{k:Key}(e:H a=some (.dK kvs)):Pq H a (kV k) (J6 kvs k):=.inl ⟨kvs,k,.inl e,rfl,rfl⟩
theorem Xf.k{H:Hp}{a:Addr}{kvs:List (Key×V)}{k:Key}{v:V}(e:H a=some (.dK kvs))(hl:kvs.length<sizeLine):Xf H a (kV k) v (upd H a (.dK (putK kvs k v))):=.inl ⟨kvs,k,e,rfl,hl,rfl⟩
section
variable{X:Cx}{pins:List (Addr×Obj)}{σ:St}{H:Hp}{s:Shared}{a:Addr}{y v:V}{u r:Value}{o:Option V}{A:Around}{E:Value->Shared->Prop}
theorem j7{Q:Value->Shared->Prop}(hu:A.units+1<cLine)(I:Inv X pins σ H s)(g:Pq H a y (some v))(ry:RelV y u)(h:∀w' s',Inv X pins σ H s'->RelV v w'->Q w' s') :
  wpAny (model X.prog X.w) A (getItem (.ref a) u) Q E s:=by
 rcases g with ⟨kvs,k,e,ey,l⟩|⟨kvs,k,b,e,ey,eb,l⟩
 .subst ey
  obtain⟨z,hd,vs,rel,dd⟩:=Um I.hok e
  obtain⟨w',hw,rw'⟩:=LR.some_of (v:=v) (o:=valueAt vs k) (by rw[l];exact rel.val k)
  exact wpAny_getItem_of (XJ ry) dd.mapOf hw (h w' _ (I.tok _) rw')
 .subst ey
  cases (show u=U12 b from ry)
  obtain⟨z,hd,xs,rel,dd⟩:=Ul I.hok e
  obtain⟨w',hw,rw'⟩:=LR.some_of (v:=v) (o:=(atKey xs k).map (·.2)) (by rw[l];exact rel.val k)
  obtain⟨p,hp,hp2⟩:=U1y.mp hw
  refine wpAny_getItem_heap (tupleKind_room_in1 hu) (Uu I.hok eb) dd hp ?_
  rw[hp2]
  exact h w' _ (I.tok _) rw'
theorem bV{h':Heap}{t':Nat}{ob:HO}(I:Inv X pins σ H s)(mu:Mut (H a))(hs:U07 a s.heap h')(he:∃q,h'.get? a=some q)(new:Dh X.prog X.w (upd H a ob) h' a ob) :
  Inv X pins σ (upd H a ob) { s with heap:=h',toks:=t' } :=
 I.write (x:=a) (e:=a) mu (.inl rfl) (fun b q hb z=>(hs.2 b hb).trans z) he new
theorem wZ{P:Program}{w:World}{H':Hp}{h':Heap}{kvs:List (Key×V)}{vs:List (Key×Value)}(z:kvs.length<=sizeLine)(hd:(a==sysModules)=false)(rel:KV kvs vs)(dd:h'.DictOf (Fx P w) a vs) :
  Dh P w H' h' a (.dK kvs):=⟨z,hd,vs,rel,dd⟩
theorem j6{H':Hp}{Q:Unit->Shared->Prop}(hu:A.units+1<cLine)(I:Inv X pins σ H s)(g:Xf H a y v H')(ry:RelV y u)(rv:RelV v r)(h:∀s',Inv X pins σ H' s'->Q () s') :
  wpAny (model X.prog X.w) A (setItem (.ref a) u r) Q E s:=by
 rcases g with ⟨kvs,k,e,ey,l,eH⟩|⟨kvs,k,b,e,ey,eb,l,eH⟩
 .subst ey eH
  obtain⟨z,hd,vs,rel,dd⟩:=oU I.hok e
  have hz:vs.length<=sizeLine:=by rw[←rel.length];exact z
  have hl:(putK kvs k v).length<=sizeLine:=by have:=SQ kvs k v;omega
  refine wpAny_setItem_pairs (hsz:=hz) (XJ ry) dd fun h' dd' hs=>h _ ?_
  have he:∃q,h'.get? a=some q:=let ⟨q,_,_,hq,_⟩:=dd';⟨q,hq⟩
  exact bV I (by rw[e];exact U49) hs he (wZ hl hd (rel.put k rv) dd')
 .subst ey eH
  cases (show u=U12 b from ry)
  obtain⟨z,hd,xs,rel,dd⟩:=zM I.hok e
  have hz:xs.length<=sizeLine:=by rw[←Paired.length rel];exact z
  have hl:(putK kvs k v).length<=sizeLine:=by have:=SQ kvs k v;omega
  refine wpAny_setItem_heap (hsz:=hz) (tupleKind_room_in1 hu) (Uu I.hok eb) dd fun h' dd' hs=>h _ ?_
  obtain⟨q,es,ep,hq,h2,h3,h4,_,h5⟩:=dd'
  refine bV I (by rw[e];exact U49) hs ⟨q,hq⟩ ⟨hl,hd,_,(rel.put k eb rv).keeps fun c ys ec=>?_,q,es,ep,hq,h2,h3,h4,h5⟩
  rw[Bl (yw ec e (fun z=>nomatch z))]
  exact ec
end
section
variable{X:Cx}{pins:List (Addr×Obj)}{σ:St}{H:Hp}{s:Shared}{a:Addr}{kvs:List (Key×V)}{k:Key}{u:Value}{A:Around}{E:Value->Shared->Prop}
end
def jX(i:Expr):Prop:=∀ov iv,subscripted i false ov iv=operate [ov,iv] (getItem ov iv)
theorem pK{prog:Program}{w:World}{A:Around}{E:Value->Shared->Prop}{s:Shared}{env:Env}{value slice:Expr}{pos:Pos}{T id:String}{Q:Value->Shared->Prop}
  (hl:typeLookup (.type T) "__getitem__"=pure (some (.builtin id))) (hs:jX slice)
  (h:wpAny (model prog w) A (eval value env) (fun o s₁=>wpAny (model prog w) A (eval slice env) (fun i s₂=>s₂.TypeIs o T/\wpAny (model prog w) A (getItem o i) Q E s₂) E s₁) E s) :
  wpAny (model prog w) A (eval (.Subscript value slice pos) env) Q E s:=by
 refine Subscript_ (U4l h (fun o s₁ h₁=>U4l h₁ (fun i s₂ h₂=>?_) fun _ _ x=>x) fun _ _ x=>x)
 obtain⟨hT,h₂⟩:=h₂
 unfold subscriptTail
 refine U0 ?_
 rw[getitemInPython_of_ne hT.not_modules]
 refine U0 (U5w hT hl ?_)
 have fin:wpAny (model prog w) A (subscripted slice false o i) (fun r s₃=>wpAny (model prog w) A (letTemporaryGo value o r >>= fun _=>pure r) Q E s₃) E s₂:=by
  rw[hs o i]
  exact wpAny_operating (U4l h₂ (fun r s₃ h₃=>U0 (wpAny_letTemporaryGo (U0d h₃))) fun _ _ x=>x)
 first
  |exact U0d (U0 fin)
  |exact U0 (U0d (U0 fin))
  |exact U0 fin
theorem aC{X:Cx}{pins:List (Addr×Obj)}{σ:St}{H:Hp}{s:Shared}{a:Addr}{y:V}{o:Option V}(I:Inv X pins σ H s)(g:Pq H a y o):s.TypeIs (.ref a) "dict":=by
 rcases g with ⟨kvs,k,e,_,_⟩|⟨kvs,k,b,e,_,_,_⟩
 .obtain⟨_,_,vs,_,dd⟩:=Um I.hok e
  exact dd.typeIs
 .obtain⟨_,_,xs,_,dd⟩:=Ul I.hok e
  exact dd.typeIs
def yN(td ty:TE):TE:=fun σ H Q=>td σ H fun x H1=>ty σ H1 fun y H2=>∃a v,x=.ref a/\Pq H2 a y (some v)/\Q v H2
def MP(td ty tv:TE):TS:=fun D σ H=>tv σ H fun v H1=>td σ H1 fun x H2=>ty σ H2 fun y H3=>∃a H4,x=.ref a/\Xf H3 a y v H4/\D.nx σ H4
section
variable{X:Cx}{o i e value:Expr}{pos pos' tpos:Pos}{td ty tv:TE}
theorem qP(hu:X.A.units+1<cLine)(ho:PE X o td)(hi:PE X i ty)(hs:jX i):PE X (.Subscript o i pos) (yN td ty):=by
 intro pins s σ H Q I h
 refine pK PySem.F.slot_dict_getitem.lookup hs (thn (ho pins s σ H _ I h) fun u s1 ⟨x,H1,I1,rx,q1⟩=>thn (hi pins s1 σ H1 _ I1 q1) fun iv s2 ⟨y,H2,I2,ry,a,v,ex,g,q2⟩=>?_)
 subst ex
 obtain rfl:u=U12 a:=rx
 exact⟨aC I2 g,j7 hu I2 g ry fun w' s3 I3 rw'=>⟨v,H2,I3,rw',q2⟩⟩
theorem qJ(hu:X.A.units+1<cLine)(ho:PE X o td)(hi:PE X i ty)(hv:PE X value tv)(hs:swapsWith value (some (.Subscript o i pos')) pos.line X.env=pure false) :
  PS X (.Assign [.Subscript o i pos'] value pos) (MP td ty tv):=by
 intro pins s σ H D I h
 refine wpAny_Assign_Subscript (thn (hv pins s σ H _ I h) fun r s1 ⟨v,H1,I1,rv,q1⟩=>thn (ho pins s1 σ H1 _ I1 q1) fun u s2 ⟨x,H2,I2,rx,q2⟩=>thn (hi pins s2 σ H2 _ I2 q2) fun iv s3 ⟨y,H3,I3,ry,a,H4,ex,g,q3⟩=>?_) hs
 subst ex
 obtain rfl:u=U12 a:=rx
 exact j6 hu I3 g ry rv fun s4 I4=>⟨σ,H4,I4,q3⟩
end
theorem nQ{P:Program}{w:World}{H:Hp}(h:Heap)(hb:sysModules<h.objs.size):Dh P w H (h.push { cls:=.type "dict",data:=.dict #[] }) h.objs.size (.dK []) :=
 ⟨U3a _,beq_eq_false_iff_ne.mpr (U1l (U0y hb)),[],.nil,Heap.DictOf.new h⟩
def uq:TE:=fun _ H Q=>∀p,H p=none->Q (.ref p) (upd H p (.dK []))
section
variable{X:Cx}{pos:Pos}
theorem lQ:PE X (.Dict [] [] pos) uq:=fun pins s σ H Q I h =>
 wpAny_Dict_empty ⟨.ref s.heap.objs.size,_,I.laid (a:=s.heap.objs.size) (o:=.dK []) (t':=s.toks) (fun _ _ q=>U0c _ q) (U0u _) (nQ s.heap I.big),rfl,h _ (I.hok.fresh (U0u _))⟩
end
structure M1(X:Cx)(o:Expr)(m:Str)(apos:Pos)(e:Expr)(cpos:Pos):Prop where
 base:attributeBase o m X.env (eval o X.env)=eval o X.env
 few:((backTo cpos (starEach [e] X.env)).all (fun x=>!x.1)&&(backToKw cpos (keywordEach [] X.env)).all (fun x=>x.1.isSome)
  && decide (([e]:List Expr).length+([]:List Keyword).length+(if ([]:List Keyword).isEmpty then 0 else 1)<30))=true
 line:(apos.endLine==cpos.line)=true
 trees:backTo cpos (starEach [e] X.env)=[(false,eval e X.env)]
structure M2(X:Cx)(o:Expr)(m:Str)(apos:Pos)(e f:Expr)(cpos:Pos):Prop where
 base:attributeBase o m X.env (eval o X.env)=eval o X.env
 few:((backTo cpos (starEach [e,f] X.env)).all (fun x=>!x.1)&&(backToKw cpos (keywordEach [] X.env)).all (fun x=>x.1.isSome)
  && decide (([e,f]:List Expr).length+([]:List Keyword).length+(if ([]:List Keyword).isEmpty then 0 else 1)<30))=true
 line:(apos.endLine==cpos.line)=true
 trees:backTo cpos (starEach [e,f] X.env)=[(false,eval e X.env),(false,eval f X.env)]
def IsD(H:Hp)(a:Addr):Prop:=(∃kvs,Rd H a (.dK kvs))∨∃kvs,Rd H a (.dT kvs)
theorem wU{X:Cx}{pins:List (Addr×Obj)}{σ:St}{H:Hp}{s:Shared}{a:Addr}(I:Inv X pins σ H s)(d:IsD H a) :
  s.TypeIs (.ref a) "dict"/\(∀b,U12 a=.ref b->∃ob,s.heap.get? b=some ob/\ob.dict=none)/\(a==sysModules)=false:=by
 rcases d with ⟨kvs,e⟩|⟨kvs,e⟩
 .obtain⟨_,hd,vs,_,dd⟩:=Um I.hok e
  refine⟨dd.typeIs,fun b q=>?_,hd⟩
  cases q
  obtain⟨ob,_,_,h1,h2,_⟩:=dd
  exact⟨ob,h1,h2.2.1⟩
 .obtain⟨_,hd,xs,_,dd⟩:=Ul I.hok e
  refine⟨dd.typeIs,fun b q=>?_,hd⟩
  cases q
  obtain⟨ob,_,_,h1,h2,_⟩:=dd
  exact⟨ob,h1,h2.2.1⟩
section
variable{X:Cx}{pins:List (Addr×Obj)}{σ:St}{H:Hp}{s:Shared}{a:Addr}{y d:V}{u r:Value}{o:Option V}{A:Around}{E:Value->Shared->Prop}
theorem wg{Q:Value->Shared->Prop}(hu:A.units+1<cLine)(I:Inv X pins σ H s)(g:Pq H a y o)(ry:RelV y u)(rd:RelV d r)(h:∀w' s',Inv X pins σ H s'->RelV (o.getD d) w'->Q w' s') :
  wpAny (model X.prog X.w) A (call (.builtin "dict.get") [.ref a,u,r]) Q E s:=by
 rcases g with ⟨kvs,k,e,ey,l⟩|⟨kvs,k,b,e,ey,eb,l⟩
 .subst ey
  obtain⟨z,hd,vs,rel,dd⟩:=Um I.hok e
  refine call_meetsIn U6j dd.typeIs PySem.F.entry_dict_get (PySem.F.args_dict_get_3 _ _ _) (meets_dict_get_default (Fx X.prog X.w) a (XJ ry) hd r) ⟨_,dd.mapOf,h _ _ (I.tok _) ?_⟩
  rw[l]
  exact(rel.val k).getD rd
 .subst ey
  cases (show u=U12 b from ry)
  obtain⟨z,hd,xs,rel,dd⟩:=Ul I.hok e
  refine call_meetsIn U6j dd.typeIs PySem.F.entry_dict_get (PySem.F.args_dict_get_3 _ _ _) (meetsH_dict_get_default (tupleKind (Fx X.prog X.w)) a b hd r) ⟨tupleKind_room_in1 hu,k,xs,Uu I.hok eb,dd,h _ _ (I.tok _) ?_⟩
  rw[l]
  exact(rel.val k).getD rd
end
def ur(td ty tx:TE):TE:=fun σ H Q=>td σ H fun x H1=>∃a,x=.ref a/\IsD H1 a/\ty σ H1 fun y H2=>tx σ H2 fun z H3=>∃o,Pq H3 a y o/\Q (o.getD z) H3
section
variable{X:Cx}{o e f:Expr}{apos cpos:Pos}{td ty tx:TE}
theorem lR(hu:X.A.units+1<cLine)(ho:PE X o td)(he:PE X e ty)(hf:PE X f tx)(m:M2 X o "get" apos e f cpos):PE X (.Call (.Attribute o "get" apos) [e,f] [] cpos) (ur td ty tx):=by
 intro pins s σ H Q I h
 refine wpAny_Call_method m.base m.few m.line PySem.F.plainAttrs_dict U6j PySem.F.type_dict_get (thn (ho pins s σ H _ I h) fun u s1 ⟨x,H1,I1,rx,a,ex,d,q1⟩=>?_)
 subst ex
 obtain rfl:u=U12 a:=rx
 obtain⟨t1,t2,_⟩:=wU I1 d
 refine⟨t1,t2,?_⟩
 rw[m.trees]
 refine U6c rfl (Calls.evalArgs_plain (U5x (thn (he pins s1 σ H1 _ I1 q1) fun iv s2 ⟨y,H2,I2,ry,q2⟩ =>
  U5x (thn (hf pins s2 σ H2 _ I2 q2) fun fv s3 ⟨z,H3,I3,rz,ov,g,q3⟩=>U66 ?_))))
 exact wg hu I3 g ry rz fun w' s4 I4 rw'=>⟨_,H3,I4,rw',q3⟩
end
section
variable{X:Cx}{pins:List (Addr×Obj)}{σ:St}{H:Hp}{s:Shared}{a:Addr}{kvs:List (Key×V)}{A:Around}{E:Value->Shared->Prop}
end
section
variable{X:Cx}{pins:List (Addr×Obj)}{σ:St}{H:Hp}{s:Shared}{a:Addr}{y:V}{u:Value}{A:Around}{E:Value->Shared->Prop}
end
section
variable{X:Cx}
end
section
variable{κ:Type}[DecidableEq κ]
end
end L2
end
section
namespace VS
open PySem PySem.Spec L2
def ofV:V->Option D
 |.int i=>some (.int i)
 |.bl b=>some (.bl b)
 |.non=>some .non
 |.str x=>some (.str x)
 |_=>none
def toV:D->Option V
 |.int i=>some (.int i)
 |.bl b=>some (.bl b)
 |.non=>some .non
 |.str x=>some (.str x)
 |_=>none
def dictOf(S:Store):D->Option (List (Key×V))
 |.dref i=>match S[i]? with|some (some [.dcm kvs])=>some kvs|_=>none
 |.dcf kvs=>some kvs
 |.emp=>some []
 |_=>none
section
variable{Γ:Fr}{μ:Mu}{σ:St}{H:Hp}{env:Env}{S:Store}{v:V}{d:D}
theorem VR.ofV{w:V}(h:VS.ofV w=some d):VR Γ μ H w d:=by
 cases w with
 |int i=>cases h;exact .int i
 |bl b=>cases h;exact .bl b
 |non=>cases h;exact .non
 |str x=>cases h;exact .str x
 |_=>cases h
theorem VR.toV{w:V}(r:VR Γ μ H v d)(h:VS.toV d=some w):v=w:=by
 cases r with
 |int i=>cases h;rfl
 |bl b=>cases h;rfl
 |non=>cases h;rfl
 |str x=>cases h;rfl
 |_=>cases h
theorem VR.oR{i:Nat}{kvs:List (Key×V)}(R:Rep Γ μ σ H env S)(r:VR Γ μ H v (.dref i))(h:S[i]?=some (some [.dcm kvs])):∃a,v=.ref a/\μ[i]?=some (some a)/\H a=some (.dK kvs):=by
 cases r with
 |dref hi f =>
  obtain⟨a,h1,hc⟩:=R.sto i _ h
  obtain⟨f1,f2⟩:=f a h1
  obtain⟨kvs',q,h2⟩:=hc.dict f2
  cases q
  exact⟨a,f1,h1,h2⟩
theorem VR.dict{kvs:List (Key×V)}(R:Rep Γ μ σ H env S)(r:VR Γ μ H v d)(h:dictOf S d=some kvs):∃a,v=.ref a/\H a=some (.dK kvs):=by
 cases d with
 |dref i =>
  simp only[dictOf] at h
  split at h
  .rename_i e
   cases h
   obtain⟨a,h1,_,h2⟩:=VR.oR R r e
   exact⟨a,h1,h2⟩
  .cases h
 |dcf k=>cases h;cases r with|dcf o n hb=>exact⟨_,rfl,hb⟩
 |emp=>cases h;cases r with|emp o n hb=>exact⟨_,rfl,hb⟩
 |_=>cases h
theorem Rep.dput(R:Rep Γ μ σ H env S){i:Nat}{a:Addr}{kvs kvs':List (Key×V)}(hi:μ[i]?=some (some a))(ha:H a=some (.dK kvs)) :
  Rep Γ μ σ (upd H a (.dK kvs')) env (S.set i (some [.dcm kvs']))/\Ext μ H μ (upd H a (.dK kvs')) :=
 R.uT hi (fun⟨_,q⟩=>by rw[ha] at q;cases q) (fun _=>⟨kvs',CK⟩) fun _ _ q=>.inr ⟨kvs',rfl,q⟩
end
def cj:Az:=fun _ S=>some (.dref S.length,S++[some [.dcm []]])
def Uk(o i:Az):Az:=fun env S=>(o env S).bind fun p=>(i env p.2).bind fun q=>match q.1 with
 |.int k=>(dictOf q.2 p.1).bind fun kvs=>(J6 kvs (.inl k)).bind fun w=>(ofV w).map fun d=>(d,q.2)
 |_=>none
def Nh(o i t:Az):Az:=fun env S=>(o env S).bind fun p=>if (dictOf p.2 p.1).isSome=true then (i env p.2).bind fun q=>(t env q.2).bind fun r=>match q.1 with
 |.int k=>(dictOf r.2 p.1).bind fun kvs=>match J6 kvs (.inl k) with
  |some w=>(ofV w).map fun d=>(d,r.2)
  |none=>some (r.1,r.2)
 |_=>none
 else none
def MP(v o i:Az):BP:=fun env S=>(v env S).bind fun p=>(o env p.2).bind fun q=>(i env q.2).bind fun r=>match q.1,r.1 with
 |.dref j,.int k=>(match r.2[j]? with
  |some (some [.dcm kvs])=>if kvs.length<1000000 then (toV p.1).bind fun w=>some (.nx,env,r.2.set j (some [.dcm (putK kvs (.inl k) w)])) else none
  |_=>none)
 |_,_=>none
section
variable{X:Cx}{o i e f value:Expr}{pos pos' apos cpos:Pos}{fo fi fe fv ft:Az}
theorem rA:JE X (.Dict [] [] pos) cj:=⟨PE.imp lQ fun σ H Q w=>by
 obtain⟨Γ,μ,env,S,d,S',hK,R,e,q⟩:=w
 cases e
 intro p hp
 obtain⟨R2,x2⟩:=R.oN (o:=.dK []) (ds:=[.dcm []]) hp fun _ _ _ q=>.inr ⟨[],rfl,q⟩
 exact q _ _ _ x2 R2 (.dref (by rw[U0s,R.slen];simp) fun a h=>by
  rw[R.slen] at h
  simp at h
  rw[←h]
  exact⟨rfl,⟨_,CK⟩⟩)⟩
theorem rB(hu:X.A.units+1<cLine)(ho:JE X o fo)(hi:JE X i fi)(hs:jX i):JE X (.Subscript o i pos) (Uk fo fi):=⟨PE.imp (qP hu ho.pe hi.pe hs) fun σ H Q h=>by
 obtain⟨Γ,μ,env,S,d,S',hK,R,e,q⟩:=h
 obtain⟨⟨x,S1⟩,e1,e⟩:=bind_some e
 obtain⟨⟨y,S2⟩,e2,e⟩:=bind_some e
 refine⟨Γ,μ,env,S,x,S1,hK,R,e1,fun v1 μ1 H1 x1 R1 r1=>?_⟩
 refine⟨Γ,μ1,env,S1,y,S2,hK,R1,e2,fun v2 μ2 H2 x2 R2 r2=>?_⟩
 dsimp only at e
 split at e
 .rename_i k
  obtain⟨kvs,e3,e⟩:=bind_some e
  obtain⟨w,e4,e⟩:=bind_some e
  obtain⟨d',e5,e⟩:=map_some e
  cases e
  obtain⟨a,rfl,ha⟩:=VR.dict R2 (r1.ext x2) e3
  cases r2
  refine⟨a,w,rfl,?_,q w μ2 H2 (x1.trans x2) R2 (VR.ofV e5)⟩
  have:=Pq.k (k:=(.inl k:Key)) ha
  rw[e4] at this
  exact this
 .cases e⟩
theorem Yh(hu:X.A.units+1<cLine)(ho:JE X o fo)(he:JE X e fe)(hf:JE X f ft)(m:M2 X o "get" apos e f cpos):JE X (.Call (.Attribute o "get" apos) [e,f] [] cpos) (Nh fo fe ft):=⟨PE.imp (lR hu ho.pe he.pe hf.pe m) fun σ H Q h=>by
 obtain⟨Γ,μ,env,S,d,S',hK,R,e,q⟩:=h
 obtain⟨⟨x,S1⟩,e1,e⟩:=bind_some e
 refine⟨Γ,μ,env,S,x,S1,hK,R,e1,fun v1 μ1 H1 x1 R1 r1=>?_⟩
 dsimp only at e
 by_cases hd:(dictOf S1 x).isSome=true
 .rw[if_pos hd] at e
  obtain⟨⟨y,S2⟩,e2,e⟩:=bind_some e
  obtain⟨⟨z,S3⟩,e3,e⟩:=bind_some e
  obtain⟨k0,ek⟩:=U33.mp hd
  obtain⟨a,rfl,ha⟩:=VR.dict R1 r1 ek
  refine⟨a,rfl,.inl ⟨k0,.inl ha⟩,?_⟩
  refine⟨Γ,μ1,env,S1,y,S2,hK,R1,e2,fun v2 μ2 H2 x2 R2 r2=>?_⟩
  refine⟨Γ,μ2,env,S2,z,S3,hK,R2,e3,fun v3 μ3 H3 x3 R3 r3=>?_⟩
  dsimp only at e
  split at e
  .rename_i k _
   obtain⟨kvs,e4,e⟩:=bind_some e
   obtain⟨b,eb,hb⟩:=VR.dict R3 (r1.ext (x2.trans x3)) e4
   cases eb
   cases r2
   refine⟨_,Pq.k (k:=(.inl k:Key)) hb,?_⟩
   split at e
   .rename_i w e5
    obtain⟨d',e6,e⟩:=map_some e
    cases e
    rw[e5]
    exact q w μ3 H3 (x1.trans (x2.trans x3)) R3 (VR.ofV e6)
   .rename_i e5
    cases e
    rw[e5]
    exact q v3 μ3 H3 (x1.trans (x2.trans x3)) R3 r3
  .cases e
 .rw[if_neg hd] at e;cases e⟩
theorem bL(hu:X.A.units+1<cLine)(hv:JE X value fv)(ho:JE X o fo)(hi:JE X i fi)(hs:swapsWith value (some (.Subscript o i pos')) pos.line X.env=pure false:=by rfl) :
  JS X (.Assign [.Subscript o i pos'] value pos) (VS.MP fv fo fi):=⟨PS.imp (qJ hu ho.pe hi.pe hv.pe hs) fun E σ H h=>by
 obtain⟨Γ,μ,env,S,fl,env',S',hK,R,e,q⟩:=h
 obtain⟨⟨x,S1⟩,e1,e⟩:=bind_some e
 obtain⟨⟨y,S2⟩,e2,e⟩:=bind_some e
 obtain⟨⟨z,S3⟩,e3,e⟩:=bind_some e
 refine⟨Γ,μ,env,S,x,S1,hK,R,e1,fun v1 μ1 H1 x1 R1 r1=>?_⟩
 refine⟨Γ,μ1,env,S1,y,S2,hK,R1,e2,fun v2 μ2 H2 x2 R2 r2=>?_⟩
 refine⟨Γ,μ2,env,S2,z,S3,hK,R2,e3,fun v3 μ3 H3 x3 R3 r3=>?_⟩
 dsimp only at e
 split at e
 .rename_i j k _
  split at e
  .rename_i kvs hd
   by_cases hl:kvs.length<1000000
   .rw[if_pos hl] at e
    obtain⟨w,e4,e⟩:=bind_some e
    cases e
    obtain⟨b,rfl,g1,g2⟩:=VR.oR R3 (r2.ext x3) hd
    cases r3
    have hw:=r1.toV e4
    subst hw
    obtain⟨R4,x4⟩:=R3.dput (kvs':=putK kvs (.inl k) v1) g1 g2
    exact⟨b,_,rfl,Xf.k (k:=(.inl k:Key)) g2 (big (U2i hl)),q μ3 σ _ (x1.trans (x2.trans (x3.trans x4))) R4⟩
   .rw[if_neg hl] at e;cases e
  .cases e
 .cases e⟩
theorem nP(o i:Az)(env:VS.Env)(S:Store):Uk o i env S=(o env S).bind fun p=>(i env p.2).bind fun q=>match q.1 with
 |.int k=>(dictOf q.2 p.1).bind fun kvs=>(J6 kvs (.inl k)).bind fun w=>(ofV w).map fun d=>(d,q.2)
 |_=>none:=rfl
theorem kJ(v o i:Az)(env:VS.Env)(S:Store):VS.MP v o i env S=(v env S).bind fun p=>(o env p.2).bind fun q=>(i env q.2).bind fun r=>match q.1,r.1 with
 |.dref j,.int k=>(match r.2[j]? with
  |some (some [.dcm kvs])=>if kvs.length<1000000 then (toV p.1).bind fun w=>some (.nx,env,r.2.set j (some [.dcm (putK kvs (.inl k) w)])) else none
  |_=>none)
 |_,_=>none:=rfl
end
end VS
end
section
namespace SetP
open PySem PySem.Spec PyProof.Rows
theorem Zx:typeLookup (.type "dict") "__len__"=pure (some (.builtin "dict.__len__")):=F.slot_dict_len.lookup
theorem Wy:isSubtype (.type "dict") (.type "dict")=pure true:=by rw[isSubtype_type];kernel_rfl
section
variable{prog:Program}{w:World}{K:Type}[DecidableEq K]{knd:KeyKind prog w K}{A:Around}{E:Value->Shared->Prop}{s:Shared}
theorem wW{S:Addr}{Q:Bool->Shared->Prop}(hT:s.TypeIs (.ref S) "dict")(h:Q false s):wpAny (model prog w) A (U3t (.ref S)) Q E s:=by
 unfold U3t
 refine U0 (U5w hT Zx ?_)
 have hs:splitId "dict.__len__"=some ("dict","__len__"):=by decide +kernel
 dsimp only
 rw[hs]
 dsimp only
 refine U0 (U4z hT Wy ?_)
 simp only[U46,U1t,if_false]
 refine U0 (U4v hT ?_)
 exact U0d h
theorem j9{S:Addr}{kvs:List (K×Value)}{Q:List Value->Shared->Prop}(hh:A.handled=none)(hsys:(S==sysModules)=false)(hS:s.heap.DictOf knd S kvs)(hz:kvs.length<=sizeLine)
  (h:∀(h':Heap)(tk:Nat)(vs:List Value),(∀b o,s.heap.get? b=some o->h'.get? b=some o)->vs.length=kvs.length->(∀(i:Nat)(v:Value),vs[i]?=some v->∃k x,kvs[i]?=some (k,x)/\knd.is k v=true)->Q vs { s with heap:=h',toks:=tk }):wpAny (model prog w) A (collect (.ref S)) Q E s:=by
 obtain⟨o,es0,ep0,ho,hex,_⟩:=id hS
 have hlt:=U0m ho
 have hT0:s.TypeIs (.ref S) "dict":=hS.typeIs
 unfold collect
 refine U0 (U7q (codeAny_builtin F.entry_proto_collect ?_))
 rw[U2l F.plain_proto_collect _]
 show wpAny _ A.in1 (newList [] >>= fun l=>again (.builtin "list.__iadd__" ⟨[l,.ref S],[]⟩)) _ _ s
 refine U0 (U2d (U0d ⟨plainId_quiet U58 _,codeAny_builtin F.entry_list_iadd ?_⟩))
 rw[U2l U58 _]
 generalize hL:s.heap.objs.size=L
 generalize hg:s.heap.push { cls:=.type "list",dict:=none,data:=.seq ([]:List Value).toArray }=g
 have k1:∀b o,s.heap.get? b=some o->g.get? b=some o:=fun b o e=>hg ▸ U0c _ e
 have hLg:g.get? L=some { cls:=.type "list",data:=.seq ([]:List Value).toArray }:=hg ▸ hL ▸ U0v _ rfl
 have hsz:g.objs.size=L+1:=by rw[←hg,U18,hL]
 have hLS:L≠S:=by rw[←hL];exact U1q hlt
 have hSg:g.DictOf knd S kvs:=by
  obtain⟨o,es,ep,e,r⟩:=hS
  exact⟨o,es,ep,k1 _ _ e,r⟩
 have hT:U47 { s with heap:=g } (.ref S) "dict":=hSg.typeIs (s:={ s with heap:=g })
 obtain⟨ep,hD⟩:=hSg.dictAt
 show wpAny _ A.in1 (U2x (.ref L) (.ref S) (.ref L)) _ _ _
 unfold U2x
 refine U0 (U4v hT ?_)
 have h1:U3l (.ref L) (.ref S)=false:=by simp[U3l,hLS]
 have h2:(U23 "dict"==U23 "list")=false:=by decide
 have h3:(U23 "dict"==U23 "tuple")=false:=by decide
 simp only[h1,h2,h3,U45,U1t,if_false]
 refine U0 (wpAny_pyIter_dict (s:={ s with heap:=g }) hsys hD ?_)
 generalize hit0:g.objs.size=it
 generalize hg2:g.push { cls:=.type "dict_keyiterator",data:=.fields #[.ref S,.int 0 0,.int kvs.length 0,.int ep 0] }=g2
 have k2:∀b o,g.get? b=some o->g2.get? b=some o:=fun b o e=>hg2 ▸ U0c _ e
 have hI:g2.IsKeyIter it S 0 kvs.length ep:=by
  refine⟨_,hg2 ▸ hit0 ▸ U0v _ rfl,rfl,rfl⟩
 have hD2:g2.DictAt knd S kvs ep:=hD.keep k2
 have hT2:U47 { s with heap:=g2 } (.ref S) "dict":=hD2.dictOf.typeIs (s:={ s with heap:=g2 })
 refine U0 (U19 (wW hT2 ?_))
 have hit':L<it:=by omega
 show wpAny _ A.in1 (rule "list.extend.makes-room" >>= fun _=>U6e (.ref L) >>= fun _=>again (.builtin "list.extend.loop" ⟨[.ref L,.ref it,.ref L],[]⟩)) _ _ _
 refine U0 (U4p (U0 ?_))
 have e1:=k2 _ _ hLg
 show wpAny _ A.in1 (updateSeq L (·.push .none) >>= fun _=>updateSeq L (·.pop)) _ _ _
 refine U0 (U26 e1 rfl ?_)
 have e2:=U1o (U1r (·.push U2h)) e1 rfl
 refine U26 e2 rfl ?_
 have e3:=U1o (U1r (·.pop)) e2 rfl
 have oth:∀b o,b≠L->g2.get? b=some o->((g2.update L (U1r (·.push U2h))).update L (U1r (·.pop))).get? b=some o:=fun b o hb e=>(U04 _ _ (U1l hb)).trans ((U04 _ _ (U1l hb)).trans e)
 have nin:L ∉ [it,S]:=fun z=>by
  simp only[U0t,U13,or_false] at z
  rcases z with z|z
  .omega
  .exact hLS z
 have hne:S≠it:=by
  have:S<L:=by rw[←hL];exact hlt
  exact U0y (U2q this hit')
 have W:=(Walks.dictKeys (prog:=prog) (w:=w) (knd:=knd) (A:=A.in1) (by simpa using hh) it S hne kvs ep).toS
 have x3:((g2.update L (U1r (·.push U2h))).update L (U1r (·.pop))).IsKeyIter it S 0 kvs.length ep/\((g2.update L (U1r (·.push U2h))).update L (U1r (·.pop))).DictAt knd S kvs ep :=
  ⟨hI.at fun o e=>oth it o (U1l (U0y hit')) e,hD2.at' fun o e=>oth S o (U1l hLS) e⟩
 refine U0d ⟨plainId_quiet F.plain_extend_loop _,codeAny_extend_loopS W hz L nin _ kvs.length 0 _ _ _ (by omega) (U3a _) x3 e3 (ItemsOf.nil _) fun s' acc c hm hS' hacc=>?_⟩
 show wpAny _ A (load L >>= _) _ _ s'
 refine U0 (wpAny_load hS' ?_)
 obtain⟨h',g',d',tk,os'⟩:=s'
 have q1:g'=s.gens:=hm.gens
 have q2:os'=s.os:=hm.os
 have q3:d'=s.drawn:=hm.drawn
 subst q1 q2 q3
 refine U0d ?_
 show Q acc.toList _
 refine h h' tk acc.toList (fun b o e=>hm.heap b o ?_ (oth b o ?_ (k2 _ _ (k1 _ _ e)))) (by rw[U1z];exact hacc.1) fun i v hv=>?_
 .have hb:b<L:=by rw[←hL];exact U0m e
  intro z
  rcases U0t.mp z with z|z
  .exact absurd z (U0y hb)
  .exact absurd (U01.mp z) (U0y (U2q hb hit'))
 .exact U0y (by rw[←hL];exact U0m e)
 .exact hacc.2 i v (by rw[←U3i];exact hv)
theorem jx{S:Addr}{kvs:List (K×Value)}{ns:List Int}{Q:Value->Shared->Prop}(hh:A.handled=none)(hsys:(S==sysModules)=false)(hS:s.heap.DictOf knd S kvs)(h64:kvs.length<64)(hn:ns.length=kvs.length)
  (hk:∀(i:Nat) k x v,kvs[i]?=some (k,x)->knd.is k v=true->∃n t,ns[i]?=some n/\v=.int n t)
  (h:∀h' tk l vs ms n,(∀b o,s.heap.get? b=some o->h'.get? b=some o)->(∀b o,s.heap.get? b=some o->b<l)->h'.get? l=some { cls:=.type "list",data:=.seq vs n }->IntsAre vs.toList ms->ms.Perm ns->ms.Pairwise (·<=·)->Q (.ref l) { s with heap:=h',toks:=tk }) :
  wpAny (model prog w) A (call (.builtin "sorted") [.ref S]) Q E s:=by
 refine Calls.call_function_entry kind_sorted plain_sorted entry_sorted (args_sorted1 _) ?_
 unfold Builtin.«sorted»
 refine U0 (m:=checkCount "sorted" 1 1 _) (U0d ?_)
 refine U0 (j9 (A:=A.in1) (by simpa using hh) hsys hS (by rw[sizeLine_eq];omega) fun h1 t1 vs k1 hl hv=>?_)
 have hi:IntsAre vs ns:=by
  have all:∀(vs:List Value)(ns:List Int),vs.length=ns.length->(∀(i:Nat) v,vs[i]?=some v->∃n t,ns[i]?=some n/\v=.int n t)->IntsAre vs ns:=by
   intro vs
   induction vs with
   |nil =>
    intro ns hl _
    cases ns with
    |nil=>exact .nil
    |cons n r=>simp at hl
   |cons v r ih =>
    intro ns hl hv
    cases ns with
    |nil=>simp at hl
    |cons n ms =>
     obtain⟨m,t,e1,e2⟩:=hv 0 v rfl
     have:n=m:=U03 e1
     subst this
     subst e2
     exact .cons n t (ih ms (by simpa using hl) fun i v' h'=>hv (i+1) v' h')
  refine all vs ns (by rw[hl,hn]) fun i v hvi=>?_
  obtain⟨k,x,e1,e2⟩:=hv i v hvi
  exact hk i k x v e1 e2
 have hv64:vs.length<64:=by rw[hl];exact h64
 refine U0 (wpAny_newList ?_)
 have hoL:(h1.push (seqObj "list" vs.toArray 0)).get? h1.objs.size=some (seqObj "list" vs.toArray 0):=U0v _ rfl
 show wpAny _ _ _ _ _ { s with heap:=h1.push (seqObj "list" vs.toArray 0),toks:=t1 }
 refine U0 (U19 (U2k slot_list_sort ⟨_,hoL,rfl⟩ entry_list_sort (list_sort_tree hoL hi hv64 fun out ns' a1 a2 a3=>⟨_,rfl,?_⟩) (args_list_sort _)))
 refine U0d ⟨_,rfl,?_⟩
 have old:∀b o,s.heap.get? b=some o->b≠h1.objs.size:=fun b o e=>U0y (U0m (k1 b o e))
 obtain⟨n',e'⟩:=Ol (out:=out) hoL
 refine h _ t1 h1.objs.size out ns' n' (fun b o e=>O4 (old b o e) (U0c _ (k1 b o e))) (fun b o e=>U0m (k1 b o e)) e' a1 a2 a3
end
end SetP
namespace L2
open PySem PySem.Spec PyProof.Rows
variable{X:Cx}
theorem Va(hc:X.calm=true):Dn X (.builtin "sorted") (fun xs H Q=>∃(a:Addr)(kvs:List (Key×V))(ns:List Int),xs=[.ref a]/\H a=some (.dK kvs)/\kvs.map (·.1)=ns.map U3o/\ns.length<64 /\
  ∀(l:Addr)(ms:List Int),H l=none->ms.Perm ns->ms.Pairwise (·<=·)->Q (.ref l) (upd H l (.lst (ms.map V.int)))):=by
 intro pins s σ H xs us Q I r h
 obtain⟨a,kvs,ns,rfl,hH,hk,hl,q⟩:=h
 obtain⟨u,rfl,rx⟩:=vals1 r
 cases rx
 obtain⟨_,hsys,vs,rel,dd⟩:=oU I.hok hH
 have hlen:vs.length=kvs.length:=rel.length.symm
 have hkl:kvs.length=ns.length:=by have:=congrArg U5d hk;simpa using this
 refine SetP.jx (ns:=ns) (I.ok.hd hc) hsys dd (by omega) (by omega) (fun i k x v e1 e2=>?_) fun h' tk l vs' ms n k hb e hi hp hs=>?_
 .have kk:=rel.keys
  have:(vs.map (·.1))[i]?=some k:=by rw[U0z,e1];rfl
  rw[←kk,hk,U0z] at this
  obtain⟨m,hm,rfl⟩:=U1y.mp this
  rcases Fg (show Pu (U3o m) v=true from e2) with ⟨i',t,e3,e4⟩|⟨x',t,e3,e4⟩
  .cases e3
   exact⟨m,t,hm,e4⟩
  .cases e3
 .have hn:s.heap.get? l=none:=by
   cases q:s.heap.get? l with
   |none=>rfl
   |some o=>exact absurd (hb l o q) (U3u _)
  have hsy:sysModules≠l:=by
   obtain⟨o,_,_,e,_⟩:=I.ok.mod.glob
   exact U0y (U2q (by decide:(1:Nat)<3) (hb _ _ (I.bk _ _ e)))
  have hlen2:ms.length<64:=by rw[hp.length_eq];exact hl
  refine⟨.ref l,_,I.laidN (d':=s.drawn) (t':=tk) (o:=.lst (ms.map V.int)) k hn hsy ⟨?_,vs'.toList,n,Ob hi,by simpa using e⟩,rfl,q l ms (I.Vj hn) hp hs⟩
  rw[U0i]
  exact U2i (Qy (by omega))
end L2
end
section
namespace VS
open PySem PySem.Spec L2
def keysOf:List (Key×V)->Option (List Int)
 |[]=>some []
 |(.inl n,_)::r=>(keysOf r).map (n::·)
 |_=>none
theorem SX:∀{kvs:List (Key×V)} {ns:List Int},keysOf kvs=some ns->kvs.map (·.1)=ns.map U3o
 |[],_,h=>by cases h;rfl
 |(.inl n,x)::r,ns,h=>by
  obtain⟨ms,e1,e2⟩:=map_some h
  subst e2
  rw[U0j,U0j,SX e1]
 |(.inr _,_)::_,_,h=>by cases h
def Uw(a:Az):Az:=fun env S=>(a env S).bind fun p=>(dictOf p.2 p.1).bind fun kvs=>(keysOf kvs).bind fun ns=>if ns.length<64 then some (.lst true ((ns.mergeSort fun a b=>decide (a<=b)).map .int),p.2) else none
theorem iz(a:Az)(env:VS.Env)(S:Store):Uw a env S=(a env S).bind fun p=>(dictOf p.2 p.1).bind fun kvs=>(keysOf kvs).bind fun ns=>if ns.length<64 then some (.lst true ((ns.mergeSort fun a b=>decide (a<=b)).map .int),p.2) else none:=rfl
theorem gJ{ns ms:List Int}(h:ms.Perm ns)(s:ms.Pairwise (·<=·)):ms=ns.mergeSort fun a b=>decide (a<=b):=by
 have h2:(ns.mergeSort fun a b=>decide (a<=b)).Perm ns:=U3d _ _
 have s2:(ns.mergeSort fun a b=>decide (a<=b)).Pairwise (·<=·):=by
  have:=U44 (le:=fun a b:Int=>decide (a<=b)) (by intro a b c h1 h2;simp at *;omega) (by intro a b;simp;omega) ns
  exact this.imp fun h=>by simpa using h
 exact U4s.eq_of_pairwise (fun a b _ _ h1 h2=>U7l h1 h2) s s2 (h.trans h2.symm)
theorem mY{X:Cx}{a:Expr}{f:Az}{p pos:Pos}(hc:X.calm=true)(ha:JE X a f)(hg:Gl X "sorted")(hm:X.mg "sorted"=none)(he:starEach [a] X.env=[(false,eval a X.env)]:=by rfl):JE X (.Call (.Name "sorted" p) [a] [] pos) (Uw f) :=
 ⟨PE.imp (Tg (Va hc) hg hm Wo (Mw ha.pe PB he) (he:=he) (hpl:=rfl)) fun σ H Q h=>by
  obtain⟨Γ,μ,env,S,d,S',hK,R,e,q⟩:=h
  obtain⟨⟨y,S1⟩,e1,e⟩:=bind_some e
  obtain⟨kvs,e2,e⟩:=bind_some e
  obtain⟨ns,e3,e⟩:=bind_some e
  by_cases hl:ns.length<64
  .rw[if_pos hl] at e
   cases e
   refine⟨Γ,μ,env,S,y,_,hK,R,e1,fun v1 μ1 H1 x1 R1 r1=>?_⟩
   obtain⟨b,rfl,hb⟩:=VR.dict R1 r1 e2
   refine⟨b,kvs,ns,rfl,hb,SX e3,hl,fun l ms hl' hp hsrt=>?_⟩
   have:=gJ hp hsrt
   subst this
   obtain⟨R3,x3⟩:=R1.grow (Dg hl' (.lst ((ns.mergeSort fun a b=>decide (a<=b)).map V.int)))
   exact q _ μ1 _ (x1.trans x3) R3 (.lst (R1.ok hl' true) (R1.dead hl') CK (VRs.ints _))
  .rw[if_neg hl] at e;cases e⟩
end VS
end
section
namespace VS
def at1(bs:List (List St2))(i w:Nat):St2:=(bs.getD i []).getD w (0,0)
def inS(p:St2)(x:Int):Bool:=decide (p.1<=x)&&decide (x<p.2)
def Ez(bs:List (List St2))(w:Nat)(x:Int)(ns:List Nat):List Nat:=ns.filter fun i=>inS (at1 bs i w) x
def steps(E:List Int):List St2:=E.zip E.tail
def DP(bs:List (List St2))(w:Nat)(ns:List Nat):List Int:=G9 (ns.map (fun i=>(at1 bs i w).1)++ns.map (fun i=>(at1 bs i w).2))
def Bf(bs:List (List St2)):Nat->Nat->List Nat->List (List St2×List Nat)
 |0,_,ns=>if ns=[] then [] else [([],ns)]
 |k+1,w,ns=>if ns=[] then [] else (steps (DP bs w ns)).flatMap fun p=>(Bf bs k (w+1) (Ez bs w p.1 ns)).map fun c=>(p::c.1,c.2)
def G6:List St2->Int
 |[]=>1
 |p::r=>(p.2-p.1)*G6 r
def csum(F:List Nat->Int)(cs:List (List St2×List Nat)):Int:=(cs.map fun c=>G6 c.1*F c.2).sum
theorem QK(a b:Int)(r:List Int):steps (a::b::r)=(a,b)::steps (b::r):=rfl
theorem Oc:∀{E:List Int},E.Pairwise (·<·)->∀p∈steps E,p.1<p.2/\p.1∈E/\p.2∈E/\∀e∈E,e<=p.1∨p.2<=e
 |[],_,p,h=>by simp[steps] at h
 |[a],_,p,h=>by simp[steps] at h
 |a::b::r,hp,p,h=>by
  have hab:=(U2f.mp hp).1
  have ht:=(U2f.mp hp).2
  rw[QK] at h
  rcases U0t.mp h with z|z
  .subst z
   refine⟨hab b U0l,by simp,by simp,fun e he=>?_⟩
   rcases U0t.mp he with q|q
   .left;show e<=a;omega
   .right
    show b<=e
    rcases U0t.mp q with q|q
    .omega
    .exact U71 ((U2f.mp ht).1 e q)
  .obtain⟨h1,h2,h3,h4⟩:=Oc ht p z
   refine⟨h1,U0p _ h2,U0p _ h3,fun e he=>?_⟩
   rcases U0t.mp he with q|q
   .left;rw[q];exact U71 (hab _ h2)
   .exact h4 e q
theorem Od{ns:List Int}{x:Int}:x∈G9 ns↔x∈ns:=(U3d _ _).mem_iff.trans ((SetP.Nk ns).2.2 x)
theorem Mg(ns:List Int):(G9 ns).Pairwise (·<·):=by
 obtain⟨o1,o2,o3⟩:=SetP.Nk ns
 have hp:(G9 ns).Perm (SetP.once ns):=U3d _ _
 have hs:(G9 ns).Pairwise (·<=·):=by
  have:=U44 (le:=fun a b:Int=>decide (a<=b)) (by intro a b c h1 h2;simp at *;omega) (by intro a b;simp;omega) (SetP.once ns)
  exact this.imp fun h=>by simpa using h
 exact(hs.and (hp.nodup_iff.mpr o1)).imp fun⟨h,n⟩=>by omega
theorem Qx(ns:List Int):(G9 ns).length<=ns.length:=by
 obtain⟨o1,o2,o3⟩:=SetP.Nk ns
 have hp:(G9 ns).Perm (SetP.once ns):=U3d _ _
 rw[hp.length_eq];omega
theorem Hj{p:St2}{x:Int}:inS p x=true↔p.1<=x/\x<p.2:=by simp[inS]
theorem ZW{bs:List (List St2)}{w:Nat}{ns:List Nat}{E:List Int}(hp:E.Pairwise (·<·))(hE:∀i∈ns,(at1 bs i w).1∈E/\(at1 bs i w).2∈E):∀p∈steps E,∀x,p.1<=x->x<p.2->Ez bs w x ns=Ez bs w p.1 ns:=fun p h x h1 h2=>by
 obtain⟨g1,g2,g3,g4⟩:=Oc hp p h
 unfold Ez
 refine U7a fun i hi=>?_
 rw[U3f,Hj,Hj]
 have a1:=g4 _ (hE i hi).1
 have a2:=g4 _ (hE i hi).2
 omega
def Wide(bs:List (List St2))(A:Int)(N:Nat)(w k:Nat)(ns:List Nat):Prop:=∀i∈ns,∀v,w<=v->v<w+k->(at1 bs i v).1<(at1 bs i v).2/\A<=(at1 bs i v).1/\(at1 bs i v).2<=A+N
theorem Wide.sub{bs:List (List St2)}{A:Int}{N w k:Nat}{ns ms:List Nat}(h:Wide bs A N w (k+1) ns)(hs:∀i∈ms,i∈ns):Wide bs A N (w+1) k ms:=fun i hi v h1 h2=>h i (hs i hi) v (by omega) (by omega)
theorem Mq{bs:List (List St2)}{w:Nat}{ns:List Nat}:∀i∈ns,(at1 bs i w).1∈DP bs w ns/\(at1 bs i w).2∈DP bs w ns:=fun i hi =>
 ⟨Od.mpr (U28 _ (U6u hi)),Od.mpr (U1d _ (U6u hi))⟩
theorem RK{bs:List (List St2)}{w:Nat}{ns:List Nat}{e:Int}(h:e∈DP bs w ns):∃i∈ns,e=(at1 bs i w).1∨e=(at1 bs i w).2:=by
 rcases U2c.mp (Od.mp h) with z|z
 .obtain⟨i,hi,e⟩:=U1v.mp z;exact⟨i,hi,.inl e.symm⟩
 .obtain⟨i,hi,e⟩:=U1v.mp z;exact⟨i,hi,.inr e.symm⟩
theorem T5{bs:List (List St2)}{A:Int}{N w k:Nat}{ns:List Nat}(hw:Wide bs A N w (k+1) ns):∀e∈DP bs w ns,A<=e/\e<=A+N:=fun e he=>by
 obtain⟨i,hi,q⟩:=RK he
 have:=hw i hi w (U0u _) (by omega)
 omega
end VS
end
section
namespace VS
def Ft(t:Nat)(ns:List Nat):Int:=if ns.length=t+1 then 1 else 0
def Cm(acc:List Int)(c:List St2×List Nat):List Int:=acc.set (c.2.length-1) (acc.getD (c.2.length-1) 0+G6 c.1)
theorem Qg(acc:List Int)(c:List St2×List Nat):(Cm acc c).length=acc.length:=by unfold Cm;simp
theorem JF:∀(cs:List (List St2×List Nat))(acc:List Int),(cs.foldl Cm acc).length=acc.length
 |[],_=>rfl
 |c::r,acc=>by rw[U16,JF r,Qg]
theorem Z0(acc:List Int)(c:List St2×List Nat)(h:1<=c.2.length){t:Nat}(ht:t<acc.length):(Cm acc c).getD t 0=acc.getD t 0+G6 c.1*Ft t c.2:=by
 unfold Cm Ft
 by_cases e:c.2.length=t+1
 .rw[if_pos e,U6,e,Nat.add_sub_cancel]
  rw[U0r,U21 ht];rfl
 .rw[if_neg e,Int.mul_zero,Int.add_zero,U0r,U2p (by omega),←U0r]
theorem Te{t:Nat}:∀(cs:List (List St2×List Nat))(acc:List Int),(∀c∈cs,1<=c.2.length)->t<acc.length->(cs.foldl Cm acc).getD t 0=acc.getD t 0+csum (Ft t) cs
 |[],acc,_,_=>by simp[csum]
 |c::r,acc,h,ht=>by
  rw[U16,Te r _ (fun d hd=>h d (U0p _ hd)) (by rw[Qg];exact ht),Z0 acc c (h c U0l) ht]
  unfold csum
  rw[U0j,U2b,Int.add_assoc]
def Lj:Nat->List Int->List Int
 |0,l=>l
 |k+1,l=>if l≠[]/\l.getLast?=some 0 then Lj k l.dropLast else l
theorem Yr:∀(k:Nat)(P:List Int),(∀x,P.getLast?=some x->x≠0)->∀j≤k,Lj k (P++U0h j 0)=P
 |0,P,hP,j,hj=>by
  have:j=0:=by omega
  subst this
  simp[Lj]
 |k+1,P,hP,0,_=>by
  rw[U09,U2u,Lj]
  split
  .rename_i h;exact absurd rfl (hP 0 h.2)
  .rfl
 |k+1,P,hP,j+1,hj=>by
  have e:P++U0h (j+1) (0:Int)=(P++U0h j 0)++[0]:=by
   rw[List.replicate_succ',U35]
  rw[e,Lj,if_pos ⟨by simp,by simp⟩,U4r]
  exact Yr k P hP j (by omega)
theorem WL:∀(c:List St2),(∀p∈c,p.1<p.2)->0<G6 c
 |[],_=>by decide
 |p::r,h=>by
  have h1:=h p U0l
  exact Int.mul_pos (by omega) (WL r fun q hq=>h q (U0p _ hq))
theorem bY{t:Nat}:∀(cs:List (List St2×List Nat)),(∀c∈cs,0<G6 c.1)->0<=csum (Ft t) cs
 |[],_=>by simp[csum]
 |c::r,h=>by
  have:=bY (t:=t) r fun d hd=>h d (U0p _ hd)
  have h1:=h c U0l
  unfold csum at this ⊢
  rw[U0j,U2b]
  have:0<=G6 c.1*Ft t c.2:=Int.mul_nonneg (by omega) (by unfold Ft;split<;>decide)
  omega
theorem Ys{t:Nat}:∀(cs:List (List St2×List Nat)),(∀c∈cs,0<G6 c.1)->(∃c∈cs,c.2.length=t+1)->0<csum (Ft t) cs
 |[],_,h=>by obtain⟨c,hc,_⟩:=h;cases hc
 |c::r,h,hx=>by
  have h1:=h c U0l
  have h2:=bY (t:=t) r fun d hd=>h d (U0p _ hd)
  have h3:0<=G6 c.1*Ft t c.2:=Int.mul_nonneg (by omega) (by unfold Ft;split<;>decide)
  obtain⟨d,hd,e⟩:=hx
  rcases U0t.mp hd with z|z
  .subst z
   unfold csum at h2 ⊢
   rw[U0j,U2b]
   have:G6 d.1*Ft t d.2=G6 d.1:=by unfold Ft;rw[if_pos e,U6]
   omega
  .have:=Ys r (fun d hd=>h d (U0p _ hd)) ⟨d,z,e⟩
   unfold csum at this ⊢
   rw[U0j,U2b]
   omega
theorem Wk{t:Nat}:∀(cs:List (List St2×List Nat)),(∀c∈cs,c.2.length≠t+1)->csum (Ft t) cs=0
 |[],_=>by simp[csum]
 |c::r,h=>by
  have:=Wk (t:=t) r fun d hd=>h d (U0p _ hd)
  unfold csum at this ⊢
  rw[U0j,U2b,this]
  unfold Ft
  rw[if_neg (h c U0l),Int.mul_zero];rfl
theorem nH{l m:List Int}(hl:l.length=m.length)(h:∀t<l.length,l.getD t 0=m.getD t 0):l=m:=by
 refine List.ext_getElem hl fun t h1 h2=>?_
 have:=h t h1
 rw[U0r,U0r,U0n h1,U0n h2] at this
 exact this
theorem Tt(n t:Nat):(U0h n (0:Int)).getD t 0=0:=by
 rw[U0r,U38]
 split<;>rfl
theorem dO{cs ls:List (List St2×List Nat)}{K M:Nat}(h1:∀c∈cs,1<=c.2.length/\c.2.length<=K/\0<G6 c.1)(hx:K=0∨∃c∈cs,c.2.length=K)(hl:∀c∈ls,1<=c.2.length)(hs:∀t,csum (Ft t) ls=csum (Ft t) cs)(hKM:K<=M) :
  Lj M (ls.foldl Cm (U0h M 0))=cs.foldl Cm (U0h K 0):=by
 have eP:∀t<K,(cs.foldl Cm (U0h K 0)).getD t 0=csum (Ft t) cs:=fun t ht=>by
  rw[Te cs _ (fun c hc=>(h1 c hc).1) (by simpa using ht),Tt,U74]
 have lP:(cs.foldl Cm (U0h K 0)).length=K:=by rw[JF,U1e]
 have eL:ls.foldl Cm (U0h M 0)=cs.foldl Cm (U0h K 0)++U0h (M-K) 0:=by
  refine nH (by rw[JF,U1e,U0s,lP,U1e];omega) fun t ht=>?_
  rw[JF,U1e] at ht
  rw[Te ls _ hl (by simpa using ht),Tt,U74,hs]
  by_cases hk:t<K
  .rw[←eP t hk,U0r,U0r,U1f (by rw[lP];exact hk)]
  .rw[Wk cs fun c hc=>by have:=h1 c hc;omega,U0r,U2a (by rw[lP];omega),←U0r,Tt]
 rw[eL]
 refine Yr M _ (fun x hx' e=>?_) (M-K) (by omega)
 subst e
 rcases hx with h0|⟨c,hc,e⟩
 .rw[h0] at hx'
  have:(cs.foldl Cm (U0h 0 0))=[]:=U3r.mp (by rw[JF];rfl)
  rw[this] at hx'
  cases hx'
 .have hK:=(h1 c hc).1
  have hp:=Ys (t:=K-1) cs (fun d hd=>(h1 d hd).2.2) ⟨c,hc,by omega⟩
  rw[←eP (K-1) (by omega)] at hp
  rw[List.getLast?_eq_getElem?,lP] at hx'
  rw[U0r,hx'] at hp
  exact absurd hp (by decide)
end VS
end
section
namespace VS
def Bg(acc:List St2)(p:St2):List St2:=match acc.getLast? with
 |some q=>if q.2=p.1 then acc.dropLast++[(q.1,p.2)] else acc++[p]
 |none=>acc++[p]
def G5(l:List St2):Int:=(l.map fun p=>p.2-p.1).sum
theorem Q7(a b:List St2):G5 (a++b)=G5 a+G5 b:=by unfold G5;rw[U1p,List.sum_append]
theorem Q6(p:St2):G5 [p]=p.2-p.1:=by simp[G5]
theorem ZQ(acc:List St2)(p:St2):G5 (Bg acc p)=G5 acc+(p.2-p.1):=by
 rcases U4h acc with rfl|⟨l,q,rfl⟩
 .simp[Bg,G5]
 .rw[U4i]
  unfold Bg
  rw[List.getLast?_append]
  show G5 (if q.2=p.1 then _ else _)=_
  split
  .rename_i h
   rw[U4r,Q7,Q6,Q7,Q6]
   show _+(p.2-q.1)=_
   omega
  .rw[Q7,Q6]
theorem Tp:∀(l acc:List St2),G5 (l.foldl Bg acc)=G5 acc+G5 l
 |[],acc=>by simp[G5]
 |p::r,acc=>by
  rw[U16,Tp r,ZQ]
  show _=G5 acc+G5 ([p]++r)
  rw[Q7,Q6,Int.add_assoc]
def S1(vs:List St2):Int:=((steps (G9 (vs.map (fun p=>p.1)++vs.map fun p=>p.2))).map fun p=>(p.2-p.1)*(if vs.any (fun v=>inS v p.1) then 1 else 0)).sum
def szs(cs:List (List St2×List Nat)):Int:=(cs.map fun c=>G6 c.1).sum
end VS
end
section
namespace VS
structure Norm(l:List St2):Prop where
 pos:∀p∈l,p.1<p.2
 far:l.Pairwise fun p q=>p.2<q.1
def cov(l:List St2)(x:Int):Bool:=l.any fun p=>inS p x
theorem Vs{l:List St2}{x:Int}:cov l x=true↔∃p∈l,p.1<=x/\x<p.2:=by
 unfold cov
 rw[List.any_eq_true]
 constructor
 .rintro⟨p,hp,h⟩;exact⟨p,hp,Hj.mp h⟩
 .rintro⟨p,hp,h⟩;exact⟨p,hp,Hj.mpr h⟩
theorem Vt(a b:List St2)(x:Int):cov (a++b) x=(cov a x||cov b x):=by unfold cov;rw[List.any_append]
theorem QF(p:St2)(b:List St2)(x:Int):cov (p::b) x=(inS p x||cov b x):=rfl
structure Asc(l:List St2):Prop where
 pos:∀p∈l,p.1<p.2
 up:l.Pairwise fun p q=>p.2<=q.1
theorem Q8{α:Type}(l:List α)(a:α):(l++[a]).getLast?=some a:=by simp
theorem iH{l:List St2}{q p:St2}(h:Norm (l++[q]))(hp:p.1<p.2)(he:q.2=p.1):Norm (l++[(q.1,p.2)]):=by
 obtain⟨h1,h2⟩:=h
 rw[U4o] at h2
 refine⟨fun r hr=>?_,U4o.mpr ⟨h2.1,U56 ..,fun r hr s hs=>?_⟩⟩
 .rcases U2c.mp hr with z|z
  .exact h1 r (U28 _ z)
  .rw[U01.mp z]
   have:=h1 q (U1d _ U0l)
   show q.1<p.2;omega
 .rw[U01.mp hs]
  exact h2.2.2 r hr q U0l
theorem m6{l:List St2}{p:St2}(h:Norm l)(hp:p.1<p.2)(hl:∀q∈l,q.2<p.1):Norm (l++[p]):=by
 refine⟨fun r hr=>?_,U4o.mpr ⟨h.far,U56 ..,fun r hr s hs=>?_⟩⟩
 .rcases U2c.mp hr with z|z
  .exact h.pos r z
  .rw[U01.mp z];exact hp
 .rw[U01.mp hs];exact hl r hr
theorem nR{l:List St2}{q p:St2}(hq:q.1<q.2)(hp:p.1<p.2)(he:q.2=p.1)(x:Int):cov (l++[(q.1,p.2)]) x=(cov (l++[q]) x||inS p x):=by
 rw[Vt,Vt,Bool.or_assoc]
 congr 1
 rw[QF,QF,show cov ([]:List St2) x=false from rfl,U45,U45,U3f,U6n,Hj,Hj,Hj]
 simp only
 omega
theorem gH{acc:List St2}{p:St2}(h:Norm acc)(hp:p.1<p.2)(hl:∀q∈acc,q.2<=p.1):Norm (Bg acc p)/\(∀x,cov (Bg acc p) x=(cov acc x||inS p x))/\∀q∈Bg acc p,q.2<=p.2:=by
 rcases U4h acc with z|⟨l,q,z⟩
 .subst z
  refine⟨⟨fun r hr=>?_,U56 ..⟩,(fun x=>by show(inS p x||false)=(false||inS p x);rw[U45,Bool.false_or]),fun r hr=>?_⟩
  .have:r=p:=U01.mp hr
   rw[this];exact hp
  .have:r=p:=U01.mp hr
   rw[this];exact U5q _
 .rw[U4i] at z
  subst z
  have hq:=h.pos q (U1d _ U0l)
  have hql:=hl q (U1d _ U0l)
  by_cases he:q.2=p.1
  .have e:Bg (l++[q]) p=l++[(q.1,p.2)]:=by
    unfold Bg
    rw[Q8]
    simp[he]
   rw[e]
   refine⟨iH h hp he,nR hq hp he,fun r hr=>?_⟩
   rcases U2c.mp hr with z|z
   .have:=hl r (U28 _ z);omega
   .rw[U01.mp z];exact U5q _
  .have e:Bg (l++[q]) p=l++[q]++[p]:=by
    unfold Bg
    rw[Q8]
    simp[he]
   rw[e]
   have lt:∀r∈l++[q],r.2<p.1:=fun r hr=>by
    rcases U2c.mp hr with z|z
    .have:=(U4o.mp h.far).2.2 r z q U0l
     omega
    .rw[U01.mp z];omega
   refine⟨m6 h hp lt,fun x=>by rw[Vt (l++[q]),QF];simp[cov],fun r hr=>?_⟩
   rcases U2c.mp hr with z|z
   .have:=hl r z;omega
   .rw[U01.mp z];exact U5q _
theorem Wc:∀(l acc:List St2),Norm acc->Asc l->(∀p∈acc,∀q∈l,p.2<=q.1)->Norm (l.foldl Bg acc)/\∀x,cov (l.foldl Bg acc) x=(cov acc x||cov l x)
 |[],acc,h,_,_=>⟨h,fun x=>by rw[List.foldl_nil,show cov [] x=false from rfl,U45]⟩
 |p::l,acc,h,ha,hl=>by
  obtain⟨s1,s2,s3⟩:=gH h (ha.pos p U0l) fun q hq=>hl q hq p U0l
  have hu:=U2f.mp ha.up
  obtain⟨t1,t2⟩:=Wc l (Bg acc p) s1 ⟨fun q hq=>ha.pos q (U0p _ hq),hu.2⟩ fun r hr q hq=>by
   have:=s3 r hr
   have:=hu.1 q hq
   omega
  refine⟨t1,fun x=>?_⟩
  rw[U16,t2,s2,QF,Bool.or_assoc]
theorem S9:∀{E:List Int},E.Pairwise (·<·)->∀{x:Int},(∃a∈E,a<=x)->(∃b∈E,x<b)->∃p∈steps E,p.1<=x/\x<p.2
 |[],_,x,⟨a,ha,_⟩,_=>by simp at ha
 |[a],_,x,⟨c,hc,h1⟩,⟨b,hb,h2⟩=>by
  rw[U01.mp hc] at h1
  rw[U01.mp hb] at h2
  omega
 |a::b::r,h,x,⟨c,hc,h1⟩,⟨d,hd,h2⟩=>by
  have hh:=U2f.mp h
  have ab:=hh.1 b U0l
  rw[QK]
  by_cases z:x<b
  .refine⟨(a,b),U0l,?_,z⟩
   rcases U0t.mp hc with w|w
   .rw[w] at h1;exact h1
   .show a<=x
    have:=hh.1 c w;omega
  .obtain⟨p,hp,k⟩:=S9 hh.2 (x:=x) ⟨b,U0l,by omega⟩ ⟨d,by
    rcases U0t.mp hd with w|w
    .omega
    .exact w,h2⟩
   exact⟨p,U0p _ hp,k⟩
theorem WD:∀{E:List Int},E.Pairwise (·<·)->Asc (steps E)
 |[],_=>⟨fun p h=>by simp[steps] at h,by simp[steps]⟩
 |[a],_=>⟨fun p h=>by simp[steps] at h,by simp[steps]⟩
 |a::b::r,h=>by
  have hh:=U2f.mp h
  obtain⟨s1,s2⟩:=WD hh.2
  rw[QK]
  refine⟨fun p hp=>?_,U2f.mpr ⟨fun q hq=>?_,s2⟩⟩
  .rcases U0t.mp hp with z|z
   .rw[z];exact hh.1 b U0l
   .exact s1 p z
  .obtain⟨_,hm,_,_⟩:=Oc hh.2 q hq
   show b<=q.1
   rcases U0t.mp hm with z|z
   .omega
   .have:=(U2f.mp hh.2).1 _ z;omega
theorem Asc.filter{l:List St2}(h:Asc l)(f:St2->Bool):Asc (l.filter f):=⟨fun p hp=>h.pos p (U3e.mp hp).1,h.up.sublist List.filter_sublist⟩
def Hh(bs:List (List St2))(ns:List Nat)(k:Nat):List St2:=(steps (DP bs 0 ns)).filter fun p=>decide (k<=(Ez bs 0 p.1 ns).length)
theorem nA{bs:List (List St2)}{ns:List Nat}{k:Nat}(hk:1<=k)(x:Int):cov (Hh bs ns k) x=decide (k<=(Ez bs 0 x ns).length):=by
 have hr:=Mg (ns.map (fun i=>(at1 bs i 0).1)++ns.map (fun i=>(at1 bs i 0).2))
 have fb:=ZW (bs:=bs) (w:=0) (ns:=ns) hr Mq
 rw[U3f,Vs,decide_eq_true_eq]
 unfold Hh
 constructor
 .rintro⟨p,hp,h1,h2⟩
  obtain⟨hp1,hp2⟩:=U3e.mp hp
  rw[fb p hp1 x h1 h2]
  exact of_decide_eq_true hp2
 .intro h
  have hne:Ez bs 0 x ns≠[]:=by intro z;rw[z] at h;simp at h;omega
  obtain⟨i,hi⟩:=List.exists_mem_of_ne_nil _ hne
  obtain⟨hi1,hi2⟩:=U3e.mp hi
  obtain⟨k1,k2⟩:=Hj.mp hi2
  obtain⟨p,hp,h1,h2⟩:=S9 hr (x:=x) ⟨_,(Mq i hi1).1,k1⟩ ⟨_,(Mq i hi1).2,k2⟩
  refine⟨p,U3e.mpr ⟨hp,decide_eq_true ?_⟩,h1,h2⟩
  rw[←fb p hp x h1 h2]
  exact h
theorem RM(bs:List (List St2))(ns:List Nat):Bf bs 1 0 ns=((steps (DP bs 0 ns)).filter fun p=>decide (Ez bs 0 p.1 ns≠[])).map fun p=>([p],Ez bs 0 p.1 ns):=by
 rw[Bf]
 split
 .rename_i h
  subst h
  have:DP bs 0 []=[]:=by
   cases q:DP bs 0 [] with
   |nil=>rfl
   |cons e r =>
    have:e∈DP bs 0 []:=by rw[q];exact U0l
    obtain⟨i,hi,_⟩:=RK this
    simp at hi
  rw[this];rfl
 .generalize steps (DP bs 0 ns)=l
  induction l with
  |nil=>rfl
  |cons p l ih =>
   rw[U7b,ih,Bf,U6h]
   by_cases h:Ez bs 0 p.1 ns=[]
   .rw[if_pos h]
    simp[h]
   .rw[if_neg h]
    simp[h]
theorem Qd(bs:List (List St2))(ns:List Nat)(k:Nat)(hk:1<=k):((Bf bs 1 0 ns).filter fun c=>decide (k<=c.2.length)).map (fun c=>c.1.getD 0 (0,0))=Hh bs ns k:=by
 rw[RM,List.filter_map,U0e,List.filter_filter]
 unfold Hh
 have e:((fun c:List St2×List Nat=>c.1.getD 0 (0,0))∘fun p:St2=>([p],Ez bs 0 p.1 ns))=id:=rfl
 rw[e,U76]
 refine U7a fun p _=>?_
 rw[U3f,U1b]
 simp only[U7y,decide_eq_true_eq]
 constructor
 .exact fun z=>z.1
 .exact fun z=>⟨z,fun w=>by rw[w] at z;simp at z;omega⟩
theorem Ln(bs:List (List St2))(ns:List Nat):(Bf bs 1 0 ns).map (fun c=>c.1.getD 0 (0,0))=Hh bs ns 1:=by
 rw[←Qd bs ns 1 (U0u _)]
 congr 1
 symm
 rw[U5t,RM]
 intro c hc
 obtain⟨p,hp,rfl⟩:=U1v.mp hc
 have:=of_decide_eq_true (U3e.mp hp).2
 exact decide_eq_true (U39.mpr this)
theorem Zy(bs:List (List St2))(ns:List Nat)(k:Nat)(hk:1<=k):Norm ((Hh bs ns k).foldl Bg [])/\∀x,cov ((Hh bs ns k).foldl Bg []) x=decide (k<=(Ez bs 0 x ns).length):=by
 obtain⟨h1,h2⟩:=Wc (Hh bs ns k) [] ⟨fun p h=>by simp at h,.nil⟩ ((WD (Mg _)).filter _) (fun p h=>by simp at h)
 exact⟨h1,fun x=>by rw[h2,nA hk];rfl⟩
theorem Yb:∀{l m:List Int},l.Nodup->(∀x∈l,x∈m)->l.length<=m.length
 |[],_,_,_=>U3a _
 |a::l,m,h,hs=>by
  obtain⟨h1,h2⟩:=U4c.mp h
  have ha:=hs a U0l
  have ih:=Yb (l:=l) (m:=m.erase a) h2 fun x hx=>(List.mem_erase_of_ne (show x≠a from fun z=>h1 (by rw[←z];exact hx))).mpr (hs x (U0p _ hx))
  rw[List.length_erase_of_mem ha] at ih
  have:=List.length_pos_of_mem ha
  rw[U0g]
  omega
end VS
end
section
namespace VS
open PySem L2
def Qm(xs:List Int)(x:Int):List Int:=if x∈xs then xs else xs++[x]
theorem Yk{xs:List Int}{x y:Int}:y∈Qm xs x↔y∈xs∨y=x:=by
 unfold Qm
 split
 .constructor
  .exact .inl
  .rintro(h|h)
   .exact h
   .rw[h];assumption
 .simp
theorem V7{xs:List Int}(x:Int)(h:xs.Nodup):(Qm xs x).Nodup:=by
 unfold Qm
 split
 .exact h
 .rw[List.nodup_append]
  refine⟨h,by simp,fun a ha b hb z=>?_⟩
  rw[U01.mp hb] at z
  rename_i hx
  exact hx (z ▸ ha)
def encA(al:List (Int×Int)):List (Key×V):=al.map fun q=>(U3o q.1,V.int q.2)
def Ek(al:List (Int×Int))(x:Int):Int:=((al.find? fun q=>decide (q.1=x)).map (·.2)).getD 0
def K6(al:List (Int×Int))(x v:Int):List (Int×Int):=if x∈al.map (·.1) then al.map (fun q=>if q.1=x then (q.1,v) else q) else al++[(x,v)]
theorem Y9(al:List (Int×Int))(x:Int):J6 (encA al) (.inl x)=(al.find? fun q=>decide (q.1=x)).map fun q=>V.int q.2:=by
 unfold J6 encA
 induction al with
 |nil=>rfl
 |cons q r ih =>
  rw[U0j,U3h,U3h]
  by_cases h:q.1=x
  .rw[decide_eq_true h,decide_eq_true (show(U3o q.1:Key)=U3o x by rw[h])];rfl
  .rw[decide_eq_false h,decide_eq_false (show ¬(U3o q.1:Key)=U3o x from fun z=>h (U7n z))]
   exact ih
theorem lD(al:List (Int×Int))(x v:Int):putK (encA al) (.inl x) (.int v)=encA (K6 al x v):=by
 unfold putK K6
 have e:((encA al).any fun kv=>decide (kv.1=(U3o x:Key)))=decide (x∈al.map (·.1)):=by
  unfold encA
  rw[List.any_map,U3f,List.any_eq_true,decide_eq_true_eq,U1v]
  constructor
  .rintro⟨q,h1,h2⟩
   exact⟨q,h1,U7n (of_decide_eq_true h2)⟩
  .rintro⟨q,h1,h2⟩
   exact⟨q,h1,decide_eq_true (by rw[←h2])⟩
 rw[e]
 by_cases h:x∈al.map (·.1)
 .rw[if_pos (decide_eq_true h),if_pos h]
  unfold encA
  rw[U0e,U0e]
  refine U42 fun q _=>?_
  simp only[U7y]
  by_cases z:q.1=x
  .rw[if_pos z,if_pos (by rw[z])]
  .rw[if_neg z,if_neg (fun w=>z (U7n w))]
 .rw[if_neg (by rw[decide_eq_false h];decide),if_neg h]
  unfold encA
  rw[U1p];rfl
theorem get_set(x v y:Int):∀al:List (Int×Int),Ek (K6 al x v) y=if y=x then v else Ek al y:=by
 intro al
 have new:x ∉ al.map (·.1)->Ek al x=0:=fun h=>by
  unfold Ek
  rw[U60.mpr]
  .rfl
  .intro q hq z
   exact h (U1v.mpr ⟨q,hq,of_decide_eq_true z⟩)
 unfold K6
 by_cases h:x∈al.map (·.1)
 .rw[if_pos h]
  clear new
  induction al with
  |nil=>simp at h
  |cons q r ih =>
   unfold Ek at ih ⊢
   rw[U0j,U3h,U3h]
   by_cases z:q.1=x
   .rw[if_pos z]
    by_cases w:y=x
    .rw[if_pos w]
     have:decide (q.1=y)=true:=decide_eq_true (by rw[z,w])
     simp only[this];rfl
    .rw[if_neg w]
     have:decide (q.1=y)=false:=decide_eq_false (fun k=>w (by rw[←k,z]))
     simp only[this]
     by_cases h':x∈r.map (·.1)
     .have:=ih h'
      rw[if_neg w] at this
      exact this
     .congr 2
      have e:r.map (fun q=>if q.1=x then (q.1,v) else q)=r:=by
       refine(U42 (g:=id) fun p hp=>?_).trans (U76 r)
       rw[if_neg (fun k=>h' (U1v.mpr ⟨p,hp,k⟩))];rfl
      rw[e]
   .rw[if_neg z]
    have h':x∈r.map (·.1):=by
     rcases U0t.mp h with k|k
     .exact absurd k.symm z
     .exact k
    by_cases w:q.1=y
    .have hyx:¬y=x:=fun k=>z (by rw[w,k])
     rw[if_neg hyx]
     simp only[decide_eq_true w]
    .simp only[decide_eq_false w]
     exact ih h'
 .rw[if_neg h]
  unfold Ek
  rw[List.find?_append]
  by_cases w:y=x
  .rw[if_pos w,w]
   have:al.find? (fun q=>decide (q.1=x))=none:=U60.mpr fun q hq z=>h (U1v.mpr ⟨q,hq,of_decide_eq_true z⟩)
   rw[this]
   simp
  .rw[if_neg w]
   cases al.find? (fun q=>decide (q.1=y)) with
   |some q=>rfl
   |none =>
    have:¬x=y:=fun k=>w k.symm
    simp[this]
theorem Yd(al:List (Int×Int))(x v:Int):(K6 al x v).map (·.1)=Qm (al.map (·.1)) x:=by
 unfold K6 Qm
 by_cases h:x∈al.map (·.1)
 .rw[if_pos h,if_pos h,U0e]
  refine U42 fun q _=>?_
  simp only[U7y]
  split<;>rfl
 .rw[if_neg h,if_neg h,U1p];rfl
theorem Sd:∀al:List (Int×Int),keysOf (encA al)=some (al.map (·.1))
 |[]=>rfl
 |q::r=>by
  have:=Sd r
  unfold encA at *
  rw[U0j,keysOf,this];rfl
def Jo(al:List (Int×Int))(p:St2):List (Int×Int):=K6 (K6 al p.1 (Ek al p.1+1)) p.2 (Ek (K6 al p.1 (Ek al p.1+1)) p.2-1)
def Ov(p:St2)(e:Int):Int:=(if e=p.1 then 1 else 0)-(if e=p.2 then 1 else 0)
theorem rK(al:List (Int×Int))(p:St2)(hp:p.1<p.2)(e:Int):Ek (Jo al p) e=Ek al e+Ov p e:=by
 unfold Jo Ov
 rw[get_set,get_set,get_set]
 by_cases h1:e=p.2
 .have h2:¬e=p.1:=by omega
  rw[if_pos h1,if_neg (by omega),if_neg h2,if_pos h1,h1];omega
 .rw[if_neg h1,if_neg h1]
  by_cases h2:e=p.1
  .rw[if_pos h2,if_pos h2,h2];omega
  .rw[if_neg h2,if_neg h2];omega
theorem bO:∀(ps:List St2)(al:List (Int×Int)),(∀p∈ps,p.1<p.2)->∀e,Ek (ps.foldl Jo al) e=Ek al e+(ps.map fun p=>Ov p e).sum
 |[],al,_,e=>by simp
 |p::ps,al,h,e=>by
  rw[U16,bO ps _ (fun q hq=>h q (U0p _ hq)),rK _ _ (h p U0l),U0j,U2b]
  omega
theorem Ye(al:List (Int×Int))(p:St2):(Jo al p).map (·.1)=Qm (Qm (al.map (·.1)) p.1) p.2:=by
 unfold Jo
 rw[Yd,Yd]
theorem Nm:∀(ps:List St2)(al:List (Int×Int)),(al.map (·.1)).Nodup->((ps.foldl Jo al).map (·.1)).Nodup/\∀x,x∈(ps.foldl Jo al).map (·.1)↔x∈al.map (·.1)∨∃p∈ps,x=p.1∨x=p.2
 |[],al,h=>⟨h,fun x=>by simp⟩
 |p::ps,al,h=>by
  obtain⟨h1,h2⟩:=Nm ps (Jo al p) (by rw[Ye];exact V7 _ (V7 _ h))
  refine⟨h1,fun x=>?_⟩
  rw[U16,h2,Ye,Yk,Yk]
  constructor
  .rintro(((z|z)|z)|⟨q,hq,z⟩)
   .exact .inl z
   .exact .inr ⟨p,U0l,.inl z⟩
   .exact .inr ⟨p,U0l,.inr z⟩
   .exact .inr ⟨q,U0p _ hq,z⟩
  .rintro(z|⟨q,hq,z⟩)
   .exact .inl (.inl (.inl z))
   .rcases U0t.mp hq with k|k
    .subst k
     rcases z with z|z
     .exact .inl (.inl (.inr z))
     .exact .inl (.inr z)
    .exact .inr ⟨q,k,z⟩
theorem Vx(ps:List St2):((ps.foldl Jo []).map (·.1)).length<=2*ps.length:=by
 obtain⟨h1,h2⟩:=Nm ps [] .nil
 have:=Yb (m:=ps.map (·.1)++ps.map (·.2)) h1 fun x hx=>by
  rcases(h2 x).mp hx with z|⟨p,hp,z|z⟩
  .simp at z
  .exact U28 _ (U1v.mpr ⟨p,hp,z.symm⟩)
  .exact U1d _ (U1v.mpr ⟨p,hp,z.symm⟩)
 simp only[U0s,U0i] at this ⊢
 omega
theorem WM:∀{a b:List Int},a.Pairwise (·<·)->b.Pairwise (·<·)->(∀x,x∈a↔x∈b)->a=b
 |[],[],_,_,_=>rfl
 |[],y::b,_,_,h=>by have:=(h y).mpr U0l;simp at this
 |x::a,[],_,_,h=>by have:=(h x).mp U0l;simp at this
 |x::a,y::b,ha,hb,h=>by
  obtain⟨a1,a2⟩:=U2f.mp ha
  obtain⟨b1,b2⟩:=U2f.mp hb
  have e:x=y:=by
   rcases U0t.mp ((h x).mp U0l) with z|z
   .exact z
   .rcases U0t.mp ((h y).mpr U0l) with w|w
    .exact w.symm
    .have:=b1 x z;have:=a1 y w;omega
  subst e
  congr 1
  refine WM a2 b2 fun z=>?_
  constructor
  .intro hz
   rcases U0t.mp ((h z).mp (U0p _ hz)) with w|w
   .have:=a1 z hz;omega
   .exact w
  .intro hz
   rcases U0t.mp ((h z).mpr (U0p _ hz)) with w|w
   .have:=b1 z hz;omega
   .exact w
theorem gK{ns:List Int}(h:ns.Nodup):(ns.mergeSort fun a b=>decide (a<=b)).Pairwise (·<·):=by
 have h2:(ns.mergeSort fun a b=>decide (a<=b)).Perm ns:=U3d _ _
 have s2:(ns.mergeSort fun a b=>decide (a<=b)).Pairwise (·<=·):=by
  have:=U44 (le:=fun a b:Int=>decide (a<=b)) (by intro a b c h1 h2;simp at *;omega) (by intro a b;simp;omega) ns
  exact this.imp fun h=>by simpa using h
 have n2:(ns.mergeSort fun a b=>decide (a<=b)).Nodup:=h2.nodup_iff.mpr h
 exact U6f.imp₂ (fun a b h1 h3=>by omega) s2 n2
def cnt(ps:List St2)(x:Int):Int:=(ps.map fun p=>if inS p x=true then (1:Int) else 0).sum
theorem Vm(a:Int):∀{l:List Int},l.Nodup->(l.map fun e=>if e=a then (1:Int) else 0).sum=if a∈l then 1 else 0
 |[],_=>by simp
 |x::l,h=>by
  obtain⟨h1,h2⟩:=U4c.mp h
  rw[U0j,U2b,Vm a h2]
  by_cases e:x=a
  .subst e
   rw[if_pos rfl,if_neg h1,if_pos U0l];rfl
  .rw[if_neg e]
   by_cases z:a∈l
   .rw[if_pos z,if_pos (U0p _ z)];rfl
   .rw[if_neg z,if_neg]
    .rfl
    .intro w
     rcases U0t.mp w with k|k
     .exact e k.symm
     .exact z k
theorem YH{E:List Int}(hr:E.Pairwise (·<·)){i:Nat}(hi:i<E.length){a:Int}(ha:a∈E):a∈E.take (i+1)↔a<=E[i]:=by
 have r:=List.pairwise_iff_getElem.mp hr
 rw[List.mem_iff_getElem]
 constructor
 .rintro⟨j,hj,rfl⟩
  rw[U2j] at hj
  rw[List.getElem_take]
  by_cases z:j=i
  .subst z;exact U5q _
  .have:=r j i (by omega) hi (by omega);omega
 .intro h
  obtain⟨j,hj,rfl⟩:=U6t ha
  have:j<=i:=by
   by_cases z:j<=i
   .exact z
   .have:=r i j hi hj (by omega);omega
  exact⟨j,by rw[U2j];omega,by rw[List.getElem_take]⟩
theorem V2{E:List Int}(hr:E.Pairwise (·<·)){i:Nat}(hi:i<E.length):∀(ps:List St2),(∀p∈ps,p.1<p.2/\p.1∈E/\p.2∈E)->((E.take (i+1)).map fun e=>(ps.map fun p=>Ov p e).sum).sum=cnt ps E[i]
 |[],_=>by
  have:∀l:List Int,(l.map fun e=>(([]:List St2).map fun p=>Ov p e).sum).sum=0:=by
   intro l
   induction l with
   |nil=>rfl
   |cons x l ih=>rw[U0j,U2b,ih];rfl
  rw[this];rfl
 |p::ps,h=>by
  obtain⟨h1,h2,h3⟩:=h p U0l
  have ih:=V2 hr hi ps fun q hq=>h q (U0p _ hq)
  have nd:(E.take (i+1)).Nodup:=(hr.imp fun h=>(by omega:_≠_)).sublist (U67 ..)
  have split:∀(l:List Int)(f g:Int->Int),(l.map fun e=>f e+g e).sum=(l.map f).sum+(l.map g).sum:=by
   intro l f g
   induction l with
   |nil=>rfl
   |cons x l ih=>rw[U0j,U2b,ih,U0j,U2b,U0j,U2b];omega
  have minus:∀(l:List Int)(f g:Int->Int),(l.map fun e=>f e-g e).sum=(l.map f).sum-(l.map g).sum:=by
   intro l f g
   induction l with
   |nil=>rfl
   |cons x l ih=>rw[U0j,U2b,ih,U0j,U2b,U0j,U2b];omega
  have e1:((E.take (i+1)).map fun e=>((p::ps).map fun p=>Ov p e).sum)=(E.take (i+1)).map fun e=>Ov p e+(ps.map fun p=>Ov p e).sum:=rfl
  have e2:((E.take (i+1)).map fun e=>Ov p e).sum=if inS p E[i]=true then 1 else 0:=by
   have:(fun e=>Ov p e)=fun e=>(if e=p.1 then (1:Int) else 0)-(if e=p.2 then 1 else 0):=rfl
   rw[this,minus _ (fun e=>if e=p.1 then (1:Int) else 0) (fun e=>if e=p.2 then 1 else 0),Vm p.1 nd,Vm p.2 nd]
   have m1:=YH hr hi h2
   have m2:=YH hr hi h3
   by_cases a:p.1<=E[i]
   .rw[if_pos (m1.mpr a)]
    by_cases b:p.2<=E[i]
    .rw[if_pos (m2.mpr b),if_neg (fun z=>by have:=Hj.mp z;omega)];rfl
    .rw[if_neg (fun z=>b (m2.mp z)),if_pos (Hj.mpr (by omega))];rfl
   .rw[if_neg (fun z=>a (m1.mp z)),if_neg (fun z=>by have:=m2.mp z;omega),if_neg (fun z=>by have:=Hj.mp z;omega)];rfl
  rw[e1,split,ih,e2]
  unfold cnt
  rw[U0j,U2b]
theorem Qc(ps:List St2)(x:Int):cnt ps x=((ps.filter fun p=>inS p x).length:Nat):=by
 unfold cnt
 induction ps with
 |nil=>rfl
 |cons p ps ih =>
  rw[U0j,U2b,ih,U6h]
  by_cases h:inS p x=true
  .rw[if_pos h,if_pos h,U0g];omega
  .rw[if_neg h,if_neg h];omega
end VS
end
section
namespace W08
open PySem L2 VS
def V8:BP :=
 (Cy (TQ (eCB KZ (Aa (Ab 0) (Aa (eC (.ty "int")) Ag))) (jT (eCB KZ (Aa (Ab 0) (Aa (eC (.ty "bool")) Ag))))))
def Dz:DQ:=Eu 1 1 V8
def VD:BP :=
 (Cy (TQ (Aw Dz (Aa (Ab 0) Ag)) (eUn (Xa Bc.D3) (Ab 0))))
def FP:DQ:=Eu 1 1 VD
def Ra:BP :=
 (Bj (sIf (tOr (Jl (Bb (eCB KZ (Aa (Ab 0) (Aa (eC (.ty "tuple")) Ag))))) (Bb (eOp (oEq true) (eCB Ed (Aa (Ab 0) Ag)) (eC (.int 2)))))
  (Cy (eC (.bl false)))
  Ey)
  (Cy (TQ (Aw Dz (Aa (eOp oIx (Ab 0) (eC (.int 0))) Ag)) (TQ (Aw Dz (Aa (eOp oIx (Ab 0) (eC (.int 1))) Ag)) (eOp oLt (eOp oIx (Ab 0) (eC (.int 0))) (eOp oIx (Ab 0) (eC (.int 1))))))))
def HS:DQ:=Eu 1 1 Ra
def RG:Bu :=
 Ej 1 [] (Dt (Ab 1)) (Pat.sem (.nm 0)) HY (Aw HS (Aa (Ab 0) Ag))
def Yo:BP :=
 (Bj (sIf (tOr (Jl (Bb (Aw FP (Aa (Ab 0) Ag)))) (tOr (Jl (Bb (eCB KZ (Aa (Ab 1) (Aa (eC (.ty "tuple")) Ag))))) (Bb (eOp (oEq true) (eCB Ed (Aa (Ab 1) Ag)) (Ab 0)))))
  (Cy (eC (.bl false)))
  Ey)
  (Cy (eCB NQ (Aa (Bq RG) Ag))))
def Jd:DQ:=Eu 2 2 Yo
def QW:Bu :=
 Ej 1 [1] (Dt (Ab 2)) (Pat.sem (.nm 0)) HY (Aw Jd (Aa (Ab 1) (Aa (Ab 0) Ag)))
def Wg:BP :=
 (Bj (sIf (tOr (Jl (Bb (eCB KZ (Aa (Ab 0) (Aa (eC (.ty "tuple")) Ag))))) (Bb (eOp (oEq true) (eCB Ed (Aa (Ab 0) Ag)) (eC (.int 2)))))
  (Cy (eC (.bl false)))
  Ey)
  (Bj (Bo 1 (eOp oIx (Ab 0) (eC (.int 0))))
  (Bj (Bo 2 (eOp oIx (Ab 0) (eC (.int 1))))
  (Bj (sIf (tOr (Jl (Bb (Aw FP (Aa (Ab 1) Ag)))) (tOr (Jl (Bb (eCB KZ (Aa (Ab 2) (Aa (eC (.ty "list")) Ag))))) (Bb (eOp oGt (eCB Ed (Aa (Ab 2) Ag)) (eUn (Ur Bc.D3) (Ab 1))))))
  (Cy (eC (.bl false)))
  Ey)
  (Cy (eCB NQ (Aa (Bq QW) Ag)))))))
def Io:DQ:=Eu 1 3 Wg
def Ss:BP :=
 (sIf (Jl (Bb (Aw Io (Aa (Ab 0) Ag))))
  Qq
  Ey)
def Gk:DQ:=Eu 1 1 Ss
def Sq:BP :=
 (Bj (Gv (Aw Gk (Aa (Ab 0) Ag)))
  (sIf (Bb (eOp (oEq true) (eOp oIx (Ab 0) (eC (.int 0))) (Ab 1)))
  Qq
  Ey))
def Eh:DQ:=Eu 2 2 Sq
def Oz:BP :=
 (Bo 1 (eOp Hy (Ab 1) (eOp Gj (Ab 3) (Ab 2))))
def Ox:BP :=
 K7 (Dt (Ab 0)) (Pat.sem (.tp [(.nm 2),(.nm 3)]))
  Oz
def VB:BP :=
 (Bj (Bo 1 (eC (.int 1)))
  (Bj Ox
  (Cy (Ab 1))))
def Hg:DQ:=Eu 1 4 VB
def M8:Bu :=
 Ej 1 [1] (Dt (Ab 0)) (Pat.sem (.nm 0)) HY (eOp oIx (eOp oIx (Ab 0) (Ab 1)) (eC (.int 0)))
def M7:Bu :=
 Ej 1 [1] (Dt (Ab 0)) (Pat.sem (.nm 0)) HY (eOp oIx (eOp oIx (Ab 0) (Ab 1)) (eC (.int 1)))
def Rb:BP :=
 (Cy (Tw (eOp Bx (Bq M8) (Bq M7))))
def HW:DQ:=Eu 2 2 Rb
def Qi:BP :=
 (Bj (Bo 2 (Aw HW (Aa (Ab 0) (Aa (Ab 1) Ag))))
  (Cy (Tz (Aa (Ab 2) (Aa (eSl oSl (Ab 2) (Gd (eC (.int 1))) Ge) Ag)))))
def Fv:DQ:=Eu 2 3 Qi
def K3(rec:DQ):Bu :=
 Ej 1 [0] (Dt (Ab 1)) (Pat.sem (.nm 0)) HY (eOp oIx (Ab 1) (Ab 0))
def K1(rec:DQ):Bu :=
 Ej 1 [0,2,5] (Dt (Ab 1)) (Pat.sem (.nm 0)) (Bb (Ux oLe oLt (eOp oIx (eOp oIx (eOp oIx (Ab 1) (Ab 0)) (Ab 2)) (eC (.int 0))) (Ab 3) (eOp oIx (eOp oIx (eOp oIx (Ab 1) (Ab 0)) (Ab 2)) (eC (.int 1))))) (Ab 0)
def K5(rec:DQ):BP :=
 (Gv (FJ Ew (Ab 4) (Aa (Cz (Aa (eOp Bx (Cz (Aa (Cz (Aa (Ab 5) (Aa (Ab 6) Ag))) Ag)) (Ab 8)) (Aa (Ab 9) Ag))) Ag)))
def MF(rec:DQ):BP :=
 K7 (Dt (Aw rec (Aa (Ab 0) (Aa (Ab 7) (Aa (eOp Bx (Ab 2) (eC (.int 1))) (Aa (Ab 3) Ag)))))) (Pat.sem (.tp [(.nm 8),(.nm 9)]))
  (K5 rec)
def K4(rec:DQ):BP :=
 (Bj (Bo 7 (Bq (K1 rec)))
  (MF rec))
def M9(rec:DQ):BP :=
 K7 (Dt (Aw Fv (Aa (Bq (K3 rec)) (Aa (Ab 2) Ag)))) (Pat.sem (.tp [(.nm 5),(.nm 6)]))
  (K4 rec)
def LC(rec:DQ):BP :=
 (Bj (sIf (Bb (eOp (oEq false) (eCB Ed (Aa (Ab 1) Ag)) (eC (.int 0))))
  (Cy (Bq Ag))
  Ey)
  (Bj (sIf (Bb (eOp (oEq false) (Ab 2) (Ab 3)))
  (Cy (Bq (Aa (Cz (Aa (Cz Ag) (Aa (Ab 1) Ag))) Ag)))
  Ey)
  (Bj (Bo 4 (Ly Ag))
  (Bj (M9 rec)
  (Cy (Ab 4))))))
def CW:Nat->DQ
 |0=>fun _=>none
 |n+1=>Eu 4 10 (LC (CW n))
def V9:BP :=
 (Cy (Aw (CW 4) (Aa (eOp oIx (Ab 0) (eC (.int 1))) (Aa (GF (Aa (eCB Ed (Aa (eOp oIx (Ab 0) (eC (.int 1))) Ag)) Ag)) (Aa (eC (.int 0)) (Aa (eOp oIx (Ab 0) (eC (.int 0))) Ag))))))
def Dq:DQ:=Eu 1 1 V9
def Gs:Bu :=
 Ej 2 [] (Dt (Ab 0)) (Pat.sem (.tp [(.nm 0),(.nm 1)])) HY (eCB Ed (Aa (Ab 1) Ag))
def Hx:BP :=
 (Bj (Bo 4 (eCB Ed (Aa (Ab 3) Ag)))
  (Kf (eOp Bx (eOp oIx (Ab 1) (eOp Gj (Ab 4) (eC (.int 1)))) (Aw Hg (Aa (Ab 2) Ag))) (Ab 1) (eOp Gj (Ab 4) (eC (.int 1)))))
def Jp:BP :=
 K7 (Dt (Ab 0)) (Pat.sem (.tp [(.nm 2),(.nm 3)]))
  Hx
def O6:BP :=
 (Bj (Bo 1 (Py (Bq (Aa (eC (.int 0)) Ag)) (Uj 0 (Bq Gs))))
  (Bj Jp
  (Cy (Ab 1))))
def Ep:DQ:=Eu 1 5 O6
def Oh:BP :=
 (sIf (LQ (Bb (eOp oGt (eCB Ed (Aa (Ab 1) Ag)) (eC (.int 0)))) (Bb (eOp (oEq false) (eOp oIx (eOp oIx (Ab 1) (eUn Fi (eC (.int 1)))) (eC (.int 1))) (Ab 2))))
  (Kf (Cz (Aa (eOp oIx (eOp oIx (Ab 1) (eUn Fi (eC (.int 1)))) (eC (.int 0))) (Aa (Ab 3) Ag))) (Ab 1) (eUn Fi (eC (.int 1))))
  (Gv (FJ Ew (Ab 1) (Aa (Cz (Aa (Ab 2) (Aa (Ab 3) Ag))) Ag))))
def R9:BP :=
 K7 (Dt (Ab 0)) (Pat.sem (.tp [(.nm 2),(.nm 3)]))
  Oh
def Yn:BP :=
 (Bj (Bo 1 (Ly Ag))
  (Bj R9
  (Cy (Ab 1))))
def Jc:DQ:=Eu 1 4 Yn
def Ie:Bu :=
 Ej 2 [1] (Dt (Aw Dq (Aa (Ab 0) Ag))) (Pat.sem (.tp [(.nm 0),(.nm 1)])) (Bb (eOp oGe (eCB Ed (Aa (Ab 1) Ag)) (Ab 2))) (eOp oIx (Ab 0) (eC (.int 0)))
def M6:BP :=
 (Cy (Aw Jc (Aa (Bq Ie) Ag)))
def DX:DQ:=Eu 2 2 M6
def Sh:BP :=
 (Bj (Gv (Aw Eh (Aa (Ab 0) (Aa (eC (.int 1)) Ag))))
  (Cy (Aw DX (Aa (Ab 0) (Aa (eC (.int 1)) Ag)))))
def Cq:DQ:=Eu 1 1 Sh
def QX:Bu :=
 Ej 2 [] (Px (Aa (Ab 1) (Aa (eSl oSl (Ab 1) (Gd (eC (.int 1))) Ge) Ag))) (Pat.sem (.tp [(.nm 0),(.nm 1)])) HY (Cz (Aa (eOp oIx (Ab 0) (eC (.int 1))) (Aa (eOp oIx (Ab 1) (eC (.int 0))) Ag)))
def Wh:BP :=
 (Bj (Bo 1 (Aw Cq (Aa (Ab 0) Ag)))
  (Cy (Bq QX)))
def Gy:DQ:=Eu 1 2 Wh
def Jq:Bu :=
 Ej 2 [] (Dt (Aw Cq (Aa (Ab 0) Ag))) (Pat.sem (.tp [(.nm 0),(.nm 1)])) HY (eOp Gj (Ab 1) (Ab 0))
def O7:BP :=
 (Cy (eCB TV (Aa (Bq Jq) Ag)))
def Es:DQ:=Eu 1 1 O7
def Oo:BP :=
 (Bj (Gv (Aw Eh (Aa (Ab 0) (Aa (eC (.int 1)) Ag))))
  (Cy (Aw Ep (Aa (Aw Dq (Aa (Ab 0) Ag)) Ag))))
def Cj:DQ:=Eu 1 1 Oo
def MK:BP :=
 (Bj (Gv (Aw Eh (Aa (Ab 0) (Aa (eC (.int 1)) Ag))))
  (Bj (sIf (tOr (Jl (Bb (Aw Dz (Aa (Ab 1) Ag)))) (Bb (eOp oLt (Ab 1) (eC (.int 1)))))
  Qq
  Ey)
  (Cy (Aw DX (Aa (Ab 0) (Aa (Ab 1) Ag))))))
def Cw:DQ:=Eu 2 2 MK
def T3:BP :=
 (Bj (Bo 2 (eOp oMod (eOp Bx (eOp Bx (eOp oMod (Ab 0) (eC (.int 2147483629))) (eOp Hy (eOp Hy (eC (.int 1000003)) (Ab 1)) (Ab 1))) (eOp Hy (eC (.int 7919)) (Ab 1))) (eC (.int 2147483629))))
  (Bj (Bo 2 (eOp oMod (eOp Hy (Ab 2) (Ab 2)) (eC (.int 2147483587))))
  (Cy (eOp oDiv (eOp oMod (eOp Hy (Ab 2) (eOp Bx (Ab 2) (eC (.int 40961)))) (eC (.int 2147483563))) (eC (.int 4))))))
def Hl:DQ:=Eu 2 3 T3
def QZ:BP :=
 (Cy (Bq (Aa (eOp Hy (Ab 0) (eCB Pn (Aa (eOp oGe (Ab 0) (eOp Hw (eC (.int 10)) (eC (.int 18)))) Ag))) (Aa (Ab 0) (Aa (eC (.int 0)) Ag)))))
def GZ:DQ:=Eu 1 1 QZ
def Mp:BP :=
 (Bj (sIf (Bb (eOp oGt (eOp oIx (Ab 0) (eC (.int 0))) (eC (.int 0))))
  (Bj (Bo 2 (eOp oMod (eOp oIx (Ab 0) (eC (.int 0))) (Ab 1)))
  (Bj (Kf (eOp oDiv (eOp oIx (Ab 0) (eC (.int 0))) (Ab 1)) (Ab 0) (eC (.int 0)))
  (Cy (Ab 2))))
  Ey)
  (Bj (Kf (eOp Bx (eOp oIx (Ab 0) (eC (.int 2))) (eC (.int 1))) (Ab 0) (eC (.int 2)))
  (Cy (eOp oMod (eOp Hy (Aw Hl (Aa (eOp oIx (Ab 0) (eC (.int 1))) (Aa (eOp oIx (Ab 0) (eC (.int 2))) Ag))) (eOp oIx (Bq (Aa (eC (.int 1)) (Aa (eC (.int 8191)) Ag))) (eCB Pn (Aa (eOp oGt (Ab 1) (eOp Hw (eC (.int 10)) (eC (.int 6)))) Ag)))) (Ab 1)))))
def Av:M4:=runM 2 3 Mp
def Sx:BP :=
 (Cy (eOp oIx (Bq (Aa (Cz (Aa (eC (.int 0)) (Aa (eC (.int 6)) Ag))) (Aa (Cz (Aa (eUn Fi (eC (.int 3))) (Aa (eC (.int 8)) Ag))) (Aa (Cz (Aa (eC (.int 0)) (Aa (eC (.int 13)) Ag))) (Aa (Cz (Aa (eUn Fi (eC (.int 20))) (Aa (eC (.int 41)) Ag))) (Aa (Cz (Aa (eUn Fi (eOp Hw (eC (.int 10)) (eC (.int 9)))) (Aa (eOp Hy (eC (.int 2)) (eOp Hw (eC (.int 10)) (eC (.int 9)))) Ag))) Ag)))))) (Bv Av (Aa (Ab 0) (Aa (eC (.int 5)) Ag)))))
def Et:M4:=runM 1 1 Sx
def Qj:BP :=
 (Bj (Bo 2 (eOp Bx (eOp oIx (Ab 1) (eC (.int 0))) (Bv Av (Aa (Ab 0) (Aa (eOp oIx (Ab 1) (eC (.int 1))) Ag)))))
  (Bj (Bo 3 (eOp Bx (eOp oIx (Ab 1) (eC (.int 0))) (Bv Av (Aa (Ab 0) (Aa (eOp oIx (Ab 1) (eC (.int 1))) Ag)))))
  (Bj (sIf (Bb (eOp (oEq false) (Ab 2) (Ab 3)))
  (Bo 3 (eOp Bx (Ab 2) (eC (.int 1))))
  Ey)
  (Cy (Cz (Aa (eCB XQ (Aa (Ab 2) (Aa (Ab 3) Ag))) (Aa (eCB XR (Aa (Ab 2) (Aa (Ab 3) Ag))) Ag)))))))
def Fw:M4:=runM 2 4 Qj
def Mi:Bu :=
 Ej 1 [0,2] (Jb (Aa (Ab 1) Ag)) (Pat.sem (.nm 0)) HY (Bv Fw (Aa (Ab 1) (Aa (Ab 2) Ag)))
def RJ:BP :=
 (Bj (Bo 4 (eCB cM (Aa (Bq Mi) Ag)))
  (Bj (Bo 5 (Bv Av (Aa (Ab 0) (Aa (eC (.int 6)) Ag))))
  (Bj (sIf (tOr (Bb (eOp (oEq false) (Ab 3) (Bq Ag))) (Bb (eOp oGt (Ab 5) (eC (.int 3)))))
  (Cy (Ab 4))
  Ey)
  (Bj (Bo 6 (eOp oIx (Ab 3) (Bv Av (Aa (Ab 0) (Aa (eCB Ed (Aa (Ab 3) Ag)) Ag)))))
  (Bj (Bo 7 (Bv Av (Aa (Ab 0) (Aa (Ab 1) Ag))))
  (Bj (Vc (eOp oIx (Ab 6) (Ab 7)) (Pat.sem (.tp [(.nm 8),(.nm 9)])))
  (Bj (Bo 10 (Bq (Aa (eOp oIx (Ab 6) (Ab 7)) (Aa (eOp oIx (Ab 4) (Ab 7)) (Aa (Cz (Aa (Ab 9) (Aa (eOp Bx (eOp Bx (Ab 9) (eC (.int 1))) (Bv Av (Aa (Ab 0) (Aa (eC (.int 4)) Ag)))) Ag))) (Aa (Cz (Aa (Ab 8) (Aa (eOp Bx (eOp Bx (Ab 8) (eC (.int 1))) (Bv Av (Aa (Ab 0) (Aa (eOp Gj (Ab 9) (Ab 8)) Ag)))) Ag))) Ag))))))
  (Bj (sIf (Bb (eOp oGt (eOp oIx (eOp oIx (Ab 10) (Ab 5)) (eC (.int 1))) (eOp Hw (eC (.int 10)) (eC (.int 9)))))
  (Cy (Ab 4))
  Ey)
  (Cy (eOp Bx (eOp Bx (eSl oSl (Ab 6) Ge (Gd (Ab 7))) (Cz (Aa (eOp oIx (Ab 10) (Ab 5)) Ag))) (eSl oSl (Ab 6) (Gd (eOp Bx (Ab 7) (eC (.int 1)))) Ge)))))))))))
def GK:M4:=runM 4 11 RJ
def Kz:BP :=
 (Gv (FJ Ew (Ab 5) (Aa (Bv GK (Aa (Ab 0) (Aa (Ab 1) (Aa (Ab 2) (Aa (Ab 5) Ag))))) Ag)))
def O1:BP :=
 K7 (Jb (Aa (Ab 4) Ag)) (Pat.sem (.nm 6))
  Kz
def T4:BP :=
 (Bj (Bo 4 (eOp oIx (Bq (Aa (Bv Av (Aa (Ab 0) (Aa (eC (.int 4)) Ag))) (Aa (Bv Av (Aa (Ab 0) (Aa (eOp Bx (Ab 3) (eC (.int 1))) Ag))) (Aa (Ab 3) Ag)))) (Bv Av (Aa (Ab 0) (Aa (eC (.int 3)) Ag)))))
  (Bj (Bo 5 (Ly Ag))
  (Bj O1
  (Cy (Ab 5)))))
def G4:M4:=runM 4 7 T4
def Kr:BP :=
 (Bj (Vc (eOp oIx (Ab 2) (eC (.int 0))) (Pat.sem (.tp [(.nm 3),(.nm 4)])))
  (Bj (VS.MP (eOp Bx (Nh (Ab 1) (Ab 3) (eC (.int 0))) (eC (.int 1))) (Ab 1) (Ab 3))
  (VS.MP (eOp Gj (Nh (Ab 1) (Ab 4) (eC (.int 0))) (eC (.int 1))) (Ab 1) (Ab 4))))
def Nu:BP :=
 K7 (Dt (Ab 0)) (Pat.sem (.nm 2))
  Kr
def Kq:BP :=
 (Bj (Bo 6 (eOp Bx (Ab 6) (Uk (Ab 1) (Ab 3))))
  (Gv (FJ Ew (Ab 5) (Aa (Cz (Aa (Ab 3) (Aa (Ab 4) (Aa (Ab 6) Ag)))) Ag))))
def Nt:BP :=
 K7 (Px (Aa (Ab 7) (Aa (eSl oSl (Ab 7) (Gd (eC (.int 1))) Ge) Ag))) (Pat.sem (.tp [(.nm 3),(.nm 4)]))
  Kq
def Sv:BP :=
 (Bj (Bo 1 cj)
  (Bj Nu
  (Bj (Bo 5 (Ly Ag))
  (Bj (Bo 6 (eC (.int 0)))
  (Bj (Bo 7 (Uw (Ab 1)))
  (Bj Nt
  (Cy (Ab 5))))))))
def Dv:DQ:=Eu 1 8 Sv
def J9:BP :=
 (sIf (Bb (eOp oGe (Ab 5) (Ab 1)))
  (Bj (sIf (LQ (Bb (eOp (oEq true) (Ab 2) (Bq Ag))) (Bb (eOp (oEq false) (eOp oIx (eOp oIx (Ab 2) (eUn Fi (eC (.int 1)))) (eC (.int 1))) (Ab 3))))
  (Bo 3 (eOp oIx (FJ TJ (Ab 2) Ag) (eC (.int 0))))
  Ey)
  (Gv (FJ Ew (Ab 2) (Aa (Cz (Aa (Ab 3) (Aa (Ab 4) Ag))) Ag))))
  Ey)
def LK:BP :=
 K7 (Dt (Aw Dv (Aa (Ab 0) Ag))) (Pat.sem (.tp [(.nm 3),(.nm 4),(.nm 5)]))
  J9
def Pj:BP :=
 (Bj (Bo 2 (Ly Ag))
  (Bj LK
  (Cy (Ab 2))))
def Ce:DQ:=Eu 2 6 Pj
def Ky:BP :=
 (sIf (Bb (eOp oGt (Ab 4) (eC (.int 0))))
  (Kf (eOp Gj (eOp Bx (eOp oIx (Ab 1) (eOp Gj (Ab 4) (eC (.int 1)))) (Ab 3)) (Ab 2)) (Ab 1) (eOp Gj (Ab 4) (eC (.int 1))))
  Ey)
def Nz:BP :=
 K7 (Dt (Aw Dv (Aa (Ab 0) Ag))) (Pat.sem (.tp [(.nm 2),(.nm 3),(.nm 4)]))
  Ky
def Kw:BP :=
 (Gv (FJ TJ (Ab 1) Ag))
def RW:BP :=
 Ke (LQ (Bb (eOp (oEq true) (Ab 1) (Bq Ag))) (Bb (eOp (oEq false) (eOp oIx (Ab 1) (eUn Fi (eC (.int 1)))) (eC (.int 0))))) Kw 100000
def Sy:BP :=
 (Bj (Bo 1 (Py (Bq (Aa (eC (.int 0)) Ag)) (eCB Ed (Aa (Ab 0) Ag))))
  (Bj Nz
  (Bj RW
  (Cy (Ab 1)))))
def G3:DQ:=Eu 1 5 Sy
def Ks:Bu :=
 Ej 2 [] (Px (Aa (Ab 2) (Aa (eSl oSl (Ab 2) (Gd (eC (.int 1))) Ge) Ag))) (Pat.sem (.tp [(.nm 0),(.nm 1)])) HY (Cz (Aa (eOp oIx (Ab 0) (eC (.int 1))) (Aa (eOp oIx (Ab 1) (eC (.int 0))) Ag)))
def JR:Bu :=
 Ej 2 [] (Dt (Ab 2)) (Pat.sem (.tp [(.nm 0),(.nm 1)])) HY (eOp Gj (Ab 1) (Ab 0))
def Kv:BP :=
 (Bj (Bo 6 (Bq (Aa (GX Cq (Aa (Ab 1) Ag)) (Aa (GX Gy (Aa (Ab 1) Ag)) (Aa (Aw Es (Aa (Ab 1) Ag)) (Aa (GX Cj (Aa (Ab 1) Ag)) Ag))))))
  (Bj (sIf (Bb (eOp (Ou true) (eCB Fj (Aa (Ab 6) Ag)) (eCB Fj (Aa (Ab 4) Ag))))
  (Cy (eC (.bl false)))
  Ey)
  (Bj (Gv (FJ Ew (eOp oIx (Ab 6) (eC (.int 0))) (Aa (eC (.int 0)) Ag)))
  (Bj (Gv (FJ Ew (eOp oIx (Ab 6) (eC (.int 1))) (Aa (eC (.int 0)) Ag)))
  (Gv (FJ Ew (eOp oIx (Ab 6) (eC (.int 3))) (Aa (eC (.int 0)) Ag)))))))
def Ny:BP :=
 K7 (Jb (Aa (eC (.int 2)) Ag)) (Pat.sem (.nm 5))
  Kv
def Ku:BP :=
 (Bj (Bo 6 (GX Cw (Aa (Ab 1) (Aa (Ab 7) Ag))))
  (Bj (sIf (Bb (eOp (Ou true) (eCB Fj (Aa (Ab 6) Ag)) (eCB Fj (Aa (Aw Ce (Aa (Ab 0) (Aa (Ab 7) Ag))) Ag))))
  (Cy (eC (.bl false)))
  Ey)
  (Bj (Gv (FJ Ew (Ab 6) (Aa (eC .non) Ag)))
  (sIf (Bb (eOp (oEq true) (Aw Cw (Aa (Ab 1) (Aa (Ab 7) Ag))) (Aw Ce (Aa (Ab 0) (Aa (Ab 7) Ag)))))
  (Cy (eC (.bl false)))
  Ey))))
def Nv:BP :=
 K7 (Dt (eOp Bx (GF (Aa (eC (.int 1)) (Aa (eOp Bx (eCB Ed (Aa (Ab 0) Ag)) (eC (.int 2))) Ag))) (Bq (Aa (eOp Hw (eC (.int 10)) (eC (.int 39))) Ag)))) (Pat.sem (.nm 7))
  Ku
def Sw:BP :=
 (Bj (Bo 1 (Cz (Aa (eC (.int 1)) (Aa (Ui nList (Aa (Ab 0) Ag)) Ag))))
  (Bj (Bo 2 (Aw Ce (Aa (Ab 0) (Aa (eC (.int 1)) Ag))))
  (Bj (Bo 3 (Bq Ks))
  (Bj (Bo 4 (Bq (Aa (Ab 2) (Aa (Ab 3) (Aa (eCB TV (Aa (Bq JR) Ag)) (Aa (Aw G3 (Aa (Ab 0) Ag)) Ag))))))
  (Bj Ny
  (Bj Nv
  (Cy (eOp (oEq false) (Ab 1) (Cz (Aa (eC (.int 1)) (Aa (Ab 0) Ag)))))))))))
def Gm:DQ:=Eu 1 8 Sw
def Ut:BP :=
 (Bj (Bo 2 (GX GZ (Aa (Ab 1) Ag)))
  (sIf (Jl (Bb (Aw Gm (Aa (Bv G4 (Aa (Ab 2) (Aa (eC (.int 1)) (Aa (Bv Et (Aa (Ab 2) Ag)) (Aa (eC (.int 20)) Ag))))) Ag))))
  (Cy (eC (.bl false)))
  Ey))
def Xo:BP :=
 K7 (Dt (eOp Bx (Bq (Aa (eC (.int 0)) Ag)) (eSl oSl (Ab 0) Ge (Gd (eC (.int 15)))))) (Pat.sem (.nm 1))
  Ut
def oO:BP :=
 (Bj Xo
  (Cy (TQ (eOp (oEq false) (Aw Cj (Aa (Cz (Aa (eC (.int 1)) (Aa (Bq (Aa (Cz (Aa (Cz (Aa (eC (.int 0)) (Aa (eC (.int 5)) Ag))) Ag)) (Aa (Cz (Aa (Cz (Aa (eC (.int 0)) (Aa (eC (.int 5)) Ag))) Ag)) Ag))) Ag))) Ag)) (Bq (Aa (eC (.int 0)) (Aa (eC (.int 5)) Ag)))) (eOp (oEq false) (Aw Cj (Aa (Cz (Aa (eC (.int 1)) (Aa (Bq Ag) Ag))) Ag)) (Bq Ag)))))
def Vg:DQ:=Eu 1 3 oO
end W08
end
section
namespace W08
open PySem PySem.Spec L2 VS
def top (i : Nat) : Stmt := PySem.Challenge.pw_boxcover_k08_pieces_and_gaps_far.main.body.getD i (.Pass ⟨0, 0, 0, 0⟩)
abbrev Jg:Stmt:=top 7
abbrev Jj:Stmt:=top 8
abbrev Ib:Stmt:=top 9
abbrev KD:Stmt:=top 10
abbrev JK:Stmt:=top 11
abbrev Iu:Stmt:=top 12
abbrev Ir:Stmt:=top 13
abbrev Ji:Stmt:=top 14
abbrev Ga:Stmt:=top 16
abbrev Ho:Stmt:=top 17
abbrev Gb:Stmt:=top 18
abbrev Jh:Stmt:=top 19
abbrev FZ:Stmt:=top 20
abbrev Lf:Stmt:=top 22
abbrev Gp:Stmt:=top 23
abbrev Ip:Stmt:=top 24
abbrev JL:Stmt:=top 25
abbrev Fb:Stmt:=top 26
abbrev Gi:Stmt:=top 27
abbrev Fz:Stmt:=top 28
abbrev J3:Stmt:=top 30
abbrev Je:Stmt:=top 31
abbrev Jf:Stmt:=top 32
abbrev Iw:Stmt:=top 33
abbrev Hq:Stmt:=top 34
abbrev JH:Stmt:=top 35
abbrev J4:Stmt:=top 36
abbrev Iv:Stmt:=top 37
abbrev HX:Stmt:=top 38
abbrev Iz:Stmt:=top 39
abbrev Gz:Stmt:=top 40
abbrev MN:Stmt:=top 41
theorem Zf:CP ["thing"] ["thing"] (Ak Jg):=⟨rfl,rfl,rfl,by decide +kernel,rfl,by decide +kernel,by decide +kernel⟩
theorem Zh:CP ["thing"] ["thing"] (Ak Jj):=⟨rfl,rfl,rfl,by decide +kernel,rfl,by decide +kernel,by decide +kernel⟩
theorem X3:CP ["thing"] ["thing"] (Ak Ib):=⟨rfl,rfl,rfl,by decide +kernel,rfl,by decide +kernel,by decide +kernel⟩
theorem gU:CP ["ways","thing"] ["ways","thing"] (Ak KD):=⟨rfl,rfl,rfl,by decide +kernel,rfl,by decide +kernel,by decide +kernel⟩
theorem QM:CP ["thing","ways","boxes"] ["thing"] (Ak JK):=⟨rfl,rfl,rfl,by decide +kernel,rfl,by decide +kernel,by decide +kernel⟩
theorem Z5:CP ["heap"] ["heap"] (Ak Iu):=⟨rfl,rfl,rfl,by decide +kernel,rfl,by decide +kernel,by decide +kernel⟩
theorem Z4:CP ["heap","ways"] ["heap","ways"] (Ak Ir):=⟨rfl,rfl,rfl,by decide +kernel,rfl,by decide +kernel,by decide +kernel⟩
theorem Jw:CP ["box","size","low","high"] ["box"] (Ak Ji):=⟨rfl,rfl,rfl,by decide +kernel,rfl,by decide +kernel,by decide +kernel⟩
theorem X4:CP ["boxes","way"] ["boxes","way"] (Ak Ga):=⟨rfl,rfl,rfl,by decide +kernel,rfl,by decide +kernel,by decide +kernel⟩
theorem Ph:CP ["boxes","way","ends"] ["boxes","way"] (Ak Ho):=⟨rfl,rfl,rfl,by decide +kernel,rfl,by decide +kernel,by decide +kernel⟩
theorem Gn:CP ["boxes","numbers","way","ways","cells","low","high","there","rest","held_by"] ["boxes","numbers","way","ways"] (Ak Gb):=⟨rfl,rfl,rfl,by decide +kernel,rfl,by decide +kernel,by decide +kernel⟩
theorem Zg:CP ["heap"] ["heap"] (Ak Jh):=⟨rfl,rfl,rfl,by decide +kernel,rfl,by decide +kernel,by decide +kernel⟩
theorem Gu:CP ["cells","sizes","cell","numbers","times"] ["cells"] (Ak FZ):=⟨rfl,rfl,rfl,by decide +kernel,rfl,by decide +kernel,by decide +kernel⟩
theorem Oe:CP ["stretches","pieces","low","high"] ["stretches"] (Ak Lf):=⟨rfl,rfl,rfl,by decide +kernel,rfl,by decide +kernel,by decide +kernel⟩
theorem Vy:CP ["heap","least"] ["heap","least"] (Ak Gp):=⟨rfl,rfl,rfl,by decide +kernel,rfl,by decide +kernel,by decide +kernel⟩
theorem Z2:CP ["heap"] ["heap"] (Ak Ip):=⟨rfl,rfl,rfl,by decide +kernel,rfl,by decide +kernel,by decide +kernel⟩
theorem V1:CP ["heap","pieces"] ["heap"] (Ak JL):=⟨rfl,rfl,rfl,by decide +kernel,rfl,by decide +kernel,by decide +kernel⟩
theorem Rz:CP ["heap"] ["heap"] (Ak Fb):=⟨rfl,rfl,rfl,by decide +kernel,rfl,by decide +kernel,by decide +kernel⟩
theorem Ub:CP ["heap"] ["heap"] (Ak Gi):=⟨rfl,rfl,rfl,by decide +kernel,rfl,by decide +kernel,by decide +kernel⟩
theorem Rc:CP ["heap","k"] ["heap","k"] (Ak Fz):=⟨rfl,rfl,rfl,by decide +kernel,rfl,by decide +kernel,by decide +kernel⟩
theorem Nr:CP ["cell","k","number"] ["cell","k"] (Ak J3):=⟨rfl,rfl,rfl,by decide +kernel,rfl,by decide +kernel,by decide +kernel⟩
theorem Ze:CP ["cell"] ["cell"] (Ak Je):=⟨rfl,rfl,rfl,by decide +kernel,rfl,by decide +kernel,by decide +kernel⟩
theorem SJ:CP ["well","many","got"] ["well","many"] (Ak Jf):=⟨rfl,rfl,rfl,by decide +kernel,rfl,by decide +kernel,by decide +kernel⟩
theorem Z6:CP ["well"] ["well"] (Ak Iw):=⟨rfl,rfl,rfl,by decide +kernel,rfl,by decide +kernel,by decide +kernel⟩
theorem Jk:CP ["well","reach","one","other"] ["well","reach"] (Ak Hq):=⟨rfl,rfl,rfl,by decide +kernel,rfl,by decide +kernel,by decide +kernel⟩
theorem Hv:CP ["well","ways","reach","boxes","found","kind","here","at","low","high","there"] ["well","ways","reach","boxes"] (Ak JH):=⟨rfl,rfl,rfl,by decide +kernel,rfl,by decide +kernel,by decide +kernel⟩
theorem Kp:CP ["well","ways","reach","most","many","found","k"] ["well","ways","reach","most"] (Ak J4):=⟨rfl,rfl,rfl,by decide +kernel,rfl,by decide +kernel,by decide +kernel⟩
theorem Eo:CP ["boxes","more","box","low","high","found","many","ends"] ["boxes"] (Ak Iv):=⟨rfl,rfl,rfl,by decide +kernel,rfl,by decide +kernel,by decide +kernel⟩
theorem Gh:CP ["boxes","k","found","low","high","many"] ["boxes","k"] (Ak HX):=⟨rfl,rfl,rfl,by decide +kernel,rfl,by decide +kernel,by decide +kernel⟩
theorem JQ:CP ["boxes","found","low","high","many"] ["boxes"] (Ak Iz):=⟨rfl,rfl,rfl,by decide +kernel,rfl,by decide +kernel,by decide +kernel⟩
theorem Fp:CP ["boxes","heap","pieces","gaps","due","turn","told","k"] ["boxes"] (Ak Gz):=⟨rfl,rfl,rfl,by decide +kernel,rfl,by decide +kernel,by decide +kernel⟩
theorem Xk:CP ["script","cell","well"] ["script"] (Ak MN):=⟨rfl,rfl,rfl,by decide +kernel,rfl,by decide +kernel,by decide +kernel⟩
section
variable{P:Program}{w:World}{K:U0a}{mg:Str->Option Value}{base:Heap}
set_option maxHeartbeats 4000000 in
theorem Zo{f:Addr}{fd:FuncData}(F:Fun K "is_whole" "is_whole" Jg f fd)(B:Blt mg):DY P w K mg base CX0 1 f fd ["thing"] (spP K Dz 1) :=
 fnP F Zf fun cdv A outer s H E hr =>
  (Ay (CQ (Qt (Cd Lh Mv rfl (B.is "isinstance") Hr (Ae (Ad 0) (Ae (Rg (n:="int") rfl (B.is "int") Xx) Ai))) (Uv (wM (Cd Lh Mv rfl (B.is "isinstance") Hr (Ae (Ad 0) (Ae (Rg (n:="bool") rfl (B.is "bool") sO) Ai))))))))
set_option maxHeartbeats 4000000 in
theorem Zt{f:Addr}{fd:FuncData}(F:Fun K "are_ways" "are_ways" Jj f fd)(B:Blt mg){d_MOST_BOXES:Addr}(M_MOST_BOXES:mg "MOST_BOXES"=some (.ref d_MOST_BOXES))(T_MOST_BOXES:∀h,K.In h->U5s P w h d_MOST_BOXES Bc.D3)(c_is_whole:CG P w K mg base "is_whole" 1 Dz):DY P w K mg base CX0 2 f fd ["thing"] (spP K FP 1) :=
 fnP F Zh fun cdv A outer s H E hr =>
  (Ay (CQ (Qt (Bm c_is_whole hr (by omega) rfl (Ae (Ad 0) Ai)) (Uv (mj T_MOST_BOXES (Ad 0) rfl M_MOST_BOXES)))))
set_option maxHeartbeats 4000000 in
theorem X5{f:Addr}{fd:FuncData}(F:Fun K "is_stretch" "is_stretch" Ib f fd)(B:Blt mg)(c_is_whole:CG P w K mg base "is_whole" 1 Dz):DY P w K mg base CX0 2 f fd ["thing"] (spP K HS 1) :=
 fnP F X3 fun cdv A outer s H E hr =>
  (Aq (GC (Ma (OD (Kl (Kh (Cd Lh Mv rfl (B.is "isinstance") Hr (Ae (Ad 0) (Ae (Rg (n:="tuple") rfl (B.is "tuple") QH) Ai))))) (PL (Ef (Kg hr) Nb (Cd EY HD rfl (B.is "len") IK (Ae (Ad 0) Ai)) Aj (Df _)))))
   (Ay (CQ Oa))
   El)
   (Ay (CQ (Qt (Bm c_is_whole hr (by omega) rfl (Ae (Bp BZ BX (Ad 0) Aj (fun _ _=>rfl)) Ai)) (Qt (Bm c_is_whole hr (by omega) rfl (Ae (Bp BZ BX (Ad 0) Aj (fun _ _=>rfl)) Ai)) (Uv (PN cV Xi (Bp BZ BX (Ad 0) Aj (fun _ _=>rfl)) (Bp BZ BX (Ad 0) Aj (fun _ _=>rfl)) (Df _))))))))
set_option maxHeartbeats 4000000 in
theorem iD{f:Addr}{fd:FuncData}(F:Fun K "is_box" "is_box" KD f fd)(B:Blt mg)(c_are_ways:CG P w K mg base "are_ways" 2 FP)(c_is_stretch:CG P w K mg base "is_stretch" 2 HS):DY P w K mg base CX0 3 f fd ["ways","thing"] (spP K Jd 2) :=
 fnP F gU fun cdv A outer s H E hr =>
  (Aq (GC (Ma (OD (Kl (Kh (Bm c_are_ways hr (by omega) rfl (Ae (Ad 0) Ai)))) (OD (Kl (Kh (Cd Lh Mv rfl (B.is "isinstance") Hr (Ae (Ad 1) (Ae (Rg (n:="tuple") rfl (B.is "tuple") QH) Ai))))) (PL (Ef (Kg hr) Nb (Cd EY HD rfl (B.is "len") IK (Ae (Ad 1) Ai)) (Ad 0) (Df _))))))
   (Ay (CQ Oa))
   El)
   (Ay (CQ (Cd (Yw rfl) aq rfl (B.is "all") fY (Ae (Hf rfl (Fe.of (sc:=Ak KD) (N:=["ways","thing"]) (N2:=["part"]) (k:=1) (caps:=[]) (by decide +kernel)) rfl (Fd (Ad 1)) ⟨fun _ _ _ _ _=>⟨(Bh (i:=0) (show U2w (["part"]:List Str) by decide +kernel)),IV,(Bm c_is_stretch hr (by omega) rfl (Ae (Ad 0) Ai))⟩⟩) Ai)))))
set_option maxHeartbeats 4000000 in
theorem dJ{f:Addr}{fd:FuncData}(F:Fun K "is_heap" "is_heap" JK f fd)(B:Blt mg){d_MOST_BOXES:Addr}(M_MOST_BOXES:mg "MOST_BOXES"=some (.ref d_MOST_BOXES))(T_MOST_BOXES:∀h,K.In h->U5s P w h d_MOST_BOXES Bc.D3)(c_are_ways:CG P w K mg base "are_ways" 2 FP)(c_is_box:CG P w K mg base "is_box" 3 Jd):DY P w K mg base CX0 4 f fd ["thing"] (spP K Io 1) :=
 fnP F QM fun cdv A outer s H E hr =>
  (Aq (GC (Ma (OD (Kl (Kh (Cd Lh Mv rfl (B.is "isinstance") Hr (Ae (Ad 0) (Ae (Rg (n:="tuple") rfl (B.is "tuple") QH) Ai))))) (PL (Ef (Kg hr) Nb (Cd EY HD rfl (B.is "len") IK (Ae (Ad 0) Ai)) Aj (Df _)))))
   (Ay (CQ Oa))
   El)
   (Aq (Cv (i:=1) QM.nd (Bp BZ BX (Ad 0) Aj (fun _ _=>rfl)))
   (Aq (Cv (i:=2) QM.nd (Bp BZ BX (Ad 0) Aj (fun _ _=>rfl)))
   (Aq (GC (Ma (OD (Kl (Kh (Bm c_are_ways hr (by omega) rfl (Ae (Ad 1) Ai)))) (OD (Kl (Kh (Cd Lh Mv rfl (B.is "isinstance") Hr (Ae (Ad 2) (Ae (Rg (n:="list") rfl (B.is "list") Vu) Ai))))) (PL (Ef Pr Nf (Cd EY HD rfl (B.is "len") IK (Ae (Ad 2) Ai)) (mZ T_MOST_BOXES (Ad 1) rfl M_MOST_BOXES (fun _ _=>rfl)) (Df _))))))
   (Ay (CQ Oa))
   El)
   (Ay (CQ (Cd (Yw rfl) aq rfl (B.is "all") fY (Ae (Hf rfl (Fe.of (sc:=Ak JK) (N:=["thing","ways","boxes"]) (N2:=["box","ways"]) (k:=1) (caps:=[1]) (by decide +kernel)) rfl (Fd (Ad 2)) ⟨fun _ _ _ _ _=>⟨(Bh (i:=0) (show U2w (["box","ways"]:List Str) by decide +kernel)),IV,(Bm c_is_box hr (by omega) rfl (Ae (Ad 1) (Ae (Ad 0) Ai)))⟩⟩) Ai))))))))
set_option maxHeartbeats 4000000 in
theorem ZC{f:Addr}{fd:FuncData}(F:Fun K "need_heap" "need_heap" Iu f fd)(B:Blt mg)(c_is_heap:CG P w K mg base "is_heap" 4 Io):DY P w K mg base CX0 5 f fd ["heap"] (spP K Gk 1) :=
 fnP F Z5 fun cdv A outer s H E hr =>
  (Ay (GC (Kl (Kh (Bm c_is_heap hr (by omega) rfl (Ae (Ad 0) Ai))))
   (Ay Tn)
   El))
set_option maxHeartbeats 4000000 in
theorem Z9{f:Addr}{fd:FuncData}(F:Fun K "need_ways" "need_ways" Ir f fd)(B:Blt mg)(c_need_heap:CG P w K mg base "need_heap" 5 Gk):DY P w K mg base CX0 6 f fd ["heap","ways"] (spP K Eh 2) :=
 fnP F Z4 fun cdv A outer s H E hr =>
  (Aq (Hs (Bm c_need_heap hr (by omega) rfl (Ae (Ad 0) Ai)))
   (Ay (GC (Ef (Kg hr) Nb (Bp BZ BX (Ad 0) Aj (fun _ _=>rfl)) (Ad 1) (Df _))
   (Ay Tn)
   El)))
set_option maxHeartbeats 4000000 in
theorem Zr{f:Addr}{fd:FuncData}(F:Fun K "box_size" "box_size" Ji f fd)(B:Blt mg):DY P w K mg base CX0 1 f fd ["box"] (spP K Hg 1) :=
 fnP F Jw fun cdv A outer s H E hr =>
  (Aq (Cv (i:=1) Jw.nd Aj)
   (Aq (Hz rfl (Fd (Ad 0)) (Gq rfl (CJ (Bh (i:=2) Jw.nd) (CJ (Bh (i:=3) Jw.nd) Fy)))
   (Ay (Cv (i:=1) Jw.nd (Bt JZ JV (Ad 1) (Bt Jt Im (Ad 3) (Ad 2))))) U2t)
   (Ay (CQ (Ad 1)))))
set_option maxHeartbeats 4000000 in
theorem X6{f:Addr}{fd:FuncData}(F:Fun K "ends_along" "ends_along" Ga f fd)(B:Blt mg):DY P w K mg base CX0 1 f fd ["boxes","way"] (spP K HW 2) :=
 fnP F X4 fun cdv A outer s H E hr =>
  (Ay (CQ (dg rfl (Bt Dm Dl (Hf rfl (Fe.of (sc:=Ak Ga) (N:=["boxes","way"]) (N2:=["box","way"]) (k:=1) (caps:=[1]) (by decide +kernel)) rfl (Fd (Ad 0)) ⟨fun _ _ _ _ _=>⟨(Bh (i:=0) (show U2w (["box","way"]:List Str) by decide +kernel)),IV,(Bp BZ BX (Bp BZ BX (Ad 0) (Ad 1) (fun _ _=>rfl)) Aj (fun _ _=>rfl))⟩⟩) (Hf rfl (Fe.of (sc:=Ak Ga) (N:=["boxes","way"]) (N2:=["box","way"]) (k:=1) (caps:=[1]) (by decide +kernel)) rfl (Fd (Ad 0)) ⟨fun _ _ _ _ _=>⟨(Bh (i:=0) (show U2w (["box","way"]:List Str) by decide +kernel)),IV,(Bp BZ BX (Bp BZ BX (Ad 0) (Ad 1) (fun _ _=>rfl)) Aj (fun _ _=>rfl))⟩⟩)) rfl (B.is "sorted") rfl (B.is "set"))))
set_option maxHeartbeats 4000000 in
theorem Vz{f:Addr}{fd:FuncData}(F:Fun K "steps_along" "steps_along" Ho f fd)(B:Blt mg)(Bz:mg "zip"=none)(c_ends_along:CG P w K mg base "ends_along" 1 HW):DY P w K mg base CX0 2 f fd ["boxes","way"] (spP K Fv 2) :=
 fnP F Ph fun cdv A outer s H E hr =>
  (Aq (Cv (i:=2) Ph.nd (Bm c_ends_along hr (by omega) rfl (Ae (Ad 0) (Ae (Ad 1) Ai))))
   (Ay (CQ (dh rfl (Ae (Ad 2) (Ae (KH NT NZ (Ad 2) (Lb Aj) Ld) Ai)) rfl (B.is "list") rfl Bz))))
set_option maxHeartbeats 4000000 in
theorem Jz{f:Addr}{fd:FuncData}(F:Fun K "cells_from" "cells_from" Gb f fd)(B:Blt mg)(c_steps_along:CG P w K mg base "steps_along" 2 Fv){n k:Nat}(hk:2<=k)(c_cells_from:CG P w K mg base "cells_from" k (CW n)):DY P w K mg base CX0 (k+1) f fd ["boxes","numbers","way","ways"] (spP K (CW (n+1)) 4) :=
 fnP F Gn fun cdv A outer s H E hr =>
  (Aq (GC (Ef (Ju hr) Js (Cd EY HD rfl (B.is "len") IK (Ae (Ad 1) Ai)) Aj (Df _))
   (Ay (CQ (Em Ai BW)))
   El)
   (Aq (GC (Ef (Ju hr) Js (Ad 2) (Ad 3) (Df _))
   (Ay (CQ (Em (Ae (Ds (Ae (Ds Ai BW) (Ae (Ad 1) Ai)) (Am (Am BW))) Ai) (Am BW))))
   El)
   (Aq (Cv (i:=4) Gn.nd (Pg Ai BW))
   (Aq (Hz rfl (Fd (Bm c_steps_along hr (by omega) rfl (Ae (Hf rfl (Fe.of (sc:=Ak Gb) (N:=["boxes","numbers","way","ways","cells","low","high","there","rest","held_by"]) (N2:=["number","boxes"]) (k:=1) (caps:=[0]) (by decide +kernel)) rfl (Fd (Ad 1)) ⟨fun _ _ _ _ _=>⟨(Bh (i:=0) (show U2w (["number","boxes"]:List Str) by decide +kernel)),IV,(Bp BZ BX (Ad 1) (Ad 0) (fun _ _=>rfl))⟩⟩) (Ae (Ad 2) Ai)))) (Gq rfl (CJ (Bh (i:=5) Gn.nd) (CJ (Bh (i:=6) Gn.nd) Fy)))
   (Aq (Sg (i:=7) rfl Gn.nd (Fe.of (sc:=Ak Gb) (N:=["boxes","numbers","way","ways","cells","low","high","there","rest","held_by"]) (N2:=["number","boxes","way","low"]) (k:=1) (caps:=[0,2,5]) (by decide +kernel)) rfl (Fd (Ad 1)) ⟨fun _ _ _ _ _=>⟨(Bh (i:=0) (show U2w (["number","boxes","way","low"]:List Str) by decide +kernel)),(bK (mW yr uy cV Xi (Bp BZ BX (Bp BZ BX (Bp BZ BX (Ad 1) (Ad 0) (fun _ _=>rfl)) (Ad 2) (fun _ _=>rfl)) Aj (fun _ _=>rfl)) (Ad 3) (Bp BZ BX (Bp BZ BX (Bp BZ BX (Ad 1) (Ad 0) (fun _ _=>rfl)) (Ad 2) (fun _ _=>rfl)) Aj (fun _ _=>rfl)))),(Ad 0)⟩⟩)
   (Ay (Hz rfl (Fd (Bm c_cells_from hr (by omega) rfl (Ae (Ad 0) (Ae (Ad 7) (Ae (Bt Dm Dl (Ad 2) Aj) (Ae (Ad 3) Ai)))))) (Gq rfl (CJ (Bh (i:=8) Gn.nd) (CJ (Bh (i:=9) Gn.nd) Fy)))
   (Ay (Hs (Ja U2e U2r U2s Hu Ht (Ad 4) (Ae (Ds (Ae (Bt Dm Dl (Ds (Ae (Ds (Ae (Ad 5) (Ae (Ad 6) Ai)) (Am (Am BW))) Ai) (Am BW)) (Ad 8)) (Ae (Ad 9) Ai)) (Am (Am BW))) Ai)))) U2t))) U2t)
   (Ay (CQ (Ad 4)))))))
set_option maxHeartbeats 4000000 in
theorem Zq{f:Addr}{fd:FuncData}(F:Fun K "cells_of" "cells_of" Jh f fd)(B:Blt mg)(c_cells_from:CG P w K mg base "cells_from" 6 (CW 4)):DY P w K mg base CX0 7 f fd ["heap"] (spP K Dq 1) :=
 fnP F Zg fun cdv A outer s H E hr =>
  (Ay (CQ (Bm c_cells_from hr (by omega) rfl (Ae (Bp BZ BX (Ad 0) Aj (fun _ _=>rfl)) (Ae (RZ rfl (Ae (Cd EY HD rfl (B.is "len") IK (Ae (Bp BZ BX (Ad 0) Aj (fun _ _=>rfl)) Ai)) Ai) rfl (B.is "list") rfl (B.is "range")) (Ae Aj (Ae (Bp BZ BX (Ad 0) Aj (fun _ _=>rfl)) Ai)))))))
set_option maxHeartbeats 4000000 in
theorem S6{f:Addr}{fd:FuncData}(F:Fun K "sizes_by_times" "sizes_by_times" FZ f fd)(B:Blt mg)(c_box_size:CG P w K mg base "box_size" 1 Hg):DY P w K mg base CX0 2 f fd ["cells"] (spP K Ep 1) :=
 fnP F Gu fun cdv A outer s H E hr =>
  (Aq (Cv (i:=1) Gu.nd (bM (Em (Ae Aj Ai) (Am BW)) (qz rfl rfl (B.is "max") (Hf rfl (Fe.of (sc:=Ak FZ) (N:=["cells","sizes","cell","numbers","times"]) (N2:=["cell","numbers"]) (k:=2) (caps:=[]) (by decide +kernel)) rfl (Fd (Ad 0)) ⟨fun _ _ _ _ _=>⟨(Gq rfl (CJ (Bh (i:=0) (show U2w (["cell","numbers"]:List Str) by decide +kernel)) (CJ (Bh (i:=1) (show U2w (["cell","numbers"]:List Str) by decide +kernel)) Fy))),IV,(Cd EY HD rfl (B.is "len") IK (Ae (Ad 1) Ai))⟩⟩))))
   (Aq (Hz rfl (Fd (Ad 0)) (Gq rfl (CJ (Bh (i:=2) Gu.nd) (CJ (Bh (i:=3) Gu.nd) Fy)))
   (Aq (Cv (i:=4) Gu.nd (Cd EY HD rfl (B.is "len") IK (Ae (Ad 3) Ai)))
   (Ay (Np (Bt Dm Dl (Bp BZ BX (Ad 1) (Bt Jt Im (Ad 4) Aj) (fun _ _=>rfl)) (Bm c_box_size hr (by omega) rfl (Ae (Ad 2) Ai))) (Ad 1) (Bt Jt Im (Ad 4) Aj)))) U2t)
   (Ay (CQ (Ad 1)))))
set_option maxHeartbeats 4000000 in
theorem iC{f:Addr}{fd:FuncData}(F:Fun K "joined" "joined" Lf f fd)(B:Blt mg):DY P w K mg base CX0 1 f fd ["stretches"] (spP K Jc 1) :=
 fnP F Oe fun cdv A outer s H E hr =>
  (Aq (Cv (i:=1) Oe.nd (Pg Ai BW))
   (Aq (Hz rfl (Fd (Ad 0)) (Gq rfl (CJ (Bh (i:=2) Oe.nd) (CJ (Bh (i:=3) Oe.nd) Fy)))
   (Ay (GC (Ma (Xp (Ef Pr Nf (Cd EY HD rfl (B.is "len") IK (Ae (Ad 1) Ai)) Aj (Df _)) (Vl (Ef (Ju hr) Js (Bp BZ BX (Bp BZ BX (Ad 1) (OJ Lq KJ Aj) (fun _ _=>rfl)) Aj (fun _ _=>rfl)) (Ad 2) (Df _)))))
   (Ay (Np (Ds (Ae (Bp BZ BX (Bp BZ BX (Ad 1) (OJ Lq KJ Aj) (fun _ _=>rfl)) Aj (fun _ _=>rfl)) (Ae (Ad 3) Ai)) (Am (Am BW))) (Ad 1) (OJ Lq KJ Aj)))
   (Ay (Hs (Ja U2e U2r U2s Hu Ht (Ad 1) (Ae (Ds (Ae (Ad 2) (Ae (Ad 3) Ai)) (Am (Am BW))) Ai)))))) U2t)
   (Ay (CQ (Ad 1)))))
set_option maxHeartbeats 4000000 in
theorem W0{f:Addr}{fd:FuncData}(F:Fun K "pieces_held" "pieces_held" Gp f fd)(B:Blt mg)(c_joined:CG P w K mg base "joined" 1 Jc)(c_cells_of:CG P w K mg base "cells_of" 7 Dq):DY P w K mg base CX0 8 f fd ["heap","least"] (spP K DX 2) :=
 fnP F Vy fun cdv A outer s H E hr =>
  (Ay (CQ (Bm c_joined hr (by omega) rfl (Ae (Hf rfl (Fe.of (sc:=Ak Gp) (N:=["heap","least"]) (N2:=["cell","numbers","least"]) (k:=2) (caps:=[1]) (by decide +kernel)) rfl (Fd (Bm c_cells_of hr (by omega) rfl (Ae (Ad 0) Ai))) ⟨fun _ _ _ _ _=>⟨(Gq rfl (CJ (Bh (i:=0) (show U2w (["cell","numbers","least"]:List Str) by decide +kernel)) (CJ (Bh (i:=1) (show U2w (["cell","numbers","least"]:List Str) by decide +kernel)) Fy))),(bK (Ef cW Xj (Cd EY HD rfl (B.is "len") IK (Ae (Ad 1) Ai)) (Ad 2) (Df _))),(Bp BZ BX (Ad 0) Aj (fun _ _=>rfl))⟩⟩) Ai))))
set_option maxHeartbeats 4000000 in
theorem Z8{f:Addr}{fd:FuncData}(F:Fun K "pieces_of" "pieces_of" Ip f fd)(B:Blt mg)(c_need_ways:CG P w K mg base "need_ways" 6 Eh)(c_pieces_held:CG P w K mg base "pieces_held" 8 DX):DY P w K mg base CX0 9 f fd ["heap"] (spP K Cq 1) :=
 fnP F Z2 fun cdv A outer s H E hr =>
  (Aq (Hs (Bm c_need_ways hr (by omega) rfl (Ae (Ad 0) (Ae Aj Ai))))
   (Ay (CQ (Bm c_pieces_held hr (by omega) rfl (Ae (Ad 0) (Ae Aj Ai))))))
set_option maxHeartbeats 4000000 in
theorem dN{f:Addr}{fd:FuncData}(F:Fun K "gaps_of" "gaps_of" JL f fd)(B:Blt mg)(Bz:mg "zip"=none)(c_pieces_of:CG P w K mg base "pieces_of" 9 Cq):DY P w K mg base CX0 10 f fd ["heap"] (spP K Gy 1) :=
 fnP F V1 fun cdv A outer s H E hr =>
  (Aq (Cv (i:=1) V1.nd (Bm c_pieces_of hr (by omega) rfl (Ae (Ad 0) Ai)))
   (Ay (CQ (Hf rfl (Fe.of (sc:=Ak JL) (N:=["heap","pieces"]) (N2:=["before","behind"]) (k:=2) (caps:=[]) (by decide +kernel)) rfl (Xq rfl Bz (Ae (Ad 1) (Ae (KH NT NZ (Ad 1) (Lb Aj) Ld) Ai))) ⟨fun _ _ _ _ _=>⟨(Gq rfl (CJ (Bh (i:=0) (show U2w (["before","behind"]:List Str) by decide +kernel)) (CJ (Bh (i:=1) (show U2w (["before","behind"]:List Str) by decide +kernel)) Fy))),IV,(Ds (Ae (Bp BZ BX (Ad 0) Aj (fun _ _=>rfl)) (Ae (Bp BZ BX (Ad 1) Aj (fun _ _=>rfl)) Ai)) (Am (Am BW)))⟩⟩))))
set_option maxHeartbeats 4000000 in
theorem S7{f:Addr}{fd:FuncData}(F:Fun K "covered_length" "covered_length" Fb f fd)(B:Blt mg)(Bs:mg "sum"=none)(c_pieces_of:CG P w K mg base "pieces_of" 9 Cq):DY P w K mg base CX0 10 f fd ["heap"] (spP K Es 1) :=
 fnP F Rz fun cdv A outer s H E hr =>
  (Ay (CQ (Cd (Wm rfl) aZ rfl Bs fX (Ae (Hf rfl (Fe.of (sc:=Ak Fb) (N:=["heap"]) (N2:=["low","high"]) (k:=2) (caps:=[]) (by decide +kernel)) rfl (Fd (Bm c_pieces_of hr (by omega) rfl (Ae (Ad 0) Ai))) ⟨fun _ _ _ _ _=>⟨(Gq rfl (CJ (Bh (i:=0) (show U2w (["low","high"]:List Str) by decide +kernel)) (CJ (Bh (i:=1) (show U2w (["low","high"]:List Str) by decide +kernel)) Fy))),IV,(Bt Jt Im (Ad 1) (Ad 0))⟩⟩) Ai))))
set_option maxHeartbeats 4000000 in
theorem Uc{f:Addr}{fd:FuncData}(F:Fun K "lengths_often" "lengths_often" Gi f fd)(B:Blt mg)(c_need_ways:CG P w K mg base "need_ways" 6 Eh)(c_sizes_by_times:CG P w K mg base "sizes_by_times" 2 Ep)(c_cells_of:CG P w K mg base "cells_of" 7 Dq):DY P w K mg base CX0 8 f fd ["heap"] (spP K Cj 1) :=
 fnP F Ub fun cdv A outer s H E hr =>
  (Aq (Hs (Bm c_need_ways hr (by omega) rfl (Ae (Ad 0) (Ae Aj Ai))))
   (Ay (CQ (Bm c_sizes_by_times hr (by omega) rfl (Ae (Bm c_cells_of hr (by omega) rfl (Ae (Ad 0) Ai)) Ai)))))
set_option maxHeartbeats 4000000 in
theorem Rf{f:Addr}{fd:FuncData}(F:Fun K "pieces_at_least" "pieces_at_least" Fz f fd)(B:Blt mg)(c_need_ways:CG P w K mg base "need_ways" 6 Eh)(c_is_whole:CG P w K mg base "is_whole" 1 Dz)(c_pieces_held:CG P w K mg base "pieces_held" 8 DX):DY P w K mg base CX0 9 f fd ["heap","k"] (spP K Cw 2) :=
 fnP F Rc fun cdv A outer s H E hr =>
  (Aq (Hs (Bm c_need_ways hr (by omega) rfl (Ae (Ad 0) (Ae Aj Ai))))
   (Aq (GC (Ma (OD (Kl (Kh (Bm c_is_whole hr (by omega) rfl (Ae (Ad 1) Ai)))) (PL (Ef cV Xi (Ad 1) Aj (Df _)))))
   (Ay Tn)
   El)
   (Ay (CQ (Bm c_pieces_held hr (by omega) rfl (Ae (Ad 0) (Ae (Ad 1) Ai)))))))
set_option maxHeartbeats 4000000 in
theorem ZK{f:Addr}{fd:FuncData}(F:Fun K "_law_mixed" "_law_mixed" J3 f fd)(B:Blt mg):DY P w K mg base CX0 1 f fd ["cell","k"] (spP K Hl 2) :=
 fnP F Nr fun cdv A outer s H E hr =>
  (Aq (Cv (i:=2) Nr.nd (Bt PK Mt (Bt Dm Dl (Bt Dm Dl (Bt PK Mt (Ad 0) Aj) (Bt JZ JV (Bt JZ JV Aj (Ad 1)) (Ad 1))) (Bt JZ JV Aj (Ad 1))) Aj))
   (Aq (Cv (i:=2) Nr.nd (Bt PK Mt (Bt JZ JV (Ad 2) (Ad 2)) Aj))
   (Ay (CQ (Bt YZ ao (Bt PK Mt (Bt JZ JV (Ad 2) (Bt Dm Dl (Ad 2) Aj)) Aj) Aj)))))
set_option maxHeartbeats 4000000 in
theorem Zm{f:Addr}{fd:FuncData}(F:Fun K "_law_well" "_law_well" Je f fd)(B:Blt mg):DY P w K mg base CX0 1 f fd ["cell"] (spP K GZ 1) :=
 fnP F Ze fun cdv A outer s H E hr =>
  (Ay (CQ (Em (Ae (Bt JZ JV (Ad 0) (RD Wn ak rfl (B.is "int") Xx (Ae (PN cW Xj (Ad 0) (Bt PJ Ms Aj Aj) (Df _)) Ai))) (Ae (Ad 0) (Ae Aj Ai))) (Am (Am (Am BW))))))
set_option maxHeartbeats 4000000 in
theorem Zn{f:Addr}{fd:FuncData}(F:Fun K "_law_draw" "_law_draw" Jf f fd)(B:Blt mg)(c_law_mixed:CG P w K mg base "_law_mixed" 1 Hl):DY P w K mg base CX0 2 f fd ["well","many"] (spM K Av 2) :=
 fnM F SJ fun cdv A outer s H E hr =>
  (Aq (GC (Ef Pr Nf (Bp BZ BX (Ad 0) Aj (fun _ _=>rfl)) Aj (Df _))
   (Aq (Cv (i:=2) SJ.nd (Bt PK Mt (Bp BZ BX (Ad 0) Aj (fun _ _=>rfl)) (Ad 1)))
   (Aq (Np (Bt YZ ao (Bp BZ BX (Ad 0) Aj (fun _ _=>rfl)) (Ad 1)) (Ad 0) Aj)
   (Ay (CQ (Ad 2)))))
   El)
   (Aq (Np (Bt Dm Dl (Bp BZ BX (Ad 0) Aj (fun _ _=>rfl)) Aj) (Ad 0) Aj)
   (Ay (CQ (Bt PK Mt (Bt JZ JV (Bm c_law_mixed hr (by omega) rfl (Ae (Bp BZ BX (Ad 0) Aj (fun _ _=>rfl)) (Ae (Bp BZ BX (Ad 0) Aj (fun _ _=>rfl)) Ai))) (Bp BZ BX (Em (Ae Aj (Ae Aj Ai)) (Am (Am BW))) (RD Wn ak rfl (B.is "int") Xx (Ae (PN Pr Nf (Ad 1) (Bt PJ Ms Aj Aj) (Df _)) Ai)) (fun _ _=>rfl))) (Ad 1))))))
set_option maxHeartbeats 4000000 in
theorem ZG{f:Addr}{fd:FuncData}(F:Fun K "_law_reach" "_law_reach" Iw f fd)(B:Blt mg)(c_law_draw:Kc P w K mg base "_law_draw" 2 Av):DY P w K mg base CX0 3 f fd ["well"] (spM K Et 1) :=
 fnM F Z6 fun cdv A outer s H E hr =>
  (Ay (CQ (Bp BZ BX (Em (Ae (Ds (Ae Aj (Ae Aj Ai)) (Am (Am BW))) (Ae (Ds (Ae (OJ Lq KJ Aj) (Ae Aj Ai)) (Am (Am BW))) (Ae (Ds (Ae Aj (Ae Aj Ai)) (Am (Am BW))) (Ae (Ds (Ae (OJ Lq KJ Aj) (Ae Aj Ai)) (Am (Am BW))) (Ae (Ds (Ae (OJ Lq KJ (Bt PJ Ms Aj Aj)) (Ae (Bt JZ JV Aj (Bt PJ Ms Aj Aj)) Ai)) (Am (Am BW))) Ai))))) (Am (Am (Am (Am (Am BW)))))) (FW c_law_draw hr (by omega) rfl (Ae (Ad 0) (Ae Aj Ai))) (fun _ _=>rfl))))
set_option maxHeartbeats 4000000 in
theorem W2{f:Addr}{fd:FuncData}(F:Fun K "_law_stretch" "_law_stretch" Hq f fd)(B:Blt mg)(c_law_draw:Kc P w K mg base "_law_draw" 2 Av):DY P w K mg base CX0 3 f fd ["well","reach"] (spM K Fw 2) :=
 fnM F Jk fun cdv A outer s H E hr =>
  (Aq (Cv (i:=2) Jk.nd (Bt Dm Dl (Bp BZ BX (Ad 1) Aj (fun _ _=>rfl)) (FW c_law_draw hr (by omega) rfl (Ae (Ad 0) (Ae (Bp BZ BX (Ad 1) Aj (fun _ _=>rfl)) Ai)))))
   (Aq (Cv (i:=3) Jk.nd (Bt Dm Dl (Bp BZ BX (Ad 1) Aj (fun _ _=>rfl)) (FW c_law_draw hr (by omega) rfl (Ae (Ad 0) (Ae (Bp BZ BX (Ad 1) Aj (fun _ _=>rfl)) Ai)))))
   (Aq (GC (Ef (Ju hr) Js (Ad 2) (Ad 3) (Df _))
   (Ay (Cv (i:=3) Jk.nd (Bt Dm Dl (Ad 2) Aj)))
   El)
   (Ay (CQ (Ds (Ae (Cd (jB rfl) jz rfl (B.is "min") xG (Ae (Ad 2) (Ae (Ad 3) Ai))) (Ae (Cd (jD rfl) kE rfl (B.is "max") xH (Ae (Ad 2) (Ae (Ad 3) Ai))) Ai)) (Am (Am BW))))))))
set_option maxHeartbeats 4000000 in
theorem dH{f:Addr}{fd:FuncData}(F:Fun K "_law_box" "_law_box" JH f fd)(B:Blt mg)(c_law_stretch:Kc P w K mg base "_law_stretch" 3 Fw)(c_law_draw:Kc P w K mg base "_law_draw" 2 Av):DY P w K mg base CX0 4 f fd ["well","ways","reach","boxes"] (spM K GK 4) :=
 fnM F Hv fun cdv A outer s H E hr =>
  (Aq (Cv (i:=4) Hv.nd (RD XC gO rfl (B.is "tuple") QH (Ae (Hf rfl (Fe.of (sc:=Ak JH) (N:=["well","ways","reach","boxes","found","kind","here","at","low","high","there"]) (N2:=["way","well","reach"]) (k:=1) (caps:=[0,2]) (by decide +kernel)) rfl (RB rfl (B.is "range") (Ae (Ad 1) Ai)) ⟨fun _ _ _ _ _=>⟨(Bh (i:=0) (show U2w (["way","well","reach"]:List Str) by decide +kernel)),IV,(FW c_law_stretch hr (by omega) rfl (Ae (Ad 1) (Ae (Ad 2) Ai)))⟩⟩) Ai)))
   (Aq (Cv (i:=5) Hv.nd (FW c_law_draw hr (by omega) rfl (Ae (Ad 0) (Ae Aj Ai))))
   (Aq (GC (Ma (OD (Ef (Ju hr) Js (Ad 3) (Em Ai BW) (Df _)) (PL (Ef Pr Nf (Ad 5) Aj (Df _)))))
   (Ay (CQ (Ad 4)))
   El)
   (Aq (Cv (i:=6) Hv.nd (Bp BZ BX (Ad 3) (FW c_law_draw hr (by omega) rfl (Ae (Ad 0) (Ae (Cd EY HD rfl (B.is "len") IK (Ae (Ad 3) Ai)) Ai))) (fun _ _=>rfl)))
   (Aq (Cv (i:=7) Hv.nd (FW c_law_draw hr (by omega) rfl (Ae (Ad 0) (Ae (Ad 1) Ai))))
   (Aq (fO (Bp BZ BX (Ad 6) (Ad 7) (fun _ _=>rfl)) (Gq rfl (CJ (Bh (i:=8) Hv.nd) (CJ (Bh (i:=9) Hv.nd) Fy))))
   (Aq (Cv (i:=10) Hv.nd (Em (Ae (Bp BZ BX (Ad 6) (Ad 7) (fun _ _=>rfl)) (Ae (Bp BZ BX (Ad 4) (Ad 7) (fun _ _=>rfl)) (Ae (Ds (Ae (Ad 9) (Ae (Bt Dm Dl (Bt Dm Dl (Ad 9) Aj) (FW c_law_draw hr (by omega) rfl (Ae (Ad 0) (Ae Aj Ai)))) Ai)) (Am (Am BW))) (Ae (Ds (Ae (Ad 8) (Ae (Bt Dm Dl (Bt Dm Dl (Ad 8) Aj) (FW c_law_draw hr (by omega) rfl (Ae (Ad 0) (Ae (Bt Jt Im (Ad 9) (Ad 8)) Ai)))) Ai)) (Am (Am BW))) Ai)))) (Am (Am (Am (Am BW))))))
   (Aq (GC (Ef Pr Nf (Bp BZ BX (Bp BZ BX (Ad 10) (Ad 5) (fun _ _=>rfl)) Aj (fun _ _=>rfl)) (Bt PJ Ms Aj Aj) (Df _))
   (Ay (CQ (Ad 4)))
   El)
   (Ay (CQ (Bt Dm Dl (Bt Dm Dl (KH NT NZ (Ad 6) Ld (Lb (Ad 7))) (Ds (Ae (Bp BZ BX (Ad 10) (Ad 5) (fun _ _=>rfl)) Ai) (Am BW))) (KH NT NZ (Ad 6) (Lb (Bt Dm Dl (Ad 7) Aj)) Ld))))))))))))
set_option maxHeartbeats 4000000 in
theorem ZL{f:Addr}{fd:FuncData}(F:Fun K "_law_boxes" "_law_boxes" J4 f fd)(B:Blt mg)(c_law_draw:Kc P w K mg base "_law_draw" 2 Av)(c_law_box:Kc P w K mg base "_law_box" 4 GK):DY P w K mg base CX0 5 f fd ["well","ways","reach","most"] (spM K G4 4) :=
 fnM F Kp fun cdv A outer s H E hr =>
  (Aq (Cv (i:=4) Kp.nd (Bp BZ BX (Em (Ae (FW c_law_draw hr (by omega) rfl (Ae (Ad 0) (Ae Aj Ai))) (Ae (FW c_law_draw hr (by omega) rfl (Ae (Ad 0) (Ae (Bt Dm Dl (Ad 3) Aj) Ai))) (Ae (Ad 3) Ai))) (Am (Am (Am BW)))) (FW c_law_draw hr (by omega) rfl (Ae (Ad 0) (Ae Aj Ai))) (fun _ _=>rfl)))
   (Aq (Cv (i:=5) Kp.nd (Pg Ai BW))
   (Aq (Hz rfl (RB rfl (B.is "range") (Ae (Ad 4) Ai)) (Bh (i:=6) Kp.nd)
   (Ay (Hs (Ja U2e U2r U2s Hu Ht (Ad 5) (Ae (FW c_law_box hr (by omega) rfl (Ae (Ad 0) (Ae (Ad 1) (Ae (Ad 2) (Ae (Ad 5) Ai))))) Ai)))) U2t)
   (Ay (CQ (Ad 5))))))
set_option maxHeartbeats 4000000 in
theorem ZD{f:Addr}{fd:FuncData}(F:Fun K "_law_swept" "_law_swept" Iv f fd)(B:Blt mg)(Bz:mg "zip"=none):DY P w K mg base CX0 1 f fd ["boxes"] (spP K Dv 1) :=
 fnP F Eo fun cdv A outer s H E hr =>
  (Aq (Cv (i:=1) Eo.nd rA)
   (Aq (Hz rfl (Fd (Ad 0)) (Bh (i:=2) Eo.nd)
   (Aq (fO (Bp BZ BX (Ad 2) Aj (fun _ _=>rfl)) (Gq rfl (CJ (Bh (i:=3) Eo.nd) (CJ (Bh (i:=4) Eo.nd) Fy))))
   (Aq (bL (Uh hr) (Bt Dm Dl (Yh (Uh hr) (Ad 1) (Ad 3) Aj ⟨rfl,rfl,rfl,rfl⟩) Aj) (Ad 1) (Ad 3))
   (Ay (bL (Uh hr) (Bt Jt Im (Yh (Uh hr) (Ad 1) (Ad 4) Aj ⟨rfl,rfl,rfl,rfl⟩) Aj) (Ad 1) (Ad 4))))) U2t)
   (Aq (Cv (i:=5) Eo.nd (Pg Ai BW))
   (Aq (Cv (i:=6) Eo.nd Aj)
   (Aq (Cv (i:=7) Eo.nd (mY rfl (Ad 1) rfl (B.is "sorted")))
   (Aq (Hz rfl (Xq rfl Bz (Ae (Ad 7) (Ae (KH NT NZ (Ad 7) (Lb Aj) Ld) Ai))) (Gq rfl (CJ (Bh (i:=3) Eo.nd) (CJ (Bh (i:=4) Eo.nd) Fy)))
   (Aq (Cv (i:=6) Eo.nd (Bt Dm Dl (Ad 6) (rB (Uh hr) (Ad 1) (Ad 3) (fun _ _=>rfl))))
   (Ay (Hs (Ja U2e U2r U2s Hu Ht (Ad 5) (Ae (Ds (Ae (Ad 3) (Ae (Ad 4) (Ae (Ad 6) Ai))) (Am (Am (Am BW)))) Ai))))) U2t)
   (Ay (CQ (Ad 5)))))))))
set_option maxHeartbeats 4000000 in
theorem VN{f:Addr}{fd:FuncData}(F:Fun K "_law_at_least" "_law_at_least" HX f fd)(B:Blt mg)(c_law_swept:CG P w K mg base "_law_swept" 1 Dv):DY P w K mg base CX0 2 f fd ["boxes","k"] (spP K Ce 2) :=
 fnP F Gh fun cdv A outer s H E hr =>
  (Aq (Cv (i:=2) Gh.nd (Pg Ai BW))
   (Aq (Hz rfl (Fd (Bm c_law_swept hr (by omega) rfl (Ae (Ad 0) Ai))) (Gq rfl (CJ (Bh (i:=3) Gh.nd) (CJ (Bh (i:=4) Gh.nd) (CJ (Bh (i:=5) Gh.nd) Fy))))
   (Ay (GC (Ef cW Xj (Ad 5) (Ad 1) (Df _))
   (Aq (GC (Ma (Xp (Ef (Kg hr) Nb (Ad 2) (Em Ai BW) (Df _)) (Vl (Ef (Ju hr) Js (Bp BZ BX (Bp BZ BX (Ad 2) (OJ Lq KJ Aj) (fun _ _=>rfl)) Aj (fun _ _=>rfl)) (Ad 3) (Df _)))))
   (Ay (Cv (i:=3) Gh.nd (Bp BZ BX (Yg U2e PySem.F.slot_list_pop PySem.F.type_list_pop fK eY (Ad 2)) Aj (fun _ _=>rfl))))
   El)
   (Ay (Hs (Ja U2e U2r U2s Hu Ht (Ad 2) (Ae (Ds (Ae (Ad 3) (Ae (Ad 4) Ai)) (Am (Am BW))) Ai)))))
   El)) U2t)
   (Ay (CQ (Ad 2)))))
set_option maxHeartbeats 4000000 in
theorem ZJ{f:Addr}{fd:FuncData}(F:Fun K "_law_often" "_law_often" Iz f fd)(B:Blt mg)(c_law_swept:CG P w K mg base "_law_swept" 1 Dv):DY P w K mg base CX0 2 f fd ["boxes"] (spP K G3 1) :=
 fnP F JQ fun cdv A outer s H E hr =>
  (Aq (Cv (i:=1) JQ.nd (bM (Em (Ae Aj Ai) (Am BW)) (Cd EY HD rfl (B.is "len") IK (Ae (Ad 0) Ai))))
   (Aq (Hz rfl (Fd (Bm c_law_swept hr (by omega) rfl (Ae (Ad 0) Ai))) (Gq rfl (CJ (Bh (i:=2) JQ.nd) (CJ (Bh (i:=3) JQ.nd) (CJ (Bh (i:=4) JQ.nd) Fy))))
   (Ay (GC (Ef Pr Nf (Ad 4) Aj (Df _))
   (Ay (Np (Bt Jt Im (Bt Dm Dl (Bp BZ BX (Ad 1) (Bt Jt Im (Ad 4) Aj) (fun _ _=>rfl)) (Ad 3)) (Ad 2)) (Ad 1) (Bt Jt Im (Ad 4) Aj)))
   El)) U2t)
   (Aq (mX 100000 U2t (Ma (Xp (Ef (Kg hr) Nb (Ad 1) (Em Ai BW) (Df _)) (Vl (Ef (Ju hr) Js (Bp BZ BX (Ad 1) (OJ Lq KJ Aj) (fun _ _=>rfl)) Aj (Df _))))) (Ay (Hs (Yg U2e PySem.F.slot_list_pop PySem.F.type_list_pop fK eY (Ad 1)))))
   (Ay (CQ (Ad 1))))))
set_option maxHeartbeats 4000000 in
theorem ZF{f:Addr}{fd:FuncData}(F:Fun K "_law_right" "_law_right" Gz f fd)(B:Blt mg)(Bz:mg "zip"=none)(Bs:mg "sum"=none)(c_law_at_least:CG P w K mg base "_law_at_least" 2 Ce)(c_law_often:CG P w K mg base "_law_often" 2 G3)(c_lengths_often:CG P w K mg base "lengths_often" 8 Cj)(c_covered_length:CG P w K mg base "covered_length" 10 Es)(c_gaps_of:CG P w K mg base "gaps_of" 10 Gy)(c_pieces_of:CG P w K mg base "pieces_of" 9 Cq)(c_pieces_at_least:CG P w K mg base "pieces_at_least" 9 Cw):DY P w K mg base CX0 11 f fd ["boxes"] (spP K Gm 1) :=
 fnP F Fp fun cdv A outer s H E hr =>
  (Aq (Cv (i:=1) Fp.nd (Ds (Ae Aj (Ae (qy Za kI rfl (B.is "list") Vu (Ae (Ad 0) Ai)) Ai)) (Am (Am BW))))
   (Aq (Cv (i:=2) Fp.nd (Bm c_law_at_least hr (by omega) rfl (Ae (Ad 0) (Ae Aj Ai))))
   (Aq (Sg (i:=3) rfl Fp.nd (Fe.of (sc:=Ak Gz) (N:=["boxes","heap","pieces","gaps","due","turn","told","k"]) (N2:=["one","other"]) (k:=2) (caps:=[]) (by decide +kernel)) rfl (Xq rfl Bz (Ae (Ad 2) (Ae (KH NT NZ (Ad 2) (Lb Aj) Ld) Ai))) ⟨fun _ _ _ _ _=>⟨(Gq rfl (CJ (Bh (i:=0) (show U2w (["one","other"]:List Str) by decide +kernel)) (CJ (Bh (i:=1) (show U2w (["one","other"]:List Str) by decide +kernel)) Fy))),IV,(Ds (Ae (Bp BZ BX (Ad 0) Aj (fun _ _=>rfl)) (Ae (Bp BZ BX (Ad 1) Aj (fun _ _=>rfl)) Ai)) (Am (Am BW)))⟩⟩)
   (Aq (Cv (i:=4) Fp.nd (Em (Ae (Ad 2) (Ae (Ad 3) (Ae (Cd (Wm rfl) aZ rfl Bs fX (Ae (Hf rfl (Fe.of (sc:=Ak Gz) (N:=["boxes","heap","pieces","gaps","due","turn","told","k"]) (N2:=["low","high"]) (k:=2) (caps:=[]) (by decide +kernel)) rfl (Fd (Ad 2)) ⟨fun _ _ _ _ _=>⟨(Gq rfl (CJ (Bh (i:=0) (show U2w (["low","high"]:List Str) by decide +kernel)) (CJ (Bh (i:=1) (show U2w (["low","high"]:List Str) by decide +kernel)) Fy))),IV,(Bt Jt Im (Ad 1) (Ad 0))⟩⟩) Ai)) (Ae (Bm c_law_often hr (by omega) rfl (Ae (Ad 0) Ai)) Ai)))) (Am (Am (Am (Am BW))))))
   (Aq (Hz rfl (RB rfl (B.is "range") (Ae Aj Ai)) (Bh (i:=5) Fp.nd)
   (Aq (Cv (i:=6) Fp.nd (Em (Ae (Nq c_pieces_of hr (by omega) rfl (Ae (Ad 1) Ai)) (Ae (Nq c_gaps_of hr (by omega) rfl (Ae (Ad 1) Ai)) (Ae (Bm c_covered_length hr (by omega) rfl (Ae (Ad 1) Ai)) (Ae (Nq c_lengths_often hr (by omega) rfl (Ae (Ad 1) Ai)) Ai)))) (Am (Am (Am (Am BW))))))
   (Aq (GC (Ef (Kg hr) aj (Cd (Mr hr) Q0 rfl (B.is "repr") Rw (Ae (Ad 6) Ai)) (Cd (Mr hr) Q0 rfl (B.is "repr") Rw (Ae (Ad 4) Ai)) (Df _))
   (Ay (CQ Oa))
   El)
   (Aq (Hs (Ja U2e U2r U2s Hu Ht (Bp BZ BX (Ad 6) Aj (fun _ _=>rfl)) (Ae Aj Ai)))
   (Aq (Hs (Ja U2e U2r U2s Hu Ht (Bp BZ BX (Ad 6) Aj (fun _ _=>rfl)) (Ae Aj Ai)))
   (Ay (Hs (Ja U2e U2r U2s Hu Ht (Bp BZ BX (Ad 6) Aj (fun _ _=>rfl)) (Ae Aj Ai)))))))) U2t)
   (Aq (Hz rfl (Fd (Bt Dm Dl (RZ rfl (Ae Aj (Ae (Bt Dm Dl (Cd EY HD rfl (B.is "len") IK (Ae (Ad 0) Ai)) Aj) Ai)) rfl (B.is "list") rfl (B.is "range")) (Em (Ae (Bt PJ Ms Aj Aj) Ai) (Am BW)))) (Bh (i:=7) Fp.nd)
   (Aq (Cv (i:=6) Fp.nd (Nq c_pieces_at_least hr (by omega) rfl (Ae (Ad 1) (Ae (Ad 7) Ai))))
   (Aq (GC (Ef (Kg hr) aj (Cd (Mr hr) Q0 rfl (B.is "repr") Rw (Ae (Ad 6) Ai)) (Cd (Mr hr) Q0 rfl (B.is "repr") Rw (Ae (Bm c_law_at_least hr (by omega) rfl (Ae (Ad 0) (Ae (Ad 7) Ai))) Ai)) (Df _))
   (Ay (CQ Oa))
   El)
   (Aq (Hs (Ja U2e U2r U2s Hu Ht (Ad 6) (Ae wN Ai)))
   (Ay (GC (Ef (Kg hr) Nb (Bm c_pieces_at_least hr (by omega) rfl (Ae (Ad 1) (Ae (Ad 7) Ai))) (Bm c_law_at_least hr (by omega) rfl (Ae (Ad 0) (Ae (Ad 7) Ai))) (Df _))
   (Ay (CQ Oa))
   El))))) U2t)
   (Ay (CQ (PN (Ju hr) Js (Ad 1) (Ds (Ae Aj (Ae (Ad 0) Ai)) (Am (Am BW))) (Df _))))))))))
set_option maxHeartbeats 4000000 in
theorem vo{f:Addr}{fd:FuncData}(F:Fun K "law" "law" MN f fd)(B:Blt mg)(c_law_well:CG P w K mg base "_law_well" 1 GZ)(c_law_right:CG P w K mg base "_law_right" 11 Gm)(c_law_boxes:Kc P w K mg base "_law_boxes" 5 G4)(c_law_reach:Kc P w K mg base "_law_reach" 3 Et)(c_lengths_often:CG P w K mg base "lengths_often" 8 Cj):DY P w K mg base CX0 12 f fd ["script"] (spP K Vg 1) :=
 fnP F Xk fun cdv A outer s H E hr =>
  (Aq (Hz rfl (Fd (Bt Dm Dl (Em (Ae Aj Ai) (Am BW)) (KH NT NZ (Ad 0) Ld (Lb Aj)))) (Bh (i:=1) Xk.nd)
   (Aq (Cv (i:=2) Xk.nd (Nq c_law_well hr (by omega) rfl (Ae (Ad 1) Ai)))
   (Ay (GC (Kl (Kh (Bm c_law_right hr (by omega) rfl (Ae (FW c_law_boxes hr (by omega) rfl (Ae (Ad 2) (Ae Aj (Ae (FW c_law_reach hr (by omega) rfl (Ae (Ad 2) Ai)) (Ae Aj Ai))))) Ai))))
   (Ay (CQ Oa))
   El))) U2t)
   (Ay (CQ (Qt (PN (Ju hr) Js (Bm c_lengths_often hr (by omega) rfl (Ae (Ds (Ae Aj (Ae (Em (Ae (Ds (Ae (Ds (Ae Aj (Ae Aj Ai)) (Am (Am BW))) Ai) (Am BW)) (Ae (Ds (Ae (Ds (Ae Aj (Ae Aj Ai)) (Am (Am BW))) Ai) (Am BW)) Ai)) (Am (Am BW))) Ai)) (Am (Am BW))) Ai)) (Em (Ae Aj (Ae Aj Ai)) (Am (Am BW))) (Df _)) (Uv (PN (Ju hr) Js (Bm c_lengths_often hr (by omega) rfl (Ae (Ds (Ae Aj (Ae (Em Ai BW) Ai)) (Am (Am BW))) Ai)) (Em Ai BW) (Df _)))))))
end
end W08
end
section
namespace W08
open PySem L2 VS
theorem O2(i:Int):Dz [.int i]=some (.bl true):=by
 simp[Dz,V8,Ci,BJ,Ea,CV,Ao,FN,Rv,sI,DW,den,-U0e,-U0f]
theorem T9{n:Int}(h:n=1∨n=2∨n=3):FP [.int n]=some (.bl true):=by
 have e:(Spec.lookup (.int n) Bc.D3).isSome=true:=by rw[Bc.zG];exact decide_eq_true h
 simp[FP,VD,Ci,BJ,fV,CV,Ao,Rv,Gx,DW,den,CZ,age,Bk,Ba,Ax,-U0e,-U0f,O2,Xa,e]
theorem X7(p:St2):HS [Ac p]=some (.bl (decide (p.1<p.2))):=by
 have h:Ca [] (Ac p)=some (pS p):=gP [] p
 simp only[Ac] at h ⊢
 simp[HS,Ra,HF,Ci,JB,JX,BJ,Ea,BL,CV,Ao,FN,Rv,Dk,Xh,Rk,Gx,oI,Hi,oLt,oEq,oIx,Ed,VS.listOf,Cu,DW,den,CZ,age,Bk,Ba,Ax,-U0e,-U0f,O2,h,pS]
theorem mz(n:Nat)(b:List St2)(hb:∀p∈b,p.1<p.2)(hl:b.length<=1000):RG [some (.int n),some (Af b)] []=some (b.map (fun _=>D.bl true),[]):=by
 unfold RG Ej
 have e:Dt (Ab 1) [some (.int n),some (Af b)] []=some ((b.map Ac,[]),[]):=by simp[BJ,VS.listOf,Cu,VS.idOf,G7,-U0e,-U0f,Af]
 rw[e]
 simp only[U0b]
 rw[Yt (by simp) (fun _=>.bl true) _ (by simp;omega)]
 .simp[Function.comp_def]
 .intro d hd
  obtain⟨p,hp,rfl⟩:=U1v.mp hd
  refine⟨_,rfl,?_⟩
  have h1:=X7 p
  rw[decide_eq_true (hb p hp)] at h1
  simp[BJ,CV,Ao,J8,Gx,CZ,Bk,Ax,U0q,-U0e,-U0f,h1]
theorem VH{α:Type}(l:List α):NQ.boolsOf (l.map fun _=>D.bl true)=some (l.map fun _=>true):=by
 have:=aJ (l.map fun _=>true)
 rw[U0e] at this
 exact this
theorem iV{n:Nat}{b:List St2}(hn:n=1∨n=2∨n=3)(hb:∀p∈b,p.1<p.2)(hl:b.length=n):Jd [.int n,Af b]=some (.bl true):=by
 have hw:FP [.int n]=some (.bl true):=T9 (by omega)
 have hc:=mz n b hb (by omega)
 have h:Ca [] (Af b)=some (pB b):=gQ [] b
 have hlen:Ed [] [Af b]=some (.int n):=by simp[Ed,Af,Cu,hl]
 simp[Jd,Yo,Bj,sIf,Cy,Ey,VS.tOr,VS.Jl,Bb,Aw,eCB,Aa,Ag,Ab,eC,eOp,Bq,Eu,den,CZ,age,Bk,Ba,Ax,hw,h,pB,hlen,oEq,hc,NQ,VS.listOf,VH]
theorem qd{n:Nat}(h:n=1∨n=2∨n=3):Ur Bc.D3 [] (.int n)=some (.int ([0,20,10,6].getD n 0:Nat)):=by
 rcases h with h|h|h<;>subst h<;>rfl
theorem iU{n:Nat}{m:Bool}{bs:List (List St2)}(g:Good n bs):QW [some (Al m n bs),some (.int n),some (.lst m (bs.map Af))] []=some (bs.map (fun _=>D.bl true),[]):=by
 have few:=g.few
 unfold QW Ej
 have e:Dt (Ab 2) [some (Al m n bs),some (.int n),some (.lst m (bs.map Af))] []=some ((bs.map Af,[]),[]):=by simp[BJ,VS.listOf,Cu,VS.idOf,G7,-U0e,-U0f]
 rw[e]
 simp only[U0b]
 rw[Yt (by simp) (fun _=>.bl true) _ (by simp;omega)]
 .simp[Function.comp_def]
 .intro d hd
  obtain⟨b,hb,rfl⟩:=U1v.mp hd
  refine⟨_,rfl,?_⟩
  have h1:=iV g.ways (fun p hp=>((g.box b hb).2 p hp).1) (g.box b hb).1
  simp[BJ,CV,Ao,J8,Gx,den,CZ,age,Bk,Ba,Ax,U0q,-U0e,-U0f,h1]
theorem dw{n:Nat}{m:Bool}{bs:List (List St2)}(g:Good n bs):Io [Al m n bs]=some (.bl true):=by
 have hw:FP [.int n]=some (.bl true):=T9 (by have:=g.ways;omega)
 have hc:=iU (m:=m) g
 have h:=Qz [] m n bs
 have h2:=QL [] m bs
 have hm:=qd g.ways
 have hle:¬(([0,20,10,6].getD n 0:Nat):Int)<(bs.length:Int):=by have:=g.most;omega
 unfold Al at h hc ⊢
 simp only[U0r] at hm hle
 simp[Io,Wg,Bj,sIf,Cy,Ey,Bo,VS.tOr,VS.Jl,Bb,Aw,eCB,Aa,Ag,Ab,eC,eOp,eUn,Bq,Eu,den,CZ,age,Bk,Ba,Ax,hw,h,h2,hc,oEq,oIx,oGt,oI,Hi,Ed,VS.Cu,VS.listOf,NQ,VH,hm,hle]
theorem ZP{n:Nat}{m:Bool}{bs:List (List St2)}(g:Good n bs):Gk [Al m n bs]=some .non:=by
 have h:=dw (m:=false) g
 simp[Gk,Ss,JB,JX,gW,BJ,CV,Ao,Dk,Rk,Gx,DW,CZ,Bk,Ax,-U0e,-U0f,h]
end W08
end
section
namespace W08
open PySem L2 VS
theorem Cr{sem:DQ}{a:Bu}{env:VS.Env}{S S':Store}{ds es:List D}{r:D}(h:a env S=some (ds,S'))(hp:Ax ds=true)(ha:Bk ds=es)(hr:sem es=some r):Aw sem a env S=some (r,S'):=by
 rw[Gx,h]
 simp only[U0b,Cp 0 S' hp,ha,hr,hp,U73,if_true]
def Li(b:List St2):Int:=b.foldl (fun z p=>z*(p.2-p.1)) 1
def Gf(bs:List (List St2))(w:Nat):List Int:=bs.map fun b=>(b.getD w (0,0)).1
def Fo(bs:List (List St2))(w:Nat):List Int:=bs.map fun b=>(b.getD w (0,0)).2
theorem col{bs:List (List St2)}{w:Nat}(hw:∀b∈bs,w<b.length)(hl:bs.length<=1000)(S:Store)(e0:VS.Env)(h0:∀d:D,(e0.set 0 (some d))[0]?=some (some d)/\(e0.set 0 (some d))[1]?=some (some (.int w))) :
  GD [] e0 (Pat.sem (.nm 0)) HY (eOp oIx (eOp oIx (Ab 0) (Ab 1)) (eC (.int 0))) (bs.map Af) [] S=some ((Gf bs w).map .int,S) /\
  GD [] e0 (Pat.sem (.nm 0)) HY (eOp oIx (eOp oIx (Ab 0) (Ab 1)) (eC (.int 1))) (bs.map Af) [] S=some ((Fo bs w).map .int,S):=by
 have key:∀b∈bs,atI (b.map Ac) (w:Int)=some (Ac (b.getD w (0,0))):=fun b hb=>by
  have h:=hw b hb
  refine Le ?_
  rw[U0z,U0n h]
  simp[h]
 constructor
 .rw[KQ (by simp) Af (fun b=>.int (b.getD w (0,0)).1) bs (by omega)]
  .rw[Gf,U0e];rfl
  .intro b hb
   refine⟨_,Dy _ _ _,?_⟩
   have ha:=key b hb
   simp only[Ac] at ha
   simp[BJ,Ea,BL,oIx,VS.listOf,Cu,-U0e,-U0f,h0,Af,ha]
 .rw[KQ (by simp) Af (fun b=>.int (b.getD w (0,0)).2) bs (by omega)]
  .rw[Fo,U0e];rfl
  .intro b hb
   refine⟨_,Dy _ _ _,?_⟩
   have ha:=key b hb
   simp only[Ac] at ha
   simp[BJ,Ea,BL,oIx,VS.listOf,Cu,-U0e,-U0f,h0,Af,ha]
theorem V0:∀(b:List St2)(z:Int),b.foldl (fun z p=>z*(p.2-p.1)) z=z*G6 b
 |[],z=>by simp[G6]
 |p::b,z=>by rw[U16,V0 b,G6,Int.mul_assoc]
theorem pO(b:List St2):Li b=G6 b:=by rw[Li,V0,Int.one_mul]
theorem Yp{cs:List (List St2)}{w:Nat}(hl:cs.length<=20):(SetP.once (Gf cs w++Fo cs w)).length<64/\(Gf cs w++Fo cs w).length<1000:=by
 have h1:=(SetP.Nk (Gf cs w++Fo cs w)).2.1
 have h2:(Gf cs w++Fo cs w).length=cs.length+cs.length:=by simp[Gf,Fo]
 omega
theorem iw(a b:List Int):intsOf (a.map D.int++b.map D.int)=some (a++b):=by rw[←U1p];exact Mj _
theorem sH{m:Bool}{cs:List (List St2)}{w:Nat}(hw:∀b∈cs,w<b.length)(hl:cs.length<=20):HW [.lst m (cs.map Af),.int w]=some (.lst true ((G9 (Gf cs w++Fo cs w)).map .int)):=by
 obtain⟨c1,c2⟩:=col hw (by omega) [] [none,some (.int w)] fun d=>⟨rfl,rfl⟩
 have e:Dt (Ab 0) [some (.lst m (cs.map Af)),some (.int w)] []=some ((cs.map Af,[]),[]):=by simp[BJ,VS.listOf,Cu,VS.idOf,G7,-U0e,-U0f]
 have e1:M8 [some (.lst m (cs.map Af)),some (.int w)] []=some ((Gf cs w).map .int,[]):=by
  unfold M8 Ej
  rw[e]
  exact c1
 have e2:M7 [some (.lst m (cs.map Af)),some (.int w)] []=some ((Fo cs w).map .int,[]):=by
  unfold M7 Ej
  rw[e]
  exact c2
 obtain⟨h1,h2⟩:=Yp (w:=w) hl
 have h3:(Gf cs w).length+(Fo cs w).length<=1000000:=by simp at h2;omega
 have h4:(Gf cs w).length+(Fo cs w).length<1000:=by simpa using h2
 simp[HW,Rb,Ci,BL,Dd,Zz,Bx,VS.listOf,DW,den,-U0e,-U0f,e1,e2,iw,h1,h3,h4]
theorem Y5:∀a b:List Int,Dw (a.map D.int) (b.map D.int)=(a.zip b).map Ac
 |[],_=>by simp[Dw]
 |_::_,[]=>by simp[Dw]
 |p::a,q::b=>by simp[Dw,Y5 a b,Ac]
theorem W9(E:List Int):Dw (E.map D.int) (E.map D.int).tail=(steps E).map Ac:=by
 rw[←U64,Y5];rfl
theorem Qw(E:List Int):(steps E).length<=E.length:=by simp[steps]
theorem ju{m:Bool}{cs:List (List St2)}{w:Nat}(hw:∀b∈cs,w<b.length)(hl:cs.length<=20)(hne:cs≠[]):Fv [.lst m (cs.map Af),.int w]=some (.lst true ((steps (G9 (Gf cs w++Fo cs w))).map Ac)):=by
 have h0:=sH (m:=false) hw hl
 have hl1:=Qx (Gf cs w++Fo cs w)
 obtain⟨_,h2⟩:=Yp (w:=w) hl
 have pos:1<=(G9 (Gf cs w++Fo cs w)).length:=by
  cases cs with
  |nil=>exact absurd rfl hne
  |cons b r =>
   have:(b.getD w (0,0)).1∈G9 (Gf (b::r) w++Fo (b::r) w):=Od.mpr (by simp[Gf])
   exact List.length_pos_of_mem this
 generalize G9 (Gf cs w++Fo cs w)=E at *
 have c:=U9 (xs:=E.map D.int) (a:=1) (by decide) (by simp;omega)
 have z:=W9 E
 have hz:(steps E).length<=1000000:=by have:=Qw E;omega
 have c':cut (E.map D.int) (some 1) none=(E.map D.int).drop 1:=c
 have hd:∀(k:Nat)(S:Store),CZ k S ((steps E).map Ac)=some ((steps E).map Ac):=fun k S=>Cp k S (Br (Dp _ fun p _=>Di p))
 simp[Fv,Qi,HF,Cg,Ci,BJ,Ea,CV,Ao,lY,lX,Xv,Gx,aA,oSl,VS.listOf,Cu,DW,den,CZ,age,Bk,Ba,Ax,U0q,-U0e,-U0f,h0,c',z,hz,hd]
def CT(m:Bool)(ns:List Nat):D:=.lst m (ns.map fun(i:Nat)=>D.int i)
def encC(c:List St2×List Nat):D:=.tup [Af c.1,CT false c.2]
theorem Og(m:Bool)(ns:List Nat):Ba (CT m ns)=true:=by
 have:=Ik (ns.map fun(i:Nat)=>(i:Int))
 rw[U0e] at this
 rw[CT,Ba];exact this
theorem UW(m:Bool)(ns:List Nat):age (CT m ns)=CT false ns:=by
 have:=jG (ns.map fun(i:Nat)=>(i:Int))
 rw[U0e] at this
 rw[CT,age]
 exact congrArg (D.lst false) this
theorem gb(c:List St2×List Nat):Ba (encC c)=true:=by
 rw[encC,Ba,Ax,Ax,Ax,WQ,Og];rfl
theorem nu(c:List St2×List Nat):age (encC c)=encC c:=by
 rw[encC,age,Bk,Bk,Bk,QC (Ig c.1),UW]
theorem Km:∀cs:List (List St2×List Nat),Ax (cs.map encC)=true
 |[]=>rfl
 |c::r=>by rw[U0j,Ax,gb,Km r];rfl
theorem fZ{n:Nat}{bs:List (List St2)}(hb:∀b∈bs,b.length=n){i w:Nat}(hi:i<bs.length)(hw:w<n):atI (bs.map Af) (i:Int)=some (Af (bs.getD i []))/\atI ((bs.getD i []).map Ac) (w:Int)=some (Ac (at1 bs i w)):=by
 have h1:bs[i]?=some bs[i]:=U0n hi
 have h2:bs.getD i []=bs[i]:=by rw[U0r,h1];rfl
 have h3:w<bs[i].length:=by rw[hb _ (U3k hi)];exact hw
 refine⟨Le (by rw[U0z,h1,h2];rfl),Le ?_⟩
 rw[at1,h2,U0z,U0n h3,U0r,U0n h3]
 rfl
theorem rT(rec:DQ){n:Nat}{m m':Bool}{bs:List (List St2)}(hb:∀b∈bs,b.length=n)(hn:0<n){ns:List Nat}(hi:∀i∈ns,i<bs.length)(hl:ns.length<=20)(r:VS.Env)(S:Store) :
  K3 rec (some (.lst m (bs.map Af))::some (CT m' ns)::r) S=some ((ns.map fun i=>bs.getD i []).map Af,S):=by
 unfold K3 Ej
 have e:Dt (Ab 1) (some (.lst m (bs.map Af))::some (CT m' ns)::r) S=some ((ns.map fun(i:Nat)=>D.int i,[]),S):=by simp[BJ,VS.listOf,Cu,VS.idOf,G7,-U0e,-U0f,CT]
 rw[e]
 simp only[U0b]
 rw[KQ (by simp) (fun(i:Nat)=>D.int i) (fun i=>Af (bs.getD i [])) ns (by omega)]
 .rw[U0e];rfl
 .intro i hi'
  obtain⟨h1,_⟩:=fZ hb (hi i hi') hn
  exact⟨_,Dy _ _ _,by simp[BJ,BL,J8,oIx,VS.listOf,Cu,U0q,-U0e,-U0f,h1]⟩
theorem rR(rec:DQ){n:Nat}{m m':Bool}{bs:List (List St2)}(hb:∀b∈bs,b.length=n){ns:List Nat}(hi:∀i∈ns,i<bs.length)(hl:ns.length<=20){w:Nat}(hw:w<n)(x:Int)(z3 z4:Option D)(r:VS.Env)(S:Store) :
  K1 rec (some (.lst m (bs.map Af))::some (CT m' ns)::some (.int w)::z3::z4::some (.int x)::r) S=some ((Ez bs w x ns).map (fun(i:Nat)=>D.int i),S):=by
 unfold K1 Ej
 have e:Dt (Ab 1) (some (.lst m (bs.map Af))::some (CT m' ns)::some (.int w)::z3::z4::some (.int x)::r) S=some ((ns.map fun(i:Nat)=>D.int i,[]),S):=by simp[BJ,VS.listOf,Cu,VS.idOf,G7,-U0e,-U0f,CT]
 rw[e]
 simp only[U0b]
 rw[N6 (by simp) (fun(i:Nat)=>D.int i) (fun i=>inS (at1 bs i w) x) (fun i=>.int i) _ _ (by simp;omega)]
 .rfl
 .intro i hi'
  obtain⟨h1,h2⟩:=fZ hb (hi i hi') hw
  refine⟨_,Dy _ _ _,?_,fun _=>by simp[BJ,J8,U0q,-U0e,-U0f]⟩
  simp only[Ac] at h2
  generalize bs.getD i []=B at *
  generalize ((w:Nat):Int)=w' at *
  generalize ((i:Nat):Int)=i' at *
  by_cases g:(at1 bs i w).1<=x<;>simp[BJ,Ea,BL,j4,Dk,J8,oI,Hi,oLt,oLe,oIx,VS.listOf,Cu,U0q,-U0e,-U0f,h1,h2,Af,inS,g]
theorem GJ{bs:List (List St2)}:∀(k w:Nat)(ns:List Nat),ns.length<=20->(Bf bs k w ns).length<=40^k
 |0,w,ns,_=>by rw[Bf];split<;>simp
 |k+1,w,ns,hl=>by
  rw[Bf]
  split
  .simp
  .have h1:(steps (DP bs w ns)).length<=40:=by
    have:=Qw (DP bs w ns)
    have h2:=Qx (ns.map (fun i=>(at1 bs i w).1)++ns.map (fun i=>(at1 bs i w).2))
    rw[U0s,U0i,U0i] at h2
    unfold DP at this ⊢
    omega
   have h2:∀l:List St2,(l.flatMap fun p=>(Bf bs k (w+1) (Ez bs w p.1 ns)).map fun c=>(p::c.1,c.2)).length<=l.length*40^k:=fun l=>by
    induction l with
    |nil=>simp
    |cons p l ih =>
     rw[U7b,U0s,U0i,U0g,Nat.add_mul,Nat.one_mul]
     have:=GJ (bs:=bs) k (w+1) (Ez bs w p.1 ns) (U1c (U31 _ _) hl)
     omega
   have h3:=h2 (steps (DP bs w ns))
   have h4:=U5n (40^k) h1
   rw[Nat.pow_succ,U7d]
   omega
end W08
end
section
namespace W08
open PySem L2 VS
theorem aH(b:List St2)(hb:∀p∈b,p.1<p.2/\-1000000000<=p.1/\p.2<=1000000000):Hg [Af b]=some (.int (Li b)):=by
 have e:Dt (Ab 0) [some (Af b),some (.int 1),none,none] []=some ((b.map Ac,[]),[]):=by simp[BJ,VS.listOf,Cu,VS.idOf,G7,-U0e,-U0f,Af]
 obtain⟨env',S',e2,hS,z2,z3,he⟩:=G8 (w:=[]) (g:=Pat.sem (.tp [(.nm 2),(.nm 3)])) (b:=Oz) (ds:=b.map Ac) (env:=[some (Af b),some (.int 1),none,none]) (S:=[])
  (fun i env S=>S=[]/\∃z2 z3,env=[some (Af b),some (.int (Li (b.take i))),z2,z3]) ⟨rfl,none,none,by rw[List.take_zero];rfl⟩ (fun i env S _=>by simp) (fun i d env S hd ⟨hS,z2,z3,he⟩=>by
   rw[U0z] at hd
   obtain⟨p,hp,rfl⟩:=U1y.mp hd
   subst hS he
   have hm:-18446744073709551616<p.2-p.1/\p.2-p.1<18446744073709551616:=by have:=hb p (U1h hp);omega
   refine⟨[some (Af b),some (.int (Li (b.take i))),some (.int p.1),some (.int p.2)],by simp[Dy,GR,En,Ec,-U0e,-U0f,Ac],[some (Af b),some (.int (Li (b.take i)*(p.2-p.1))),some (.int p.1),some (.int p.2)],[],by simp[Oz,Cg,BJ,BL,oI,Hi,NP,Gj,Hy,VS.listOf,-U0e,-U0f,hm],rfl,some (.int p.1),some (.int p.2),?_⟩
   rw[U3q,hp,Li,Li,U32,U36]
   rfl)
 subst hS he
 have hlen:(b.map Ac).length=b.length:=by simp
 rw[hlen,U29] at e2
 have s1:(Bo 1 (eC (.int 1))) [some (Af b),none,none,none] []=some (.nx,[some (Af b),some (.int 1),none,none],[]):=by simp[Cg,Ea,-U0e,-U0f]
 have l1:Ox [some (Af b),some (.int 1),none,none] []=some (.nx,[some (Af b),some (.int (Li b)),z2,z3],[]):=by
  unfold Ox
  rw[HJ,e]
  exact e2
 unfold Hg
 rw[DW]
 simp only[U0g,U1a,U0j,U1j,U1w,U1x,U0q,U09,U15,U1n,if_true]
 unfold VB
 rw[BR s1,BR l1]
 simp[Ci,BJ,den,-U0e,-U0f]
end W08
end
section
namespace W08
open PySem L2 VS
theorem rW(rec:DQ)(e0 e1 e2 e3 z7:Option D)(p:St2)(c:List St2×List Nat)(acc:List D)(hl:acc.length<1000000)(hc:c.1.length<=3) :
  K5 rec [e0,e1,e2,e3,some (.ref 0),some (.int p.1),some (.int p.2),z7,some (Af c.1),some (CT false c.2)] [some acc]=some (.nx,[e0,e1,e2,e3,some (.ref 0),some (.int p.1),some (.int p.2),z7,some (Af c.1),some (CT false c.2)],[some (acc++[encC (p::c.1,c.2)])]):=by
 have h1:1+c.1.length<=1000000:=by omega
 have h2:c.1.length+1<=1000000:=by omega
 have h3:c.1.length<=999999:=by omega
 simp[K5,KN,BJ,BL,CV,Ao,HN,Yq,Bx,VS.listOf,Ew,-U0e,-U0f,hl,h1,h2,h3,Af,encC,Ac]
theorem rQ(rec:DQ){n w:Nat}{bs:List (List St2)}{there:List Nat}{cs:List (List St2×List Nat)}(hrec:rec [.lst false (bs.map Af),CT false there,.int ((w:Int)+1),.int n]=some (.lst true (cs.map encC)))(hcs:∀c∈cs,c.1.length<=3)(NS:D)(p:St2)(z8 z9:Option D)(acc:List D)(hl:acc.length+cs.length<=999999) :
  ∃z8' z9',MF rec [some (.lst false (bs.map Af)),some NS,some (.int w),some (.int n),some (.ref 0),some (.int p.1),some (.int p.2),some (CT true there),z8,z9] [some acc] =
   some (.nx,[some (.lst false (bs.map Af)),some NS,some (.int w),some (.int n),some (.ref 0),some (.int p.1),some (.int p.2),some (CT true there),z8',z9'],[some (acc++(cs.map fun c=>(p::c.1,c.2)).map encC)]):=by
 have e:Dt (Aw rec (Aa (Ab 0) (Aa (Ab 7) (Aa (eOp Bx (Ab 2) (eC (.int 1))) (Aa (Ab 3) Ag))))) [some (.lst false (bs.map Af)),some NS,some (.int w),some (.int n),some (.ref 0),some (.int p.1),some (.int p.2),some (CT true there),z8,z9] [some acc]=some ((cs.map encC,[]),[some acc]):=by
  rw[G7,Cr (ds:=[.lst false (bs.map Af),CT true there,.int ((w:Int)+1),.int n]) (S':=[some acc]) (by simp[BJ,Ea,BL,CV,Ao,Bx,VS.listOf,-U0e,-U0f]) (by simp[Ax,Ba,Og]) (by simp[Bk,age,UW]) hrec]
  simp[Cu,VS.listOf,VS.idOf]
 unfold MF
 rw[HJ,e]
 obtain⟨env',S',e2,z8',z9',he,hS⟩:=G8 (w:=[]) (g:=Pat.sem (.tp [(.nm 8),(.nm 9)])) (b:=K5 rec) (ds:=cs.map encC) (env:=[some (.lst false (bs.map Af)),some NS,some (.int w),some (.int n),some (.ref 0),some (.int p.1),some (.int p.2),some (CT true there),z8,z9]) (S:=[some acc])
  (fun i env S=>∃z8 z9,env=[some (.lst false (bs.map Af)),some NS,some (.int w),some (.int n),some (.ref 0),some (.int p.1),some (.int p.2),some (CT true there),z8,z9]/\S=[some (acc++((cs.take i).map fun c=>(p::c.1,c.2)).map encC)])
  ⟨z8,z9,rfl,by simp⟩ (fun i env S _=>by simp) (fun i d env S hd q=>by
   obtain⟨z8,z9,he,hS⟩:=q
   subst he hS
   rw[U0z] at hd
   obtain⟨c,hc,rfl⟩:=U1y.mp hd
   have hi:=(U0o.mp hc).1
   refine⟨_,by simp[Dy,GR,En,Ec,-U0e,-U0f,encC],_,_,rW rec _ _ _ _ _ p c _ (by simp;omega) (hcs c (U1h hc)),_,_,rfl,?_⟩
   rw[U3q,hc]
   simp)
 subst he hS
 refine⟨z8',z9',e2.trans ?_⟩
 have:(cs.map encC).length=cs.length:=by simp
 rw[this,U29]
theorem JN{bs:List (List St2)}:∀(k w:Nat)(ns:List Nat)(c:List St2×List Nat),c∈Bf bs k w ns->c.1.length=k
 |0,w,ns,c,h=>by
  rw[Bf] at h
  split at h
  .simp at h
  .have:c=([],ns):=by simpa using h
   rw[this];rfl
 |k+1,w,ns,c,h=>by
  rw[Bf] at h
  split at h
  .simp at h
  .obtain⟨p,_,h2⟩:=List.mem_flatMap.mp h
   obtain⟨d,h3,rfl⟩:=U1v.mp h2
   rw[U0g,JN k (w+1) _ d h3]
theorem mF(bs:List (List St2))(w:Nat)(ns:List Nat):G9 (Gf (ns.map fun i=>bs.getD i []) w++Fo (ns.map fun i=>bs.getD i []) w)=DP bs w ns:=by
 unfold Gf Fo DP at1
 rw[U0e,U0e];rfl
theorem rP(rec:DQ){n w k:Nat}{bs:List (List St2)}{ns:List Nat}(hb:∀b∈bs,b.length=n)(hi:∀i∈ns,i<bs.length)(hl:ns.length<=20)(hne:ns≠[])(hw:w<n)(hk:k<=2)
  (ih:∀ms:List Nat,(∀i∈ms,i<bs.length)->ms.length<=20->rec [.lst false (bs.map Af),CT false ms,.int ((w:Int)+1),.int n]=some (.lst true ((Bf bs k (w+1) ms).map encC))) :
  ∃z5 z6 z7 z8 z9,M9 rec [some (.lst false (bs.map Af)),some (CT false ns),some (.int w),some (.int n),some (.ref 0),none,none,none,none,none] [some []] =
   some (.nx,[some (.lst false (bs.map Af)),some (CT false ns),some (.int w),some (.int n),some (.ref 0),z5,z6,z7,z8,z9],[some ((Bf bs (k+1) w ns).map encC)]):=by
 have c1:=rT rec (m:=false) (m':=false) hb (by omega) hi hl [some (.int w),some (.int n),some (.ref 0),none,none,none,none,none] [some []]
 have h1:=ju (m:=false) (cs:=ns.map fun i=>bs.getD i []) (w:=w) (fun b hb'=>by
  obtain⟨i,hi',rfl⟩:=U1v.mp hb'
  have h:=hi i hi'
  rw[U0r,U0n h]
  show w<bs[i].length
  rw[hb _ (U3k h)];exact hw) (by rw[U0i];exact hl) (by simpa using hne)
 rw[mF] at h1
 have e:Dt (Aw Fv (Aa (Bq (K3 rec)) (Aa (Ab 2) Ag))) [some (.lst false (bs.map Af)),some (CT false ns),some (.int w),some (.int n),some (.ref 0),none,none,none,none,none] [some []]=some (((steps (DP bs w ns)).map Ac,[]),[some []]):=by
  rw[G7,Cr (ds:=[.lst true ((ns.map fun i=>bs.getD i []).map Af),.int w]) (S':=[some []]) (by simp only[Ao,CV,Dd,BJ,c1,U0b];rfl) (by rw[Ax,Ba,Zk];rfl) (by rw[Bk,age,eG,Bk,Bk];rfl) h1]
  simp[Cu,VS.listOf,VS.idOf]
 have hst:(steps (DP bs w ns)).length<=40:=by
  have:=Qw (DP bs w ns)
  have h2:=Qx (ns.map (fun i=>(at1 bs i w).1)++ns.map (fun i=>(at1 bs i w).2))
  rw[U0s,U0i,U0i] at h2
  unfold DP at this ⊢
  omega
 have hcl:∀x,(Bf bs k (w+1) (Ez bs w x ns)).length<=1600:=fun x=>by
  have:=GJ (bs:=bs) k (w+1) (Ez bs w x ns) (U1c (U31 _ _) hl)
  have h2:40^k<=40^2:=Nat.pow_le_pow_right (by decide) hk
  omega
 let f:St2->List (List St2×List Nat):=fun p=>(Bf bs k (w+1) (Ez bs w p.1 ns)).map fun c=>(p::c.1,c.2)
 have hf:∀l:List St2,(l.flatMap f).length<=l.length*1600:=fun l=>by
  induction l with
  |nil=>simp
  |cons p l ih =>
   rw[U7b,U0s,U0g,Nat.add_mul,Nat.one_mul]
   have:(f p).length<=1600:=by rw[U0i];exact hcl p.1
   omega
 unfold M9
 rw[HJ,e]
 obtain⟨env',S',e2,z5,z6,z7,z8,z9,he,hS⟩:=G8 (w:=[]) (g:=Pat.sem (.tp [(.nm 5),(.nm 6)])) (b:=K4 rec) (ds:=(steps (DP bs w ns)).map Ac) (env:=[some (.lst false (bs.map Af)),some (CT false ns),some (.int w),some (.int n),some (.ref 0),none,none,none,none,none]) (S:=[some []])
  (fun i env S=>∃z5 z6 z7 z8 z9,env=[some (.lst false (bs.map Af)),some (CT false ns),some (.int w),some (.int n),some (.ref 0),z5,z6,z7,z8,z9]/\S=[some ((((steps (DP bs w ns)).take i).flatMap f).map encC)])
  ⟨none,none,none,none,none,rfl,by simp⟩ (fun i env S _=>by simp) (fun i d env S hd q=>by
   obtain⟨z5,z6,z7,z8,z9,he,hS⟩:=q
   subst he hS
   rw[U0z] at hd
   obtain⟨p,hp,rfl⟩:=U1y.mp hd
   have hi':=(U0o.mp hp).1
   have h2:=hf ((steps (DP bs w ns)).take i)
   rw[U2j] at h2
   obtain⟨z8',z9',l1⟩:=rQ rec (n:=n) (w:=w) (bs:=bs) (there:=Ez bs w p.1 ns) (cs:=Bf bs k (w+1) (Ez bs w p.1 ns)) (ih _ (fun i hi'=>hi i (U3e.mp hi').1) (U1c (U31 _ _) hl)) (fun c hc=>by rw[JN _ _ _ _ hc];omega) (CT false ns) p z8 z9 ((((steps (DP bs w ns)).take i).flatMap f).map encC) (by
    have h3:=hcl p.1
    rw[U0i]
    have h4:min i (steps (DP bs w ns)).length<=40:=by omega
    have h5:=U5n 1600 h4
    omega)
   have c2:=rR rec (m:=false) (m':=false) hb hi hl hw p.1 (some (.int n)) (some (.ref 0)) [some (.int p.2),z7,z8,z9] [some ((((steps (DP bs w ns)).take i).flatMap f).map encC)]
   have s1:(Bo 7 (Bq (K1 rec))) [some (.lst false (bs.map Af)),some (CT false ns),some (.int w),some (.int n),some (.ref 0),some (.int p.1),some (.int p.2),z7,z8,z9] [some ((((steps (DP bs w ns)).take i).flatMap f).map encC)]=some (.nx,[some (.lst false (bs.map Af)),some (CT false ns),some (.int w),some (.int n),some (.ref 0),some (.int p.1),some (.int p.2),some (CT true (Ez bs w p.1 ns)),z8,z9],[some ((((steps (DP bs w ns)).take i).flatMap f).map encC)]):=by
    rw[Cg,Dd,c2];rfl
   refine⟨_,by simp[Dy,GR,En,Ec,-U0e,-U0f,Ac];rfl,_,_,(show K4 rec _ _=_ by unfold K4;rw[BR s1];exact l1),_,_,_,_,_,rfl,?_⟩
   rw[U3q,hp]
   simp[f])
 subst he hS
 refine⟨z5,z6,z7,z8,z9,e2.trans ?_⟩
 have:((steps (DP bs w ns)).map Ac).length=(steps (DP bs w ns)).length:=by simp
 rw[this,U29,Bf,if_neg hne]
theorem rO{n:Nat}{bs:List (List St2)}(hb:∀b∈bs,b.length=n)(hn:n<=3):∀(k d w:Nat)(ns:List Nat),w+k=n->(∀i∈ns,i<bs.length)->ns.length<=20->CW (d+k+1) [.lst false (bs.map Af),CT false ns,.int w,.int n]=some (.lst true ((Bf bs k w ns).map encC)):=by
 have hlen:∀(ns:List Nat)(r:VS.Env)(S:Store),eCB Ed (Aa (Ab 1) Ag) (some (.lst false (bs.map Af))::some (CT false ns)::r) S=some (.int ns.length,S):=fun ns r S=>by simp[BJ,CV,Ao,FN,Ed,VS.listOf,Cu,-U0e,-U0f,CT]
 have first:∀(ns:List Nat)(r:VS.Env),ns≠[]->(sIf (Bb (eOp (oEq false) (eCB Ed (Aa (Ab 1) Ag)) (eC (.int 0)))) (Cy (Bq Ag)) Ey) (some (.lst false (bs.map Af))::some (CT false ns)::r) []=some (.nx,some (.lst false (bs.map Af))::some (CT false ns)::r,[]):=fun ns r h=>by
  have h0:¬((ns.length:Int)=0):=by have:=U39.mpr h;omega
  simp only[JB,Dk,BL,hlen,U0b,Ea]
  simp[Ci,JX,CV,Dd,oEq,-U0e,-U0f,h0]
  exact h
 have nil:∀(k w:Nat),CW (k+1) [.lst false (bs.map Af),CT false [],.int w,.int n]=some (.lst true []):=fun k w=>by
  simp[CW,LC,HF,Cg,Ci,JB,JX,BJ,Ea,BL,CV,Ao,FN,Dk,Dd,Vr,HN,oEq,Ed,VS.listOf,Cu,DW,den,CZ,U0q,-U0e,-U0f,CT]
 intro k
 induction k with
 |zero =>
  intro d w ns hw hi hl
  by_cases h:ns=[]
  .subst h
   rw[nil,Bf,if_pos rfl];rfl
  .rw[Bf,if_neg h]
   have hwn:w=n:=by omega
   subst hwn
   have f1:=first ns [some (.int w),some (.int w),none,none,none,none,none,none] h
   unfold CW
   rw[DW]
   simp only[U0g,U1a,U0j,U1j,U1w,U1x,U0q,U09,U15,U1n,if_true]
   unfold LC
   rw[BR f1]
   have hd:=Lg 0 [] (Og false ns)
   simp[HF,Cg,Ci,JB,JX,BJ,BL,CV,Ao,Dk,Dd,Vr,HN,oEq,den,CZ,-U0e,-U0f,hd,encC,Af]
 |succ k ih =>
  intro d w ns hw hi hl
  by_cases h:ns=[]
  .subst h
   rw[nil,Bf,if_pos rfl];rfl
  .have hwn:¬((w:Int)=(n:Int)):=by omega
   have f1:=first ns [some (.int w),some (.int n),none,none,none,none,none,none] h
   have f2:(sIf (Bb (eOp (oEq false) (Ab 2) (Ab 3))) (Cy (Bq (Aa (Cz (Aa (Cz Ag) (Aa (Ab 1) Ag))) Ag))) Ey) [some (.lst false (bs.map Af)),some (CT false ns),some (.int w),some (.int n),none,none,none,none,none,none] []=some (.nx,[some (.lst false (bs.map Af)),some (CT false ns),some (.int w),some (.int n),none,none,none,none,none,none],[]):=by
    simp[Ci,JB,JX,BJ,BL,CV,Ao,Dk,Dd,HN,oEq,-U0e,-U0f,hwn]
   have f3:(Bo 4 (Ly Ag)) [some (.lst false (bs.map Af)),some (CT false ns),some (.int w),some (.int n),none,none,none,none,none,none] []=some (.nx,[some (.lst false (bs.map Af)),some (CT false ns),some (.int w),some (.int n),some (.ref 0),none,none,none,none,none],[some []]):=by
    simp[Cg,CV,Vr,-U0e,-U0f]
   obtain⟨z5,z6,z7,z8,z9,f4⟩:=rP (CW (d+(k+1))) (w:=w) (k:=k) hb hi hl h (by omega) (by omega) fun ms h1 h2=>by
    have:=ih d (w+1) ms (by omega) h1 h2
    rw[show((w+1:Nat):Int)=(w:Int)+1 by omega] at this
    exact this
   rw[CW,DW]
   simp only[U0g,U1a,U0j,U1j,U1w,U1x,U0q,U09,U15,U1n,if_true]
   unfold LC
   rw[BR f1,BR f2,BR f3,BR f4]
   have hd:∀(j:Nat)(S:Store),CZ j S ((Bf bs (k+1) w ns).map encC)=some ((Bf bs (k+1) w ns).map encC):=fun j S=>Cp j S (Km (Bf bs (k+1) w ns))
   simp[Ci,BJ,den,-U0e,-U0f,hd,Km]
theorem list_range{a:Bu}{env:VS.Env}{S S':Store}{n:Nat}(h:a env S=some ([.int n],S'))(hn:n<=1000):GF a env S=some (CT true (U0k n),S'):=by
 have hr:r62 (n:Int):=by unfold r62;omega
 have up:upD 0 n=(U0k n).map fun(i:Nat)=>D.int i:=by unfold upD;simp
 rw[X8,h,U0b]
 show(if r62 (n:Int)/\(n:Int).toNat<=1000 then _ else _)=_
 rw[if_pos ⟨hr,by omega⟩,U2z,up,CT]
theorem UG{n:Nat}{bs:List (List St2)}(g:Good n bs):Dq [Al false n bs]=some (.lst true ((Bf bs n 0 (U0k bs.length)).map encC)):=by
 have n3:=g.n3
 have few:=g.few
 have h:=rO (bs:=bs) (fun b hb=>(g.box b hb).1) n3.2 n (3-n) 0 (U0k bs.length) (by omega) (fun i hi=>U3.mp hi) (by simpa using few)
 rw[show 3-n+n+1=4 by omega] at h
 have hd:=fun(j:Nat) (S:Store)=>Cp j S (Km (Bf bs n 0 (U0k bs.length)))
 have t1:(eOp oIx (Ab 0) (eC (.int 1))) [some (Al false n bs)] []=some (.lst false (bs.map Af),[]):=by simp[BJ,Ea,BL,oIx,VS.listOf,Cu,-U0e,-U0f,Al]
 have t0:(eOp oIx (Ab 0) (eC (.int 0))) [some (Al false n bs)] []=some (.int n,[]):=by simp[BJ,Ea,BL,oIx,VS.listOf,Cu,-U0e,-U0f,Al]
 have t2:(Aa (eCB Ed (Aa (eOp oIx (Ab 0) (eC (.int 1))) Ag)) Ag) [some (Al false n bs)] []=some ([.int bs.length],[]):=by
  simp only[Ao,CV,FN,t1,U0b]
  simp[Ed,Cu,VS.listOf]
 have t3:=list_range t2 (by omega)
 have a1:(Aa (eOp oIx (Ab 0) (eC (.int 1))) (Aa (GF (Aa (eCB Ed (Aa (eOp oIx (Ab 0) (eC (.int 1))) Ag)) Ag)) (Aa (eC (.int 0)) (Aa (eOp oIx (Ab 0) (eC (.int 0))) Ag)))) [some (Al false n bs)] []=some ([.lst false (bs.map Af),CT true (U0k bs.length),.int 0,.int n],[]):=by
  rw[Ao,t1,U0b,Ao,t3,U0b,Ao,Ea,U0b,Ao,t0]
  rfl
 have c:=Cr (sem:=CW 4) a1 (by simp[Ax,Ba,Og]) (es:=[.lst false (bs.map Af),CT false (U0k bs.length),.int 0,.int n]) (by simp[Bk,age,UW]) h
 unfold Dq
 rw[DW]
 simp only[U0g,U1a,U0j,U1j,U1w,U1x,U09,U15,U1n,if_true]
 unfold V9
 rw[Ci,c]
 show den 0 [] (.lst true _)=_
 rw[den,hd];rfl
end W08
end
section
namespace W08
open PySem L2 VS
theorem mC(c k:Int)(h0:0<=k)(h1:k<1000000000000):∃v,Hl [.int c,.int k]=some (.int v):=by
 have hk:-18446744073709551616<k/\k<18446744073709551616:=by omega
 have ha:∀t:Int,-18446744073709551616<t%2147483629/\t%2147483629<18446744073709551616:=fun t=>by omega
 have hb:∀t:Int,-18446744073709551616<t%2147483587/\t%2147483587<18446744073709551616:=fun t=>by omega
 simp[Hl,T3,HF,Cg,Ci,BJ,Ea,BL,oI,NP,Ve,Vd,Bx,Hy,oDiv,oMod,VS.listOf,DW,den,U0q,-U0e,-U0f,hk,ha,hb]
theorem IW(x y z m:Int)(h0:0<m)(h1:m<2^63)(z0:0<=z)(z1:z<100000000000):∃r x' z',Av [x,y,z] [.int m]=some (.int r,[x',y,z'])/\(0<=r/\r<m)/\z<=z'/\z'<=z+1:=by
 have hm:m<18446744073709551616:=by omega
 by_cases h:0<x
 .refine⟨x%m,x/m,z,?_,⟨U7m _ (by omega),U61 _ h0⟩,by omega,by omega⟩
  simp[Av,Mp,HF,Cg,Ci,JB,JX,KR,BJ,Ea,BL,CV,Ao,FN,Dk,Dd,Gx,oI,Hi,NP,Ve,Vd,NK,Bx,Hy,oDiv,oMod,Hw,oGt,oIx,Pn,VS.listOf,Cu,La,intsOf,den,U0q,-U0e,-U0f,h,h0,hm]
 .obtain⟨v,hv⟩:=mC y (z+1) (by omega) (by omega)
  by_cases h6:1000000<m
  .refine⟨v*8191%m,x,z+1,?_,⟨U7m _ (by omega),U61 _ h0⟩,by omega,by omega⟩
   simp[Av,Mp,HF,Cg,Ci,JB,JX,KR,BJ,Ea,BL,CV,Ao,FN,Dk,Dd,Gx,oI,Hi,NP,Ve,Vd,NK,Bx,Hy,oDiv,oMod,Hw,oGt,oIx,Pn,VS.listOf,Cu,La,intsOf,den,CZ,age,Bk,Ba,Ax,U0q,-U0e,-U0f,h,h0,hm,hv,h6]
  .refine⟨v*1%m,x,z+1,?_,⟨U7m _ (by omega),U61 _ h0⟩,by omega,by omega⟩
   simp[Av,Mp,HF,Cg,Ci,JB,JX,KR,BJ,Ea,BL,CV,Ao,FN,Dk,Dd,Gx,oI,Hi,NP,Ve,Vd,NK,Bx,Hy,oDiv,oMod,Hw,oGt,oIx,Pn,VS.listOf,Cu,La,intsOf,den,CZ,age,Bk,Ba,Ax,U0q,-U0e,-U0f,h,h0,hm,hv,h6]
theorem pC(c:Int):∃x,GZ [.int c]=some (.lst true [.int x,.int c,.int 0]):=by
 by_cases h:(1000000000000000000:Int)<=c
 .simp[GZ,QZ,Ci,BJ,Ea,BL,CV,Ao,FN,Dd,oI,Hi,NP,NK,Hy,Hw,oGe,Pn,VS.listOf,DW,den,CZ,-U0e,-U0f,h]
 .simp[GZ,QZ,Ci,BJ,Ea,BL,CV,Ao,FN,Dd,oI,Hi,NP,NK,Hy,Hw,oGe,Pn,VS.listOf,DW,den,CZ,-U0e,-U0f,h]
end W08
end
section
namespace W08
open PySem L2 VS
theorem Nj{sem:DQ}{a:Bu}{env:VS.Env}{S S':Store}{d d':D}{cs:List D}(h:Aw sem a env S=some (d,S'))(ht:N7 S'.length d=some (d',cs)):GX sem a env S=some (d',S'++[some cs]):=by
 rw[iy,h,U0b]
 show(N7 S'.length d).bind _=_
 rw[ht];rfl
theorem QG{sem:M4}{a:Bu}{env:VS.Env}{S S':Store}{i:Nat}{rest es:List D}{ns ms:List Int}{r:D}(h:a env S=some (.ref i::rest,S'))(hi:S'[i]?=some (some (ns.map D.int)))(hp:Ax rest=true)(ha:Bk rest=es)(hr:sem ns es=some (r,ms)):Bv sem a env S=some (r,S'.set i (some (ms.map D.int))):=by
 rw[Wj,h]
 simp only[U0b,hi,Mj,Cp 0 _ hp,ha,hr,hp,U73,if_true]
theorem Mx{g:Store->D->List D->Option (D×Store)}{o:Az}{a:Bu}{env:VS.Env}{S S1 S2 S3:Store}{d r:D}{cs ds:List D}(h:o env S=some (d,S1))(hl:VS.listOf S1 d=some cs)(h2:a env S1=some (ds,S2))(h3:g S2 d ds=some (r,S3)):FJ g o a env S=some (r,S3):=by
 rw[Yq,h,U0b]
 show(if (VS.listOf S1 d).isSome=true then _ else _)=_
 rw[hl]
 show(a env S1).bind _=_
 rw[h2]
 exact h3
theorem jR(S:Store)(a:Option (List D))(l:List (Option (List D))):(S++a::l)[S.length]?=some a:=by simp
theorem jL(S:Store)(a c:Option (List D))(l:List (Option (List D))):(S++a::l).set S.length c=S++c::l:=by
 rw[List.set_append_right _ _ (by omega)]
 simp
end W08
end
section
namespace W08
open PySem L2 VS
theorem Ia{x y z c r x' z':Int}{a:Az}{env:VS.Env}{S:Store}{j:Nat}(h:Av [x,y,z] [.int c]=some (.int r,[x',y,z']))(h0:env[j]?=some (some (.ref 0)))(ha:a env (some [.int x,.int y,.int z]::S)=some (.int c,some [.int x,.int y,.int z]::S)):Bv Av (Aa (Ab j) (Aa a Ag)) env (some [.int x,.int y,.int z]::S)=some (.int r,some [.int x',.int y,.int z']::S):=by
 have v0:Ab j env (some [.int x,.int y,.int z]::S)=some (.ref 0,some [.int x,.int y,.int z]::S):=by rw[BJ,h0];rfl
 exact QG (ns:=[x,y,z]) (rest:=[.int c]) (es:=[.int c]) (i:=0) (S':=some [.int x,.int y,.int z]::S) (by rw[Ao,v0,U0b,Ao,ha];rfl) rfl (by simp[Ax,Ba]) (by simp[Bk,age]) h
theorem d9(x y z r0 r1:Int)(h1:0<r1)(h2:r1<=2000000000)(z0:0<=z)(z1:z<10000000000):∃(p:St2)(x' z':Int),Fw [x,y,z] [.tup [.int r0,.int r1]]=some (Ac p,[x',y,z'])/\(r0<=p.1/\p.1<p.2/\p.2<=r0+r1)/\z<=z'/\z'<=z+2:=by
 obtain⟨a,x1,z2,d1,⟨a0,a1⟩,k1,k2⟩:=IW x y z r1 h1 (by omega) z0 (by omega)
 obtain⟨b,x2,z3,d2,⟨b0,b1⟩,k3,k4⟩:=IW x1 y z2 r1 h1 (by omega) (by omega) (by omega)
 have v1:∀(e2 e3:Option D)(S:Store),eOp oIx (Ab 1) (eC (.int 0)) [some (.ref 0),some (.tup [.int r0,.int r1]),e2,e3] S=some (.int r0,S):=fun _ _ _=>rfl
 have v2:∀(e2 e3:Option D)(S:Store),eOp oIx (Ab 1) (eC (.int 1)) [some (.ref 0),some (.tup [.int r0,.int r1]),e2,e3] S=some (.int r1,S):=fun _ _ _=>rfl
 have s1:(Bo 2 (eOp Bx (eOp oIx (Ab 1) (eC (.int 0))) (Bv Av (Aa (Ab 0) (Aa (eOp oIx (Ab 1) (eC (.int 1))) Ag))))) [some (.ref 0),some (.tup [.int r0,.int r1]),none,none] [some [.int x,.int y,.int z]]=some (.nx,[some (.ref 0),some (.tup [.int r0,.int r1]),some (.int (r0+a)),none],[some [.int x1,.int y,.int z2]]):=by
  rw[Cg,BL,v1,U0b,Ia d1 rfl (v2 _ _ _)];rfl
 have s2:(Bo 3 (eOp Bx (eOp oIx (Ab 1) (eC (.int 0))) (Bv Av (Aa (Ab 0) (Aa (eOp oIx (Ab 1) (eC (.int 1))) Ag))))) [some (.ref 0),some (.tup [.int r0,.int r1]),some (.int (r0+a)),none] [some [.int x1,.int y,.int z2]]=some (.nx,[some (.ref 0),some (.tup [.int r0,.int r1]),some (.int (r0+a)),some (.int (r0+b))],[some [.int x2,.int y,.int z3]]):=by
  rw[Cg,BL,v1,U0b,Ia d2 rfl (v2 _ _ _)];rfl
 have ts:Bb (eOp (oEq false) (Ab 2) (Ab 3)) [some (.ref 0),some (.tup [.int r0,.int r1]),some (.int (r0+a)),some (.int (r0+b))] [some [.int x2,.int y,.int z3]]=some (decide (r0+a=r0+b),[some [.int x2,.int y,.int z3]]):=by
  simp[BJ,BL,Dk,oEq,-U0e,-U0f]
 obtain⟨c,s3,c0,c1,c2⟩:∃c:Int,(sIf (Bb (eOp (oEq false) (Ab 2) (Ab 3))) (Bo 3 (eOp Bx (Ab 2) (eC (.int 1)))) Ey) [some (.ref 0),some (.tup [.int r0,.int r1]),some (.int (r0+a)),some (.int (r0+b))] [some [.int x2,.int y,.int z3]]=some (.nx,[some (.ref 0),some (.tup [.int r0,.int r1]),some (.int (r0+a)),some (.int c)],[some [.int x2,.int y,.int z3]])/\c≠r0+a/\r0<=c/\c<=r0+r1:=by
  by_cases h:r0+a=r0+b
  .rw[show decide (r0+a=r0+b)=true from decide_eq_true h] at ts
   exact⟨r0+a+1,by rw[Ng ts];rfl,by omega,by omega,by omega⟩
  .rw[show decide (r0+a=r0+b)=false from decide_eq_false h] at ts
   exact⟨r0+b,by rw[Ij ts];rfl,by omega,by omega,by omega⟩
 refine⟨(if c<r0+a then c else r0+a,if c>r0+a then c else r0+a),x2,z3,?_,?_,by omega,by omega⟩
 .unfold Fw
  rw[La]
  simp only[U0g,U1a,U0j,U1j,U1w,U1x,U0q,U09,U15,U1n,if_true]
  unfold Qj
  rw[BR s1,BR s2,BR s3]
  simp[Ci,BJ,CV,Ao,FN,HN,XR,XQ,intsOf,den,CZ,-U0e,-U0f,Ac]
 .simp only
  split<;>split<;>omega
def InR(r0 r1:Int)(k:Nat)(p:St2):Prop:=r0<=p.1/\p.1<p.2/\p.2<=1000000000/\p.2<=r0+r1+4*k
end W08
end
section
namespace W08
open PySem L2 VS
theorem xK(x y z r0 r1:Int)(n:Nat)(hn:n<=3)(h1:0<r1)(h2:r1<=2000000000)(z0:0<=z)(z1:z<1000000000)(e3:Option D)(es:VS.Env):∃(bx:List St2)(x' z':Int),
  Mi (some (.ref 0)::some (.int n)::some (.tup [.int r0,.int r1])::e3::es) [some [.int x,.int y,.int z]]=some (bx.map Ac,[some [.int x',.int y,.int z']])/\bx.length=n/\(∀p∈bx,r0<=p.1/\p.1<p.2/\p.2<=r0+r1)/\z<=z'/\z'<=z+2*n:=by
 have v1:Ab 1 (some (.ref 0)::some (.int n)::some (.tup [.int r0,.int r1])::e3::es) [some [.int x,.int y,.int z]]=some (.int n,[some [.int x,.int y,.int z]]):=rfl
 have e:Jb (Aa (Ab 1) Ag) (some (.ref 0)::some (.int n)::some (.tup [.int r0,.int r1])::e3::es) [some [.int x,.int y,.int z]]=some ((upD 0 n,[]),[some [.int x,.int y,.int z]]):=Xl _ (by rw[Ao,v1];rfl) (by simp) (by omega) (by omega)
 have ec:J8 1 [0,2] (some (.ref 0)::some (.int n)::some (.tup [.int r0,.int r1])::e3::es)=[none,some (.ref 0),some (.tup [.int r0,.int r1])]:=rfl
 unfold Mi Ej
 rw[e,ec]
 simp only[U0b]
 obtain⟨ys,S',e2,bx,x',z',hy,hS,hl,hp,k1,k2⟩:=nT (w:=[]) (e0:=[none,some (.ref 0),some (.tup [.int r0,.int r1])]) (g:=Pat.sem (.nm 0)) (ds:=upD 0 n) (S:=[some [.int x,.int y,.int z]])
  (f:=Bv Fw (Aa (Ab 1) (Aa (Ab 2) Ag)))
  (fun i ys S=>∃(bx:List St2)(x' z':Int),ys=bx.map Ac/\S=[some [.int x',.int y,.int z']]/\bx.length=min i n/\(∀p∈bx,r0<=p.1/\p.1<p.2/\p.2<=r0+r1)/\z<=z'/\z'<=z+2*(min i n:Nat))
  ⟨[],x,z,rfl,rfl,by simp,(fun p h=>by cases h),by omega,by simp⟩ (fun i ys S q=>by obtain⟨bx,x',z',h1,h2,h3,_⟩:=q;exact⟨by simp,by rw[h1,U0i];omega⟩)
  (fun i d ys S hd q=>by
   obtain⟨bx,x',z',h3,h4,h5,h6,h7,h8⟩:=q
   obtain⟨hi,rfl⟩:=aU hd
   subst h3 h4
   obtain⟨p,x2,z2,e3,hp,k1,k2⟩:=d9 x' y z' r0 r1 h1 h2 (by omega) (by omega)
   refine⟨[some (.int (0+i)),some (.ref 0),some (.tup [.int r0,.int r1])],Ac p,[some [.int x2,.int y,.int z2]],by rw[Dy];rfl,?_,bx++[p],x2,z2,by rw[U1p];rfl,rfl,by simp;omega,fun q hq=>?_,by omega,by omega⟩
   .exact QG (ns:=[x',y,z']) (rest:=[.tup [.int r0,.int r1]]) (es:=[.tup [.int r0,.int r1]]) (i:=0) (S':=[some [.int x',.int y,.int z']]) rfl rfl (by simp[Ax,Ba]) (by simp[Bk,age]) e3
   .rcases U2c.mp hq with h|h
    .exact h6 q h
    .rw[U01.mp h];exact hp)
 rw[Rj,Nat.min_self] at hl k2
 subst hy hS
 exact⟨bx,x',z',e2,hl,hp,k1,k2⟩
end W08
end
section
namespace W08
open PySem L2 VS
theorem zK{b:List St2}:Ei (b.map Ac)=true:=Dp b fun p _=>Di p
theorem nil_eq(m:Bool)(bs:List (List St2))(S:Store):oEq false S (.lst m (bs.map Af)) (.lst true [])=some (.bl bs.isEmpty):=by
 have q:=Vq (neg:=false) (S:=S) (m:=true) 3 (QL S m bs) (Wa 0 bs) (by decide)
 rw[List.isEmpty_map,Bool.false_xor] at q
 exact q
theorem sS{n:Nat}{here:List St2}(hl:here.length=n)(hn:n<=3){a:Int}(a0:0<=a)(a1:a<n)(p:St2)(e0 e1 e2 e3 e4 e8 e9:Option D)(T:D)(S:Store)(kd:Int)(f1:oIx S T (.int kd)=some (Ac p)) :
  eOp Bx (eOp Bx (eSl oSl (Ab 6) Ge (Gd (Ab 7))) (Cz (Aa (eOp oIx (Ab 10) (Ab 5)) Ag))) (eSl oSl (Ab 6) (Gd (eOp Bx (Ab 7) (eC (.int 1)))) Ge) [e0,e1,e2,e3,e4,some (.int kd),some (Af here),some (.int a),e8,e9,some T] S=some (Af (here.take a.toNat++p::here.drop (a.toNat+1)),S):=by
 have c1:=wj (xs:=here.map Ac) (a:=a) a0 (by simp;omega)
 have c2:=U9 (xs:=here.map Ac) (a:=a+1) (by omega) (by simp;omega)
 have t1:(a+1).toNat=a.toNat+1:=by omega
 have hlen:min a.toNat here.length<=999999/\min a.toNat here.length+1+(here.length-(a.toNat+1))<=1000000/\min a.toNat here.length+(here.length-(a.toNat+1)+1)<=1000000/\min a.toNat here.length+(1+(here.length-(a.toNat+1)))<=1000000:=by omega
 have s1:eSl oSl (Ab 6) Ge (Gd (Ab 7)) [e0,e1,e2,e3,e4,some (.int kd),some (Af here),some (.int a),e8,e9,some T] S=some (.tup ((here.take a.toNat).map Ac),S):=by
  show(some (D.tup (cut (here.map Ac) none (some a)),S):Option (D×Store))=_
  rw[c1,List.map_take]
 have s2:Cz (Aa (eOp oIx (Ab 10) (Ab 5)) Ag) [e0,e1,e2,e3,e4,some (.int kd),some (Af here),some (.int a),e8,e9,some T] S=some (.tup [Ac p],S):=by
  have:eOp oIx (Ab 10) (Ab 5) [e0,e1,e2,e3,e4,some (.int kd),some (Af here),some (.int a),e8,e9,some T] S=some (Ac p,S):=by
   show U17 _ (oIx S T (.int kd))=_
   rw[f1];rfl
  rw[HN,Ao,this];rfl
 have s3:eSl oSl (Ab 6) (Gd (eOp Bx (Ab 7) (eC (.int 1)))) Ge [e0,e1,e2,e3,e4,some (.int kd),some (Af here),some (.int a),e8,e9,some T] S=some (.tup ((here.drop (a.toNat+1)).map Ac),S):=by
  show(some (D.tup (cut (here.map Ac) (some (a+1)) none),S):Option (D×Store))=_
  rw[c2,t1,List.map_drop]
 have s4:eOp Bx (eSl oSl (Ab 6) Ge (Gd (Ab 7))) (Cz (Aa (eOp oIx (Ab 10) (Ab 5)) Ag)) [e0,e1,e2,e3,e4,some (.int kd),some (Af here),some (.int a),e8,e9,some T] S=some (.tup ((here.take a.toNat++[p]).map Ac),S):=by
  rw[BL,s1,U0b,s2]
  show U17 _ (if ((here.take a.toNat).map Ac).length+1<=1000000 then some (D.tup ((here.take a.toNat).map Ac++[Ac p])) else none)=_
  rw[if_pos (by simp;omega),U1p];rfl
 rw[BL,s4,U0b,s3]
 show U17 _ (if ((here.take a.toNat++[p]).map Ac).length+((here.drop (a.toNat+1)).map Ac).length<=1000000 then some (D.tup ((here.take a.toNat++[p]).map Ac++(here.drop (a.toNat+1)).map Ac)) else none)=_
 rw[if_pos (by simp;omega),←U1p,U35]
 rfl
def InB(r0 r1:Int)(k:Nat)(b:List St2):Prop:=∀p∈b,InR r0 r1 k p
theorem xJ(x y z r0 r1:Int)(n k:Nat)(h0:1<=n)(hn:n<=3)(q0:-1000000000<=r0)(q1:0<r1)(q2:r0+r1<=1000000000)(bs:List (List St2))(hl:bs.length<=1000)(hb:∀b∈bs,b.length=n/\InB r0 r1 k b)(z0:0<=z)(z1:z<100000000):∃(b:List St2)(x' z':Int),
  GK [x,y,z] [.int n,.tup [.int r0,.int r1],.lst false (bs.map Af)]=some (Af b,[x',y,z'])/\b.length=n/\InB r0 r1 (k+1) b/\z<=z'/\z'<=z+11:=by
 obtain⟨bx,x1,z2,c1,bl,bp,k1,k2⟩:=xK x y z r0 r1 n hn q1 (by omega) z0 (by omega) (some (.lst false (bs.map Af))) [none,none,none,none,none,none,none]
 obtain⟨kd,x2,z3,d1,⟨kd0,kd1⟩,k3,k4⟩:=IW x1 y z2 6 (by decide) (by decide) (by omega) (by omega)
 have s1:(Bo 4 (eCB cM (Aa (Bq Mi) Ag))) [some (.ref 0),some (.int n),some (.tup [.int r0,.int r1]),some (.lst false (bs.map Af)),none,none,none,none,none,none,none] [some [.int x,.int y,.int z]]=some (.nx,[some (.ref 0),some (.int n),some (.tup [.int r0,.int r1]),some (.lst false (bs.map Af)),some (Af bx),none,none,none,none,none,none],[some [.int x1,.int y,.int z2]]):=by
  rw[Cg,FN,Ao,Dd,c1];rfl
 have s2:(Bo 5 (Bv Av (Aa (Ab 0) (Aa (eC (.int 6)) Ag)))) [some (.ref 0),some (.int n),some (.tup [.int r0,.int r1]),some (.lst false (bs.map Af)),some (Af bx),none,none,none,none,none,none] [some [.int x1,.int y,.int z2]]=some (.nx,[some (.ref 0),some (.int n),some (.tup [.int r0,.int r1]),some (.lst false (bs.map Af)),some (Af bx),some (.int kd),none,none,none,none,none],[some [.int x2,.int y,.int z3]]):=by
  rw[Cg,Ia d1 rfl rfl];rfl
 have inb:InB r0 r1 (k+1) bx:=fun p hp=>by
  have:=bp p hp
  exact⟨this.1,this.2.1,by omega,by omega⟩
 have ts:(VS.tOr (Bb (eOp (oEq false) (Ab 3) (Bq Ag))) (Bb (eOp oGt (Ab 5) (eC (.int 3))))) [some (.ref 0),some (.int n),some (.tup [.int r0,.int r1]),some (.lst false (bs.map Af)),some (Af bx),some (.int kd),none,none,none,none,none] [some [.int x2,.int y,.int z3]]=some (bs.isEmpty||decide (3<kd),[some [.int x2,.int y,.int z3]]):=by
  have a1:Bb (eOp (oEq false) (Ab 3) (Bq Ag)) [some (.ref 0),some (.int n),some (.tup [.int r0,.int r1]),some (.lst false (bs.map Af)),some (Af bx),some (.int kd),none,none,none,none,none] [some [.int x2,.int y,.int z3]]=some (bs.isEmpty,[some [.int x2,.int y,.int z3]]):=by
   rw[Dk,BL]
   show(U17 _ (oEq false [some [.int x2,.int y,.int z3]] (.lst false (bs.map Af)) (.lst true []))).bind _=_
   rw[nil_eq];rfl
  rw[Xh,a1]
  cases bs.isEmpty
  .rfl
  .rfl
 have go:∀(r:D)(S':Store)(env':VS.Env)(b:List St2)(x' z':Int),r=Af b->S'=[some [.int x',.int y,.int z']]->RJ [some (.ref 0),some (.int n),some (.tup [.int r0,.int r1]),some (.lst false (bs.map Af)),none,none,none,none,none,none,none] [some [.int x,.int y,.int z]]=some (.ret r,env',S')->GK [x,y,z] [.int n,.tup [.int r0,.int r1],.lst false (bs.map Af)]=some (Af b,[x',y,z']):=fun r S' env' b x' z' hr hS h=>by
  unfold GK
  rw[La]
  simp only[U0g,U1a,U0j,U1j,U1w,U1x,U0q,U09,U15,U1n,if_true]
  rw[h,hS,hr]
  have hd:∀S:Store,CZ 1 S (b.map Ac)=some (b.map Ac):=fun S=>Cp 1 S (Br zK)
  simp[intsOf,den,-U0e,-U0f,Af,hd]
 unfold RJ at go
 rw[BR s1,BR s2] at go
 by_cases h:bs.isEmpty=true∨3<kd
 .have e:(bs.isEmpty||decide (3<kd))=true:=by rw[U6n,decide_eq_true_eq];exact h
  rw[e] at ts
  refine⟨bx,x2,z3,go _ _ [some (.ref 0),some (.int n),some (.tup [.int r0,.int r1]),some (.lst false (bs.map Af)),some (Af bx),some (.int kd),none,none,none,none,none] bx x2 z3 rfl rfl ?_,bl,inb,by omega,by omega⟩
  rw[HF,Ng ts];rfl
 .have hne:bs.isEmpty=false:=by simpa using fun z=>h (.inl z)
  have h3:¬3<kd:=fun z=>h (.inr z)
  have e:(bs.isEmpty||decide (3<kd))=false:=by rw[hne,decide_eq_false h3];rfl
  rw[e] at ts
  have hpos:0<bs.length:=by
   rw[List.isEmpty_eq_false_iff] at hne
   exact U39.mpr hne
  obtain⟨j,x3,z4,d2,⟨j0,j1⟩,k5,k6⟩:=IW x2 y z3 bs.length (by omega) (by omega) (by omega) (by omega)
  obtain⟨a,x4,z5,d3,⟨a0,a1⟩,k7,k8⟩:=IW x3 y z4 n (by omega) (by omega) (by omega) (by omega)
  obtain⟨here,f1,g1⟩:=Vv (F:=Af) (l:=bs) (i:=j) j0 j1
  obtain⟨hel,heb⟩:=hb here (U1h g1)
  obtain⟨⟨lo,hi⟩,f2,g2⟩:=Vv (F:=Ac) (l:=here) (i:=a) a0 (by omega)
  obtain⟨p1,p2,p3,p4⟩:=heb _ (U1h g2)
  simp only at p1 p2 p3 p4
  obtain⟨q,f3,g3⟩:=Vv (F:=Ac) (l:=bx) (i:=a) a0 (by omega)
  have hq:=inb _ (U1h g3)
  obtain⟨u,x5,z6,d4,⟨u0,u1⟩,k9,k10⟩:=IW x4 y z5 4 (by decide) (by decide) (by omega) (by omega)
  obtain⟨w,x6,z7,d5,⟨w0,w1⟩,k11,k12⟩:=IW x5 y z6 (hi-lo) (by omega) (by omega) (by omega) (by omega)
  have s3:(sIf (VS.tOr (Bb (eOp (oEq false) (Ab 3) (Bq Ag))) (Bb (eOp oGt (Ab 5) (eC (.int 3))))) (Cy (Ab 4)) Ey) [some (.ref 0),some (.int n),some (.tup [.int r0,.int r1]),some (.lst false (bs.map Af)),some (Af bx),some (.int kd),none,none,none,none,none] [some [.int x2,.int y,.int z3]]=some (.nx,[some (.ref 0),some (.int n),some (.tup [.int r0,.int r1]),some (.lst false (bs.map Af)),some (Af bx),some (.int kd),none,none,none,none,none],[some [.int x2,.int y,.int z3]]):=by rw[Ij ts];rfl
  have s4:(Bo 6 (eOp oIx (Ab 3) (Bv Av (Aa (Ab 0) (Aa (eCB Ed (Aa (Ab 3) Ag)) Ag))))) [some (.ref 0),some (.int n),some (.tup [.int r0,.int r1]),some (.lst false (bs.map Af)),some (Af bx),some (.int kd),none,none,none,none,none] [some [.int x2,.int y,.int z3]]=some (.nx,[some (.ref 0),some (.int n),some (.tup [.int r0,.int r1]),some (.lst false (bs.map Af)),some (Af bx),some (.int kd),some (Af here),none,none,none,none],[some [.int x3,.int y,.int z4]]):=by
   have v3:Ab 3 [some (.ref 0),some (.int n),some (.tup [.int r0,.int r1]),some (.lst false (bs.map Af)),some (Af bx),some (.int kd),none,none,none,none,none] [some [.int x2,.int y,.int z3]]=some (.lst false (bs.map Af),[some [.int x2,.int y,.int z3]]):=rfl
   rw[Cg,BL,v3,U0b,Ia d2 rfl (by
    rw[FN,Ao,v3]
    show(some (D.int (((bs.map Af).length:Nat)),_):Option (D×Store))=_
    rw[U0i])]
   show(U17 _ (atI (bs.map Af) j)).bind _=_
   rw[f1];rfl
  have s5:(Bo 7 (Bv Av (Aa (Ab 0) (Aa (Ab 1) Ag)))) [some (.ref 0),some (.int n),some (.tup [.int r0,.int r1]),some (.lst false (bs.map Af)),some (Af bx),some (.int kd),some (Af here),none,none,none,none] [some [.int x3,.int y,.int z4]]=some (.nx,[some (.ref 0),some (.int n),some (.tup [.int r0,.int r1]),some (.lst false (bs.map Af)),some (Af bx),some (.int kd),some (Af here),some (.int a),none,none,none],[some [.int x4,.int y,.int z5]]):=by
   rw[Cg,Ia d3 rfl rfl];rfl
  have ih:∀(e8 e9 e10:Option D)(S:Store),eOp oIx (Ab 6) (Ab 7) [some (.ref 0),some (.int n),some (.tup [.int r0,.int r1]),some (.lst false (bs.map Af)),some (Af bx),some (.int kd),some (Af here),some (.int a),e8,e9,e10] S=some (Ac (lo,hi),S):=fun e8 e9 e10 S=>by
   show U17 _ (atI (here.map Ac) a)=_
   rw[f2];rfl
  have ig:∀(e8 e9 e10:Option D)(S:Store),eOp oIx (Ab 4) (Ab 7) [some (.ref 0),some (.int n),some (.tup [.int r0,.int r1]),some (.lst false (bs.map Af)),some (Af bx),some (.int kd),some (Af here),some (.int a),e8,e9,e10] S=some (Ac q,S):=fun e8 e9 e10 S=>by
   show U17 _ (atI (bx.map Ac) a)=_
   rw[f3];rfl
  have s6:(Vc (eOp oIx (Ab 6) (Ab 7)) (Pat.sem (.tp [(.nm 8),(.nm 9)]))) [some (.ref 0),some (.int n),some (.tup [.int r0,.int r1]),some (.lst false (bs.map Af)),some (Af bx),some (.int kd),some (Af here),some (.int a),none,none,none] [some [.int x4,.int y,.int z5]]=some (.nx,[some (.ref 0),some (.int n),some (.tup [.int r0,.int r1]),some (.lst false (bs.map Af)),some (Af bx),some (.int kd),some (Af here),some (.int a),some (.int lo),some (.int hi),none],[some [.int x4,.int y,.int z5]]):=by
   rw[au,ih]
   simp[Dy,GR,En,Ec,-U0e,-U0f,Ac]
  have o1:eOp Bx (eOp Bx (Ab 9) (eC (.int 1))) (Bv Av (Aa (Ab 0) (Aa (eC (.int 4)) Ag))) [some (.ref 0),some (.int n),some (.tup [.int r0,.int r1]),some (.lst false (bs.map Af)),some (Af bx),some (.int kd),some (Af here),some (.int a),some (.int lo),some (.int hi),none] [some [.int x4,.int y,.int z5]]=some (.int (hi+1+u),[some [.int x5,.int y,.int z6]]):=by
   have:eOp Bx (Ab 9) (eC (.int 1)) [some (.ref 0),some (.int n),some (.tup [.int r0,.int r1]),some (.lst false (bs.map Af)),some (Af bx),some (.int kd),some (Af here),some (.int a),some (.int lo),some (.int hi),none] [some [.int x4,.int y,.int z5]]=some (.int (hi+1),[some [.int x4,.int y,.int z5]]):=rfl
   rw[BL,this,U0b,Ia d4 rfl rfl];rfl
  have o2:eOp Bx (eOp Bx (Ab 8) (eC (.int 1))) (Bv Av (Aa (Ab 0) (Aa (eOp Gj (Ab 9) (Ab 8)) Ag))) [some (.ref 0),some (.int n),some (.tup [.int r0,.int r1]),some (.lst false (bs.map Af)),some (Af bx),some (.int kd),some (Af here),some (.int a),some (.int lo),some (.int hi),none] [some [.int x5,.int y,.int z6]]=some (.int (lo+1+w),[some [.int x6,.int y,.int z7]]):=by
   have:eOp Bx (Ab 8) (eC (.int 1)) [some (.ref 0),some (.int n),some (.tup [.int r0,.int r1]),some (.lst false (bs.map Af)),some (Af bx),some (.int kd),some (Af here),some (.int a),some (.int lo),some (.int hi),none] [some [.int x5,.int y,.int z6]]=some (.int (lo+1),[some [.int x5,.int y,.int z6]]):=rfl
   rw[BL,this,U0b,Ia d5 rfl rfl];rfl
  have t1:Cz (Aa (Ab 9) (Aa (eOp Bx (eOp Bx (Ab 9) (eC (.int 1))) (Bv Av (Aa (Ab 0) (Aa (eC (.int 4)) Ag)))) Ag)) [some (.ref 0),some (.int n),some (.tup [.int r0,.int r1]),some (.lst false (bs.map Af)),some (Af bx),some (.int kd),some (Af here),some (.int a),some (.int lo),some (.int hi),none] [some [.int x4,.int y,.int z5]]=some (Ac (hi,hi+1+u),[some [.int x5,.int y,.int z6]]):=by
   have:Ab 9 [some (.ref 0),some (.int n),some (.tup [.int r0,.int r1]),some (.lst false (bs.map Af)),some (Af bx),some (.int kd),some (Af here),some (.int a),some (.int lo),some (.int hi),none] [some [.int x4,.int y,.int z5]]=some (.int hi,[some [.int x4,.int y,.int z5]]):=rfl
   rw[HN,Ao,this,U0b,Ao,o1];rfl
  have t2:Cz (Aa (Ab 8) (Aa (eOp Bx (eOp Bx (Ab 8) (eC (.int 1))) (Bv Av (Aa (Ab 0) (Aa (eOp Gj (Ab 9) (Ab 8)) Ag)))) Ag)) [some (.ref 0),some (.int n),some (.tup [.int r0,.int r1]),some (.lst false (bs.map Af)),some (Af bx),some (.int kd),some (Af here),some (.int a),some (.int lo),some (.int hi),none] [some [.int x5,.int y,.int z6]]=some (Ac (lo,lo+1+w),[some [.int x6,.int y,.int z7]]):=by
   have:Ab 8 [some (.ref 0),some (.int n),some (.tup [.int r0,.int r1]),some (.lst false (bs.map Af)),some (Af bx),some (.int kd),some (Af here),some (.int a),some (.int lo),some (.int hi),none] [some [.int x5,.int y,.int z6]]=some (.int lo,[some [.int x5,.int y,.int z6]]):=rfl
   rw[HN,Ao,this,U0b,Ao,o2];rfl
  have s7:(Bo 10 (Bq (Aa (eOp oIx (Ab 6) (Ab 7)) (Aa (eOp oIx (Ab 4) (Ab 7)) (Aa (Cz (Aa (Ab 9) (Aa (eOp Bx (eOp Bx (Ab 9) (eC (.int 1))) (Bv Av (Aa (Ab 0) (Aa (eC (.int 4)) Ag)))) Ag))) (Aa (Cz (Aa (Ab 8) (Aa (eOp Bx (eOp Bx (Ab 8) (eC (.int 1))) (Bv Av (Aa (Ab 0) (Aa (eOp Gj (Ab 9) (Ab 8)) Ag)))) Ag))) Ag)))))) [some (.ref 0),some (.int n),some (.tup [.int r0,.int r1]),some (.lst false (bs.map Af)),some (Af bx),some (.int kd),some (Af here),some (.int a),some (.int lo),some (.int hi),none] [some [.int x4,.int y,.int z5]]=some (.nx,[some (.ref 0),some (.int n),some (.tup [.int r0,.int r1]),some (.lst false (bs.map Af)),some (Af bx),some (.int kd),some (Af here),some (.int a),some (.int lo),some (.int hi),some (.lst true [Ac (lo,hi),Ac q,Ac (hi,hi+1+u),Ac (lo,lo+1+w)])],[some [.int x6,.int y,.int z7]]):=by
   rw[Cg,Dd,Ao,ih,U0b,Ao,ig,U0b,Ao,t1,U0b,Ao,t2];rfl
  obtain⟨p,fp,hp⟩:∃p:St2,(∀S:Store,oIx S (.lst true [Ac (lo,hi),Ac q,Ac (hi,hi+1+u),Ac (lo,lo+1+w)]) (.int kd)=some (Ac p))/\(r0<=p.1/\p.1<p.2/\p.2<=r0+r1+4*((k:Int)+1)):=by
   have:kd=0∨kd=1∨kd=2∨kd=3:=by omega
   rcases this with rfl|rfl|rfl|rfl
   .exact⟨(lo,hi),fun S=>rfl,by simp only;omega⟩
   .obtain⟨g1,g2,g3,g4⟩:=hq
    exact⟨q,fun S=>rfl,by omega⟩
   .exact⟨(hi,hi+1+u),fun S=>rfl,by simp only;omega⟩
   .exact⟨(lo,lo+1+w),fun S=>rfl,by simp only;omega⟩
  have tg:Bb (eOp oGt (eOp oIx (eOp oIx (Ab 10) (Ab 5)) (eC (.int 1))) (eOp Hw (eC (.int 10)) (eC (.int 9)))) [some (.ref 0),some (.int n),some (.tup [.int r0,.int r1]),some (.lst false (bs.map Af)),some (Af bx),some (.int kd),some (Af here),some (.int a),some (.int lo),some (.int hi),some (.lst true [Ac (lo,hi),Ac q,Ac (hi,hi+1+u),Ac (lo,lo+1+w)])] [some [.int x6,.int y,.int z7]]=some (decide (1000000000<p.2),[some [.int x6,.int y,.int z7]]):=by
   have i1:eOp oIx (Ab 10) (Ab 5) [some (.ref 0),some (.int n),some (.tup [.int r0,.int r1]),some (.lst false (bs.map Af)),some (Af bx),some (.int kd),some (Af here),some (.int a),some (.int lo),some (.int hi),some (.lst true [Ac (lo,hi),Ac q,Ac (hi,hi+1+u),Ac (lo,lo+1+w)])] [some [.int x6,.int y,.int z7]]=some (Ac p,[some [.int x6,.int y,.int z7]]):=by
    show U17 _ (oIx [some [.int x6,.int y,.int z7]] (.lst true [Ac (lo,hi),Ac q,Ac (hi,hi+1+u),Ac (lo,lo+1+w)]) (.int kd))=_
    rw[fp];rfl
   have i2:eOp oIx (eOp oIx (Ab 10) (Ab 5)) (eC (.int 1)) [some (.ref 0),some (.int n),some (.tup [.int r0,.int r1]),some (.lst false (bs.map Af)),some (Af bx),some (.int kd),some (Af here),some (.int a),some (.int lo),some (.int hi),some (.lst true [Ac (lo,hi),Ac q,Ac (hi,hi+1+u),Ac (lo,lo+1+w)])] [some [.int x6,.int y,.int z7]]=some (.int p.2,[some [.int x6,.int y,.int z7]]):=by rw[BL,i1];rfl
   have i3:eOp Hw (eC (.int 10)) (eC (.int 9)) [some (.ref 0),some (.int n),some (.tup [.int r0,.int r1]),some (.lst false (bs.map Af)),some (Af bx),some (.int kd),some (Af here),some (.int a),some (.int lo),some (.int hi),some (.lst true [Ac (lo,hi),Ac q,Ac (hi,hi+1+u),Ac (lo,lo+1+w)])] [some [.int x6,.int y,.int z7]]=some (.int 1000000000,[some [.int x6,.int y,.int z7]]):=rfl
   rw[Dk,BL,i2,U0b,i3];rfl
  rw[BR s3,BR s4,BR s5,BR s6,BR s7] at go
  by_cases h9:1000000000<p.2
  .rw[decide_eq_true h9] at tg
   refine⟨bx,x6,z7,go _ _ [some (.ref 0),some (.int n),some (.tup [.int r0,.int r1]),some (.lst false (bs.map Af)),some (Af bx),some (.int kd),some (Af here),some (.int a),some (.int lo),some (.int hi),some (.lst true [Ac (lo,hi),Ac q,Ac (hi,hi+1+u),Ac (lo,lo+1+w)])] bx x6 z7 rfl rfl ?_,bl,inb,by omega,by omega⟩
   rw[HF,Ng tg];rfl
  .rw[decide_eq_false h9] at tg
   have s8:(sIf (Bb (eOp oGt (eOp oIx (eOp oIx (Ab 10) (Ab 5)) (eC (.int 1))) (eOp Hw (eC (.int 10)) (eC (.int 9))))) (Cy (Ab 4)) Ey) [some (.ref 0),some (.int n),some (.tup [.int r0,.int r1]),some (.lst false (bs.map Af)),some (Af bx),some (.int kd),some (Af here),some (.int a),some (.int lo),some (.int hi),some (.lst true [Ac (lo,hi),Ac q,Ac (hi,hi+1+u),Ac (lo,lo+1+w)])] [some [.int x6,.int y,.int z7]]=some (.nx,[some (.ref 0),some (.int n),some (.tup [.int r0,.int r1]),some (.lst false (bs.map Af)),some (Af bx),some (.int kd),some (Af here),some (.int a),some (.int lo),some (.int hi),some (.lst true [Ac (lo,hi),Ac q,Ac (hi,hi+1+u),Ac (lo,lo+1+w)])],[some [.int x6,.int y,.int z7]]):=by rw[Ij tg];rfl
   refine⟨here.take a.toNat++p::here.drop (a.toNat+1),x6,z7,go _ _ [some (.ref 0),some (.int n),some (.tup [.int r0,.int r1]),some (.lst false (bs.map Af)),some (Af bx),some (.int kd),some (Af here),some (.int a),some (.int lo),some (.int hi),some (.lst true [Ac (lo,hi),Ac q,Ac (hi,hi+1+u),Ac (lo,lo+1+w)])] _ x6 z7 rfl rfl ?_,by simp;omega,fun r hr=>?_,by omega,by omega⟩
   .rw[BR s8,Ci,sS hel hn a0 a1 p _ _ _ _ _ _ _ _ _ _ (fp _)];rfl
   .have old:∀r∈here,InR r0 r1 (k+1) r:=fun r hr=>by
     obtain⟨g1,g2,g3,g4⟩:=heb r hr
     exact⟨g1,g2,g3,by omega⟩
    rcases U2c.mp hr with z|z
    .exact old r (List.mem_of_mem_take z)
    .rcases U0t.mp z with z|z
     .rw[z];exact⟨hp.1,hp.2.1,by omega,by omega⟩
     .exact old r (List.mem_of_mem_drop z)
end W08
end
section
namespace W08
open PySem L2 VS
theorem nj(x y z r0 r1:Int)(n k:Nat)(h0:1<=n)(hn:n<=3)(q0:-1000000000<=r0)(q1:0<r1)(q2:r0+r1<=1000000000)(bs:List (List St2))(hl:bs.length<=100)(hb:∀b∈bs,b.length=n/\InB r0 r1 k b)(z0:0<=z)(z1:z<10000000)(e3 e4 e6:Option D):∃(b:List St2)(x' z':Int),(b.length=n/\InB r0 r1 (k+1) b)/\(z<=z'/\z'<=z+11) /\
  Kz [some (.ref 0),some (.int n),some (.tup [.int r0,.int r1]),e3,e4,some (.ref 1),e6] [some [.int x,.int y,.int z],some (bs.map Af)]=some (.nx,[some (.ref 0),some (.int n),some (.tup [.int r0,.int r1]),e3,e4,some (.ref 1),e6],[some [.int x',.int y,.int z'],some ((bs++[b]).map Af)]):=by
 obtain⟨b,x',z',e,bl,bi,k1,k2⟩:=xJ x y z r0 r1 n k h0 hn q0 q1 q2 bs (by omega) hb z0 (by omega)
 refine⟨b,x',z',⟨bl,bi⟩,⟨k1,k2⟩,?_⟩
 have hd:CZ 0 [none,some (bs.map Af)] [.int n,.tup [.int r0,.int r1],.ref 1]=some [.int n,.tup [.int r0,.int r1],.lst true (bs.map Af)]:=by
  have hp:=Br (DG bs)
  simp[CZ,den,hp]
 have ha:Bk [.int n,.tup [.int r0,.int r1],.lst true (bs.map Af)]=[.int n,.tup [.int r0,.int r1],.lst false (bs.map Af)]:=by
  have:=Gw (DG bs)
  simp[Bk,age]
 have hnew:newD (Af b)=true:=QB (Ig b)
 have c1:Bv GK (Aa (Ab 0) (Aa (Ab 1) (Aa (Ab 2) (Aa (Ab 5) Ag)))) [some (.ref 0),some (.int n),some (.tup [.int r0,.int r1]),e3,e4,some (.ref 1),e6] [some [.int x,.int y,.int z],some (bs.map Af)]=some (Af b,[some [.int x',.int y,.int z'],some (bs.map Af)]):=by
  have a:Aa (Ab 0) (Aa (Ab 1) (Aa (Ab 2) (Aa (Ab 5) Ag))) [some (.ref 0),some (.int n),some (.tup [.int r0,.int r1]),e3,e4,some (.ref 1),e6] [some [.int x,.int y,.int z],some (bs.map Af)]=some ([.ref 0,.int n,.tup [.int r0,.int r1],.ref 1],[some [.int x,.int y,.int z],some (bs.map Af)]):=rfl
  rw[Wj,a]
  show((CZ 0 [none,some (bs.map Af)] [.int n,.tup [.int r0,.int r1],.ref 1]).bind fun ds=>(GK [x,y,z] (Bk ds)).bind fun r=>if (Ax [.int n,.tup [.int r0,.int r1],.ref 1]||newD r.1)=true then some (r.1,[some (r.2.map D.int),some (bs.map Af)]) else none)=_
  rw[hd,U0b,ha,e,U0b,hnew,Bool.or_true]
  rfl
 unfold Kz
 rw[KN,Mx (d:=.ref 1) (cs:=bs.map Af) (ds:=[Af b]) (r:=.non) (S1:=[some [.int x,.int y,.int z],some (bs.map Af)]) (S2:=[some [.int x',.int y,.int z'],some (bs.map Af)]) (S3:=[some [.int x',.int y,.int z'],some ((bs++[b]).map Af)]) rfl rfl (by rw[Ao,c1];rfl) (by
  show(if (bs.map Af).length<1000000 then some (D.non,[some [.int x',.int y,.int z'],some (bs.map Af++[Af b])]) else none)=_
  rw[if_pos (by rw[U0i];omega),U1p]
  rfl)]
 rfl
theorem ni(x y z r0 r1:Int)(n most:Nat)(h0:1<=n)(hn:n<=3)(hm:most<=20)(h3:3<=most)(q0:-1000000000<=r0)(q1:0<r1)(q2:r0+r1<=1000000000)(z0:0<=z)(z1:z<1000000):∃(bs:List (List St2))(x' z':Int),
  G4 [x,y,z] [.int n,.tup [.int r0,.int r1],.int most]=some (.lst true (bs.map Af),[x',y,z'])/\bs.length<=most/\(∀b∈bs,b.length=n/\InB r0 r1 most b)/\z<=z'/\z'<=z+300:=by
 obtain⟨a,x1,z2,d1,⟨a0,a1⟩,k1,k2⟩:=IW x y z 4 (by decide) (by decide) z0 (by omega)
 obtain⟨b,x2,z3,d2,⟨b0,b1⟩,k3,k4⟩:=IW x1 y z2 ((most:Int)+1) (by omega) (by omega) (by omega) (by omega)
 obtain⟨c,x3,z4,d3,⟨c0,c1⟩,k5,k6⟩:=IW x2 y z3 3 (by decide) (by decide) (by omega) (by omega)
 obtain⟨m,f1,hmm⟩:∃m:Nat,atI [D.int a,D.int b,D.int most] c=some (.int m)/\m<=most:=by
  have:c=0∨c=1∨c=2:=by omega
  rcases this with rfl|rfl|rfl
  .exact⟨a.toNat,by rw[show((a.toNat:Nat):Int)=a by omega];rfl,by omega⟩
  .exact⟨b.toNat,by rw[show((b.toNat:Nat):Int)=b by omega];rfl,by omega⟩
  .exact⟨most,rfl,U0u _⟩
 have s1:(Bo 4 (eOp oIx (Bq (Aa (Bv Av (Aa (Ab 0) (Aa (eC (.int 4)) Ag))) (Aa (Bv Av (Aa (Ab 0) (Aa (eOp Bx (Ab 3) (eC (.int 1))) Ag))) (Aa (Ab 3) Ag)))) (Bv Av (Aa (Ab 0) (Aa (eC (.int 3)) Ag))))) [some (.ref 0),some (.int n),some (.tup [.int r0,.int r1]),some (.int most),none,none,none] [some [.int x,.int y,.int z]]=some (.nx,[some (.ref 0),some (.int n),some (.tup [.int r0,.int r1]),some (.int most),some (.int m),none,none],[some [.int x3,.int y,.int z4]]):=by
  have o1:Bv Av (Aa (Ab 0) (Aa (eC (.int 4)) Ag)) [some (.ref 0),some (.int n),some (.tup [.int r0,.int r1]),some (.int most),none,none,none] [some [.int x,.int y,.int z]]=some (.int a,[some [.int x1,.int y,.int z2]]):=Ia d1 rfl rfl
  have o2:Bv Av (Aa (Ab 0) (Aa (eOp Bx (Ab 3) (eC (.int 1))) Ag)) [some (.ref 0),some (.int n),some (.tup [.int r0,.int r1]),some (.int most),none,none,none] [some [.int x1,.int y,.int z2]]=some (.int b,[some [.int x2,.int y,.int z3]]):=Ia d2 rfl rfl
  have o3:Bv Av (Aa (Ab 0) (Aa (eC (.int 3)) Ag)) [some (.ref 0),some (.int n),some (.tup [.int r0,.int r1]),some (.int most),none,none,none] [some [.int x2,.int y,.int z3]]=some (.int c,[some [.int x3,.int y,.int z4]]):=Ia d3 rfl rfl
  have o4:Bq (Aa (Bv Av (Aa (Ab 0) (Aa (eC (.int 4)) Ag))) (Aa (Bv Av (Aa (Ab 0) (Aa (eOp Bx (Ab 3) (eC (.int 1))) Ag))) (Aa (Ab 3) Ag))) [some (.ref 0),some (.int n),some (.tup [.int r0,.int r1]),some (.int most),none,none,none] [some [.int x,.int y,.int z]]=some (.lst true [.int a,.int b,.int most],[some [.int x2,.int y,.int z3]]):=by
   rw[Dd,Ao,o1,U0b,Ao,o2];rfl
  rw[Cg,BL,o4,U0b,o3,U0b]
  show(U17 _ (atI [D.int a,D.int b,D.int most] c)).bind _=_
  rw[f1];rfl
 have s2:(Bo 5 (Ly Ag)) [some (.ref 0),some (.int n),some (.tup [.int r0,.int r1]),some (.int most),some (.int m),none,none] [some [.int x3,.int y,.int z4]]=some (.nx,[some (.ref 0),some (.int n),some (.tup [.int r0,.int r1]),some (.int most),some (.int m),some (.ref 1),none],[some [.int x3,.int y,.int z4],some []]):=rfl
 have e:Jb (Aa (Ab 4) Ag) [some (.ref 0),some (.int n),some (.tup [.int r0,.int r1]),some (.int most),some (.int m),some (.ref 1),none] [some [.int x3,.int y,.int z4],some []]=some ((upD 0 m,[]),[some [.int x3,.int y,.int z4],some []]):=Xl _ rfl (by simp) (by omega) (by omega)
 obtain⟨env',S',e5,bs,x',z',y6,he,hS,hl,hb,k7,k8⟩:=G8 (w:=[]) (g:=Pat.sem (.nm 6)) (b:=Kz) (ds:=upD 0 m) (env:=[some (.ref 0),some (.int n),some (.tup [.int r0,.int r1]),some (.int most),some (.int m),some (.ref 1),none]) (S:=[some [.int x3,.int y,.int z4],some []])
  (fun i env S=>∃(bs:List (List St2))(x' z':Int)(y6:Option D),env=[some (.ref 0),some (.int n),some (.tup [.int r0,.int r1]),some (.int most),some (.int m),some (.ref 1),y6]/\S=[some [.int x',.int y,.int z'],some (bs.map Af)]/\bs.length=min i m/\(∀b∈bs,b.length=n/\InB r0 r1 (min i m) b)/\z4<=z'/\z'<=z4+11*(min i m:Nat))
  ⟨[],x3,z4,none,rfl,rfl,by simp,(fun b h=>by cases h),by omega,by simp⟩ (fun i env S _=>by simp) (fun i d env S hd q=>by
   obtain⟨bs,x',z',y6,he,hS,hl,hb,k7,k8⟩:=q
   obtain⟨hi,rfl⟩:=aU hd
   have hmi:min i m=i:=by omega
   rw[hmi] at hl hb k8
   subst he hS
   obtain⟨b,x5,z5,hb5,⟨k9,k10⟩,e6⟩:=nj x' y z' r0 r1 n i h0 hn q0 q1 q2 bs (by omega) hb (by omega) (by omega) (some (.int most)) (some (.int m)) (some (.int (0+i)))
   have hmi2:min (i+1) m=i+1:=by omega
   refine⟨_,Dy _ _ _,_,_,e6,bs++[b],x5,z5,_,rfl,rfl,by simp;omega,?_,by omega,by rw[hmi2];omega⟩
   rw[hmi2]
   intro c hc
   rcases U2c.mp hc with h|h
   .refine⟨(hb c h).1,fun p hp=>?_⟩
    obtain⟨g1,g2,g3,g4⟩:=(hb c h).2 p hp
    exact⟨g1,g2,g3,by omega⟩
   .rw[U01.mp h];exact hb5)
 rw[Rj,Nat.min_self] at hl hb k8
 subst he hS
 have l1:O1 [some (.ref 0),some (.int n),some (.tup [.int r0,.int r1]),some (.int most),some (.int m),some (.ref 1),none] [some [.int x3,.int y,.int z4],some []]=some (.nx,[some (.ref 0),some (.int n),some (.tup [.int r0,.int r1]),some (.int most),some (.int m),some (.ref 1),y6],[some [.int x',.int y,.int z'],some (bs.map Af)]):=by
  unfold O1
  rw[HJ,e]
  exact e5
 refine⟨bs,x',z',?_,by omega,fun b h=>⟨(hb b h).1,fun p hp=>?_⟩,by omega,by omega⟩
 .unfold G4
  rw[La]
  simp only[U0g,U1a,U0j,U1j,U1w,U1x,U0q,U09,U15,U1n,if_true]
  unfold T4
  rw[BR s1,BR s2,BR l1]
  have hp:=Br (DG bs)
  simp[Ci,BJ,intsOf,den,-U0e,-U0f,hp]
 .obtain⟨g1,g2,g3,g4⟩:=(hb b h).2 p hp
  exact⟨g1,g2,g3,by omega⟩
end W08
end
section
namespace W08
open PySem L2 VS
theorem iu{n:Nat}{bs:List (List St2)}(g:Good n bs):Wide bs (-1000000000) 2000000000 0 n (U0k bs.length):=fun i hi v _ hv=>by
 have h:=U3.mp hi
 have hb:=g.box bs[i] (U3k h)
 have h2:v<bs[i].length:=by rw[hb.1];omega
 have e0:bs.getD i []=bs[i]:=by rw[U0r,U0n h];rfl
 have e:at1 bs i v=bs[i][v]:=by
  rw[at1,e0,U0r,U0n h2];rfl
 have:=hb.2 bs[i][v] (U3k h2)
 rw[e]
 omega
theorem Yu{bs:List (List St2)}{A:Int}{N:Nat}:∀(k w:Nat)(ns:List Nat),Wide bs A N w k ns->∀c∈Bf bs k w ns,(∀p∈c.1,p.1<p.2/\A<=p.1/\p.2<=A+N)/\1<=c.2.length/\c.2.length<=ns.length
 |0,w,ns,_,c,h=>by
  rw[Bf] at h
  split at h
  .simp at h
  .rename_i hn
   have:c=([],ns):=by simpa using h
   rw[this]
   exact⟨fun p hp=>by simp at hp,U39.mpr hn,U0u _⟩
 |k+1,w,ns,hw,c,h=>by
  rw[Bf] at h
  split at h
  .simp at h
  .obtain⟨p,h1,h2⟩:=List.mem_flatMap.mp h
   obtain⟨d,h3,rfl⟩:=U1v.mp h2
   obtain⟨q1,q2,q3⟩:=Yu k (w+1) _ (hw.sub fun i hi=>(U3e.mp hi).1) d h3
   obtain⟨s1,s2,s3,_⟩:=Oc (Mg _) p h1
   refine⟨fun p' hp=>?_,q2,U1c q3 (U31 ..)⟩
   rcases U0t.mp hp with z|z
   .rw[z];exact⟨s1,(T5 hw _ s2).1,(T5 hw _ s3).2⟩
   .exact q1 p' z
def ud(k:Nat)(cs:List (List St2×List Nat)):Prop:=∀c∈cs,(∀p∈c.1,p.1<p.2/\-1000000000<=p.1/\p.2<=1000000000)/\1<=c.2.length/\c.2.length<=k
theorem Ko{n:Nat}{bs:List (List St2)}(g:Good n bs):ud bs.length (Bf bs n 0 (U0k bs.length)):=fun c hc=>by
 obtain⟨h1,h2,h3⟩:=Yu n 0 _ (iu g) c hc
 exact⟨fun p hp=>by have:=h1 p hp;omega,h2,by simpa using h3⟩
def maxLen(cs:List (List St2×List Nat)):Nat:=((Lx (cs.map fun c=>(c.2.length:Int))).getD 0).toNat
theorem R8(cs:List (List St2×List Nat)):(∀c∈cs,c.2.length<=maxLen cs)/\(maxLen cs=0∨∃c∈cs,c.2.length=maxLen cs)/\(Lx (cs.map fun c=>(c.2.length:Int))).getD 0=maxLen cs:=by
 unfold maxLen
 cases h:Lx (cs.map fun c=>(c.2.length:Int)) with
 |none =>
  have:cs=[]:=by
   cases cs with
   |nil=>rfl
   |cons a r=>simp[Lx] at h
  subst this
  exact⟨(fun c hc=>by cases hc),.inl rfl,rfl⟩
 |some m =>
  obtain⟨g1,g2⟩:=bG h
  obtain⟨c,hc,e⟩:=U1v.mp g1
  refine⟨fun d hd=>?_,.inr ⟨c,hc,?_⟩,?_⟩
  .have:=g2 _ (U6u (f:=fun c:List St2×List Nat=>(c.2.length:Int)) hd)
   show d.2.length<=m.toNat
   omega
  .show c.2.length=m.toNat
   omega
  .show m=(m.toNat:Int)
   omega
theorem sU{acc:List Int}{i:Nat}(hi:i<acc.length):atI (acc.map D.int) (i:Int)=some (.int (acc.getD i 0)):=by
 refine Le ?_
 rw[U0z,U0n hi,U0r,U0n hi];rfl
theorem jo(C:D)(acc:List Int)(c:List St2×List Nat)(hc:∀p∈c.1,p.1<p.2/\-1000000000<=p.1/\p.2<=1000000000)(h1:1<=c.2.length)(h2:c.2.length<=acc.length)(z4:Option D) :
  Hx [some C,some (.ref 0),some (Af c.1),some (CT false c.2),z4] [some (acc.map .int)]=some (.nx,[some C,some (.ref 0),some (Af c.1),some (CT false c.2),some (.int c.2.length)],[some ((Cm acc c).map .int)]):=by
 have s1:(Bo 4 (eCB Ed (Aa (Ab 3) Ag))) [some C,some (.ref 0),some (Af c.1),some (CT false c.2),z4] [some (acc.map .int)]=some (.nx,[some C,some (.ref 0),some (Af c.1),some (CT false c.2),some (.int c.2.length)],[some (acc.map .int)]):=by
  simp[Cg,BJ,CV,Ao,FN,Ed,VS.listOf,Cu,-U0e,-U0f,CT]
 have hs:=aH c.1 hc
 rw[pO] at hs
 have hi:c.2.length-1<acc.length:=by omega
 have e1:((c.2.length:Int)-1)=((c.2.length-1:Nat):Int):=by omega
 have i0:eOp Gj (Ab 4) (eC (.int 1)) [some C,some (.ref 0),some (Af c.1),some (CT false c.2),some (.int c.2.length)] [some (acc.map .int)]=some (.int (c.2.length-1:Nat),[some (acc.map .int)]):=by
  rw[←e1];rfl
 have v1:Ab 1 [some C,some (.ref 0),some (Af c.1),some (CT false c.2),some (.int c.2.length)] [some (acc.map .int)]=some (.ref 0,[some (acc.map .int)]):=rfl
 have i1:eOp oIx (Ab 1) (eOp Gj (Ab 4) (eC (.int 1))) [some C,some (.ref 0),some (Af c.1),some (CT false c.2),some (.int c.2.length)] [some (acc.map .int)]=some (.int (acc.getD (c.2.length-1) 0),[some (acc.map .int)]):=by
  rw[BL,v1,U0b,i0,U0b]
  show U17 _ (atI (acc.map D.int) ((c.2.length-1:Nat):Int))=_
  rw[sU hi];rfl
 have c1:Aw Hg (Aa (Ab 2) Ag) [some C,some (.ref 0),some (Af c.1),some (CT false c.2),some (.int c.2.length)] [some (acc.map .int)]=some (.int (G6 c.1),[some (acc.map .int)]) :=
  Cr (ds:=[Af c.1]) (es:=[Af c.1]) rfl (by simp[Ax,WQ]) (by simp[Bk]) hs
 unfold Hx
 rw[BR s1,KR,BL,i1,U0b,c1,U0b]
 simp only[Bx,Option.map_some,U0b]
 rw[v1,U0b,i0,U0b]
 show(ixN (acc.map D.int).length ((c.2.length-1:Nat):Int)).bind _=_
 rw[U0i,N5 hi]
 show some (Fl.nx,_,[some ((acc.map D.int).set (c.2.length-1) (.int (acc.getD (c.2.length-1) 0+G6 c.1)))])=_
 rw[←List.map_set];rfl
theorem YS(n:Nat):(U0h n [D.int 0]).flatten=(U0h n (0:Int)).map D.int:=by
 rw[List.map_replicate]
 induction n with
 |zero=>rfl
 |succ n ih=>rw[U0q,U34,ih,U0q];rfl
theorem e63:((2^63:Nat):Int)=(2:Int)^63:=(Int.natCast_pow 2 63).trans (congrArg (fun z:Int=>z^63) (show((2:Nat):Int)=2 from rfl))
theorem vG{n:Nat}(hn:n<=1000):n<2^63:=U3z hn (by decide)
theorem vD{n:Nat}(hn:n<=1000):(n:Int)<(2:Int)^63:=by rw[←e63];exact Int.ofNat_lt.mpr (vG hn)
theorem vC{n:Nat}:-(2:Int)^63<=(n:Int):=by rw[←e63];exact Int.le_trans (Int.neg_nonpos_of_nonneg (Int.natCast_nonneg _)) (Int.natCast_nonneg _)
theorem yQ{n:Nat}{ds:List D}{r:Option (D×Store)}(hl:ds.length*n<=1000000)(hn:n<=1000):(if -(2^63)<=(n:Int)/\(n:Int)<2^63/\ds.length*(n:Int).toNat<=1000000 then r else none)=r:=if_pos ⟨vC,vD hn,by rw[U2z];exact hl⟩
theorem fB{a b:Az}{env:VS.Env}{S S1 S2:Store}{n:Nat}{ds:List D}{d:D}(ha:a env S=some (d,S1))(hd:VS.listOf S2 d=some ds)(hb:b env S1=some (.int n,S2))(hl:ds.length*n<=1000000)(hn:n<=1000):Py a b env S=some (.ref S2.length,S2++[some (U0h n ds).flatten]):=by
 rw[nJ,ha,U0b,hb,U0b]
 show(VS.listOf S2 d).bind _=_
 rw[hd,U0b,yQ hl hn,U2z]
theorem Wv:∀cs:List (List St2×List Nat),Bk (cs.map encC)=cs.map encC
 |[]=>by rw[U1j,Bk]
 |c::r=>by rw[U0j,Bk,nu,Wv r]
theorem jm(cs:List (List St2×List Nat))(hl:cs.length<=100000)(e1 e2 e3 e4:Option D)(S:Store):Gs [some (.lst false (cs.map encC)),e1,e2,e3,e4] S=some ((cs.map fun c=>(c.2.length:Int)).map .int,S):=by
 have e:Dt (Ab 0) [some (.lst false (cs.map encC)),e1,e2,e3,e4] S=some ((cs.map encC,[]),S):=rfl
 unfold Gs Ej
 rw[e]
 simp only[U0b]
 rw[KQ (by simp) encC (fun c=>.int c.2.length) cs (by omega),U0e]
 .rfl
 .intro c hc
  exact⟨[some (Af c.1),some (CT false c.2)],by simp[J8,Dy,GR,En,Ec,U0q,-U0e,-U0f,encC],by simp[BJ,CV,Ao,FN,Ed,VS.listOf,Cu,-U0e,-U0f,CT]⟩
theorem jk(cs:List (List St2×List Nat))(k:Nat)(hk:k<=20)(hl:cs.length<=100000)(hf:ud k cs):Ep [.lst false (cs.map encC)]=some (.lst true ((cs.foldl Cm (U0h (maxLen cs) 0)).map .int)):=by
 obtain⟨m1,m2,m3⟩:=R8 cs
 have mk:maxLen cs<=20:=by
  rcases m2 with h|⟨c,hc,h⟩
  .omega
  .have:=(hf c hc).2.2;omega
 have c1:=jm cs hl none none none none []
 have t1:Uj 0 (Bq Gs) [some (.lst false (cs.map encC)),none,none,none,none] []=some (.int (maxLen cs),[]):=by
  rw[nO,Dd,c1]
  show((intsOf ((cs.map fun c=>(c.2.length:Int)).map D.int)).map _)=_
  rw[Mj]
  show some (D.int ((Lx (cs.map fun c=>(c.2.length:Int))).getD 0),([]:Store))=_
  rw[m3]
 have t2:(Bq (Aa (eC (.int 0)) Ag)) [some (.lst false (cs.map encC)),none,none,none,none] []=some (.lst true [.int 0],[]):=rfl
 have s1:(Bo 1 (Py (Bq (Aa (eC (.int 0)) Ag)) (Uj 0 (Bq Gs)))) [some (.lst false (cs.map encC)),none,none,none,none] []=some (.nx,[some (.lst false (cs.map encC)),some (.ref 0),none,none,none],[some ((U0h (maxLen cs) (0:Int)).map .int)]):=by
  rw[Cg,fB t2 rfl t1 (by simp;omega) (by omega),YS]
  rfl
 have l1:∃z2 z3 z4,Jp [some (.lst false (cs.map encC)),some (.ref 0),none,none,none] [some ((U0h (maxLen cs) (0:Int)).map .int)]=some (.nx,[some (.lst false (cs.map encC)),some (.ref 0),z2,z3,z4],[some ((cs.foldl Cm (U0h (maxLen cs) 0)).map .int)]):=by
  have e:Dt (Ab 0) [some (.lst false (cs.map encC)),some (.ref 0),none,none,none] [some ((U0h (maxLen cs) (0:Int)).map .int)]=some ((cs.map encC,[]),[some ((U0h (maxLen cs) (0:Int)).map .int)]):=rfl
  unfold Jp
  rw[HJ,e]
  obtain⟨env',S',e2,z2,z3,z4,he,hS⟩:=G8 (w:=[]) (g:=Pat.sem (.tp [(.nm 2),(.nm 3)])) (b:=Hx) (ds:=cs.map encC) (env:=[some (.lst false (cs.map encC)),some (.ref 0),none,none,none]) (S:=[some ((U0h (maxLen cs) (0:Int)).map .int)])
   (fun i env S=>∃z2 z3 z4,env=[some (.lst false (cs.map encC)),some (.ref 0),z2,z3,z4]/\S=[some (((cs.take i).foldl Cm (U0h (maxLen cs) 0)).map .int)])
   ⟨none,none,none,rfl,rfl⟩ (fun i env S _=>by simp) (fun i d env S hd q=>by
    obtain⟨z2,z3,z4,he,hS⟩:=q
    subst he hS
    rw[U0z] at hd
    obtain⟨c,hc,rfl⟩:=U1y.mp hd
    have hm:=U1h hc
    obtain⟨q1,q2,_⟩:=hf c hm
    refine⟨[some (.lst false (cs.map encC)),some (.ref 0),some (Af c.1),some (CT false c.2),z4],by simp[Dy,GR,En,Ec,-U0e,-U0f,encC],_,_,jo _ _ c q1 q2 (by rw[JF,U1e];exact m1 c hm) z4,_,_,_,rfl,?_⟩
    rw[U3q,hc,U32,U36]
    rfl)
  subst he hS
  refine⟨z2,z3,z4,e2.trans ?_⟩
  have:(cs.map encC).length=cs.length:=by simp
  rw[this,U29]
 obtain⟨z2,z3,z4,l1⟩:=l1
 unfold Ep
 rw[DW]
 simp only[U0g,U1a,U0j,U1j,U1w,U1x,U0q,U09,U15,U1n,if_true]
 unfold O6
 rw[BR s1,BR l1]
 generalize cs.foldl Cm (U0h (maxLen cs) 0)=l
 simp[Ci,BJ,den,-U0e,-U0f]
end W08
end
section
namespace W08
open PySem L2 VS
theorem ZM{n:Nat}{bs:List (List St2)}(g:Good n bs):Eh [Al false n bs,.int n]=some .non:=by
 have h1:=ZP (m:=false) g
 have s1:(Gv (Aw Gk (Aa (Ab 0) Ag))) [some (Al false n bs),some (.int n)] []=some (.nx,[some (Al false n bs),some (.int n)],[]):=by
  rw[KN,Cr (ds:=[Al false n bs]) (es:=[Al false n bs]) (S':=[]) rfl (by simp[Ax,Ba,Al]) (by simp[Bk,age,Al]) h1];rfl
 have t2:Bb (eOp (oEq true) (eOp oIx (Ab 0) (eC (.int 0))) (Ab 1)) [some (Al false n bs),some (.int n)] []=some (false,[]):=by
  simp[BJ,Ea,BL,Dk,oEq,oIx,VS.listOf,Cu,-U0e,-U0f,Al]
 unfold Eh
 rw[DW]
 simp only[U0g,U1a,U0j,U1j,U1w,U1x,U09,U2u,if_true]
 unfold Sq
 rw[BR s1,Ij t2];rfl
theorem Xn{n:Nat}{bs:List (List St2)}(g:Good n bs){r:VS.Env}{a:Az}(h0:r[0]?=some (some (Al false n bs)))(ha:a r []=some (.int n,[])):(Gv (Aw Eh (Aa (Ab 0) (Aa a Ag)))) r []=some (.nx,r,[]):=by
 rw[KN,Cr (ds:=[Al false n bs,.int n]) (es:=[Al false n bs,.int n]) (S':=[]) (by simp[Ao,CV,BJ,h0,ha]) (by simp[Ax,Ba,Al]) (by simp[Bk,age,Al]) (ZM g)];rfl
end W08
end
section
namespace W08
open PySem L2 VS
theorem Yi{n:Nat}:ixN (n+1) (-1)=some n:=by
 unfold ixN
 rw[if_neg (by omega),if_pos (by omega)]
 congr 1
 omega
theorem QJ{α:Type}(l:List α)(a:α):atI (l++[a]) (-1)=some a:=by
 unfold atI
 rw[U0s,U0g,U1a,Yi,U0b]
 simp
theorem fj{b:List St2}{w:Nat}(h:w<b.length):atI (b.map Ac) (w:Int)=some (Ac (b.getD w (0,0))):=by
 refine Le ?_
 rw[U0z,U0n h,U0r,U0n h];rfl
end W08
end
section
namespace W08
open PySem L2 VS
theorem qt{r:VS.Env}{L:List D}{d:D}(h1:r[1]?=some (some (.ref 0))):eOp oIx (Ab 1) (eUn Fi (eC (.int 1))) r [some (L++[d])]=some (d,[some (L++[d])]):=by
 have v1:Ab 1 r [some (L++[d])]=some (.ref 0,[some (L++[d])]):=by simp[BJ,h1]
 rw[BL,v1,U0b]
 show U17 _ (atI (L++[d]) (-1))=_
 rw[QJ];rfl
theorem mR{r:VS.Env}{L:List D}{d e:D}{v:Az}(h1:r[1]?=some (some (.ref 0)))(hv:v r [some (L++[d])]=some (e,[some (L++[d])])):Kf v (Ab 1) (eUn Fi (eC (.int 1))) r [some (L++[d])]=some (.nx,r,[some (L++[e])]):=by
 have v1:Ab 1 r [some (L++[d])]=some (.ref 0,[some (L++[d])]):=by simp[BJ,h1]
 rw[KR,hv,U0b,v1,U0b]
 show(ixN (L++[d]).length (-1)).bind _=_
 rw[U0s,U0g,U1a,Yi]
 show some (Fl.nx,r,[some ((L++[d]).set L.length e)])=_
 rw[List.set_append_right _ _ (U0u _)];simp
theorem Xz{r:VS.Env}{L:List D}{d:D}{a:Az}{j:Nat}(h1:r[j]?=some (some (.ref 0)))(ha:a r [some L]=some (d,[some L]))(hl:L.length<1000000):Gv (FJ Ew (Ab j) (Aa a Ag)) r [some L]=some (.nx,r,[some (L++[d])]):=by
 rw[KN,Mx (d:=.ref 0) (cs:=L) (ds:=[d]) (r:=.non) (S1:=[some L]) (S2:=[some L]) (S3:=[some (L++[d])]) (by simp[BJ,h1]) rfl (by rw[Ao,ha];rfl) (by
  show(if L.length<1000000 then some (D.non,[some (L++[d])]) else none)=_
  rw[if_pos hl])]
 rfl
theorem wG{r:VS.Env}{L:List D}(h1:r[1]?=some (some (.ref 0))):Bb (eOp oGt (eCB Ed (Aa (Ab 1) Ag)) (eC (.int 0))) r [some L]=some (decide (0<(L.length:Int)),[some L]):=by
 have v1:Ab 1 r [some L]=some (.ref 0,[some L]):=by simp[BJ,h1]
 rw[Dk,BL,FN,Ao,v1]
 rfl
theorem qx(C:D)(acc:List St2)(p:St2)(hl:acc.length<1000000):Oh [some C,some (.ref 0),some (.int p.1),some (.int p.2)] [some (acc.map Ac)]=some (.nx,[some C,some (.ref 0),some (.int p.1),some (.int p.2)],[some ((Bg acc p).map Ac)]):=by
 have a1:∀S,(Cz (Aa (Ab 2) (Aa (Ab 3) Ag))) [some C,some (.ref 0),some (.int p.1),some (.int p.2)] S=some (Ac p,S):=fun S=>rfl
 have add:=Xz (r:=[some C,some (.ref 0),some (.int p.1),some (.int p.2)]) (j:=1) rfl (a1 [some (acc.map Ac)]) (by rw[U0i];exact hl)
 have lg:=wG (r:=[some C,some (.ref 0),some (.int p.1),some (.int p.2)]) (L:=acc.map Ac) rfl
 unfold Oh
 rcases U4h acc with rfl|⟨l,q,rfl⟩
 .rw[Ij (by rw[Pa,lg];rfl),add];rfl
 .rw[U4i] at *
  rw[U1p] at *
  have la:=qt (r:=[some C,some (.ref 0),some (.int p.1),some (.int p.2)]) (L:=l.map Ac) (d:=Ac q) rfl
  have t2:Bb (eOp (oEq false) (eOp oIx (eOp oIx (Ab 1) (eUn Fi (eC (.int 1)))) (eC (.int 1))) (Ab 2)) [some C,some (.ref 0),some (.int p.1),some (.int p.2)] [some (l.map Ac++[Ac q])]=some (decide (q.2=p.1),[some (l.map Ac++[Ac q])]):=by
   rw[Dk,BL,BL,la]
   simp[BJ,Ea,oEq,oIx,VS.listOf,Cu,-U0e,-U0f,Ac]
  have t1:LQ (Bb (eOp oGt (eCB Ed (Aa (Ab 1) Ag)) (eC (.int 0)))) (Bb (eOp (oEq false) (eOp oIx (eOp oIx (Ab 1) (eUn Fi (eC (.int 1)))) (eC (.int 1))) (Ab 2))) [some C,some (.ref 0),some (.int p.1),some (.int p.2)] [some (l.map Ac++[q].map Ac)]=some (decide (q.2=p.1),[some (l.map Ac++[q].map Ac)]):=by
   rw[Pa,lg,decide_eq_true (by simp)]
   exact t2
  have v1:(Cz (Aa (eOp oIx (eOp oIx (Ab 1) (eUn Fi (eC (.int 1)))) (eC (.int 0))) (Aa (Ab 3) Ag))) [some C,some (.ref 0),some (.int p.1),some (.int p.2)] [some (l.map Ac++[Ac q])]=some (Ac (q.1,p.2),[some (l.map Ac++[Ac q])]):=by
   rw[HN,Ao,BL,la]
   simp[BJ,Ea,CV,Ao,oIx,VS.listOf,Cu,-U0e,-U0f,Ac]
  unfold Bg
  rw[List.getLast?_append]
  by_cases h:q.2=p.1
  .rw[Ng (by rw[t1,decide_eq_true h])]
   show _=some (Fl.nx,_,[some ((if q.2=p.1 then (l++[q]).dropLast++[(q.1,p.2)] else l++[q]++[p]).map Ac)])
   rw[if_pos h,U4r,U1p]
   exact mR rfl v1
  .rw[Ij (by rw[t1,decide_eq_false h]),add]
   show _=some (Fl.nx,_,[some ((if q.2=p.1 then (l++[q]).dropLast++[(q.1,p.2)] else l++[q]++[p]).map Ac)])
   rw[if_neg h,U1p,U1p];rfl
theorem RX(acc:List St2)(p:St2):(Bg acc p).length<=acc.length+1:=by
 unfold Bg
 split
 .split
  .rw[U0s,List.length_dropLast];simp
  .simp
 .simp
theorem Q9:∀l:List St2,(l.foldl Bg []).length<=l.length:=by
 have:∀(l acc:List St2),(l.foldl Bg acc).length<=acc.length+l.length:=by
  intro l
  induction l with
  |nil=>intro acc;simp
  |cons p r ih=>intro acc;have:=ih (Bg acc p);have:=RX acc p;simp only[U16,U0g];omega
 intro l
 simpa using this l []
theorem Wb(l:List St2)(hl:l.length<=100000):Jc [.lst false (l.map Ac)]=some (.lst true ((l.foldl Bg []).map Ac)):=by
 have s1:(Bo 1 (Ly Ag)) [some (.lst false (l.map Ac)),none,none,none] []=some (.nx,[some (.lst false (l.map Ac)),some (.ref 0),none,none],[some []]):=rfl
 have l1:∃z2 z3,R9 [some (.lst false (l.map Ac)),some (.ref 0),none,none] [some []]=some (.nx,[some (.lst false (l.map Ac)),some (.ref 0),z2,z3],[some ((l.foldl Bg []).map Ac)]):=by
  have e:Dt (Ab 0) [some (.lst false (l.map Ac)),some (.ref 0),none,none] [some []]=some ((l.map Ac,[]),[some []]):=rfl
  unfold R9
  rw[HJ,e]
  obtain⟨env',S',e2,z2,z3,he,hS⟩:=G8 (w:=[]) (g:=Pat.sem (.tp [(.nm 2),(.nm 3)])) (b:=Oh) (ds:=l.map Ac) (env:=[some (.lst false (l.map Ac)),some (.ref 0),none,none]) (S:=[some []])
   (fun i env S=>∃z2 z3,env=[some (.lst false (l.map Ac)),some (.ref 0),z2,z3]/\S=[some (((l.take i).foldl Bg []).map Ac)])
   ⟨none,none,rfl,rfl⟩ (fun i env S _=>by simp) (fun i d env S hd q=>by
    obtain⟨z2,z3,he,hS⟩:=q
    subst he hS
    rw[U0z] at hd
    obtain⟨p,hp,rfl⟩:=U1y.mp hd
    have:=Q9 (l.take i)
    rw[U2j] at this
    refine⟨[some (.lst false (l.map Ac)),some (.ref 0),some (.int p.1),some (.int p.2)],by simp[Dy,GR,En,Ec,-U0e,-U0f,Ac],_,_,qx _ _ p (by omega),_,_,rfl,?_⟩
    rw[U3q,hp,U32,U36]
    rfl)
  subst he hS
  refine⟨z2,z3,e2.trans ?_⟩
  have:(l.map Ac).length=l.length:=by simp
  rw[this,U29]
 obtain⟨z2,z3,l1⟩:=l1
 unfold Jc
 rw[DW]
 simp only[U0g,U1a,U0j,U1j,U1w,U1x,U0q,U09,U15,U1n,if_true]
 unfold Yn
 rw[BR s1,BR l1]
 generalize l.foldl Bg []=k
 have hd:∀(n:Nat)(S:Store),CZ n S (k.map Ac)=some (k.map Ac):=fun n S=>Cp n S (Br (Dp _ fun p _=>Di p))
 have hp:Ax (k.map Ac)=true:=Br (Dp _ fun p _=>Di p)
 simp[Ci,BJ,den,-U0e,-U0f,hd,hp]
end W08
end
section
namespace W08
open PySem L2 VS
theorem gk{bs:List (List St2)}(g:Good 1 bs):Ie [some (Al false 1 bs),some (.int 1)] []=some (((Bf bs 1 0 (U0k bs.length)).map fun c=>c.1.getD 0 (0,0)).map Ac,[]):=by
 have few:=g.few
 have hl:=GJ (bs:=bs) 1 0 (U0k bs.length) (by simpa using few)
 have hf:=Ko g
 have hd:=fun c=>JN (bs:=bs) 1 0 (U0k bs.length) c
 have c2:Aw Dq (Aa (Ab 0) Ag) [some (Al false 1 bs),some (.int 1)] []=some (.lst true ((Bf bs 1 0 (U0k bs.length)).map encC),[]) :=
  Cr (ds:=[Al false 1 bs]) (es:=[Al false 1 bs]) (S':=[]) rfl (by simp[Ax,Ba,Al]) (by simp[Bk,age,Al]) (UG g)
 generalize Bf bs 1 0 (U0k bs.length)=cs at *
 have e:Dt (Aw Dq (Aa (Ab 0) Ag)) [some (Al false 1 bs),some (.int 1)] []=some ((cs.map encC,[]),[]):=by
  rw[G7,c2];rfl
 have ec:J8 2 [1] [some (Al false 1 bs),some (.int 1)]=[none,none,some (.int 1)]:=rfl
 unfold Ie Ej
 rw[e,ec]
 simp only[U0b]
 rw[N6 (by simp) encC (fun _=>true) (fun c=>Ac (c.1.getD 0 (0,0))) cs [] (by simp;omega)]
 .rw[U5t.mpr (fun _ _=>rfl),U1n,U0e];rfl
 .intro c hc
  have h1:=(hf c hc).2.1
  have h2:=hd c hc
  refine⟨[some (Af c.1),some (CT false c.2),some (.int 1)],by simp[Dy,GR,En,Ec,-U0e,-U0f,encC],?_,fun _=>?_⟩
  .simp[BJ,BL,CV,Ao,FN,Dk,oI,Hi,oGe,Ed,VS.listOf,Cu,-U0e,-U0f,CT];omega
  .show U17 _ (atI (c.1.map Ac) ((0:Nat):Int))=_
   rw[fj (by omega)];rfl
theorem WR{bs:List (List St2)}(g:Good 1 bs):Cq [Al false 1 bs]=some (.lst true ((((Bf bs 1 0 (U0k bs.length)).map fun c=>c.1.getD 0 (0,0)).foldl Bg []).map Ac)):=by
 have few:=g.few
 have hl:=GJ (bs:=bs) 1 0 (U0k bs.length) (by simpa using few)
 have c1:=gk g
 have s1:=Xn g (r:=[some (Al false 1 bs)]) (a:=eC (.int 1)) rfl rfl
 have hl2:((Bf bs 1 0 (U0k bs.length)).map fun c=>c.1.getD 0 (0,0)).length<=100000:=by rw[U0i];omega
 generalize ((Bf bs 1 0 (U0k bs.length)).map fun c=>c.1.getD 0 (0,0))=l at *
 have h3:=Wb l hl2
 have hp:∀k:List St2,Ax (k.map Ac)=true:=fun k=>Br (Dp _ fun p _=>Di p)
 have ag:∀k:List St2,Bk (k.map Ac)=k.map Ac:=fun k=>Gw (Dp _ fun p _=>Di p)
 have h4:DX [Al false 1 bs,.int 1]=some (.lst true ((l.foldl Bg []).map Ac)):=by
  unfold DX
  rw[DW]
  simp only[U0g,U1a,U0j,U1j,U1w,U1x,U09,U2u,if_true]
  unfold M6
  rw[Ci,Cr (ds:=[.lst true (l.map Ac)]) (es:=[.lst false (l.map Ac)]) (S':=[]) (by rw[Ao,Dd,c1];rfl) (by rw[Ax,Ba,hp,Ax];rfl) (by rw[Bk,age,ag,Bk]) h3]
  show den 0 _ (.lst true _)=_
  rw[den,Cp 0 _ (hp _)];rfl
 have c4:Aw DX (Aa (Ab 0) (Aa (eC (.int 1)) Ag)) [some (Al false 1 bs)] []=some (.lst true ((l.foldl Bg []).map Ac),[]) :=
  Cr (ds:=[Al false 1 bs,.int 1]) (es:=[Al false 1 bs,.int 1]) (S':=[]) rfl (by simp[Ax,Ba,Al]) (by simp[Bk,age,Al]) h4
 unfold Cq
 rw[DW]
 simp only[U0g,U1a,U0j,U1j,U1w,U1x,U09,U2u,if_true]
 unfold Sh
 rw[BR s1,Ci,c4]
 show den 0 _ (.lst true _)=_
 rw[den,Cp 0 _ (hp _)];rfl
theorem Ti:∀cs:List (List St2×List Nat),(∀c∈cs,c.1.length=1)->G5 (cs.map fun c=>c.1.getD 0 (0,0))=szs cs
 |[],_=>rfl
 |c::r,h=>by
  have ih:=Ti r fun d hd=>h d (U0p _ hd)
  have h1:=h c U0l
  obtain⟨p,hp⟩:=U5i.mp h1
  unfold G5 szs at *
  rw[U0j,U0j,U2b,ih,U0j,U2b,hp]
  show(p.2-p.1)+_=(p.2-p.1)*1+_
  rw[U6]
theorem iM{bs:List (List St2)}(g:Good 1 bs):Es [Al false 1 bs]=some (.int (szs (Bf bs 1 0 (U0k bs.length)))):=by
 have few:=g.few
 have hl:=GJ (bs:=bs) 1 0 (U0k bs.length) (by simpa using few)
 have h4:=WR g
 rw[←Ti _ (fun c hc=>JN 1 0 _ c hc)]
 have hl2:((Bf bs 1 0 (U0k bs.length)).map fun c=>c.1.getD 0 (0,0)).length<=100000:=by rw[U0i];omega
 generalize ((Bf bs 1 0 (U0k bs.length)).map fun c=>c.1.getD 0 (0,0))=l at *
 have jl:=Tp l []
 have jf:=Q9 l
 generalize l.foldl Bg []=k at *
 have c4:Aw Cq (Aa (Ab 0) Ag) [some (Al false 1 bs)] []=some (.lst true (k.map Ac),[]) :=
  Cr (ds:=[Al false 1 bs]) (es:=[Al false 1 bs]) (S':=[]) rfl (by simp[Ax,Ba,Al]) (by simp[Bk,age,Al]) h4
 have c1:Jq [some (Al false 1 bs)] []=some ((k.map fun p=>p.2-p.1).map .int,[]):=by
  have e:Dt (Aw Cq (Aa (Ab 0) Ag)) [some (Al false 1 bs)] []=some ((k.map Ac,[]),[]):=by
   rw[G7,c4];rfl
  unfold Jq Ej
  rw[e]
  simp only[U0b]
  rw[KQ (by simp) Ac (fun p=>.int (p.2-p.1)) k (by omega),U0e]
  .rfl
  .intro p hp
   exact⟨[some (.int p.1),some (.int p.2)],by simp[J8,Dy,GR,En,Ec,U0q,-U0e,-U0f,Ac],by simp[BJ,BL,oI,Hi,Gj,-U0e,-U0f]⟩
 have e0:G5 ([]:List St2)=0:=rfl
 rw[e0,U74] at jl
 unfold Es
 rw[DW]
 simp only[U0g,U1a,U0j,U1j,U1w,U1x,U09,U2u,if_true]
 unfold O7
 rw[Ci,FN,Ao,Dd,c1,←jl]
 unfold G5
 generalize (k.map fun p=>p.2-p.1)=l
 simp[CV,VS.listOf,den,-U0e,-U0f,TV]
end W08
end
section
namespace W08
open PySem L2 VS
def BK(l:List St2):List St2:=(l.zip l.tail).map fun q=>(q.1.2,q.2.1)
theorem bW(xs:List D):cut xs (some 1) none=xs.tail:=by
 cases xs with
 |nil=>rfl
 |cons x r =>
  rw[U9 (by decide) (by simp;omega)]
  rfl
theorem o7:∀a b:List St2,Dw (a.map Ac) (b.map Ac)=(a.zip b).map fun q=>D.tup [Ac q.1,Ac q.2]
 |[],_=>by simp[Dw]
 |_::_,[]=>by simp[Dw]
 |p::a,q::b=>by simp[Dw,o7 a b]
theorem Y4{m:Bool}(k:List St2)(r:VS.Env)(S:Store)(j:Nat)(h:r[j]?=some (some (.lst m (k.map Ac)))):Px (Aa (Ab j) (Aa (eSl oSl (Ab j) (Gd (eC (.int 1))) Ge) Ag)) r S=some (((k.zip k.tail).map fun q=>D.tup [Ac q.1,Ac q.2],[]),S):=by
 have v:Ab j r S=some (.lst m (k.map Ac),S):=by rw[BJ,h];rfl
 have s:eSl oSl (Ab j) (Gd (eC (.int 1))) Ge r S=some (.lst true (k.tail.map Ac),S):=by
  rw[Xv,v]
  show(some (D.lst true (cut (k.map Ac) (some 1) none),S):Option (D×Store))=_
  rw[bW,U64]
 rw[Yl,Ao,v,U0b,Ao,s,←o7]
 rfl
theorem rN(k:List St2)(hk:k.length<=100000)(H:Option D)(S:Store)(m:Bool):QX [H,some (.lst m (k.map Ac))] S=some ((BK k).map Ac,S):=by
 have e:=Y4 k [H,some (.lst m (k.map Ac))] S 1 rfl
 unfold QX Ej
 rw[e]
 simp only[U0b]
 have hz:(k.zip k.tail).length<=k.length:=by rw[U5c];omega
 rw[KQ (by simp) (fun q:St2×St2=>D.tup [Ac q.1,Ac q.2]) (fun q=>Ac (q.1.2,q.2.1)) (k.zip k.tail) (by omega)]
 .unfold BK
  rw[U0e];rfl
 .intro q hq
  exact⟨[some (Ac q.1),some (Ac q.2)],by simp[J8,Dy,GR,En,Ec,U0q,-U0e,-U0f],by simp[BJ,Ea,BL,CV,Ao,HN,oIx,VS.listOf,Cu,-U0e,-U0f,Ac]⟩
def pcs(bs:List (List St2)):List St2:=(Hh bs (U0k bs.length) 1).foldl Bg []
theorem WT{bs:List (List St2)}(g:Good 1 bs):Cq [Al false 1 bs]=some (.lst true ((pcs bs).map Ac)):=by
 have h:=WR g
 rw[Ln] at h
 exact h
theorem qU{bs:List (List St2)}(g:Good 1 bs):(pcs bs).length<=40:=by
 have few:=g.few
 have hl:=GJ (bs:=bs) 1 0 (U0k bs.length) (by simpa using few)
 have h:=Q9 (Hh bs (U0k bs.length) 1)
 rw[←Ln,U0i] at h
 unfold pcs
 rw[←Ln]
 omega
theorem rM{bs:List (List St2)}(g:Good 1 bs):Gy [Al false 1 bs]=some (.lst true ((BK (pcs bs)).map Ac)):=by
 have hf:=qU g
 have hp:∀k:List St2,Ax (k.map Ac)=true:=fun k=>Br (Dp _ fun p _=>Di p)
 have c4:Aw Cq (Aa (Ab 0) Ag) [some (Al false 1 bs),none] []=some (.lst true ((pcs bs).map Ac),[]) :=
  Cr (ds:=[Al false 1 bs]) (es:=[Al false 1 bs]) (S':=[]) rfl (by simp[Ax,Ba,Al]) (by simp[Bk,age,Al]) (WT g)
 have s1:(Bo 1 (Aw Cq (Aa (Ab 0) Ag))) [some (Al false 1 bs),none] []=some (.nx,[some (Al false 1 bs),some (.lst true ((pcs bs).map Ac))],[]):=by
  rw[Cg,c4];rfl
 unfold Gy
 rw[DW]
 simp only[U0g,U1a,U0j,U1j,U1w,U1x,U0q,U09,U15,U1n,if_true]
 unfold Wh
 rw[BR s1,Ci,Dd,rN _ (by omega)]
 show den 0 _ (.lst true _)=_
 rw[den,Cp 0 _ (hp _)];rfl
theorem Ru(ws:List Nat)(w:Nat)(xs:List PyData)(hl:xs.length<=w)(h:∀x∈xs,fit ws x=true):fit (w::ws) (.list xs)=true/\fit (w::ws) (.tuple xs)=true:=by
 have a:xs.all (fit ws)=true:=U3m.mpr h
 simp[fit,hl,a]
theorem Rn{S:Store}{d:D}{p:PyData}{ws:List Nat}(h:Ca S d=some p)(hf:fit ws p=true)(hw:ws.length<=50)(hb:bnd ws<=1000000):Fj S [d]=some (.str p.shown):=by
 obtain⟨f1,f2,f3⟩:=fU ws p hf
 show(Ca S d).bind _=_
 rw[h,U0b]
 have:(p.showable&&decide (p.depth<=60)&&decide (p.shown.length<=1000000))=true:=by
  rw[U1b,U1b]
  exact⟨⟨f1,decide_eq_true (by omega)⟩,decide_eq_true (by omega)⟩
 rw[if_pos this]
theorem zL{p:St2}(h:-10000000000<=p.1/\p.1<=10000000000/\-10000000000<=p.2/\p.2<=10000000000):fit [2] (pS p)=true:=by
 have lf:∀a:Int,-10000000000<=a->a<=10000000000->fit [] (.int a)=true:=fun a h1 h2=>decide_eq_true (by
  show a.natAbs<10^41
  exact U3z (m:=10000000000) (by omega) (by decide))
 refine(Ru [] 2 [.int p.1,.int p.2] (by simp) fun x hx=>?_).2
 rcases U0t.mp hx with z|z
 .rw[z];exact lf _ h.1 h.2.1
 .rw[U01.mp z];exact lf _ h.2.2.1 h.2.2.2
def Ri(l:List St2):Prop:=∀p∈l,-10000000000<=p.1/\p.1<=10000000000/\-10000000000<=p.2/\p.2<=10000000000
theorem Xu{l:List St2}(hl:l.length<=200)(h:Ri l):fit [200,2] (.list (l.map pS))=true:=by
 refine(Ru [2] 200 _ (by simpa using hl) fun x hx=>?_).1
 obtain⟨p,hp,rfl⟩:=U1v.mp hx
 exact zL (h p hp)
theorem Qp(S:Store)(m:Bool)(l:List St2):Ca S (.lst m (l.map Ac))=some (.list (l.map pS)):=by
 have hp:Ax (l.map Ac)=true:=Br (Dp _ fun p _=>Di p)
 have:GP (l.map Ac)=some (l.map pS):=by
  induction l with
  |nil=>rfl
  |cons p r ih=>rw[U0j,GP,Td,ih (Br (Dp _ fun p _=>Di p))];rfl
 rw[Ca,den,Cp 0 S hp]
 show toP (.lst m (l.map Ac))=_
 rw[toP,this];rfl
theorem eZ{S:Store}{i:Nat}{l:List St2}(h:S[i]?=some (some (l.map Ac))):Ca S (.ref i)=some (.list (l.map pS)):=by
 have hp:Ax (l.map Ac)=true:=Br (Dp _ fun p _=>Di p)
 have:=Qp S true l
 rw[Ca,den,Cp 0 S hp] at this
 rw[Ca,den,if_neg (by omega),h]
 show(if Ax (l.map Ac)=true then some (D.lst true (l.map Ac)) else none).bind toP=_
 rw[if_pos hp]
 exact this
end W08
end
section
namespace W08
open PySem L2 VS
theorem lA(x y z:Int)(z0:0<=z)(z1:z<10000000000):∃r0 r1 x' z':Int,Et [x,y,z] []=some (.tup [.int r0,.int r1],[x',y,z'])/\(-1000000000<=r0/\0<r1/\r0+r1<=1000000000)/\z<=z'/\z'<=z+1:=by
 obtain⟨r,x1,z2,d1,⟨a0,a1⟩,k1,k2⟩:=IW x y z 5 (by decide) (by decide) z0 (by omega)
 obtain⟨r0,r1,f1,h⟩:∃r0 r1:Int,atI [D.tup [.int 0,.int 6],.tup [.int (-3),.int 8],.tup [.int 0,.int 13],.tup [.int (-20),.int 41],.tup [.int (-1000000000),.int 2000000000]] r=some (.tup [.int r0,.int r1])/\(-1000000000<=r0/\0<r1/\r0+r1<=1000000000):=by
  have:r=0∨r=1∨r=2∨r=3∨r=4:=by omega
  rcases this with rfl|rfl|rfl|rfl|rfl
  .exact⟨0,6,rfl,by decide⟩
  .exact⟨-3,8,rfl,by decide⟩
  .exact⟨0,13,rfl,by decide⟩
  .exact⟨-20,41,rfl,by decide⟩
  .exact⟨-1000000000,2000000000,rfl,by decide⟩
 refine⟨r0,r1,x1,z2,?_,h,k1,k2⟩
 have c1:Bv Av (Aa (Ab 0) (Aa (eC (.int 5)) Ag)) [some (.ref 0)] [some [.int x,.int y,.int z]]=some (.int r,[some [.int x1,.int y,.int z2]]):=Ia d1 rfl rfl
 have q0:Bq (Aa (Cz (Aa (eC (.int 0)) (Aa (eC (.int 6)) Ag))) (Aa (Cz (Aa (eUn Fi (eC (.int 3))) (Aa (eC (.int 8)) Ag))) (Aa (Cz (Aa (eC (.int 0)) (Aa (eC (.int 13)) Ag))) (Aa (Cz (Aa (eUn Fi (eC (.int 20))) (Aa (eC (.int 41)) Ag))) (Aa (Cz (Aa (eUn Fi (eOp Hw (eC (.int 10)) (eC (.int 9)))) (Aa (eOp Hy (eC (.int 2)) (eOp Hw (eC (.int 10)) (eC (.int 9)))) Ag))) Ag))))) [some (.ref 0)] [some [.int x,.int y,.int z]]=some (.lst true [.tup [.int 0,.int 6],.tup [.int (-3),.int 8],.tup [.int 0,.int 13],.tup [.int (-20),.int 41],.tup [.int (-1000000000),.int 2000000000]],[some [.int x,.int y,.int z]]):=by simp[Ea,BL,fV,CV,Ao,Dd,HN,oI,NP,NK,Hy,Hw,Fi,VS.listOf,-U0e,-U0f]
 unfold Et
 rw[La]
 simp only[U0g,U1a,U0j,U1j,U1w,U1x,U0q,U09,U15,U1n,if_true]
 unfold Sx
 rw[Ci,BL,q0,U0b,c1,U0b]
 show((U17 _ (atI [D.tup [.int 0,.int 6],.tup [.int (-3),.int 8],.tup [.int 0,.int 13],.tup [.int (-20),.int 41],.tup [.int (-1000000000),.int 2000000000]] r)).bind _).bind _=_
 rw[f1]
 simp[intsOf,den,CZ,-U0e,-U0f]
end W08
end
section
namespace W08
open PySem L2 VS
abbrev Ah(ps:List St2):List (List St2):=ps.map fun p=>[p]
theorem Vn{ps:List St2}(hf:ps.length<=20)(h:∀p∈ps,p.1<p.2/\-1000000000<=p.1/\p.2<=1000000000):Good 1 (Ah ps) :=
 ⟨.inl rfl,by rw[U0i];exact hf,fun b hb=>by
  obtain⟨p,hp,rfl⟩:=U1v.mp hb
  exact⟨rfl,fun q hq=>by rw[U01.mp hq];exact h p hp⟩⟩
theorem Xy{ps:List St2}{i:Nat}(hi:i<ps.length):at1 (Ah ps) i 0=ps[i]:=by
 have e:(Ah ps).getD i []=[ps[i]]:=by rw[U0r,U0z,U0n hi];rfl
 rw[at1,e];rfl
theorem Tv(ps:List St2)(x:Int):(Ez (Ah ps) 0 x (U0k (Ah ps).length)).length=(ps.filter fun p=>inS p x).length:=by
 have e:ps=(U0k ps.length).map fun i=>ps.getD i (0,0):=by
  refine List.ext_getElem (by simp) fun i h1 h2=>?_
  simp[U0n h1]
 have h:(ps.filter fun p=>inS p x)=((U0k ps.length).filter fun i=>inS (ps.getD i (0,0)) x).map fun i=>ps.getD i (0,0):=by
  conv=>lhs;rw[e]
  rw[List.filter_map];rfl
 rw[h,U0i,U0i]
 unfold Ez
 congr 1
 refine U7a fun i hi=>?_
 have hl:=U3.mp hi
 rw[Xy hl,U0r,U0n hl];rfl
end W08
end
section
namespace W08
open PySem L2 VS
def Dr(p:Int×Int×Int):D:=.tup [.int p.1,.int p.2.1,.int p.2.2]
theorem rm(p:Int×Int×Int):Ck (Dr p)=true:=by simp[Dr,Ck,Ei]
theorem uY{al:List (Int×Int)}{x:Int}{j:Nat}{env:VS.Env}{S:Store}(h1:env[1]?=some (some (.dref 0)))(hj:env[j]?=some (some (.int x)))(hS:S[0]?=some (some [.dcm (encA al)])):Nh (Ab 1) (Ab j) (eC (.int 0)) env S=some (.int (Ek al x),S):=by
 have d0:dictOf S (.dref 0)=some (encA al):=by simp only[dictOf,hS]
 have v1:Ab 1 env S=some (.dref 0,S):=by rw[BJ,h1];rfl
 have v2:Ab j env S=some (.int x,S):=by rw[BJ,hj];rfl
 unfold Nh
 rw[v1]
 simp only[U0b,d0,U6z,if_true,v2,Ea]
 rw[Y9]
 unfold Ek
 cases al.find? (fun q=>decide (q.1=x)) with
 |none=>rfl
 |some q=>rfl
theorem dput{al:List (Int×Int)}{x v:Int}{j:Nat}{f:Az}{env:VS.Env}(h1:env[1]?=some (some (.dref 0)))(hj:env[j]?=some (some (.int x)))(hl:al.length<1000000)(hv:f env [some [.dcm (encA al)]]=some (.int v,[some [.dcm (encA al)]])):VS.MP f (Ab 1) (Ab j) env [some [.dcm (encA al)]]=some (.nx,env,[some [.dcm (encA (K6 al x v))]]):=by
 have v1:Ab 1 env [some [.dcm (encA al)]]=some (.dref 0,[some [.dcm (encA al)]]):=by rw[BJ,h1];rfl
 have v2:Ab j env [some [.dcm (encA al)]]=some (.int x,[some [.dcm (encA al)]]):=by rw[BJ,hj];rfl
 rw[kJ,hv,U0b,v1,U0b,v2]
 show(if (encA al).length<1000000 then some (Fl.nx,env,[some [D.dcm (putK (encA al) (.inl x) (.int v))]]) else none)=_
 rw[if_pos (by unfold encA;rw[U0i];exact hl),lD]
theorem pP(al:List (Int×Int))(x v:Int):(K6 al x v).length<=al.length+1:=by
 unfold K6
 split
 .rw[U0i];omega
 .simp
theorem jt(al:List (Int×Int))(p:St2)(hl:al.length<1000)(e0 z3 z4 e5 e6 e7:Option D):Kr [e0,some (.dref 0),some (Af [p]),z3,z4,e5,e6,e7] [some [.dcm (encA al)]]=some (.nx,[e0,some (.dref 0),some (Af [p]),some (.int p.1),some (.int p.2),e5,e6,e7],[some [.dcm (encA (Jo al p))]]):=by
 have s1:(Vc (eOp oIx (Ab 2) (eC (.int 0))) (Pat.sem (.tp [(.nm 3),(.nm 4)]))) [e0,some (.dref 0),some (Af [p]),z3,z4,e5,e6,e7] [some [.dcm (encA al)]]=some (.nx,[e0,some (.dref 0),some (Af [p]),some (.int p.1),some (.int p.2),e5,e6,e7],[some [.dcm (encA al)]]):=by
  have:eOp oIx (Ab 2) (eC (.int 0)) [e0,some (.dref 0),some (Af [p]),z3,z4,e5,e6,e7] [some [.dcm (encA al)]]=some (Ac p,[some [.dcm (encA al)]]):=rfl
  rw[au,this]
  simp[Dy,GR,En,Ec,-U0e,-U0f,Ac]
 have s2:VS.MP (eOp Bx (Nh (Ab 1) (Ab 3) (eC (.int 0))) (eC (.int 1))) (Ab 1) (Ab 3) [e0,some (.dref 0),some (Af [p]),some (.int p.1),some (.int p.2),e5,e6,e7] [some [.dcm (encA al)]]=some (.nx,[e0,some (.dref 0),some (Af [p]),some (.int p.1),some (.int p.2),e5,e6,e7],[some [.dcm (encA (K6 al p.1 (Ek al p.1+1)))]]) :=
  dput rfl rfl (by omega) (by rw[BL,uY (al:=al) (x:=p.1) rfl rfl rfl];rfl)
 have hs:=pP al p.1 (Ek al p.1+1)
 have s3:VS.MP (eOp Gj (Nh (Ab 1) (Ab 4) (eC (.int 0))) (eC (.int 1))) (Ab 1) (Ab 4) [e0,some (.dref 0),some (Af [p]),some (.int p.1),some (.int p.2),e5,e6,e7] [some [.dcm (encA (K6 al p.1 (Ek al p.1+1)))]]=some (.nx,[e0,some (.dref 0),some (Af [p]),some (.int p.1),some (.int p.2),e5,e6,e7],[some [.dcm (encA (Jo al p))]]) :=
  dput rfl rfl (by omega) (by rw[BL,uY (al:=K6 al p.1 (Ek al p.1+1)) (x:=p.2) rfl rfl rfl];rfl)
 unfold Kr
 rw[BR s1,BR s2,s3]
def swE(ps:List St2):List Int:=((ps.foldl Jo []).map (·.1)).mergeSort fun a b=>decide (a<=b)
def sw(ps:List St2):List (Int×Int×Int):=(steps (swE ps)).map fun p=>(p.1,p.2,cnt ps p.1)
theorem YK(ps:List St2):(swE ps).Pairwise (·<·):=gK (Nm ps [] .nil).1
theorem Rm(ps:List St2)(x:Int):x∈swE ps↔∃p∈ps,x=p.1∨x=p.2:=by
 unfold swE
 rw[(U3d _ _).mem_iff,(Nm ps [] .nil).2]
 simp
theorem aW(ps:List St2):(swE ps).length<=2*ps.length:=by
 unfold swE
 rw[(U3d _ _).length_eq]
 exact Vx ps
theorem eX(ps:List St2):swE ps=DP (Ah ps) 0 (U0k (Ah ps).length):=by
 refine WM (YK ps) (Mg _) fun x=>?_
 rw[Rm]
 constructor
 .rintro⟨p,hp,h⟩
  obtain⟨i,hi,rfl⟩:=U6t hp
  have:=Mq (bs:=Ah ps) (w:=0) (ns:=U0k (Ah ps).length) i (U3.mpr (by simpa using hi))
  rw[Xy hi] at this
  rcases h with h|h
  .rw[h];exact this.1
  .rw[h];exact this.2
 .intro h
  obtain⟨i,hi,h1⟩:=RK h
  have hl:i<ps.length:=by simpa using U3.mp hi
  rw[Xy hl] at h1
  exact⟨ps[i],U3k hl,h1⟩
theorem nG{al:List (Int×Int)}{x:Int}(h:x∈al.map (·.1)):J6 (encA al) (.inl x)=some (.int (Ek al x)):=by
 rw[Y9]
 unfold Ek
 obtain⟨q,hq,rfl⟩:=U1v.mp h
 cases e:al.find? (fun r=>decide (r.1=q.1)) with
 |none=>exact absurd (decide_eq_true rfl) (U60.mp e q hq)
 |some r=>rfl
theorem jr(al:List (Int×Int))(x y m:Int)(hx:x∈al.map (·.1))(acc:List (Int×Int×Int))(hl:acc.length<1000)(e0 e2 e7:Option D) :
  Kq [e0,some (.dref 0),e2,some (.int x),some (.int y),some (.ref 1),some (.int m),e7] [some [.dcm (encA al)],some (acc.map Dr)]=some (.nx,[e0,some (.dref 0),e2,some (.int x),some (.int y),some (.ref 1),some (.int (m+Ek al x)),e7],[some [.dcm (encA al)],some ((acc++[(x,y,m+Ek al x)]).map Dr)]):=by
 have g:Uk (Ab 1) (Ab 3) [e0,some (.dref 0),e2,some (.int x),some (.int y),some (.ref 1),some (.int m),e7] [some [.dcm (encA al)],some (acc.map Dr)]=some (.int (Ek al x),[some [.dcm (encA al)],some (acc.map Dr)]):=by
  rw[nP]
  show((J6 (encA al) (.inl x)).bind _)=_
  rw[nG hx];rfl
 have s1:(Bo 6 (eOp Bx (Ab 6) (Uk (Ab 1) (Ab 3)))) [e0,some (.dref 0),e2,some (.int x),some (.int y),some (.ref 1),some (.int m),e7] [some [.dcm (encA al)],some (acc.map Dr)]=some (.nx,[e0,some (.dref 0),e2,some (.int x),some (.int y),some (.ref 1),some (.int (m+Ek al x)),e7],[some [.dcm (encA al)],some (acc.map Dr)]):=by
  have v6:Ab 6 [e0,some (.dref 0),e2,some (.int x),some (.int y),some (.ref 1),some (.int m),e7] [some [.dcm (encA al)],some (acc.map Dr)]=some (.int m,[some [.dcm (encA al)],some (acc.map Dr)]):=rfl
  rw[Cg,BL,v6,U0b,g];rfl
 unfold Kq
 rw[BR s1,KN,Mx (d:=.ref 1) (cs:=acc.map Dr) (ds:=[Dr (x,y,m+Ek al x)]) (r:=.non) (S1:=[some [.dcm (encA al)],some (acc.map Dr)]) (S2:=[some [.dcm (encA al)],some (acc.map Dr)]) (S3:=[some [.dcm (encA al)],some ((acc++[(x,y,m+Ek al x)]).map Dr)]) rfl rfl rfl (by
  show(if (acc.map Dr).length<1000000 then some (D.non,[some [D.dcm (encA al)],some (acc.map Dr++[Dr (x,y,m+Ek al x)])]) else none)=_
  rw[if_pos (by rw[U0i];omega),U1p];rfl)]
 rfl
theorem Wx(E:List Int)(r:VS.Env)(S:Store)(j:Nat)(h:r[j]?=some (some (.lst true (E.map .int)))):Px (Aa (Ab j) (Aa (eSl oSl (Ab j) (Gd (eC (.int 1))) Ge) Ag)) r S=some (((steps E).map Ac,[]),S):=by
 have v:Ab j r S=some (.lst true (E.map .int),S):=by rw[BJ,h];rfl
 have s:eSl oSl (Ab j) (Gd (eC (.int 1))) Ge r S=some (.lst true (E.tail.map .int),S):=by
  rw[Xv,v]
  show(some (D.lst true (cut (E.map D.int) (some 1) none),S):Option (D×Store))=_
  rw[bW,U64]
 rw[Yl,Ao,v,U0b,Ao,s,←W9,←U64]
 rfl
theorem YJ(ps:List St2)(hf:ps.length<=20)(hp:∀p∈ps,p.1<p.2):Dv [.lst false ((Ah ps).map Af)]=some (.lst true ((sw ps).map Dr)):=by
 have s1:(Bo 1 cj) [some (.lst false ((Ah ps).map Af)),none,none,none,none,none,none,none] []=some (.nx,[some (.lst false ((Ah ps).map Af)),some (.dref 0),none,none,none,none,none,none],[some [.dcm []]]):=rfl
 have e:Dt (Ab 0) [some (.lst false ((Ah ps).map Af)),some (.dref 0),none,none,none,none,none,none] [some [.dcm []]]=some (((Ah ps).map Af,[]),[some [.dcm []]]):=rfl
 obtain⟨env',S',e2,y2,y3,y4,he,hS⟩:=G8 (w:=[]) (g:=Pat.sem (.nm 2)) (b:=Kr) (ds:=(Ah ps).map Af) (env:=[some (.lst false ((Ah ps).map Af)),some (.dref 0),none,none,none,none,none,none]) (S:=[some [.dcm []]])
  (fun i env S=>∃y2 y3 y4:Option D,env=[some (.lst false ((Ah ps).map Af)),some (.dref 0),y2,y3,y4,none,none,none]/\S=[some [.dcm (encA ((ps.take i).foldl Jo []))]])
  ⟨none,none,none,rfl,rfl⟩ (fun i env S _=>by simp) (fun i d env S hd q=>by
   obtain⟨y2,y3,y4,he,hS⟩:=q
   subst he hS
   rw[U0z,U0z,Option.map_map] at hd
   obtain⟨p,hp',rfl⟩:=U1y.mp hd
   have few:=Vx (ps.take i)
   rw[U0i,U2j] at few
   refine⟨_,Dy _ _ _,_,_,jt ((ps.take i).foldl Jo []) p (by omega) _ _ _ _ _ _,_,_,_,rfl,?_⟩
   rw[U3q,hp',U32,U36]
   rfl)
 subst he hS
 have hlm:((Ah ps).map Af).length=ps.length:=by simp
 rw[hlm,U29] at e2
 have l1:Nu [some (.lst false ((Ah ps).map Af)),some (.dref 0),none,none,none,none,none,none] [some [.dcm []]]=some (.nx,[some (.lst false ((Ah ps).map Af)),some (.dref 0),y2,y3,y4,none,none,none],[some [.dcm (encA (ps.foldl Jo []))]]):=by
  unfold Nu
  rw[HJ,e]
  exact e2
 have hEl:=aW ps
 have gA:=bO ps [] hp
 have kA:=(Nm ps [] .nil).2
 obtain⟨al,hal⟩:∃al,al=ps.foldl Jo []:=⟨_,rfl⟩
 have hE:swE ps=(al.map (·.1)).mergeSort fun a b=>decide (a<=b):=by rw[hal];rfl
 have hkl:(al.map (·.1)).length<64:=by rw[hal];have:=Vx ps;omega
 rw[←hal] at l1 gA kA
 have s2:(Bo 5 (Ly Ag)) [some (.lst false ((Ah ps).map Af)),some (.dref 0),y2,y3,y4,none,none,none] [some [.dcm (encA al)]]=some (.nx,[some (.lst false ((Ah ps).map Af)),some (.dref 0),y2,y3,y4,some (.ref 1),none,none],[some [.dcm (encA al)],some []]):=rfl
 have s3:(Bo 6 (eC (.int 0))) [some (.lst false ((Ah ps).map Af)),some (.dref 0),y2,y3,y4,some (.ref 1),none,none] [some [.dcm (encA al)],some []]=some (.nx,[some (.lst false ((Ah ps).map Af)),some (.dref 0),y2,y3,y4,some (.ref 1),some (.int 0),none],[some [.dcm (encA al)],some []]):=rfl
 have s4:(Bo 7 (Uw (Ab 1))) [some (.lst false ((Ah ps).map Af)),some (.dref 0),y2,y3,y4,some (.ref 1),some (.int 0),none] [some [.dcm (encA al)],some []]=some (.nx,[some (.lst false ((Ah ps).map Af)),some (.dref 0),y2,y3,y4,some (.ref 1),some (.int 0),some (.lst true ((swE ps).map .int))],[some [.dcm (encA al)],some []]):=by
  have v1:Ab 1 [some (.lst false ((Ah ps).map Af)),some (.dref 0),y2,y3,y4,some (.ref 1),some (.int 0),none] [some [.dcm (encA al)],some []]=some (.dref 0,[some [.dcm (encA al)],some []]):=rfl
  have d0:dictOf [some [.dcm (encA al)],some []] (.dref 0)=some (encA al):=rfl
  rw[Cg,iz,v1]
  simp only[U0b,d0,Sd]
  rw[if_pos hkl,←hE];rfl
 have ez:=Wx (swE ps) [some (.lst false ((Ah ps).map Af)),some (.dref 0),y2,y3,y4,some (.ref 1),some (.int 0),some (.lst true ((swE ps).map .int))] [some [.dcm (encA al)],some []] 7 rfl
 have hr:=YK ps
 have hsl:(steps (swE ps)).length=(swE ps).length-1:=by simp[steps]
 have pre:∀i (hi:i<(swE ps).length),(((swE ps).take (i+1)).map (Ek al)).sum=cnt ps (swE ps)[i]:=fun i hi=>by
  have:=V2 hr hi ps fun p hp'=>⟨hp p hp',(Rm ps _).mpr ⟨p,hp',.inl rfl⟩,(Rm ps _).mpr ⟨p,hp',.inr rfl⟩⟩
  rw[←this]
  congr 1
  refine U42 fun e _=>?_
  rw[gA]
  show((([]:List (Int×Int)).find? _).map _).getD 0+_=_
  simp
 obtain⟨env',S',e3,w3,w4,he,hS⟩:=G8 (w:=[]) (g:=Pat.sem (.tp [(.nm 3),(.nm 4)])) (b:=Kq) (ds:=(steps (swE ps)).map Ac) (env:=[some (.lst false ((Ah ps).map Af)),some (.dref 0),y2,y3,y4,some (.ref 1),some (.int 0),some (.lst true ((swE ps).map .int))]) (S:=[some [.dcm (encA al)],some []])
  (fun i env S=>∃w3 w4:Option D,env=[some (.lst false ((Ah ps).map Af)),some (.dref 0),y2,w3,w4,some (.ref 1),some (.int (((swE ps).take i).map (Ek al)).sum),some (.lst true ((swE ps).map .int))]/\S=[some [.dcm (encA al)],some (((sw ps).take i).map Dr)])
  ⟨y3,y4,rfl,by simp⟩ (fun i env S _=>by simp) (fun i d env S hd q=>by
   obtain⟨w3,w4,he,hS⟩:=q
   subst he hS
   rw[U0z] at hd
   obtain⟨p,hp',rfl⟩:=U1y.mp hd
   have hi:i<(steps (swE ps)).length:=(U0o.mp hp').1
   have hiE:i<(swE ps).length:=by omega
   have hp1:p.1=(swE ps)[i]:=by
    have:=(U0o.mp hp').2
    rw[←this]
    unfold steps
    rw[List.getElem_zip]
   have hmem:p.1∈al.map (·.1):=(kA p.1).mpr (.inr ((Rm ps p.1).mp (by rw[hp1];exact U3k hiE)))
   have hsw:(sw ps)[i]?=some (p.1,p.2,cnt ps p.1):=by
    unfold sw
    rw[U0z,hp'];rfl
   have hsum:(((swE ps).take i).map (Ek al)).sum+Ek al p.1=cnt ps p.1:=by
    rw[hp1,←pre i hiE,U3q,U0n hiE,U32,U1p,List.sum_append]
    simp
   have lt:((sw ps).take i).length<1000:=by
    rw[U2j]
    unfold sw
    rw[U0i,hsl];omega
   refine⟨[some (.lst false ((Ah ps).map Af)),some (.dref 0),y2,some (.int p.1),some (.int p.2),some (.ref 1),some (.int (((swE ps).take i).map (Ek al)).sum),some (.lst true ((swE ps).map .int))],by simp[Dy,GR,En,Ec,-U0e,-U0f,Ac],_,_,jr al p.1 p.2 (((swE ps).take i).map (Ek al)).sum hmem ((sw ps).take i) lt _ _ _,some (.int p.1),some (.int p.2),?_,?_⟩
   .rw[hsum,show(((swE ps).take (i+1)).map (Ek al)).sum=cnt ps p.1 by rw[pre i hiE,hp1]]
   .rw[hsum,U3q,hsw];rfl)
 subst he hS
 have hsteps:((steps (swE ps)).map Ac).length=(sw ps).length:=by simp[sw]
 have l2:Nt [some (.lst false ((Ah ps).map Af)),some (.dref 0),y2,y3,y4,some (.ref 1),some (.int 0),some (.lst true ((swE ps).map .int))] [some [.dcm (encA al)],some []]=some (.nx,[some (.lst false ((Ah ps).map Af)),some (.dref 0),y2,w3,w4,some (.ref 1),some (.int (((swE ps).take ((steps (swE ps)).map Ac).length).map (Ek al)).sum),some (.lst true ((swE ps).map .int))],[some [.dcm (encA al)],some ((sw ps).map Dr)]):=by
  unfold Nt
  rw[HJ,ez]
  refine e3.trans ?_
  rw[show(sw ps).take ((steps (swE ps)).map Ac).length=sw ps by rw[hsteps,U29]]
 have hpT:∀l:List (Int×Int×Int),Ax (l.map Dr)=true:=fun l=>Br (Dp l fun p _=>rm p)
 unfold Dv
 rw[DW]
 simp only[U0g,U1a,U0j,U1j,U1w,U1x,U0q,U09,U15,U1n,if_true]
 unfold Sv
 rw[BR s1,BR l1,BR s2,BR s3,BR s4,BR l2]
 generalize sw ps=l
 show den 0 [some [.dcm (encA al)],some (l.map Dr)] (.ref 1)=_
 rw[den,if_neg (by omega)]
 show(if Ax (l.map Dr)=true then _ else _)=_
 rw[if_pos (hpT l)]
end W08
end
section
namespace W08
open PySem L2 VS
def Jv(k:Int)(acc:List St2)(t:Int×Int×Int):List St2:=if k<=t.2.2 then Bg acc (t.1,t.2.1) else acc
theorem v7{l:List St2}{T:Store}:Ca (some (l.map Ac)::T) (.ref 0)=some (.list (l.map pS)):=eZ (i:=0) rfl
theorem fM(l:List St2):lev 2 (.list (l.map pS))=true:=by
 show(l.map pS).all (lev 1)=true
 rw[U3m]
 intro x hx
 obtain⟨p,_,rfl⟩:=U1v.mp hx
 exact fL 0 p
theorem zN(k:Int)(t:Int×Int×Int)(acc:List St2)(hl:acc.length<1000)(e0:Option D):∃w3:Option D,J9 [e0,some (.int k),some (.ref 0),some (.int t.1),some (.int t.2.1),some (.int t.2.2)] [some (acc.map Ac)]=some (.nx,[e0,some (.int k),some (.ref 0),w3,some (.int t.2.1),some (.int t.2.2)],[some ((Jv k acc t).map Ac)]):=by
 obtain⟨x,y,m⟩:=t
 have t1:Bb (eOp oGe (Ab 5) (Ab 1)) [e0,some (.int k),some (.ref 0),some (.int x),some (.int y),some (.int m)] [some (acc.map Ac)]=some (decide (k<=m),[some (acc.map Ac)]):=rfl
 unfold J9 Jv
 by_cases h:k<=m
 .rw[decide_eq_true h] at t1
  rw[Ng t1,if_pos h]
  have n1:Bb (eOp (oEq true) (Ab 2) (Bq Ag)) [e0,some (.int k),some (.ref 0),some (.int x),some (.int y),some (.int m)] [some (acc.map Ac)]=some (!acc.isEmpty,[some (acc.map Ac)]):=by
   have q1:=Vq (neg:=true) (S:=[some (acc.map Ac)]) (m:=true) 2 (v7 (l:=acc) (T:=[])) (fM acc) (by decide)
   show(U17 _ (eqP true [some (acc.map Ac)] (.ref 0) (.lst true []))).bind _=_
   rw[q1,List.isEmpty_map]
   cases acc<;>rfl
  rcases U4h acc with z|⟨l,q,z⟩
  .subst z
   have ts:LQ (Bb (eOp (oEq true) (Ab 2) (Bq Ag))) (Bb (eOp (oEq false) (eOp oIx (eOp oIx (Ab 2) (eUn Fi (eC (.int 1)))) (eC (.int 1))) (Ab 3))) [e0,some (.int k),some (.ref 0),some (.int x),some (.int y),some (.int m)] [some (([]:List St2).map Ac)]=some (false,[some (([]:List St2).map Ac)]):=by
    rw[Pa,n1];rfl
   refine⟨some (.int x),?_⟩
   rw[HF,Ij ts]
   rfl
  .rw[U4i] at z
   subst z
   have a:eOp oIx (Ab 2) (eUn Fi (eC (.int 1))) [e0,some (.int k),some (.ref 0),some (.int x),some (.int y),some (.int m)] [some ((l++[q]).map Ac)]=some (Ac q,[some ((l++[q]).map Ac)]):=by
    show U17 _ (atI ((l++[q]).map Ac) (-1))=_
    rw[U1p]
    show U17 _ (atI (l.map Ac++[Ac q]) (-1))=_
    rw[QJ];rfl
   have i1:eOp oIx (eOp oIx (Ab 2) (eUn Fi (eC (.int 1)))) (eC (.int 1)) [e0,some (.int k),some (.ref 0),some (.int x),some (.int y),some (.int m)] [some ((l++[q]).map Ac)]=some (.int q.2,[some ((l++[q]).map Ac)]):=by rw[BL,a];rfl
   have n2:Bb (eOp (oEq false) (eOp oIx (eOp oIx (Ab 2) (eUn Fi (eC (.int 1)))) (eC (.int 1))) (Ab 3)) [e0,some (.int k),some (.ref 0),some (.int x),some (.int y),some (.int m)] [some ((l++[q]).map Ac)]=some (decide (q.2=x),[some ((l++[q]).map Ac)]):=by
    rw[Dk,BL,i1,U0b]
    show some ((false ^^ decide (q.2=x)),_)=_
    rw[Bool.false_xor]
   have hne:(l++[q]).isEmpty=false:=by cases l<;>rfl
   have ts:LQ (Bb (eOp (oEq true) (Ab 2) (Bq Ag))) (Bb (eOp (oEq false) (eOp oIx (eOp oIx (Ab 2) (eUn Fi (eC (.int 1)))) (eC (.int 1))) (Ab 3))) [e0,some (.int k),some (.ref 0),some (.int x),some (.int y),some (.int m)] [some ((l++[q]).map Ac)]=some (decide (q.2=x),[some ((l++[q]).map Ac)]):=by
    rw[Pa,n1,hne]
    simp only[U0b,Bool.not_false,if_true]
    exact n2
   by_cases hq:q.2=x
   .rw[decide_eq_true hq] at ts
    have e:Bg (l++[q]) (x,y)=l++[(q.1,y)]:=by
     unfold Bg
     rw[Q8]
     simp[hq]
    have p1:FJ TJ (Ab 2) Ag [e0,some (.int k),some (.ref 0),some (.int x),some (.int y),some (.int m)] [some ((l++[q]).map Ac)]=some (Ac q,[some (l.map Ac)]) :=
     Mx (d:=.ref 0) (cs:=(l++[q]).map Ac) (ds:=[]) (r:=Ac q) (S1:=[some ((l++[q]).map Ac)]) (S2:=[some ((l++[q]).map Ac)]) (S3:=[some (l.map Ac)]) rfl rfl rfl (by
      show((((l++[q]).map Ac)[((l++[q]).map Ac).length-1]?).bind fun d=>some (d,[some ((l++[q]).map Ac).dropLast]))=_
      rw[U1p]
      simp)
    have s1:(sIf (LQ (Bb (eOp (oEq true) (Ab 2) (Bq Ag))) (Bb (eOp (oEq false) (eOp oIx (eOp oIx (Ab 2) (eUn Fi (eC (.int 1)))) (eC (.int 1))) (Ab 3)))) (Bo 3 (eOp oIx (FJ TJ (Ab 2) Ag) (eC (.int 0)))) Ey) [e0,some (.int k),some (.ref 0),some (.int x),some (.int y),some (.int m)] [some ((l++[q]).map Ac)]=some (.nx,[e0,some (.int k),some (.ref 0),some (.int q.1),some (.int y),some (.int m)],[some (l.map Ac)]):=by
     rw[Ng ts,Cg,BL,p1];rfl
    refine⟨some (.int q.1),?_⟩
    rw[BR s1,e,U1p]
    exact Xz (r:=[e0,some (.int k),some (.ref 0),some (.int q.1),some (.int y),some (.int m)]) (j:=2) (L:=l.map Ac) (d:=Ac (q.1,y)) rfl rfl (by rw[U0i];simp at hl;omega)
   .rw[decide_eq_false hq] at ts
    have e:Bg (l++[q]) (x,y)=l++[q]++[(x,y)]:=by
     unfold Bg
     rw[Q8]
     simp[hq]
    have s1:(sIf (LQ (Bb (eOp (oEq true) (Ab 2) (Bq Ag))) (Bb (eOp (oEq false) (eOp oIx (eOp oIx (Ab 2) (eUn Fi (eC (.int 1)))) (eC (.int 1))) (Ab 3)))) (Bo 3 (eOp oIx (FJ TJ (Ab 2) Ag) (eC (.int 0)))) Ey) [e0,some (.int k),some (.ref 0),some (.int x),some (.int y),some (.int m)] [some ((l++[q]).map Ac)]=some (.nx,[e0,some (.int k),some (.ref 0),some (.int x),some (.int y),some (.int m)],[some ((l++[q]).map Ac)]):=by
     rw[Ij ts];rfl
    refine⟨some (.int x),?_⟩
    rw[BR s1,e,U1p (l₁:=l++[q])]
    exact Xz (r:=[e0,some (.int k),some (.ref 0),some (.int x),some (.int y),some (.int m)]) (j:=2) (L:=(l++[q]).map Ac) (d:=Ac (x,y)) rfl rfl (by rw[U0i];omega)
 .rw[decide_eq_false h] at t1
  rw[Ij t1,if_neg h]
  exact⟨_,rfl⟩
theorem fu(k:Int):∀(l:List (Int×Int×Int))(acc:List St2),(l.foldl (Jv k) acc).length<=acc.length+l.length
 |[],acc=>by simp
 |t::l,acc=>by
  have h:=fu k l (Jv k acc t)
  have:(Jv k acc t).length<=acc.length+1:=by
   unfold Jv
   split
   .exact RX acc _
   .omega
  rw[U16,U0g]
  omega
theorem uw(ps:List St2)(hf:ps.length<=20):(sw ps).length<=40:=by
 have:=aW ps
 unfold sw
 rw[U0i]
 simp only[steps,U5c,List.length_tail]
 omega
theorem sX(ps:List St2)(k:Nat):∀acc:List St2,(sw ps).foldl (Jv k) acc=(Hh (Ah ps) (U0k (Ah ps).length) k).foldl Bg acc:=by
 unfold sw Hh
 rw[eX]
 generalize steps (DP (Ah ps) 0 (U0k (Ah ps).length))=l
 induction l with
 |nil=>intro acc;rfl
 |cons p l ih =>
  intro acc
  rw[U0j,U16,ih,U6h]
  have e:((k:Int)<=cnt ps p.1)↔k<=(Ez (Ah ps) 0 p.1 (U0k (Ah ps).length)).length:=by
   rw[Qc,Tv];omega
  unfold Jv
  by_cases h:k<=(Ez (Ah ps) 0 p.1 (U0k (Ah ps).length)).length
  .rw[if_pos (e.mpr h),if_pos (decide_eq_true h),U16]
  .rw[if_neg (fun z=>h (e.mp z)),if_neg (by rw[decide_eq_false h];decide)]
def pck(ps:List St2)(k:Nat):List St2:=(Hh (Ah ps) (U0k (Ah ps).length) k).foldl Bg []
theorem RP(m:Bool)(bs:List (List St2)):Bk [.lst m (bs.map Af)]=[.lst false (bs.map Af)]:=by
 rw[Bk,age,Gw (DG bs),Bk]
theorem QS(m:Bool)(bs:List (List St2)):Ax [.lst m (bs.map Af)]=true:=by
 rw[Ax,Ba,Br (DG bs),Ax];rfl
theorem T8(ps:List St2)(hf:ps.length<=20)(hp:∀p∈ps,p.1<p.2)(k:Nat):Ce [.lst false ((Ah ps).map Af),.int k]=some (.lst true ((pck ps k).map Ac)):=by
 have s1:(Bo 2 (Ly Ag)) [some (.lst false ((Ah ps).map Af)),some (.int k),none,none,none,none] []=some (.nx,[some (.lst false ((Ah ps).map Af)),some (.int k),some (.ref 0),none,none,none],[some []]):=rfl
 have c1:Aw Dv (Aa (Ab 0) Ag) [some (.lst false ((Ah ps).map Af)),some (.int k),some (.ref 0),none,none,none] [some []]=some (.lst true ((sw ps).map Dr),[some []]) :=
  Cr (ds:=[.lst false ((Ah ps).map Af)]) (es:=[.lst false ((Ah ps).map Af)]) (S':=[some []]) rfl (QS ..) (RP ..) (YJ ps hf hp)
 have e:Dt (Aw Dv (Aa (Ab 0) Ag)) [some (.lst false ((Ah ps).map Af)),some (.int k),some (.ref 0),none,none,none] [some []]=some (((sw ps).map Dr,[]),[some []]):=by rw[G7,c1];rfl
 have sl:=uw ps hf
 obtain⟨env',S',e2,z3,z4,z5,he,hS⟩:=G8 (w:=[]) (g:=Pat.sem (.tp [(.nm 3),(.nm 4),(.nm 5)])) (b:=J9) (ds:=(sw ps).map Dr) (env:=[some (.lst false ((Ah ps).map Af)),some (.int k),some (.ref 0),none,none,none]) (S:=[some []])
  (fun i env S=>∃z3 z4 z5:Option D,env=[some (.lst false ((Ah ps).map Af)),some (.int k),some (.ref 0),z3,z4,z5]/\S=[some ((((sw ps).take i).foldl (Jv k) []).map Ac)])
  ⟨none,none,none,rfl,rfl⟩ (fun i env S _=>by simp) (fun i d env S hd q=>by
   obtain⟨z3,z4,z5,he,hS⟩:=q
   subst he hS
   rw[U0z] at hd
   obtain⟨t,ht,rfl⟩:=U1y.mp hd
   have few:=fu k ((sw ps).take i) []
   rw[U2j] at few
   obtain⟨w3,b1⟩:=zN k t (((sw ps).take i).foldl (Jv k) []) (by simp at few;omega) (some (.lst false ((Ah ps).map Af)))
   refine⟨[some (.lst false ((Ah ps).map Af)),some (.int k),some (.ref 0),some (.int t.1),some (.int t.2.1),some (.int t.2.2)],by simp[Dy,GR,En,Ec,-U0e,-U0f,Dr],_,_,b1,_,_,_,rfl,?_⟩
   rw[U3q,ht,U32,U36]
   rfl)
 subst he hS
 have hlm:((sw ps).map Dr).length=(sw ps).length:=by simp
 rw[hlm,U29,sX] at e2
 have l1:LK [some (.lst false ((Ah ps).map Af)),some (.int k),some (.ref 0),none,none,none] [some []]=some (.nx,[some (.lst false ((Ah ps).map Af)),some (.int k),some (.ref 0),z3,z4,z5],[some ((pck ps k).map Ac)]):=by
  unfold LK
  rw[HJ,e]
  exact e2
 have hpS:∀l:List St2,Ax (l.map Ac)=true:=fun l=>Br (Dp l fun p _=>Di p)
 unfold Ce
 rw[DW]
 simp only[U0g,U1a,U0j,U1j,U1w,U1x,U0q,U09,U15,U1n,if_true]
 unfold Pj
 rw[BR s1,BR l1]
 generalize pck ps k=l
 show den 0 [some (l.map Ac)] (.ref 0)=_
 rw[den,if_neg (by omega)]
 show(if Ax (l.map Ac)=true then _ else _)=_
 rw[if_pos (hpS l)]
theorem rH{bs:List (List St2)}(g:Good 1 bs)(k:Nat)(hk:1<=k):Ie [some (Al false 1 bs),some (.int k)] []=some ((Hh bs (U0k bs.length) k).map Ac,[]):=by
 have few:=g.few
 have hl:=GJ (bs:=bs) 1 0 (U0k bs.length) (by simpa using few)
 have hf:=Ko g
 have hd:=fun c=>JN (bs:=bs) 1 0 (U0k bs.length) c
 have hh:=Qd bs (U0k bs.length) k hk
 have c2:Aw Dq (Aa (Ab 0) Ag) [some (Al false 1 bs),some (.int k)] []=some (.lst true ((Bf bs 1 0 (U0k bs.length)).map encC),[]) :=
  Cr (ds:=[Al false 1 bs]) (es:=[Al false 1 bs]) (S':=[]) rfl (by simp[Ax,Ba,Al]) (by simp[Bk,age,Al]) (UG g)
 rw[←hh]
 generalize Bf bs 1 0 (U0k bs.length)=cs at *
 have e:Dt (Aw Dq (Aa (Ab 0) Ag)) [some (Al false 1 bs),some (.int k)] []=some ((cs.map encC,[]),[]):=by
  rw[G7,c2];rfl
 have ec:J8 2 [1] [some (Al false 1 bs),some (.int k)]=[none,none,some (.int k)]:=rfl
 unfold Ie Ej
 rw[e,ec]
 simp only[U0b]
 rw[N6 (by simp) encC (fun c=>decide (k<=c.2.length)) (fun c=>Ac (c.1.getD 0 (0,0))) cs [] (by simp;omega)]
 .rw[U1n,U0e];rfl
 .intro c hc
  have h2:=hd c hc
  refine⟨[some (Af c.1),some (CT false c.2),some (.int k)],by simp[Dy,GR,En,Ec,-U0e,-U0f,encC],?_,fun _=>?_⟩
  .simp[BJ,BL,CV,Ao,FN,Dk,oI,Hi,oGe,Ed,VS.listOf,Cu,-U0e,-U0f,CT]
  .show U17 _ (atI (c.1.map Ac) ((0:Nat):Int))=_
   rw[fj (by omega)];rfl
theorem Ym{bs:List (List St2)}(g:Good 1 bs)(k:Nat)(hk:1<=k):(Hh bs (U0k bs.length) k).length<=40:=by
 have few:=g.few
 have hl:=GJ (bs:=bs) 1 0 (U0k bs.length) (by simpa using few)
 rw[←Qd bs (U0k bs.length) k hk,U0i]
 exact U1c (U31 ..) (by omega)
theorem YW(m:Bool)(n:Nat)(bs:List (List St2))(k:Int):Ax [Al m n bs,.int k]=true:=by simp[Ax,Ba,Al,Br (DG bs)]
theorem bh(m:Bool)(n:Nat)(bs:List (List St2))(k:Int):Bk [Al m n bs,.int k]=[Al false n bs,.int k]:=by simp[Bk,age,Al]
theorem mL{ps:List St2}(g:Good 1 (Ah ps))(k:Nat)(hk:1<=k):Cw [Al false 1 (Ah ps),.int k]=some (.lst true ((pck ps k).map Ac)):=by
 have c1:=rH g k hk
 have s1:=Xn g (r:=[some (Al false 1 (Ah ps)),some (.int k)]) (a:=eC (.int 1)) rfl rfl
 have hf:=Ym g k hk
 unfold pck
 generalize Hh (Ah ps) (U0k (Ah ps).length) k=l at *
 have h3:=Wb l (by omega)
 have hp:∀k:List St2,Ax (k.map Ac)=true:=fun k=>Br (Dp _ fun p _=>Di p)
 have ag:∀k:List St2,Bk (k.map Ac)=k.map Ac:=fun k=>Gw (Dp _ fun p _=>Di p)
 have h4:DX [Al false 1 (Ah ps),.int k]=some (.lst true ((l.foldl Bg []).map Ac)):=by
  unfold DX
  rw[DW]
  simp only[U0g,U1a,U0j,U1j,U1w,U1x,U09,U2u,if_true]
  unfold M6
  rw[Ci,Cr (ds:=[.lst true (l.map Ac)]) (es:=[.lst false (l.map Ac)]) (S':=[]) (by rw[Ao,Dd,c1];rfl) (by rw[Ax,Ba,hp,Ax];rfl) (by rw[Bk,age,ag,Bk]) h3]
  show den 0 _ (.lst true _)=_
  rw[den,Cp 0 _ (hp _)];rfl
 have c4:Aw DX (Aa (Ab 0) (Aa (Ab 1) Ag)) [some (Al false 1 (Ah ps)),some (.int k)] []=some (.lst true ((l.foldl Bg []).map Ac),[]) :=
  Cr (ds:=[Al false 1 (Ah ps),.int k]) (es:=[Al false 1 (Ah ps),.int k]) (S':=[]) rfl (YW ..) (bh ..) h4
 have cw:Aw Dz (Aa (Ab 1) Ag) [some (Al false 1 (Ah ps)),some (.int k)] []=some (.bl true,[]) :=
  Cr (ds:=[.int k]) (es:=[.int k]) (S':=[]) rfl (by simp[Ax,Ba]) (by simp[Bk,age]) (O2 k)
 have ts:(VS.tOr (VS.Jl (Bb (Aw Dz (Aa (Ab 1) Ag)))) (Bb (eOp oLt (Ab 1) (eC (.int 1))))) [some (Al false 1 (Ah ps)),some (.int k)] []=some (false,[]):=by
  have:Bb (eOp oLt (Ab 1) (eC (.int 1))) [some (Al false 1 (Ah ps)),some (.int k)] []=some (decide ((k:Int)<1),[]):=rfl
  rw[Xh,Rk,Dk,cw]
  simp only[U0b,U46,U1t,if_false]
  show Bb (eOp oLt (Ab 1) (eC (.int 1))) [some (Al false 1 (Ah ps)),some (.int k)] []=_
  rw[this,decide_eq_false (by omega)]
 unfold Cw
 rw[DW]
 simp only[U0g,U1a,U0j,U1j,U1w,U1x,U09,U2u,if_true]
 unfold MK
 rw[BR s1,HF,Ij ts]
 show((Cy (Aw DX (Aa (Ab 0) (Aa (Ab 1) Ag)))) [some (Al false 1 (Ah ps)),some (.int k)] []).bind _=_
 rw[Ci,c4]
 show den 0 _ (.lst true _)=_
 rw[den,Cp 0 _ (hp _)];rfl
end W08
end
section
namespace W08
open PySem L2 VS
theorem Qu:∀is:List Int,GP (is.map D.int)=some (is.map .int)
 |[]=>rfl
 |i::r=>by rw[U0j,GP,toP,Qu r];rfl
theorem mJ(is:List Int):lev 1 (.list (is.map .int))=true:=by
 show(is.map PyData.int).all (lev 0)=true
 rw[U3m]
 intro x hx
 obtain⟨i,_,rfl⟩:=U1v.mp hx
 rfl
theorem pU{S:Store}{is:List Int}(h:S[0]?=some (some (is.map .int))):Ca S (.ref 0)=some (.list (is.map .int)):=by
 rw[Ca,den,if_neg (by omega),h]
 show(if Ax (is.map D.int)=true then some (D.lst true (is.map .int)) else none).bind toP=_
 rw[if_pos (Ik is)]
 show toP (.lst true (is.map .int))=_
 rw[toP,Qu];rfl
theorem Y8(e0 z2 z3 z4:Option D):∀(f:Nat)(l:List Int),l.length<f->Ke (LQ (Bb (eOp (oEq true) (Ab 1) (Bq Ag))) (Bb (eOp (oEq false) (eOp oIx (Ab 1) (eUn Fi (eC (.int 1)))) (eC (.int 0))))) Kw f [e0,some (.ref 0),z2,z3,z4] [some (l.map .int)]=some (.nx,[e0,some (.ref 0),z2,z3,z4],[some ((Lj l.length l).map .int)])
 |0,l,h=>by omega
 |f+1,l,h=>by
  have t1:Bb (eOp (oEq true) (Ab 1) (Bq Ag)) [e0,some (.ref 0),z2,z3,z4] [some (l.map .int)]=some (!l.isEmpty,[some (l.map .int)]):=by
   have q1:=Vq (neg:=true) (S:=[some (l.map .int)]) (m:=true) 1 (pU (S:=[some (l.map .int)]) rfl) (mJ l) (by decide)
   show(U17 _ (eqP true [some (l.map D.int)] (.ref 0) (.lst true []))).bind _=_
   rw[q1]
   cases l<;>rfl
  unfold Ke
  rw[Pa,t1]
  rcases U4h l with rfl|⟨l',x,rfl⟩
  .rfl
  .rw[U4i] at h ⊢
   have ha:atI ((l'++[x]).map D.int) (-1)=some (.int x):=by rw[U1p];exact QJ _ _
   have t2:Bb (eOp (oEq false) (eOp oIx (Ab 1) (eUn Fi (eC (.int 1)))) (eC (.int 0))) [e0,some (.ref 0),z2,z3,z4] [some ((l'++[x]).map .int)]=some (decide (x=0),[some ((l'++[x]).map .int)]):=by
    have i1:eOp oIx (Ab 1) (eUn Fi (eC (.int 1))) [e0,some (.ref 0),z2,z3,z4] [some ((l'++[x]).map .int)]=some (.int x,[some ((l'++[x]).map .int)]):=by
     show U17 _ (atI ((l'++[x]).map D.int) (-1))=_
     rw[ha];rfl
    rw[Dk,BL,i1,U0b]
    simp[Ea,oEq,-U0e,-U0f]
   have hne:(l'++[x]).isEmpty=false:=by cases l'<;>rfl
   rw[hne]
   simp only[U0b,Bool.not_false,if_true]
   rw[t2]
   have hlen:(l'++[x]).length=l'.length+1:=by simp
   by_cases hx:x=0
   .subst hx
    have p1:Kw [e0,some (.ref 0),z2,z3,z4] [some ((l'++[0]).map .int)]=some (.nx,[e0,some (.ref 0),z2,z3,z4],[some (l'.map .int)]):=by
     unfold Kw
     rw[KN,Mx (d:=.ref 0) (cs:=(l'++[0]).map .int) (ds:=[]) (r:=.int 0) (S1:=[some ((l'++[0]).map .int)]) (S2:=[some ((l'++[0]).map .int)]) (S3:=[some (l'.map .int)]) rfl rfl rfl (by
      show((((l'++[0]).map D.int)[((l'++[0]).map D.int).length-1]?).bind fun d=>some (d,[some ((l'++[0]).map D.int).dropLast]))=_
      rw[U1p,U0j,U1j,U4r]
      simp)]
     rfl
    simp only[decide_true,U0b,if_true,p1]
    rw[Y8 e0 z2 z3 z4 f l' (by rw[hlen] at h;omega),hlen,Lj,if_pos ⟨by simp,by simp⟩,U4r]
   .rw[decide_eq_false hx,hlen,Lj,if_neg (by simp[hx])]
    rfl
def Ii(acc:List Int)(t:Int×Int×Int):List Int:=if t.2.2<=0 then acc else acc.set (t.2.2-1).toNat (acc.getD (t.2.2-1).toNat 0+t.2.1-t.1)
theorem nq{acc:List Int}{i:Nat}(hi:i<acc.length):atI (acc.map D.int) (i:Int)=some (.int (acc.getD i 0)):=by
 refine Le ?_
 rw[U0z,U0n hi,U0r,U0n hi];rfl
theorem vq(acc:List Int)(t:Int×Int×Int)(h:t.2.2<=acc.length)(e0:Option D):Ky [e0,some (.ref 0),some (.int t.1),some (.int t.2.1),some (.int t.2.2)] [some (acc.map .int)]=some (.nx,[e0,some (.ref 0),some (.int t.1),some (.int t.2.1),some (.int t.2.2)],[some ((Ii acc t).map .int)]):=by
 obtain⟨x,y,m⟩:=t
 have t1:Bb (eOp oGt (Ab 4) (eC (.int 0))) [e0,some (.ref 0),some (.int x),some (.int y),some (.int m)] [some (acc.map .int)]=some (decide (0<m),[some (acc.map .int)]):=rfl
 simp only at h
 unfold Ky Ii
 by_cases hm:0<m
 .rw[decide_eq_true hm] at t1
  rw[Ng t1,if_neg (by show ¬m<=0;omega)]
  obtain⟨i,hi⟩:∃i:Nat,m-1=(i:Int):=⟨(m-1).toNat,by omega⟩
  have hil:i<acc.length:=by omega
  show(Kf _ _ _) _ _=some (Fl.nx,_,[some ((acc.set (m-1).toNat (acc.getD (m-1).toNat 0+y-x)).map D.int)])
  rw[show(m-1).toNat=i by omega]
  have i0:eOp Gj (Ab 4) (eC (.int 1)) [e0,some (.ref 0),some (.int x),some (.int y),some (.int m)] [some (acc.map .int)]=some (.int i,[some (acc.map .int)]):=by
   rw[←hi];rfl
  have v1:Ab 1 [e0,some (.ref 0),some (.int x),some (.int y),some (.int m)] [some (acc.map .int)]=some (.ref 0,[some (acc.map .int)]):=rfl
  have i1:eOp oIx (Ab 1) (eOp Gj (Ab 4) (eC (.int 1))) [e0,some (.ref 0),some (.int x),some (.int y),some (.int m)] [some (acc.map .int)]=some (.int (acc.getD i 0),[some (acc.map .int)]):=by
   rw[BL,v1,U0b,i0,U0b]
   show U17 _ (atI (acc.map D.int) (i:Int))=_
   rw[nq hil];rfl
  have i2:eOp Gj (eOp Bx (eOp oIx (Ab 1) (eOp Gj (Ab 4) (eC (.int 1)))) (Ab 3)) (Ab 2) [e0,some (.ref 0),some (.int x),some (.int y),some (.int m)] [some (acc.map .int)]=some (.int (acc.getD i 0+y-x),[some (acc.map .int)]):=by
   have:eOp Bx (eOp oIx (Ab 1) (eOp Gj (Ab 4) (eC (.int 1)))) (Ab 3) [e0,some (.ref 0),some (.int x),some (.int y),some (.int m)] [some (acc.map .int)]=some (.int (acc.getD i 0+y),[some (acc.map .int)]):=by
    rw[BL,i1];rfl
   rw[BL,this];rfl
  rw[KR,i2,U0b,v1,U0b,i0,U0b]
  show(ixN (acc.map D.int).length (i:Int)).bind _=_
  rw[U0i,N5 hil]
  show some (Fl.nx,_,[some ((acc.map D.int).set i (.int (acc.getD i 0+y-x)))])=_
  rw[←List.map_set]
 .rw[decide_eq_false hm] at t1
  rw[Ij t1,if_pos (by show m<=0;omega)]
  rfl
theorem iG(acc:List Int)(t:Int×Int×Int):(Ii acc t).length=acc.length:=by
 unfold Ii
 split
 .rfl
 .rw[U4d]
theorem R7:∀(l:List (Int×Int×Int))(acc:List Int),(l.foldl Ii acc).length=acc.length
 |[],_=>rfl
 |t::l,acc=>by rw[U16,R7 l,iG]
theorem lZ(ps:List St2):∀acc:List Int,(sw ps).foldl Ii acc=(Bf (Ah ps) 1 0 (U0k (Ah ps).length)).foldl Cm acc:=by
 rw[RM]
 unfold sw
 rw[eX]
 generalize steps (DP (Ah ps) 0 (U0k (Ah ps).length))=l
 induction l with
 |nil=>intro acc;rfl
 |cons p l ih =>
  intro acc
  rw[U0j,U16,ih,U6h]
  have e:cnt ps p.1=((Ez (Ah ps) 0 p.1 (U0k (Ah ps).length)).length:Nat):=by rw[Qc,Tv]
  by_cases h:Ez (Ah ps) 0 p.1 (U0k (Ah ps).length)=[]
  .rw[if_neg (by rw[decide_eq_false (fun z=>z h)];decide)]
   have:Ii acc (p.1,p.2,cnt ps p.1)=acc:=by
    unfold Ii
    rw[if_pos (by show cnt ps p.1<=0;rw[e,h];simp)]
   rw[this]
  .have hp:=U39.mpr h
   rw[if_pos (decide_eq_true h),U0j,U16]
   congr 1
   unfold Ii Cm
   rw[if_neg (by show ¬cnt ps p.1<=0;rw[e];omega)]
   show acc.set (cnt ps p.1-1).toNat (acc.getD (cnt ps p.1-1).toNat 0+p.2-p.1)=acc.set ((Ez (Ah ps) 0 p.1 (U0k (Ah ps).length)).length-1) (acc.getD ((Ez (Ah ps) 0 p.1 (U0k (Ah ps).length)).length-1) 0+(p.2-p.1)*1)
   rw[e,U6,show(((Ez (Ah ps) 0 p.1 (U0k (Ah ps).length)).length:Int)-1).toNat=(Ez (Ah ps) 0 p.1 (U0k (Ah ps).length)).length-1 by omega]
   congr 1
   omega
def oft(ps:List St2):List Int:=(Bf (Ah ps) 1 0 (U0k (Ah ps).length)).foldl Cm (U0h (maxLen (Bf (Ah ps) 1 0 (U0k (Ah ps).length))) 0)
theorem vp{ps:List St2}(g:Good 1 (Ah ps)):Lj ps.length ((sw ps).foldl Ii (U0h ps.length 0))=oft ps:=by
 have hf:=Ko g
 have hl:(Ah ps).length=ps.length:=by simp
 obtain⟨m1,m2,_⟩:=R8 (Bf (Ah ps) 1 0 (U0k (Ah ps).length))
 rw[lZ]
 refine dO (fun c hc=>⟨(hf c hc).2.1,m1 c hc,WL c.1 fun p hp=>((hf c hc).1 p hp).1⟩) m2 (fun c hc=>(hf c hc).2.1) (fun t=>rfl) ?_
 rcases m2 with h|⟨c,hc,h⟩
 .omega
 .rw[←h,←hl];exact(hf c hc).2.2
theorem wu(ps:List St2)(x:Int):cnt ps x<=ps.length:=by
 rw[Qc]
 have:=U31 (fun p=>inS p x) ps
 omega
theorem lV{ps:List St2}(g:Good 1 (Ah ps))(hf:ps.length<=20)(hp:∀p∈ps,p.1<p.2):G3 [.lst false ((Ah ps).map Af)]=some (.lst true ((oft ps).map .int)):=by
 have t1:(eCB Ed (Aa (Ab 0) Ag)) [some (.lst false ((Ah ps).map Af)),none,none,none,none] []=some (.int ps.length,[]):=by
  show(some (D.int (((Ah ps).map Af).length:Nat),([]:Store)):Option (D×Store))=_
  rw[U0i,U0i]
 have t2:(Bq (Aa (eC (.int 0)) Ag)) [some (.lst false ((Ah ps).map Af)),none,none,none,none] []=some (.lst true [.int 0],[]):=rfl
 have s1:(Bo 1 (Py (Bq (Aa (eC (.int 0)) Ag)) (eCB Ed (Aa (Ab 0) Ag)))) [some (.lst false ((Ah ps).map Af)),none,none,none,none] []=some (.nx,[some (.lst false ((Ah ps).map Af)),some (.ref 0),none,none,none],[some ((U0h ps.length (0:Int)).map .int)]):=by
  rw[Cg,fB t2 rfl t1 (by simp;omega) (by omega),YS]
  rfl
 have c1:Aw Dv (Aa (Ab 0) Ag) [some (.lst false ((Ah ps).map Af)),some (.ref 0),none,none,none] [some ((U0h ps.length (0:Int)).map .int)]=some (.lst true ((sw ps).map Dr),[some ((U0h ps.length (0:Int)).map .int)]) :=
  Cr (ds:=[.lst false ((Ah ps).map Af)]) (es:=[.lst false ((Ah ps).map Af)]) rfl (QS ..) (RP ..) (YJ ps hf hp)
 have e:Dt (Aw Dv (Aa (Ab 0) Ag)) [some (.lst false ((Ah ps).map Af)),some (.ref 0),none,none,none] [some ((U0h ps.length (0:Int)).map .int)]=some (((sw ps).map Dr,[]),[some ((U0h ps.length (0:Int)).map .int)]):=by rw[G7,c1];rfl
 have sm:∀t∈sw ps,t.2.2<=ps.length:=fun t ht=>by
  obtain⟨p,_,rfl⟩:=U1v.mp ht
  exact wu ps p.1
 obtain⟨env',S',e2,z2,z3,z4,he,hS⟩:=G8 (w:=[]) (g:=Pat.sem (.tp [(.nm 2),(.nm 3),(.nm 4)])) (b:=Ky) (ds:=(sw ps).map Dr) (env:=[some (.lst false ((Ah ps).map Af)),some (.ref 0),none,none,none]) (S:=[some ((U0h ps.length (0:Int)).map .int)])
  (fun i env S=>∃z2 z3 z4:Option D,env=[some (.lst false ((Ah ps).map Af)),some (.ref 0),z2,z3,z4]/\S=[some ((((sw ps).take i).foldl Ii (U0h ps.length 0)).map .int)])
  ⟨none,none,none,rfl,rfl⟩ (fun i env S _=>by simp) (fun i d env S hd q=>by
   obtain⟨z2,z3,z4,he,hS⟩:=q
   subst he hS
   rw[U0z] at hd
   obtain⟨t,ht,rfl⟩:=U1y.mp hd
   refine⟨[some (.lst false ((Ah ps).map Af)),some (.ref 0),some (.int t.1),some (.int t.2.1),some (.int t.2.2)],by simp[Dy,GR,En,Ec,-U0e,-U0f,Dr],_,_,vq (((sw ps).take i).foldl Ii (U0h ps.length 0)) t (by rw[R7,U1e];exact sm t (U1h ht)) _,_,_,_,rfl,?_⟩
   rw[U3q,ht,U32,U36]
   rfl)
 subst he hS
 have hlm:((sw ps).map Dr).length=(sw ps).length:=by simp
 rw[hlm,U29] at e2
 have l1:Nz [some (.lst false ((Ah ps).map Af)),some (.ref 0),none,none,none] [some ((U0h ps.length (0:Int)).map .int)]=some (.nx,[some (.lst false ((Ah ps).map Af)),some (.ref 0),z2,z3,z4],[some (((sw ps).foldl Ii (U0h ps.length 0)).map .int)]):=by
  unfold Nz
  rw[HJ,e]
  exact e2
 have hd:=vp g
 have hlen:((sw ps).foldl Ii (U0h ps.length 0)).length=ps.length:=by rw[R7,U1e]
 generalize (sw ps).foldl Ii (U0h ps.length 0)=l at *
 have l2:=Y8 (some (.lst false ((Ah ps).map Af))) z2 z3 z4 100000 l (by omega)
 rw[hlen,hd] at l2
 unfold G3
 rw[DW]
 simp only[U0g,U1a,U0j,U1j,U1w,U1x,U0q,U09,U15,U1n,if_true]
 unfold Sy RW
 rw[BR s1,BR l1,BR l2]
 generalize oft ps=k
 show den 0 [some (k.map D.int)] (.ref 0)=_
 rw[den,if_neg (by omega)]
 show(if Ax (k.map D.int)=true then _ else _)=_
 rw[if_pos (Ik _)]
theorem QV{ps:List St2}(g:Good 1 (Ah ps)):Cj [Al false 1 (Ah ps)]=some (.lst true ((oft ps).map .int)):=by
 have few:=g.few
 have hl:=GJ (bs:=Ah ps) 1 0 (U0k (Ah ps).length) (by simpa using few)
 have h2:=UG g
 have h3:=jk _ _ few (by omega) (Ko g)
 have s1:=Xn g (r:=[some (Al false 1 (Ah ps))]) (a:=eC (.int 1)) rfl rfl
 unfold oft
 generalize Ah ps=bs at *
 have c2:Aw Dq (Aa (Ab 0) Ag) [some (Al false 1 bs)] []=some (.lst true ((Bf bs 1 0 (U0k bs.length)).map encC),[]) :=
  Cr (ds:=[Al false 1 bs]) (es:=[Al false 1 bs]) (S':=[]) rfl (by simp[Ax,Ba,Al]) (by simp[Bk,age,Al]) h2
 generalize Bf bs 1 0 (U0k bs.length)=cs at *
 have c3:Aw Ep (Aa (Aw Dq (Aa (Ab 0) Ag)) Ag) [some (Al false 1 bs)] []=some (.lst true ((cs.foldl Cm (U0h (maxLen cs) 0)).map .int),[]) :=
  Cr (ds:=[.lst true (cs.map encC)]) (es:=[.lst false (cs.map encC)]) (S':=[]) (by rw[Ao,c2];rfl) (by rw[Ax,Ba,Km,Ax];rfl) (by rw[Bk,age,Wv,Bk]) h3
 unfold Cj
 rw[DW]
 simp only[U0g,U1a,U0j,U1j,U1w,U1x,U09,U2u,if_true]
 unfold Oo
 rw[BR s1,Ci,c3]
 show den 0 _ (.lst true _)=_
 rw[den,Cp 0 _ (Ik _)];rfl
end W08
end
section
namespace W08
open PySem L2 VS
theorem Rt(k:List St2):Ei (k.map Ac)=true:=Dp _ fun p _=>Di p
theorem sE(k:List Int):Ei (k.map D.int)=true:=Dp _ fun p _=>rfl
theorem rJ{n:Nat}{bs:List (List St2)}(neg m m':Bool)(S:Store):eqP neg S (Al m n bs) (Al m' n bs)=some (.bl (neg ^^ true)):=QD 4 (Qz S m n bs) (Qz S m' n bs) (mK 0 n bs) (by decide)
theorem Vh(n:Nat)(bs:List (List St2)):Ax [Al true n bs]=true:=by simp[Ax,Ba,Al,Br (DG bs)]
theorem Y0(n:Nat)(bs:List (List St2)):Bk [Al true n bs]=[Al false n bs]:=by simp[Bk,age,Al]
theorem bB(m:Bool)(bs:List (List St2))(k:Int):Ax [.lst m (bs.map Af),.int k]=true:=by simp[Ax,Ba,Br (DG bs)]
theorem gC(m:Bool)(bs:List (List St2))(k:Int):Bk [.lst m (bs.map Af),.int k]=[.lst false (bs.map Af),.int k]:=by simp[Bk,age]
structure Far(ps:List St2):Prop where
 few:ps.length<=20
 all:∀p∈ps,p.1<p.2/\-1000000000<=p.1/\p.2<=1000000000
theorem Far.good{ps:List St2}(h:Far ps):Good 1 (Ah ps):=Vn h.few h.all
theorem Vi{ps:List St2}(h:Far ps)(k:Nat)(hk:1<=k):(pck ps k).length<=40:=by
 have h1:=Ym h.good k hk
 have h2:=Q9 (Hh (Ah ps) (U0k (Ah ps).length) k)
 unfold pck
 omega
theorem Wf{ps:List St2}{x:Int}(h:1<=(Ez (Ah ps) 0 x (U0k (Ah ps).length)).length):∃p∈ps,p.1<=x/\x<p.2:=by
 rw[Tv] at h
 obtain⟨p,hp⟩:=List.exists_mem_of_ne_nil _ (U39.mp h)
 obtain⟨h1,h2⟩:=U3e.mp hp
 exact⟨p,h1,Hj.mp h2⟩
theorem YX{ps:List St2}(h:Far ps)(k:Nat)(hk:1<=k):Ri (pck ps k):=by
 obtain⟨n1,n2⟩:=Zy (Ah ps) (U0k (Ah ps).length) k hk
 intro p hp
 have hp1:=n1.pos p hp
 have c1:cov (pck ps k) p.1=true:=Vs.mpr ⟨p,hp,U5q _,hp1⟩
 have c2:cov (pck ps k) (p.2-1)=true:=Vs.mpr ⟨p,hp,by omega,by omega⟩
 unfold pck at c1 c2
 rw[n2,decide_eq_true_eq] at c1 c2
 obtain⟨a,ha,a1,a2⟩:=Wf (U1c hk c1)
 obtain⟨b,hb,b1,b2⟩:=Wf (U1c hk c2)
 have:=h.all a ha
 have:=h.all b hb
 omega
theorem nF{l:List St2}(h:Ri l):Ri (BK l):=fun p hp=>by
 obtain⟨q,hq,rfl⟩:=U1v.mp hp
 have h1:=h q.1 (U5u hq).1
 have h2:=h q.2 (List.mem_of_mem_tail (U5u hq).2)
 simp only
 omega
theorem bQ(l:List St2):(BK l).length=l.length-1:=by simp[BK]
theorem bH:∀l:List St2,Ri l->-20000000000*(l.length:Int)<=G5 l/\G5 l<=20000000000*l.length
 |[],_=>by simp[G5]
 |p::l,h=>by
  have ih:=bH l fun q hq=>h q (U0p _ hq)
  have hp:=h p U0l
  unfold G5 at *
  rw[U0j,U2b,U0g]
  omega
theorem W7{Bd:Int}(hB:0<=Bd):∀(cs:List (List St2×List Nat))(acc:List Int)(M:Int),(∀c∈cs,0<=G6 c.1/\G6 c.1<=Bd)->0<=M->(∀x∈acc,0<=x/\x<=M)->∀x∈cs.foldl Cm acc,0<=x/\x<=M+Bd*cs.length
 |[],acc,M,_,hM,h=>fun x hx=>by have:=h x hx;simp;omega
 |c::cs,acc,M,hc,hM,h=>fun x hx=>by
  have h1:=hc c U0l
  have hg:∀i:Nat,0<=acc.getD i 0/\acc.getD i 0<=M:=fun i=>by
   rw[U0r]
   cases e:acc[i]? with
   |none=>exact⟨U5q _,hM⟩
   |some v=>exact h v (U1h e)
  have h2:=W7 hB cs (Cm acc c) (M+Bd) (fun d hd=>hc d (U0p _ hd)) (by omega) (fun y hy=>by
   unfold Cm at hy
   rcases List.mem_or_eq_of_mem_set hy with z|z
   .have:=h y z;omega
   .have:=hg (c.2.length-1);omega) x hx
  rw[U0g]
  have:Bd*((cs.length+1:Nat):Int)=Bd*cs.length+Bd:=by rw[Int.natCast_add,Int.mul_add];simp
  omega
theorem lW{ps:List St2}(h:Far ps):(oft ps).length<=20/\∀x∈oft ps,0<=x/\x<=100000000000:=by
 have g:=h.good
 have few:=g.few
 have hf:=Ko g
 have hd:=fun c=>JN (bs:=Ah ps) 1 0 (U0k (Ah ps).length) c
 have hl:=GJ (bs:=Ah ps) 1 0 (U0k (Ah ps).length) (by simpa using few)
 obtain⟨m1,m2,_⟩:=R8 (Bf (Ah ps) 1 0 (U0k (Ah ps).length))
 constructor
 .unfold oft
  rw[JF,U1e]
  rcases m2 with h|⟨c,hc,h⟩
  .omega
  .have:=(hf c hc).2.2;omega
 .intro x hx
  have:=W7 (Bd:=2000000000) (by decide) (Bf (Ah ps) 1 0 (U0k (Ah ps).length)) (U0h (maxLen (Bf (Ah ps) 1 0 (U0k (Ah ps).length))) 0) 0 (fun c hc=>by
   obtain⟨p,hp⟩:=U5i.mp (hd c hc)
   have hb:=(hf c hc).1 p (by rw[hp];exact U0l)
   have e:G6 c.1=p.2-p.1:=by rw[hp];exact U6 _
   omega) (by decide) (fun y hy=>by rw[(List.mem_replicate.mp hy).2];decide) x hx
  omega
theorem sG{P:List St2}{L:Int}{O:List Int}(h1:P.length<=40)(h2:Ri P)(h3:O.length<=20)(h4:∀x∈O,0<=x/\x<=100000000000)(h5:-1000000000000<=L/\L<=1000000000000):fit [4,200,2] (.list [.list (P.map pS),.list ((BK P).map pS),.int L,.list (O.map .int)])=true:=by
 have gl:=bQ P
 have lf:∀(ws:List Nat)(a:Int),-1000000000000<=a->a<=1000000000000->fit ws (.int a)=true:=fun ws a h1 h2=>by
  have:Mz (.int a)=true:=decide_eq_true (by
   show a.natAbs<10^41
   exact U3z (m:=1000000000000) (by omega) (by decide))
  cases ws<;>exact this
 refine(Ru [200,2] 4 _ (by simp) fun x hx=>?_).1
 simp only[U0t,U13,or_false] at hx
 rcases hx with rfl|rfl|rfl|rfl
 .exact Xu (by omega) h2
 .exact Xu (by omega) (nF h2)
 .exact lf _ _ h5.1 h5.2
 .refine(Ru [2] 200 _ (by rw[U0i];omega) fun x hx=>?_).1
  obtain⟨i,hi,rfl⟩:=U1v.mp hx
  have:=h4 i hi
  exact lf _ _ (by omega) (by omega)
theorem kZ(P:List St2)(hk:P.length<=100000)(S:Store)(e0 e1 e3 e4 e5 e6 e7:Option D):Ks [e0,e1,some (.lst true (P.map Ac)),e3,e4,e5,e6,e7] S=some ((BK P).map Ac,S):=by
 have e:=Y4 P [e0,e1,some (.lst true (P.map Ac)),e3,e4,e5,e6,e7] S 2 rfl
 unfold Ks Ej
 rw[e]
 simp only[U0b]
 have hz:(P.zip P.tail).length<=P.length:=by rw[U5c];omega
 rw[KQ (by simp) (fun q:St2×St2=>D.tup [Ac q.1,Ac q.2]) (fun q=>Ac (q.1.2,q.2.1)) (P.zip P.tail) (by omega)]
 .unfold BK
  rw[U0e];rfl
 .intro q hq
  exact⟨[some (Ac q.1),some (Ac q.2)],by simp[J8,Dy,GR,En,Ec,U0q,-U0e,-U0f],by simp[BJ,Ea,BL,CV,Ao,HN,oIx,VS.listOf,Cu,-U0e,-U0f,Ac]⟩
theorem kY(P:List St2)(hk:P.length<=100000)(S:Store)(e0 e1 e3 e4 e5 e6 e7:Option D):JR [e0,e1,some (.lst true (P.map Ac)),e3,e4,e5,e6,e7] S=some ((P.map fun p=>p.2-p.1).map .int,S):=by
 have e:Dt (Ab 2) [e0,e1,some (.lst true (P.map Ac)),e3,e4,e5,e6,e7] S=some ((P.map Ac,[]),S):=rfl
 unfold JR Ej
 rw[e]
 simp only[U0b]
 rw[KQ (by simp) Ac (fun p=>.int (p.2-p.1)) P (by omega),U0e]
 .rfl
 .intro p hp
  exact⟨[some (.int p.1),some (.int p.2)],by simp[J8,Dy,GR,En,Ec,U0q,-U0e,-U0f,Ac],by simp[BJ,BL,oI,Hi,Gj,-U0e,-U0f]⟩
theorem len_same{ps:List St2}(h:Far ps):szs (Bf (Ah ps) 1 0 (U0k (Ah ps).length))=G5 (pck ps 1):=by
 rw[←Ti _ (fun c hc=>JN 1 0 _ c hc),Ln]
 unfold pck
 have:=Tp (Hh (Ah ps) (U0k (Ah ps).length) 1) []
 rw[this]
 show _=(0:Int)+_
 omega
theorem Rx{env:VS.Env}{S S':Store}{o:Az}{i:Nat}{l:List D}{d:D}{a:Az}(ho:o env S=some (.ref i,S))(hi:S[i]?=some (some l))(ha:a env S=some (d,S))(hl:l.length<1000000)(hS:S.set i (some (l++[d]))=S'):Gv (FJ Ew o (Aa a Ag)) env S=some (.nx,env,S'):=by
 rw[KN,Mx (d:=.ref i) (cs:=l) (ds:=[d]) (r:=.non) (S1:=S) (S2:=S) (S3:=S') ho (by rw[VS.listOf,hi];rfl) (by rw[Ao,ha];rfl) (by
  unfold Ew
  simp only[hi]
  rw[if_pos hl,hS])]
 rfl
theorem kj{ps:List St2}(h:Far ps)(P:List St2)(hP:P=pck ps 1)(L:Int)(hL:L=G5 P)(O:List Int)(hO:O=oft ps)(e0 z5 z6 z7:Option D)(T:Store):∃(y6:Option D)(T':Store),Kv [e0,some (Al true 1 (Ah ps)),some (.lst true (P.map Ac)),some (.lst true ((BK P).map Ac)),some (.lst true [.lst true (P.map Ac),.lst true ((BK P).map Ac),.int L,.lst true (O.map .int)]),z5,z6,z7] T=some (.nx,[e0,some (Al true 1 (Ah ps)),some (.lst true (P.map Ac)),some (.lst true ((BK P).map Ac)),some (.lst true [.lst true (P.map Ac),.lst true ((BK P).map Ac),.int L,.lst true (O.map .int)]),z5,y6,z7],T'):=by
 have g:=h.good
 have h1:=WT g
 have h2:=rM g
 have h3:=iM g
 have h4:=QV g
 have ep:pcs (Ah ps)=pck ps 1:=rfl
 rw[len_same h,←hP,←hL] at h3
 rw[ep,←hP] at h1 h2
 rw[←hO] at h4
 have few:=Vi h 1 (U0u _)
 have nr:=YX h 1 (U0u _)
 have on:=lW h
 rw[←hP] at few nr
 rw[←hO] at on
 have lu:=bH P nr
 rw[←hL] at lu
 have gl:=bQ P
 have cH:∀(sem:DQ)(r:D)(S:Store),sem [Al false 1 (Ah ps)]=some r->Aw sem (Aa (Ab 1) Ag) [e0,some (Al true 1 (Ah ps)),some (.lst true (P.map Ac)),some (.lst true ((BK P).map Ac)),some (.lst true [.lst true (P.map Ac),.lst true ((BK P).map Ac),.int L,.lst true (O.map .int)]),z5,z6,z7] S=some (r,S):=fun sem r S hr=>Cr (ds:=[Al true 1 (Ah ps)]) (es:=[Al false 1 (Ah ps)]) (S':=S) rfl (Vh ..) (Y0 ..) hr
 have a1:GX Cq (Aa (Ab 1) Ag) [e0,some (Al true 1 (Ah ps)),some (.lst true (P.map Ac)),some (.lst true ((BK P).map Ac)),some (.lst true [.lst true (P.map Ac),.lst true ((BK P).map Ac),.int L,.lst true (O.map .int)]),z5,z6,z7] T=some (.ref T.length,T++[some (P.map Ac)]):=Nj (cH _ _ T h1) (by rw[N7,if_pos (Rt P)])
 have a2:GX Gy (Aa (Ab 1) Ag) [e0,some (Al true 1 (Ah ps)),some (.lst true (P.map Ac)),some (.lst true ((BK P).map Ac)),some (.lst true [.lst true (P.map Ac),.lst true ((BK P).map Ac),.int L,.lst true (O.map .int)]),z5,z6,z7] (T++[some (P.map Ac)])=some (.ref (T.length+1),T++[some (P.map Ac)]++[some ((BK P).map Ac)]):=by
  have:=Nj (d':=.ref (T++[some (P.map Ac)]).length) (cs:=(BK P).map Ac) (cH _ _ (T++[some (P.map Ac)]) h2) (by rw[N7,if_pos (Rt _)])
  rw[U0s] at this
  exact this
 have a3:=cH _ _ (T++[some (P.map Ac)]++[some ((BK P).map Ac)]) h3
 have a4:GX Cj (Aa (Ab 1) Ag) [e0,some (Al true 1 (Ah ps)),some (.lst true (P.map Ac)),some (.lst true ((BK P).map Ac)),some (.lst true [.lst true (P.map Ac),.lst true ((BK P).map Ac),.int L,.lst true (O.map .int)]),z5,z6,z7] (T++[some (P.map Ac)]++[some ((BK P).map Ac)])=some (.ref (T.length+2),T++[some (P.map Ac)]++[some ((BK P).map Ac)]++[some (O.map .int)]):=by
  have:=Nj (d':=.ref (T++[some (P.map Ac)]++[some ((BK P).map Ac)]).length) (cs:=O.map .int) (cH _ _ (T++[some (P.map Ac)]++[some ((BK P).map Ac)]) h4) (by rw[N7,if_pos (sE _)])
  rw[U0s,U0s] at this
  exact this
 have s1:(Bo 6 (Bq (Aa (GX Cq (Aa (Ab 1) Ag)) (Aa (GX Gy (Aa (Ab 1) Ag)) (Aa (Aw Es (Aa (Ab 1) Ag)) (Aa (GX Cj (Aa (Ab 1) Ag)) Ag)))))) [e0,some (Al true 1 (Ah ps)),some (.lst true (P.map Ac)),some (.lst true ((BK P).map Ac)),some (.lst true [.lst true (P.map Ac),.lst true ((BK P).map Ac),.int L,.lst true (O.map .int)]),z5,z6,z7] T=some (.nx,[e0,some (Al true 1 (Ah ps)),some (.lst true (P.map Ac)),some (.lst true ((BK P).map Ac)),some (.lst true [.lst true (P.map Ac),.lst true ((BK P).map Ac),.int L,.lst true (O.map .int)]),z5,some (.lst true [.ref T.length,.ref (T.length+1),.int L,.ref (T.length+2)]),z7],T++[some (P.map Ac),some ((BK P).map Ac),some (O.map .int)]):=by
  rw[Cg,Dd,Ao,a1,U0b,Ao,a2,U0b,Ao,a3,U0b,Ao,a4,U35,U35];rfl
 obtain⟨U,hU⟩:∃U:Store,U=T++[some (P.map Ac),some ((BK P).map Ac),some (O.map .int)]:=⟨_,rfl⟩
 have u0:U[T.length]?=some (some (P.map Ac)):=by rw[hU];simp
 have u1:U[T.length+1]?=some (some ((BK P).map Ac)):=by rw[hU];simp
 have u2:U[T.length+2]?=some (some (O.map .int)):=by rw[hU];simp
 have hp:∀l:List St2,Ax (l.map Ac)=true:=fun l=>Br (Rt l)
 have dk:∀(i:Nat)(l:List D),Ax l=true->U[i]?=some (some l)->den 0 U (.ref i)=some (.lst true l):=fun i l hl hi=>by
  rw[den,if_neg (by omega),hi]
  show(if Ax l=true then _ else _)=_
  rw[if_pos hl]
 have dl:∀l:List D,Ax l=true->den 0 U (.lst true l)=some (.lst true l):=fun l hl=>by rw[den,Cp 0 U hl];rfl
 have tS:∀l:List St2,toP (.lst true (l.map Ac))=some (.list (l.map pS)):=fun l=>by
  have:=Qp [] true l
  rw[Ca,den,Cp 0 [] (hp l)] at this
  exact this
 have tI:∀l:List Int,toP (.lst true (l.map .int))=some (.list (l.map .int)):=fun l=>by rw[toP,Qu];rfl
 have tD:toP (.lst true [.lst true (P.map Ac),.lst true ((BK P).map Ac),.int L,.lst true (O.map .int)])=some (.list [.list (P.map pS),.list ((BK P).map pS),.int L,.list (O.map .int)]):=by
  rw[toP,GP,tS,U0b,GP,tS,U0b,GP,toP,U0b,GP,tI,U0b,GP];rfl
 have dI:den 0 U (.int L)=some (.int L):=by rw[den]
 have se1:Ca U (.lst true [.ref T.length,.ref (T.length+1),.int L,.ref (T.length+2)])=some (.list [.list (P.map pS),.list ((BK P).map pS),.int L,.list (O.map .int)]):=by
  rw[Ca,den,CZ,dk _ _ (hp P) u0,U0b,CZ,dk _ _ (hp _) u1,U0b,CZ,dI,U0b,CZ,dk _ _ (Ik O) u2,U0b,CZ]
  exact tD
 have se2:Ca U (.lst true [.lst true (P.map Ac),.lst true ((BK P).map Ac),.int L,.lst true (O.map .int)])=some (.list [.list (P.map pS),.list ((BK P).map pS),.int L,.list (O.map .int)]):=by
  rw[Ca,den,CZ,dl _ (hp P),U0b,CZ,dl _ (hp _),U0b,CZ,dI,U0b,CZ,dl _ (Ik O),U0b,CZ]
  exact tD
 have ft:=sG few nr on.1 on.2 (L:=L) (by omega)
 have r1:=Rn se1 ft (by decide) (by decide)
 have r2:=Rn se2 ft (by decide) (by decide)
 have k1:Bb (eOp (Ou true) (eCB Fj (Aa (Ab 6) Ag)) (eCB Fj (Aa (Ab 4) Ag))) [e0,some (Al true 1 (Ah ps)),some (.lst true (P.map Ac)),some (.lst true ((BK P).map Ac)),some (.lst true [.lst true (P.map Ac),.lst true ((BK P).map Ac),.int L,.lst true (O.map .int)]),z5,some (.lst true [.ref T.length,.ref (T.length+1),.int L,.ref (T.length+2)]),z7] U=some (false,U):=by
  have c1:eCB Fj (Aa (Ab 6) Ag) [e0,some (Al true 1 (Ah ps)),some (.lst true (P.map Ac)),some (.lst true ((BK P).map Ac)),some (.lst true [.lst true (P.map Ac),.lst true ((BK P).map Ac),.int L,.lst true (O.map .int)]),z5,some (.lst true [.ref T.length,.ref (T.length+1),.int L,.ref (T.length+2)]),z7] U=some (.str (U41 (.list [.list (P.map pS),.list ((BK P).map pS),.int L,.list (O.map .int)])),U):=by
   show U17 _ (Fj U [.lst true [.ref T.length,.ref (T.length+1),.int L,.ref (T.length+2)]])=_
   rw[r1];rfl
  have c2:eCB Fj (Aa (Ab 4) Ag) [e0,some (Al true 1 (Ah ps)),some (.lst true (P.map Ac)),some (.lst true ((BK P).map Ac)),some (.lst true [.lst true (P.map Ac),.lst true ((BK P).map Ac),.int L,.lst true (O.map .int)]),z5,some (.lst true [.ref T.length,.ref (T.length+1),.int L,.ref (T.length+2)]),z7] U=some (.str (U41 (.list [.list (P.map pS),.list ((BK P).map pS),.int L,.list (O.map .int)])),U):=by
   show U17 _ (Fj U [.lst true [.lst true (P.map Ac),.lst true ((BK P).map Ac),.int L,.lst true (O.map .int)]])=_
   rw[r2];rfl
  rw[Dk,BL,c1,U0b,c2,U0b]
  simp[Ou]
 have s2:(sIf (Bb (eOp (Ou true) (eCB Fj (Aa (Ab 6) Ag)) (eCB Fj (Aa (Ab 4) Ag)))) (Cy (eC (.bl false))) Ey) [e0,some (Al true 1 (Ah ps)),some (.lst true (P.map Ac)),some (.lst true ((BK P).map Ac)),some (.lst true [.lst true (P.map Ac),.lst true ((BK P).map Ac),.int L,.lst true (O.map .int)]),z5,some (.lst true [.ref T.length,.ref (T.length+1),.int L,.ref (T.length+2)]),z7] U=some (.nx,[e0,some (Al true 1 (Ah ps)),some (.lst true (P.map Ac)),some (.lst true ((BK P).map Ac)),some (.lst true [.lst true (P.map Ac),.lst true ((BK P).map Ac),.int L,.lst true (O.map .int)]),z5,some (.lst true [.ref T.length,.ref (T.length+1),.int L,.ref (T.length+2)]),z7],U):=by rw[Ij k1];rfl
 have s3:(Gv (FJ Ew (eOp oIx (Ab 6) (eC (.int 0))) (Aa (eC (.int 0)) Ag))) [e0,some (Al true 1 (Ah ps)),some (.lst true (P.map Ac)),some (.lst true ((BK P).map Ac)),some (.lst true [.lst true (P.map Ac),.lst true ((BK P).map Ac),.int L,.lst true (O.map .int)]),z5,some (.lst true [.ref T.length,.ref (T.length+1),.int L,.ref (T.length+2)]),z7] U=some (.nx,[e0,some (Al true 1 (Ah ps)),some (.lst true (P.map Ac)),some (.lst true ((BK P).map Ac)),some (.lst true [.lst true (P.map Ac),.lst true ((BK P).map Ac),.int L,.lst true (O.map .int)]),z5,some (.lst true [.ref T.length,.ref (T.length+1),.int L,.ref (T.length+2)]),z7],U.set T.length (some (P.map Ac++[.int 0]))):=Rx (i:=T.length) rfl u0 rfl (by rw[U0i];omega) rfl
 have v1:(U.set T.length (some (P.map Ac++[.int 0])))[T.length+1]?=some (some ((BK P).map Ac)):=by rw[U2p (by omega)];exact u1
 have s4:(Gv (FJ Ew (eOp oIx (Ab 6) (eC (.int 1))) (Aa (eC (.int 0)) Ag))) [e0,some (Al true 1 (Ah ps)),some (.lst true (P.map Ac)),some (.lst true ((BK P).map Ac)),some (.lst true [.lst true (P.map Ac),.lst true ((BK P).map Ac),.int L,.lst true (O.map .int)]),z5,some (.lst true [.ref T.length,.ref (T.length+1),.int L,.ref (T.length+2)]),z7] (U.set T.length (some (P.map Ac++[.int 0])))=some (.nx,[e0,some (Al true 1 (Ah ps)),some (.lst true (P.map Ac)),some (.lst true ((BK P).map Ac)),some (.lst true [.lst true (P.map Ac),.lst true ((BK P).map Ac),.int L,.lst true (O.map .int)]),z5,some (.lst true [.ref T.length,.ref (T.length+1),.int L,.ref (T.length+2)]),z7],(U.set T.length (some (P.map Ac++[.int 0]))).set (T.length+1) (some ((BK P).map Ac++[.int 0]))):=Rx (i:=T.length+1) rfl v1 rfl (by rw[U0i];omega) rfl
 have v2:((U.set T.length (some (P.map Ac++[.int 0]))).set (T.length+1) (some ((BK P).map Ac++[.int 0])))[T.length+2]?=some (some (O.map .int)):=by rw[U2p (by omega),U2p (by omega)];exact u2
 have s5:(Gv (FJ Ew (eOp oIx (Ab 6) (eC (.int 3))) (Aa (eC (.int 0)) Ag))) [e0,some (Al true 1 (Ah ps)),some (.lst true (P.map Ac)),some (.lst true ((BK P).map Ac)),some (.lst true [.lst true (P.map Ac),.lst true ((BK P).map Ac),.int L,.lst true (O.map .int)]),z5,some (.lst true [.ref T.length,.ref (T.length+1),.int L,.ref (T.length+2)]),z7] ((U.set T.length (some (P.map Ac++[.int 0]))).set (T.length+1) (some ((BK P).map Ac++[.int 0])))=some (.nx,[e0,some (Al true 1 (Ah ps)),some (.lst true (P.map Ac)),some (.lst true ((BK P).map Ac)),some (.lst true [.lst true (P.map Ac),.lst true ((BK P).map Ac),.int L,.lst true (O.map .int)]),z5,some (.lst true [.ref T.length,.ref (T.length+1),.int L,.ref (T.length+2)]),z7],((U.set T.length (some (P.map Ac++[.int 0]))).set (T.length+1) (some ((BK P).map Ac++[.int 0]))).set (T.length+2) (some (O.map .int++[.int 0]))):=Rx (i:=T.length+2) rfl v2 rfl (by rw[U0i];omega) rfl
 refine⟨some (.lst true [.ref T.length,.ref (T.length+1),.int L,.ref (T.length+2)]),((U.set T.length (some (P.map Ac++[.int 0]))).set (T.length+1) (some ((BK P).map Ac++[.int 0]))).set (T.length+2) (some (O.map .int++[.int 0])),?_⟩
 unfold Kv
 rw[BR s1,←hU,BR s2,BR s3,BR s4,s5]
theorem kh{ps:List St2}(h:Far ps)(k:Nat)(hk:1<=k)(e2 e3 e4 e5 z6:Option D)(T:Store):∃(y6:Option D)(T':Store),Ku [some (.lst false ((Ah ps).map Af)),some (Al true 1 (Ah ps)),e2,e3,e4,e5,z6,some (.int k)] T=some (.nx,[some (.lst false ((Ah ps).map Af)),some (Al true 1 (Ah ps)),e2,e3,e4,e5,y6,some (.int k)],T'):=by
 have g:=h.good
 have h1:=mL g k hk
 have h2:=T8 ps h.few (fun p hp=>(h.all p hp).1) k
 have few:=Vi h k hk
 have nr:=YX h k hk
 generalize pck ps k=Q at *
 have c0:∀(z6:Option D)(S:Store),Aw Cw (Aa (Ab 1) (Aa (Ab 7) Ag)) [some (.lst false ((Ah ps).map Af)),some (Al true 1 (Ah ps)),e2,e3,e4,e5,z6,some (.int k)] S=some (.lst true (Q.map Ac),S):=fun z6 S =>
  Cr (ds:=[Al true 1 (Ah ps),.int k]) (es:=[Al false 1 (Ah ps),.int k]) (S':=S) rfl (YW ..) (bh ..) h1
 have a1:GX Cw (Aa (Ab 1) (Aa (Ab 7) Ag)) [some (.lst false ((Ah ps).map Af)),some (Al true 1 (Ah ps)),e2,e3,e4,e5,z6,some (.int k)] T=some (.ref T.length,T++[some (Q.map Ac)]):=Nj (c0 z6 T) (by rw[N7,if_pos (Rt Q)])
 have s1:(Bo 6 (GX Cw (Aa (Ab 1) (Aa (Ab 7) Ag)))) [some (.lst false ((Ah ps).map Af)),some (Al true 1 (Ah ps)),e2,e3,e4,e5,z6,some (.int k)] T=some (.nx,[some (.lst false ((Ah ps).map Af)),some (Al true 1 (Ah ps)),e2,e3,e4,e5,some (.ref T.length),some (.int k)],T++[some (Q.map Ac)]):=by rw[Cg,a1];rfl
 have c1:∀S:Store,Aw Ce (Aa (Ab 0) (Aa (Ab 7) Ag)) [some (.lst false ((Ah ps).map Af)),some (Al true 1 (Ah ps)),e2,e3,e4,e5,some (.ref T.length),some (.int k)] S=some (.lst true (Q.map Ac),S):=fun S =>
  Cr (ds:=[.lst false ((Ah ps).map Af),.int k]) (es:=[.lst false ((Ah ps).map Af),.int k]) (S':=S) rfl (bB ..) (gC ..) h2
 have u0:=jR T (some (Q.map Ac)) []
 have ft:=Xu (l:=Q) (by omega) nr
 have r1:=Rn (eZ u0) ft (by decide) (by decide)
 have r2:=Rn (Qp (T++[some (Q.map Ac)]) true Q) ft (by decide) (by decide)
 have k1:Bb (eOp (Ou true) (eCB Fj (Aa (Ab 6) Ag)) (eCB Fj (Aa (Aw Ce (Aa (Ab 0) (Aa (Ab 7) Ag))) Ag))) [some (.lst false ((Ah ps).map Af)),some (Al true 1 (Ah ps)),e2,e3,e4,e5,some (.ref T.length),some (.int k)] (T++[some (Q.map Ac)])=some (false,T++[some (Q.map Ac)]):=by
  have d1:eCB Fj (Aa (Ab 6) Ag) [some (.lst false ((Ah ps).map Af)),some (Al true 1 (Ah ps)),e2,e3,e4,e5,some (.ref T.length),some (.int k)] (T++[some (Q.map Ac)])=some (.str (U41 (.list (Q.map pS))),T++[some (Q.map Ac)]):=by
   show U17 _ (Fj (T++[some (Q.map Ac)]) [.ref T.length])=_
   rw[r1];rfl
  have d2:eCB Fj (Aa (Aw Ce (Aa (Ab 0) (Aa (Ab 7) Ag))) Ag) [some (.lst false ((Ah ps).map Af)),some (Al true 1 (Ah ps)),e2,e3,e4,e5,some (.ref T.length),some (.int k)] (T++[some (Q.map Ac)])=some (.str (U41 (.list (Q.map pS))),T++[some (Q.map Ac)]):=by
   rw[FN,Ao,c1]
   show U17 _ (Fj (T++[some (Q.map Ac)]) [.lst true (Q.map Ac)])=_
   rw[r2];rfl
  rw[Dk,BL,d1,U0b,d2,U0b]
  simp[Ou]
 have s2:(sIf (Bb (eOp (Ou true) (eCB Fj (Aa (Ab 6) Ag)) (eCB Fj (Aa (Aw Ce (Aa (Ab 0) (Aa (Ab 7) Ag))) Ag)))) (Cy (eC (.bl false))) Ey) [some (.lst false ((Ah ps).map Af)),some (Al true 1 (Ah ps)),e2,e3,e4,e5,some (.ref T.length),some (.int k)] (T++[some (Q.map Ac)])=some (.nx,[some (.lst false ((Ah ps).map Af)),some (Al true 1 (Ah ps)),e2,e3,e4,e5,some (.ref T.length),some (.int k)],T++[some (Q.map Ac)]):=by rw[Ij k1];rfl
 have s3:(Gv (FJ Ew (Ab 6) (Aa (eC .non) Ag))) [some (.lst false ((Ah ps).map Af)),some (Al true 1 (Ah ps)),e2,e3,e4,e5,some (.ref T.length),some (.int k)] (T++[some (Q.map Ac)])=some (.nx,[some (.lst false ((Ah ps).map Af)),some (Al true 1 (Ah ps)),e2,e3,e4,e5,some (.ref T.length),some (.int k)],T++[some (Q.map Ac++[.non])]):=Rx (i:=T.length) rfl u0 rfl (by rw[U0i];omega) (jL ..)
 have k2:Bb (eOp (oEq true) (Aw Cw (Aa (Ab 1) (Aa (Ab 7) Ag))) (Aw Ce (Aa (Ab 0) (Aa (Ab 7) Ag)))) [some (.lst false ((Ah ps).map Af)),some (Al true 1 (Ah ps)),e2,e3,e4,e5,some (.ref T.length),some (.int k)] (T++[some (Q.map Ac++[.non])])=some (false,T++[some (Q.map Ac++[.non])]):=by
  have q:=QD (neg:=true) 2 (Qp (T++[some (Q.map Ac++[.non])]) true Q) (Qp (T++[some (Q.map Ac++[.non])]) true Q) (fM Q) (by decide)
  rw[Dk,BL,c0,U0b,c1,U0b]
  have q':oEq true (T++[some (Q.map Ac++[.non])]) (.lst true (Q.map Ac)) (.lst true (Q.map Ac))=some (.bl false):=q
  rw[q'];rfl
 refine⟨some (.ref T.length),T++[some (Q.map Ac++[.non])],?_⟩
 unfold Ku
 rw[BR s1,BR s2,BR s3,Ij k2]
 rfl
theorem Zj{a:Bu}{env:VS.Env}{S S':Store}{i j:Int}(n:Nat)(h:a env S=some ([.int i,.int j],S'))(hn:(j-i).toNat=n)(hi:r62 i)(hj:r62 j)(h2:n<=1000):GF a env S=some (.lst true (upD i n),S'):=by
 unfold GF
 rw[h,U0b]
 show(if r62 i/\r62 j/\(j-i).toNat<=1000 then some (D.lst true (upD i (j-i).toNat),S') else none)=_
 rw[if_pos ⟨hi,hj,by omega⟩,hn]
theorem pow10(k:Nat)(hk:k<=1000)(env:VS.Env)(S:Store):eOp Hw (eC (.int 10)) (eC (.int k)) env S=some (.int (10^k),S):=by
 have h:NK 10 (k:Int)=true:=by
  unfold NK
  simp
  omega
 rw[BL,Ea,U0b,Ea,U0b]
 show(if NK 10 (k:Int)=true then some (D.int (10^(k:Int).toNat)) else none).map _=_
 rw[if_pos h,U2z];rfl
theorem add_lists{a b:Az}{env:VS.Env}{S:Store}{xs ys:List D}(ha:a env S=some (.lst true xs,S))(hb:b env S=some (.lst true ys,S))(hl:xs.length+ys.length<=1000000):eOp Bx a b env S=some (.lst true (xs++ys),S):=by
 rw[BL,ha,U0b,hb,U0b]
 show(U17 _ (if xs.length+ys.length<=1000000 then some (D.lst true (xs++ys)) else none))=_
 rw[if_pos hl];rfl
theorem kW{ps:List St2}(h:Far ps):Gm [.lst false ((Ah ps).map Af)]=some (.bl true):=by
 have hf:=h.few
 have hp:∀p∈ps,p.1<p.2:=fun p hp=>(h.all p hp).1
 have g:=h.good
 have s1:(Bo 1 (Cz (Aa (eC (.int 1)) (Aa (Ui nList (Aa (Ab 0) Ag)) Ag)))) [some (.lst false ((Ah ps).map Af)),none,none,none,none,none,none,none] []=some (.nx,[some (.lst false ((Ah ps).map Af)),some (Al true 1 (Ah ps)),none,none,none,none,none,none],[]):=by
  simp[Cg,BJ,Ea,CV,Ao,HN,nM,nList,VS.listOf,Cu,-U0e,-U0f,Al]
 have h1:=T8 ps hf hp 1
 have few:=Vi h 1 (U0u _)
 obtain⟨P,hP⟩:∃P:List St2,P=pck ps 1:=⟨_,rfl⟩
 obtain⟨L,hL⟩:∃L:Int,L=G5 P:=⟨_,rfl⟩
 obtain⟨O,hO⟩:∃O:List Int,O=oft ps:=⟨_,rfl⟩
 rw[←hP] at h1 few
 have ho:=lV g hf hp
 rw[←hO] at ho
 have s2:(Bo 2 (Aw Ce (Aa (Ab 0) (Aa (eC (.int 1)) Ag)))) [some (.lst false ((Ah ps).map Af)),some (Al true 1 (Ah ps)),none,none,none,none,none,none] []=some (.nx,[some (.lst false ((Ah ps).map Af)),some (Al true 1 (Ah ps)),some (.lst true (P.map Ac)),none,none,none,none,none],[]):=by
  rw[Cg,Cr (ds:=[.lst false ((Ah ps).map Af),.int 1]) (es:=[.lst false ((Ah ps).map Af),.int 1]) (S':=[]) rfl (bB ..) (gC ..) h1];rfl
 have s3:(Bo 3 (Bq Ks)) [some (.lst false ((Ah ps).map Af)),some (Al true 1 (Ah ps)),some (.lst true (P.map Ac)),none,none,none,none,none] []=some (.nx,[some (.lst false ((Ah ps).map Af)),some (Al true 1 (Ah ps)),some (.lst true (P.map Ac)),some (.lst true ((BK P).map Ac)),none,none,none,none],[]):=by
  rw[Cg,Dd,kZ P (by omega)];rfl
 have b0:eCB TV (Aa (Bq JR) Ag) [some (.lst false ((Ah ps).map Af)),some (Al true 1 (Ah ps)),some (.lst true (P.map Ac)),some (.lst true ((BK P).map Ac)),none,none,none,none] []=some (.int L,[]):=by
  rw[FN,Ao,Dd,kY P (by omega),hL]
  unfold G5
  show U17 _ ((intsOf ((P.map fun p=>p.2-p.1).map D.int)).map fun ns=>D.int ns.sum)=_
  rw[Mj];rfl
 have s4:(Bo 4 (Bq (Aa (Ab 2) (Aa (Ab 3) (Aa (eCB TV (Aa (Bq JR) Ag)) (Aa (Aw G3 (Aa (Ab 0) Ag)) Ag)))))) [some (.lst false ((Ah ps).map Af)),some (Al true 1 (Ah ps)),some (.lst true (P.map Ac)),some (.lst true ((BK P).map Ac)),none,none,none,none] []=some (.nx,[some (.lst false ((Ah ps).map Af)),some (Al true 1 (Ah ps)),some (.lst true (P.map Ac)),some (.lst true ((BK P).map Ac)),some (.lst true [.lst true (P.map Ac),.lst true ((BK P).map Ac),.int L,.lst true (O.map .int)]),none,none,none],[]):=by
  have c1:Aw G3 (Aa (Ab 0) Ag) [some (.lst false ((Ah ps).map Af)),some (Al true 1 (Ah ps)),some (.lst true (P.map Ac)),some (.lst true ((BK P).map Ac)),none,none,none,none] []=some (.lst true (O.map .int),[]):=Cr (ds:=[.lst false ((Ah ps).map Af)]) (es:=[.lst false ((Ah ps).map Af)]) (S':=[]) rfl (QS ..) (RP ..) ho
  have v2:Ab 2 [some (.lst false ((Ah ps).map Af)),some (Al true 1 (Ah ps)),some (.lst true (P.map Ac)),some (.lst true ((BK P).map Ac)),none,none,none,none] []=some (.lst true (P.map Ac),[]):=rfl
  have v3:Ab 3 [some (.lst false ((Ah ps).map Af)),some (Al true 1 (Ah ps)),some (.lst true (P.map Ac)),some (.lst true ((BK P).map Ac)),none,none,none,none] []=some (.lst true ((BK P).map Ac),[]):=rfl
  rw[Cg,Dd,Ao,v2,U0b,Ao,v3,U0b,Ao,b0,U0b,Ao,c1];rfl
 have e:Jb (Aa (eC (.int 2)) Ag) [some (.lst false ((Ah ps).map Af)),some (Al true 1 (Ah ps)),some (.lst true (P.map Ac)),some (.lst true ((BK P).map Ac)),some (.lst true [.lst true (P.map Ac),.lst true ((BK P).map Ac),.int L,.lst true (O.map .int)]),none,none,none] []=some ((upD 0 2,[]),[]):=Xl (j:=2) 2 rfl (by decide) (by decide) (by decide)
 have l1:∃(z5 z6:Option D)(T:Store),Ny [some (.lst false ((Ah ps).map Af)),some (Al true 1 (Ah ps)),some (.lst true (P.map Ac)),some (.lst true ((BK P).map Ac)),some (.lst true [.lst true (P.map Ac),.lst true ((BK P).map Ac),.int L,.lst true (O.map .int)]),none,none,none] []=some (.nx,[some (.lst false ((Ah ps).map Af)),some (Al true 1 (Ah ps)),some (.lst true (P.map Ac)),some (.lst true ((BK P).map Ac)),some (.lst true [.lst true (P.map Ac),.lst true ((BK P).map Ac),.int L,.lst true (O.map .int)]),z5,z6,none],T):=by
  obtain⟨env',S',e2,z5,z6,he⟩:=G8 (w:=[]) (g:=Pat.sem (.nm 5)) (b:=Kv) (ds:=upD 0 2) (env:=[some (.lst false ((Ah ps).map Af)),some (Al true 1 (Ah ps)),some (.lst true (P.map Ac)),some (.lst true ((BK P).map Ac)),some (.lst true [.lst true (P.map Ac),.lst true ((BK P).map Ac),.int L,.lst true (O.map .int)]),none,none,none]) (S:=[])
   (fun _ env S=>∃z5 z6:Option D,env=[some (.lst false ((Ah ps).map Af)),some (Al true 1 (Ah ps)),some (.lst true (P.map Ac)),some (.lst true ((BK P).map Ac)),some (.lst true [.lst true (P.map Ac),.lst true ((BK P).map Ac),.int L,.lst true (O.map .int)]),z5,z6,none]) ⟨none,none,rfl⟩ (fun i env S _=>by simp) (fun i d env S hd q=>by
    obtain⟨z5,z6,he⟩:=q
    subst he
    obtain⟨y6,T',b⟩:=kj h P hP L hL O hO (some (.lst false ((Ah ps).map Af))) (some d) z6 none S
    exact⟨_,Dy _ _ _,_,_,b,_,_,rfl⟩)
  subst he
  refine⟨z5,z6,S',?_⟩
  unfold Ny
  rw[HJ,e]
  exact e2
 obtain⟨z5,z6,T,l1⟩:=l1
 obtain⟨ks,ek,hks⟩:∃ks:List Nat,Dt (eOp Bx (GF (Aa (eC (.int 1)) (Aa (eOp Bx (eCB Ed (Aa (Ab 0) Ag)) (eC (.int 2))) Ag))) (Bq (Aa (eOp Hw (eC (.int 10)) (eC (.int 39))) Ag))) [some (.lst false ((Ah ps).map Af)),some (Al true 1 (Ah ps)),some (.lst true (P.map Ac)),some (.lst true ((BK P).map Ac)),some (.lst true [.lst true (P.map Ac),.lst true ((BK P).map Ac),.int L,.lst true (O.map .int)]),z5,z6,none] T=some ((ks.map fun(k:Nat)=>D.int k,[]),T)/\∀k∈ks,1<=k:=by
  have o1:GF (Aa (eC (.int 1)) (Aa (eOp Bx (eCB Ed (Aa (Ab 0) Ag)) (eC (.int 2))) Ag)) [some (.lst false ((Ah ps).map Af)),some (Al true 1 (Ah ps)),some (.lst true (P.map Ac)),some (.lst true ((BK P).map Ac)),some (.lst true [.lst true (P.map Ac),.lst true ((BK P).map Ac),.int L,.lst true (O.map .int)]),z5,z6,none] T=some (.lst true (upD 1 (ps.length+1)),T):=by
   refine Zj (i:=1) (j:=(ps.length:Int)+2) (ps.length+1) ?_ (by omega) (by unfold r62;omega) (by unfold r62;omega) (by omega)
   show(some ([D.int 1,D.int ((((Ah ps).map Af).length:Nat)+2)],T):Option (List D×Store))=_
   rw[U0i,U0i]
  obtain⟨K,hK,hK1⟩:∃K:Nat,((K:Nat):Int)=10^39/\1<=K:=⟨10^39,Int.natCast_pow 10 39,Nat.one_le_pow _ _ (by decide)⟩
  have o2:Bq (Aa (eOp Hw (eC (.int 10)) (eC (.int 39))) Ag) [some (.lst false ((Ah ps).map Af)),some (Al true 1 (Ah ps)),some (.lst true (P.map Ac)),some (.lst true ((BK P).map Ac)),some (.lst true [.lst true (P.map Ac),.lst true ((BK P).map Ac),.int L,.lst true (O.map .int)]),z5,z6,none] T=some (.lst true [.int K],T):=by
   have:=pow10 39 (by decide) [some (.lst false ((Ah ps).map Af)),some (Al true 1 (Ah ps)),some (.lst true (P.map Ac)),some (.lst true ((BK P).map Ac)),some (.lst true [.lst true (P.map Ac),.lst true ((BK P).map Ac),.int L,.lst true (O.map .int)]),z5,z6,none] T
   rw[←hK] at this
   rw[Dd,Ao]
   refine(congrArg (fun z=>Option.bind z _) (congrArg (fun z=>Option.bind z _) this)).trans ?_
   rfl
  have ul:(upD 1 (ps.length+1)).length=ps.length+1:=Rj ..
  refine⟨(U0k (ps.length+1)).map (fun i=>1+i)++[K],?_,fun k hk=>?_⟩
  .have e1:((U0k (ps.length+1)).map (fun i=>1+i)++[K]).map (fun(k:Nat)=>D.int k)=upD 1 (ps.length+1)++[.int K]:=by
    rw[U1p,U0e]
    congr 1
   rw[e1,G7,add_lists o1 o2 (by rw[ul];simp;omega)]
   rfl
  .rcases U2c.mp hk with z|z
   .obtain⟨i,_,rfl⟩:=U1v.mp z
    omega
   .rw[U01.mp z];exact hK1
 have l2:∃(w6 w7:Option D)(T':Store),Nv [some (.lst false ((Ah ps).map Af)),some (Al true 1 (Ah ps)),some (.lst true (P.map Ac)),some (.lst true ((BK P).map Ac)),some (.lst true [.lst true (P.map Ac),.lst true ((BK P).map Ac),.int L,.lst true (O.map .int)]),z5,z6,none] T=some (.nx,[some (.lst false ((Ah ps).map Af)),some (Al true 1 (Ah ps)),some (.lst true (P.map Ac)),some (.lst true ((BK P).map Ac)),some (.lst true [.lst true (P.map Ac),.lst true ((BK P).map Ac),.int L,.lst true (O.map .int)]),z5,w6,w7],T'):=by
  obtain⟨env',S',e2,w6,w7,he⟩:=G8 (w:=[]) (g:=Pat.sem (.nm 7)) (b:=Ku) (ds:=ks.map fun(k:Nat)=>D.int k) (env:=[some (.lst false ((Ah ps).map Af)),some (Al true 1 (Ah ps)),some (.lst true (P.map Ac)),some (.lst true ((BK P).map Ac)),some (.lst true [.lst true (P.map Ac),.lst true ((BK P).map Ac),.int L,.lst true (O.map .int)]),z5,z6,none]) (S:=T)
   (fun _ env S=>∃w6 w7:Option D,env=[some (.lst false ((Ah ps).map Af)),some (Al true 1 (Ah ps)),some (.lst true (P.map Ac)),some (.lst true ((BK P).map Ac)),some (.lst true [.lst true (P.map Ac),.lst true ((BK P).map Ac),.int L,.lst true (O.map .int)]),z5,w6,w7]) ⟨z6,none,rfl⟩ (fun i env S _=>by simp) (fun i d env S hd q=>by
    obtain⟨w6,w7,he⟩:=q
    subst he
    rw[U0z] at hd
    obtain⟨k,hk,rfl⟩:=U1y.mp hd
    obtain⟨y6,T',b⟩:=kh h k (hks k (U1h hk)) (some (.lst true (P.map Ac))) (some (.lst true ((BK P).map Ac))) (some (.lst true [.lst true (P.map Ac),.lst true ((BK P).map Ac),.int L,.lst true (O.map .int)])) z5 w6 S
    exact⟨_,Dy _ _ _,_,_,b,_,_,rfl⟩)
  subst he
  refine⟨w6,w7,S',?_⟩
  unfold Nv
  rw[HJ,ek]
  exact e2
 obtain⟨w6,w7,T',l2⟩:=l2
 unfold Gm
 rw[DW]
 simp only[U0g,U1a,U0j,U1j,U1w,U1x,U0q,U09,U15,U1n,if_true]
 unfold Sw
 rw[BR s1,BR s2,BR s3,BR s4,BR l1,BR l2,Ci,BL]
 show((U17 _ (eqP false T' (Al true 1 (Ah ps)) (Al false 1 (Ah ps)))).bind _).bind _=_
 rw[rJ];rfl
end W08
end
section
namespace W08
open PySem L2 VS
def ins(x:Int):List Int->List Int
 |[]=>[x]
 |y::r=>if x<=y then x::y::r else y::ins x r
def Ug:List Int->List Int
 |[]=>[]
 |x::r=>ins x (Ug r)
theorem Tq(x:Int):∀l:List Int,(ins x l).Perm (x::l)
 |[]=>.refl _
 |y::r=>by
  rw[ins]
  split
  .exact .refl _
  .exact((Tq x r).cons y).trans (.swap ..)
theorem V6:∀l:List Int,(Ug l).Perm l
 |[]=>.refl _
 |x::r=>(Tq x _).trans ((V6 r).cons x)
theorem Yj(x:Int):∀{l:List Int},l.Pairwise (·<=·)->(ins x l).Pairwise (·<=·)
 |[],_=>by simp[ins]
 |y::r,h=>by
  obtain⟨h1,h2⟩:=U2f.mp h
  rw[ins]
  split
  .rename_i q
   refine U2f.mpr ⟨fun z hz=>?_,h⟩
   rcases U0t.mp hz with e|e
   .omega
   .have:=h1 z e;omega
  .refine U2f.mpr ⟨fun z hz=>?_,Yj x h2⟩
   rcases U0t.mp ((Tq x r).mem_iff.mp hz) with e|e
   .omega
   .exact h1 z e
theorem V5:∀l:List Int,(Ug l).Pairwise (·<=·)
 |[]=>.nil
 |x::r=>Yj x (V5 r)
theorem jy(ns:List Int):G9 ns=Ug (SetP.once ns):=(Uy (V6 _) (V5 _)).symm
def Xw(bs:List (List St2)):Nat->Nat->List Nat->List (List St2×List Nat)
 |0,_,ns=>if ns=[] then [] else [([],ns)]
 |k+1,w,ns=>if ns=[] then [] else (steps (Ug (SetP.once (ns.map (fun i=>(at1 bs i w).1)++ns.map (fun i=>(at1 bs i w).2))))).flatMap fun p=>(Xw bs k (w+1) (Ez bs w p.1 ns)).map fun c=>(p::c.1,c.2)
theorem RN(bs:List (List St2)):∀(k w:Nat)(ns:List Nat),Bf bs k w ns=Xw bs k w ns
 |0,_,_=>rfl
 |k+1,w,ns=>by
  rw[Bf,Xw,DP,jy]
  simp only[RN bs k]
end W08
end
section
namespace W08
open PySem L2 VS
theorem vm{bs:List (List St2)}(h:∀b∈bs,b.length=1):bs=Ah (bs.map fun b=>b.getD 0 (0,0)):=by
 unfold Ah
 rw[U0e]
 refine(U76 bs).symm.trans (U42 fun b hb=>?_)
 obtain⟨p,hp⟩:=U5i.mp (h b hb)
 rw[hp];rfl
theorem wX{bs:List (List St2)}{r0 r1:Int}(h1:-1000000000<=r0)(hl:bs.length<=20)(hb:∀b∈bs,b.length=1/\InB r0 r1 20 b):Far (bs.map fun b=>b.getD 0 (0,0)):=by
 refine⟨by rw[U0i];exact hl,fun p hp=>?_⟩
 obtain⟨b,hb',rfl⟩:=U1v.mp hp
 obtain⟨b1,b2⟩:=hb b hb'
 obtain⟨q,rfl⟩:=U5i.mp b1
 obtain⟨g1,g2,g3,g4⟩:=b2 q U0l
 show q.1<q.2/\-1000000000<=q.1/\q.2<=1000000000
 omega
theorem pH(ns:List Int)(c:Int)(z2:Option D)(S:Store):∃(S':Store)(y2:Option D),Ut [some (.scr ns),some (.int c),z2] S=some (.nx,[some (.scr ns),some (.int c),y2],S'):=by
 obtain⟨x0,p0⟩:=pC c
 have s1:(Bo 2 (GX GZ (Aa (Ab 1) Ag))) [some (.scr ns),some (.int c),z2] S=some (.nx,[some (.scr ns),some (.int c),some (.ref S.length)],S++[some [.int x0,.int c,.int 0]]):=by
  rw[Cg,Nj (d':=.ref S.length) (cs:=[.int x0,.int c,.int 0]) (Cr (ds:=[.int c]) (es:=[.int c]) (S':=S) rfl (by simp[Ax,Ba]) (by simp[Bk,age]) p0) (by simp[N7,Ei,Ck])]
  rfl
 obtain⟨r0,r1,x1,z5,d1,⟨h1,h2,h3⟩,k1,k2⟩:=lA x0 c 0 (by decide) (by decide)
 obtain⟨bs,x2,z6,e1,bl,bb,k3,k4⟩:=ni x1 c z5 r0 r1 1 20 (by decide) (by decide) (by decide) (by decide) h1 h2 h3 (by omega) (by omega)
 have hone:=vm fun b hb=>(bb b hb).1
 have hn:=wX h1 bl bb
 have hr:=kW hn
 rw[←hone] at hr
 have c1:Bv Et (Aa (Ab 2) Ag) [some (.scr ns),some (.int c),some (.ref S.length)] (S++[some [.int x0,.int c,.int 0]])=some (.tup [.int r0,.int r1],S++[some [.int x1,.int c,.int z5]]):=by
  rw[QG (ns:=[x0,c,0]) (rest:=[]) (es:=[]) (i:=S.length) (S':=S++[some [.int x0,.int c,.int 0]]) rfl (jR S _ []) (by simp[Ax]) (by simp[Bk]) d1,jL];rfl
 have a1:Aa (Ab 2) (Aa (eC (.int 1)) (Aa (Bv Et (Aa (Ab 2) Ag)) (Aa (eC (.int 20)) Ag))) [some (.scr ns),some (.int c),some (.ref S.length)] (S++[some [.int x0,.int c,.int 0]])=some ([.ref S.length,.int 1,.tup [.int r0,.int r1],.int 20],S++[some [.int x1,.int c,.int z5]]):=by
  have v2:Ab 2 [some (.scr ns),some (.int c),some (.ref S.length)] (S++[some [.int x0,.int c,.int 0]])=some (.ref S.length,S++[some [.int x0,.int c,.int 0]]):=rfl
  rw[Ao,v2,U0b,Ao,Ea,U0b,Ao,c1];rfl
 have c2:Bv G4 (Aa (Ab 2) (Aa (eC (.int 1)) (Aa (Bv Et (Aa (Ab 2) Ag)) (Aa (eC (.int 20)) Ag)))) [some (.scr ns),some (.int c),some (.ref S.length)] (S++[some [.int x0,.int c,.int 0]])=some (.lst true (bs.map Af),S++[some [.int x2,.int c,.int z6]]):=by
  rw[QG (ns:=[x1,c,z5]) (rest:=[.int 1,.tup [.int r0,.int r1],.int 20]) (es:=[.int 1,.tup [.int r0,.int r1],.int 20]) (i:=S.length) (S':=S++[some [.int x1,.int c,.int z5]]) a1 (jR S _ []) (by simp[Ax,Ba]) (by simp[Bk,age]) e1,jL];rfl
 have pB:=Br (DG bs)
 have aB:Bk (bs.map Af)=bs.map Af:=Gw (DG bs)
 have c3:Aw Gm (Aa (Bv G4 (Aa (Ab 2) (Aa (eC (.int 1)) (Aa (Bv Et (Aa (Ab 2) Ag)) (Aa (eC (.int 20)) Ag))))) Ag) [some (.scr ns),some (.int c),some (.ref S.length)] (S++[some [.int x0,.int c,.int 0]])=some (.bl true,S++[some [.int x2,.int c,.int z6]]) :=
  Cr (ds:=[.lst true (bs.map Af)]) (es:=[.lst false (bs.map Af)]) (by rw[Ao,c2];rfl) (by rw[Ax,Ba,pB,Ax];rfl) (by rw[Bk,age,aB,Bk]) hr
 refine⟨S++[some [.int x2,.int c,.int z6]],some (.ref S.length),?_⟩
 unfold Ut
 rw[BR s1,Ij (by rw[Rk,Dk,c3];rfl)]
 rfl
theorem mO:∀ns:List Int,ns.length<=63->Vg [.scr ns]=some (.bl true):=by
 intro ns hns
 obtain⟨l,e⟩:∃l:List Int,Dt (eOp Bx (Bq (Aa (eC (.int 0)) Ag)) (eSl oSl (Ab 0) Ge (Gd (eC (.int 15))))) [some (.scr ns),none,none] []=some ((l.map .int,[]),[]):=by
  obtain⟨cs,hc,hl⟩:∃cs:List Int,cut (ns.map D.int) none (some 15)=cs.map D.int/\cs.length<=63:=by
   unfold cut
   rw[←List.map_drop,←List.map_take]
   exact⟨_,rfl,by rw[U2j,U7c];omega⟩
  refine⟨0::cs,?_⟩
  have a1:eSl oSl (Ab 0) Ge (Gd (eC (.int 15))) [some (.scr ns),none,none] []=some (.lst true (cs.map .int),[]):=by
   show(some (D.lst true (cut (ns.map D.int) none (some 15)),([]:Store)):Option (D×Store))=_
   rw[hc]
  have a2:Bq (Aa (eC (.int 0)) Ag) [some (.scr ns),none,none] []=some (.lst true [.int 0],[]):=rfl
  rw[G7,add_lists a2 a1 (by rw[U0i];simp;omega)]
  rfl
 have l1:∃env' S',Xo [some (.scr ns),none,none] []=some (.nx,env',S')/\∃y1 y2,env'=[some (.scr ns),y1,y2]:=by
  unfold Xo
  rw[HJ,e]
  exact G8 (w:=[]) (g:=Pat.sem (.nm 1)) (b:=Ut) (ds:=l.map .int) (env:=[some (.scr ns),none,none]) (S:=[])
   (fun _ env S=>∃y1 y2,env=[some (.scr ns),y1,y2]) ⟨_,_,rfl⟩ (fun i env S _=>by simp) (fun j d env S hd q=>by
    obtain⟨y1,y2,he⟩:=q
    rw[U0z] at hd
    obtain⟨c,hc,rfl⟩:=U1y.mp hd
    subst he
    obtain⟨S',w2,e3⟩:=pH ns c y2 S
    exact⟨_,Dy _ _ _,_,_,e3,_,_,rfl⟩)
 obtain⟨env',S',l1,y1,y2,he⟩:=l1
 subst he
 have gA:Good 1 (Ah [(0,5),(0,5)]):=Vn (by decide) (by decide)
 have gB:Good 1 (Ah []):=Vn (by decide) (by decide)
 have vA:oft [((0:Int),(5:Int)),(0,5)]=[0,5]:=by
  unfold oft
  rw[RN]
  decide +kernel
 have vB:oft []=[]:=by
  unfold oft
  rw[RN]
  decide +kernel
 have hA:=QV gA
 have hB:=QV gB
 rw[vA] at hA
 rw[vB] at hB
 have cA:Aw Cj (Aa (Cz (Aa (eC (.int 1)) (Aa (Bq (Aa (Cz (Aa (Cz (Aa (eC (.int 0)) (Aa (eC (.int 5)) Ag))) Ag)) (Aa (Cz (Aa (Cz (Aa (eC (.int 0)) (Aa (eC (.int 5)) Ag))) Ag)) Ag))) Ag))) Ag) [some (.scr ns),y1,y2] S'=some (.lst true [.int 0,.int 5],S') :=
  Cr (ds:=[Al true 1 (Ah [(0,5),(0,5)])]) (es:=[Al false 1 (Ah [(0,5),(0,5)])]) (S':=S') rfl (Vh ..) (Y0 ..) hA
 have cB:Aw Cj (Aa (Cz (Aa (eC (.int 1)) (Aa (Bq Ag) Ag))) Ag) [some (.scr ns),y1,y2] S'=some (.lst true [],S') :=
  Cr (ds:=[Al true 1 (Ah [])]) (es:=[Al false 1 (Ah [])]) (S':=S') rfl (Vh ..) (Y0 ..) hB
 have eA:∀S:Store,oEq false S (.lst true [.int 0,.int 5]) (.lst true [.int 0,.int 5])=some (.bl true):=fun S=>QD (p:=.list [.int 0,.int 5]) 1 (by simp[Ca,VS.den,CZ,toP,GP]) (by simp[Ca,VS.den,CZ,toP,GP]) rfl (by decide)
 have eN:∀S:Store,oEq false S (.lst true []) (.lst true [])=some (.bl true):=fun S=>QD (p:=.list []) 1 (by simp[Ca,VS.den,CZ,toP,GP]) (by simp[Ca,VS.den,CZ,toP,GP]) rfl (by decide)
 unfold Vg
 rw[DW]
 simp only[U0g,U1a,U0j,U1j,U1w,U1x,U0q,U09,U15,U1n,if_true]
 unfold oO
 rw[BR l1]
 simp[Ci,Rv,BL,Dd,Ao,CV,Ea,cA,cB,eA,eN,den]
end W08
end
section
namespace W08
open PySem PySem.Spec L2 VS
theorem J7:∀{us:List Value},us.length=1->∃a0,us=[a0]
 |[a0],_=>⟨a0,rfl⟩
theorem Ot:∀{us:List Value},us.length=2->∃a0 a1,us=[a0,a1]
 |[a0,a1],_=>⟨a0,a1,rfl⟩
theorem jJ:∀{us:List Value},us.length=4->∃a0 a1 a2 a3,us=[a0,a1,a2,a3]
 |[a0,a1,a2,a3],_=>⟨a0,a1,a2,a3,rfl⟩
theorem tops{l:U6m}{w:World}{K:U0a}{h:Heap}{mg:Str->Option Value}{fa dM:Addr}{f1 f2 f3 f4 f5 f6 f7 f8 f9 f10 f11 f12 f13 f14 f15 f16 f17 f18 f19 f20 f21 f22 f23 f24 f25 f26 f27 f28 f29 f30 f31 f32:Addr}(X:K.In h)(G:h.Ns mainGlobals mg)(hfa:mg "law"=some (.ref fa))
  {od1 an1 od2 an2 od3 an3 od4 an4 od5 an5 od6 an6 od7 an7 od8 an8 od9 an9 od10 an10 od11 an11 od12 an12 od13 an13 od14 an14 od15 an15 od16 an16 od17 an17 od18 an18 od19 an19 od20 an20 od21 an21 od22 an22 od23 an23 od24 an24 od25 an25 od26 an26 od27 an27 od28 an28 od29 an29 od30 an30 od31 an31 od32 an32:Option Addr} {sl1 sl2 sl3 sl4 sl5 sl6 sl7 sl8 sl9 sl10 sl11 sl12 sl13 sl14 sl15 sl16 sl17 sl18 sl19 sl20 sl21 sl22 sl23 sl24 sl25 sl26 sl27 sl28 sl29 sl30 sl31 sl32:Array (Option Value)} {oc1 kV1 dc1 pm1 cd1 ct1 oc2 kV2 dc2 pm2 cd2 ct2 oc3 kV3 dc3 pm3 cd3 ct3 oc4 kV4 dc4 pm4 cd4 ct4 oc5 kV5 dc5 pm5 cd5 ct5 oc6 kV6 dc6 pm6 cd6 ct6 oc7 kV7 dc7 pm7 cd7 ct7 oc8 kV8 dc8 pm8 cd8 ct8 oc9 kV9 dc9 pm9 cd9 ct9 oc10 kV10 dc10 pm10 cd10 ct10 oc11 kV11 dc11 pm11 cd11 ct11 oc12 kV12 dc12 pm12 cd12 ct12 oc13 kV13 dc13 pm13 cd13 ct13 oc14 kV14 dc14 pm14 cd14 ct14 oc15 kV15 dc15 pm15 cd15 ct15 oc16 kV16 dc16 pm16 cd16 ct16 oc17 kV17 dc17 pm17 cd17 ct17 oc18 kV18 dc18 pm18 cd18 ct18 oc19 kV19 dc19 pm19 cd19 ct19 oc20 kV20 dc20 pm20 cd20 ct20 oc21 kV21 dc21 pm21 cd21 ct21 oc22 kV22 dc22 pm22 cd22 ct22 oc23 kV23 dc23 pm23 cd23 ct23 oc24 kV24 dc24 pm24 cd24 ct24 oc25 kV25 dc25 pm25 cd25 ct25 oc26 kV26 dc26 pm26 cd26 ct26 oc27 kV27 dc27 pm27 cd27 ct27 oc28 kV28 dc28 pm28 cd28 ct28 oc29 kV29 dc29 pm29 cd29 ct29 oc30 kV30 dc30 pm30 cd30 ct30 oc31 kV31 dc31 pm31 cd31 ct31 oc32 kV32 dc32 pm32 cd32 ct32:Value}
  (a1:U00 K mainGlobals "is_whole"=some (some (.ref f1))) (l1:K.lookup f1=some ⟨oc1,od1,.func (U08 "is_whole" "is_whole" (CN Jg) (Bw Jg) (Ak Jg) .none kV1 dc1 pm1 an1 cd1 ct1),sl1⟩) (c1:U05 K cd1 "is_whole"=true) (k1:U02 K (.ref f1)=true)
  (a2:U00 K mainGlobals "are_ways"=some (some (.ref f2))) (l2:K.lookup f2=some ⟨oc2,od2,.func (U08 "are_ways" "are_ways" (CN Jj) (Bw Jj) (Ak Jj) .none kV2 dc2 pm2 an2 cd2 ct2),sl2⟩) (c2:U05 K cd2 "are_ways"=true) (k2:U02 K (.ref f2)=true)
  (a3:U00 K mainGlobals "is_stretch"=some (some (.ref f3))) (l3:K.lookup f3=some ⟨oc3,od3,.func (U08 "is_stretch" "is_stretch" (CN Ib) (Bw Ib) (Ak Ib) .none kV3 dc3 pm3 an3 cd3 ct3),sl3⟩) (c3:U05 K cd3 "is_stretch"=true) (k3:U02 K (.ref f3)=true)
  (a4:U00 K mainGlobals "is_box"=some (some (.ref f4))) (l4:K.lookup f4=some ⟨oc4,od4,.func (U08 "is_box" "is_box" (CN KD) (Bw KD) (Ak KD) .none kV4 dc4 pm4 an4 cd4 ct4),sl4⟩) (c4:U05 K cd4 "is_box"=true) (k4:U02 K (.ref f4)=true)
  (a5:U00 K mainGlobals "is_heap"=some (some (.ref f5))) (l5:K.lookup f5=some ⟨oc5,od5,.func (U08 "is_heap" "is_heap" (CN JK) (Bw JK) (Ak JK) .none kV5 dc5 pm5 an5 cd5 ct5),sl5⟩) (c5:U05 K cd5 "is_heap"=true) (k5:U02 K (.ref f5)=true)
  (a6:U00 K mainGlobals "need_heap"=some (some (.ref f6))) (l6:K.lookup f6=some ⟨oc6,od6,.func (U08 "need_heap" "need_heap" (CN Iu) (Bw Iu) (Ak Iu) .none kV6 dc6 pm6 an6 cd6 ct6),sl6⟩) (c6:U05 K cd6 "need_heap"=true) (k6:U02 K (.ref f6)=true)
  (a7:U00 K mainGlobals "need_ways"=some (some (.ref f7))) (l7:K.lookup f7=some ⟨oc7,od7,.func (U08 "need_ways" "need_ways" (CN Ir) (Bw Ir) (Ak Ir) .none kV7 dc7 pm7 an7 cd7 ct7),sl7⟩) (c7:U05 K cd7 "need_ways"=true) (k7:U02 K (.ref f7)=true)
  (a8:U00 K mainGlobals "box_size"=some (some (.ref f8))) (l8:K.lookup f8=some ⟨oc8,od8,.func (U08 "box_size" "box_size" (CN Ji) (Bw Ji) (Ak Ji) .none kV8 dc8 pm8 an8 cd8 ct8),sl8⟩) (c8:U05 K cd8 "box_size"=true) (k8:U02 K (.ref f8)=true)
  (a9:U00 K mainGlobals "ends_along"=some (some (.ref f9))) (l9:K.lookup f9=some ⟨oc9,od9,.func (U08 "ends_along" "ends_along" (CN Ga) (Bw Ga) (Ak Ga) .none kV9 dc9 pm9 an9 cd9 ct9),sl9⟩) (c9:U05 K cd9 "ends_along"=true) (k9:U02 K (.ref f9)=true)
  (a10:U00 K mainGlobals "steps_along"=some (some (.ref f10))) (l10:K.lookup f10=some ⟨oc10,od10,.func (U08 "steps_along" "steps_along" (CN Ho) (Bw Ho) (Ak Ho) .none kV10 dc10 pm10 an10 cd10 ct10),sl10⟩) (c10:U05 K cd10 "steps_along"=true) (k10:U02 K (.ref f10)=true)
  (a11:U00 K mainGlobals "cells_from"=some (some (.ref f11))) (l11:K.lookup f11=some ⟨oc11,od11,.func (U08 "cells_from" "cells_from" (CN Gb) (Bw Gb) (Ak Gb) .none kV11 dc11 pm11 an11 cd11 ct11),sl11⟩) (c11:U05 K cd11 "cells_from"=true) (k11:U02 K (.ref f11)=true)
  (a12:U00 K mainGlobals "cells_of"=some (some (.ref f12))) (l12:K.lookup f12=some ⟨oc12,od12,.func (U08 "cells_of" "cells_of" (CN Jh) (Bw Jh) (Ak Jh) .none kV12 dc12 pm12 an12 cd12 ct12),sl12⟩) (c12:U05 K cd12 "cells_of"=true) (k12:U02 K (.ref f12)=true)
  (a13:U00 K mainGlobals "sizes_by_times"=some (some (.ref f13))) (l13:K.lookup f13=some ⟨oc13,od13,.func (U08 "sizes_by_times" "sizes_by_times" (CN FZ) (Bw FZ) (Ak FZ) .none kV13 dc13 pm13 an13 cd13 ct13),sl13⟩) (c13:U05 K cd13 "sizes_by_times"=true) (k13:U02 K (.ref f13)=true)
  (a14:U00 K mainGlobals "joined"=some (some (.ref f14))) (l14:K.lookup f14=some ⟨oc14,od14,.func (U08 "joined" "joined" (CN Lf) (Bw Lf) (Ak Lf) .none kV14 dc14 pm14 an14 cd14 ct14),sl14⟩) (c14:U05 K cd14 "joined"=true) (k14:U02 K (.ref f14)=true)
  (a15:U00 K mainGlobals "pieces_held"=some (some (.ref f15))) (l15:K.lookup f15=some ⟨oc15,od15,.func (U08 "pieces_held" "pieces_held" (CN Gp) (Bw Gp) (Ak Gp) .none kV15 dc15 pm15 an15 cd15 ct15),sl15⟩) (c15:U05 K cd15 "pieces_held"=true) (k15:U02 K (.ref f15)=true)
  (a16:U00 K mainGlobals "pieces_of"=some (some (.ref f16))) (l16:K.lookup f16=some ⟨oc16,od16,.func (U08 "pieces_of" "pieces_of" (CN Ip) (Bw Ip) (Ak Ip) .none kV16 dc16 pm16 an16 cd16 ct16),sl16⟩) (c16:U05 K cd16 "pieces_of"=true) (k16:U02 K (.ref f16)=true)
  (a17:U00 K mainGlobals "gaps_of"=some (some (.ref f17))) (l17:K.lookup f17=some ⟨oc17,od17,.func (U08 "gaps_of" "gaps_of" (CN JL) (Bw JL) (Ak JL) .none kV17 dc17 pm17 an17 cd17 ct17),sl17⟩) (c17:U05 K cd17 "gaps_of"=true) (k17:U02 K (.ref f17)=true)
  (a18:U00 K mainGlobals "covered_length"=some (some (.ref f18))) (l18:K.lookup f18=some ⟨oc18,od18,.func (U08 "covered_length" "covered_length" (CN Fb) (Bw Fb) (Ak Fb) .none kV18 dc18 pm18 an18 cd18 ct18),sl18⟩) (c18:U05 K cd18 "covered_length"=true) (k18:U02 K (.ref f18)=true)
  (a19:U00 K mainGlobals "lengths_often"=some (some (.ref f19))) (l19:K.lookup f19=some ⟨oc19,od19,.func (U08 "lengths_often" "lengths_often" (CN Gi) (Bw Gi) (Ak Gi) .none kV19 dc19 pm19 an19 cd19 ct19),sl19⟩) (c19:U05 K cd19 "lengths_often"=true) (k19:U02 K (.ref f19)=true)
  (a20:U00 K mainGlobals "pieces_at_least"=some (some (.ref f20))) (l20:K.lookup f20=some ⟨oc20,od20,.func (U08 "pieces_at_least" "pieces_at_least" (CN Fz) (Bw Fz) (Ak Fz) .none kV20 dc20 pm20 an20 cd20 ct20),sl20⟩) (c20:U05 K cd20 "pieces_at_least"=true) (k20:U02 K (.ref f20)=true)
  (a21:U00 K mainGlobals "_law_mixed"=some (some (.ref f21))) (l21:K.lookup f21=some ⟨oc21,od21,.func (U08 "_law_mixed" "_law_mixed" (CN J3) (Bw J3) (Ak J3) .none kV21 dc21 pm21 an21 cd21 ct21),sl21⟩) (c21:U05 K cd21 "_law_mixed"=true) (k21:U02 K (.ref f21)=true)
  (a22:U00 K mainGlobals "_law_well"=some (some (.ref f22))) (l22:K.lookup f22=some ⟨oc22,od22,.func (U08 "_law_well" "_law_well" (CN Je) (Bw Je) (Ak Je) .none kV22 dc22 pm22 an22 cd22 ct22),sl22⟩) (c22:U05 K cd22 "_law_well"=true) (k22:U02 K (.ref f22)=true)
  (a23:U00 K mainGlobals "_law_draw"=some (some (.ref f23))) (l23:K.lookup f23=some ⟨oc23,od23,.func (U08 "_law_draw" "_law_draw" (CN Jf) (Bw Jf) (Ak Jf) .none kV23 dc23 pm23 an23 cd23 ct23),sl23⟩) (c23:U05 K cd23 "_law_draw"=true) (k23:U02 K (.ref f23)=true)
  (a24:U00 K mainGlobals "_law_reach"=some (some (.ref f24))) (l24:K.lookup f24=some ⟨oc24,od24,.func (U08 "_law_reach" "_law_reach" (CN Iw) (Bw Iw) (Ak Iw) .none kV24 dc24 pm24 an24 cd24 ct24),sl24⟩) (c24:U05 K cd24 "_law_reach"=true) (k24:U02 K (.ref f24)=true)
  (a25:U00 K mainGlobals "_law_stretch"=some (some (.ref f25))) (l25:K.lookup f25=some ⟨oc25,od25,.func (U08 "_law_stretch" "_law_stretch" (CN Hq) (Bw Hq) (Ak Hq) .none kV25 dc25 pm25 an25 cd25 ct25),sl25⟩) (c25:U05 K cd25 "_law_stretch"=true) (k25:U02 K (.ref f25)=true)
  (a26:U00 K mainGlobals "_law_box"=some (some (.ref f26))) (l26:K.lookup f26=some ⟨oc26,od26,.func (U08 "_law_box" "_law_box" (CN JH) (Bw JH) (Ak JH) .none kV26 dc26 pm26 an26 cd26 ct26),sl26⟩) (c26:U05 K cd26 "_law_box"=true) (k26:U02 K (.ref f26)=true)
  (a27:U00 K mainGlobals "_law_boxes"=some (some (.ref f27))) (l27:K.lookup f27=some ⟨oc27,od27,.func (U08 "_law_boxes" "_law_boxes" (CN J4) (Bw J4) (Ak J4) .none kV27 dc27 pm27 an27 cd27 ct27),sl27⟩) (c27:U05 K cd27 "_law_boxes"=true) (k27:U02 K (.ref f27)=true)
  (a28:U00 K mainGlobals "_law_swept"=some (some (.ref f28))) (l28:K.lookup f28=some ⟨oc28,od28,.func (U08 "_law_swept" "_law_swept" (CN Iv) (Bw Iv) (Ak Iv) .none kV28 dc28 pm28 an28 cd28 ct28),sl28⟩) (c28:U05 K cd28 "_law_swept"=true) (k28:U02 K (.ref f28)=true)
  (a29:U00 K mainGlobals "_law_at_least"=some (some (.ref f29))) (l29:K.lookup f29=some ⟨oc29,od29,.func (U08 "_law_at_least" "_law_at_least" (CN HX) (Bw HX) (Ak HX) .none kV29 dc29 pm29 an29 cd29 ct29),sl29⟩) (c29:U05 K cd29 "_law_at_least"=true) (k29:U02 K (.ref f29)=true)
  (a30:U00 K mainGlobals "_law_often"=some (some (.ref f30))) (l30:K.lookup f30=some ⟨oc30,od30,.func (U08 "_law_often" "_law_often" (CN Iz) (Bw Iz) (Ak Iz) .none kV30 dc30 pm30 an30 cd30 ct30),sl30⟩) (c30:U05 K cd30 "_law_often"=true) (k30:U02 K (.ref f30)=true)
  (a31:U00 K mainGlobals "_law_right"=some (some (.ref f31))) (l31:K.lookup f31=some ⟨oc31,od31,.func (U08 "_law_right" "_law_right" (CN Gz) (Bw Gz) (Ak Gz) .none kV31 dc31 pm31 an31 cd31 ct31),sl31⟩) (c31:U05 K cd31 "_law_right"=true) (k31:U02 K (.ref f31)=true)
  (a32:U00 K mainGlobals "law"=some (some (.ref f32))) (l32:K.lookup f32=some ⟨oc32,od32,.func (U08 "law" "law" (CN MN) (Bw MN) (Ak MN) .none kV32 dc32 pm32 an32 cd32 ct32),sl32⟩) (c32:U05 K cd32 "law"=true) (k32:U02 K (.ref f32)=true)
  (z1:U00 K mainGlobals "len"=some none)
  (z2:U00 K mainGlobals "isinstance"=some none)
  (z3:U00 K mainGlobals "all"=some none)
  (z4:U00 K mainGlobals "sorted"=some none)
  (z5:U00 K mainGlobals "min"=some none)
  (z6:U00 K mainGlobals "max"=some none)
  (z7:U00 K mainGlobals "abs"=some none)
  (z8:U00 K mainGlobals "repr"=some none)
  (z9:U00 K mainGlobals "set"=some none)
  (z10:U00 K mainGlobals "list"=some none)
  (z11:U00 K mainGlobals "tuple"=some none)
  (z12:U00 K mainGlobals "range"=some none)
  (z13:U00 K mainGlobals "int"=some none)
  (z14:U00 K mainGlobals "bool"=some none)
  (z15:U00 K mainGlobals "str"=some none)
  (zBz:U00 K mainGlobals "zip"=some none)
  (zBs:U00 K mainGlobals "sum"=some none)
  {ep:Nat} {h1 h2 h3:Int} {t1 t2 t3 u1 u2 u3:Tok} (aM:U00 K mainGlobals "MOST_BOXES"=some (some (.ref dM))) (hM:(dM==sysModules)=false)
  (lM:K.lookup dM=some { cls:=.type "dict",data:=.dict #[⟨h1,.int 1 t1,.int 20 u1⟩,⟨h2,.int 2 t2,.int 10 u2⟩,⟨h3,.int 3 t3,.int 6 u3⟩] ep }) (e1:h1=hashInt 1) (e2:h2=hashInt 2) (e3:h3=hashInt 3)
  : ∃fd:FuncData,(∀(s:Shared)(v:Value),BindsTo s fd ⟨[v],[]⟩ [("script",v)])/\∀base:Heap,K.In base->base.Ns mainGlobals mg->DY l.prog w K mg base CX0 12 fa fd ["script"] (Uo K):=by
 have e:=hfa.symm.trans (U06 X G a32)
 cases e
 have F1:=Dc (st:=Jg) l1 c1 k1
 have b1:=F1.binds (ps:=["thing"]) fun _ _ _ _ _ _ us hl=>by obtain⟨_,rfl⟩:=J7 hl;rfl
 have F2:=Dc (st:=Jj) l2 c2 k2
 have b2:=F2.binds (ps:=["thing"]) fun _ _ _ _ _ _ us hl=>by obtain⟨_,rfl⟩:=J7 hl;rfl
 have F3:=Dc (st:=Ib) l3 c3 k3
 have b3:=F3.binds (ps:=["thing"]) fun _ _ _ _ _ _ us hl=>by obtain⟨_,rfl⟩:=J7 hl;rfl
 have F4:=Dc (st:=KD) l4 c4 k4
 have b4:=F4.binds (ps:=["ways","thing"]) fun _ _ _ _ _ _ us hl=>by obtain⟨_,_,rfl⟩:=Ot hl;rfl
 have F5:=Dc (st:=JK) l5 c5 k5
 have b5:=F5.binds (ps:=["thing"]) fun _ _ _ _ _ _ us hl=>by obtain⟨_,rfl⟩:=J7 hl;rfl
 have F6:=Dc (st:=Iu) l6 c6 k6
 have b6:=F6.binds (ps:=["heap"]) fun _ _ _ _ _ _ us hl=>by obtain⟨_,rfl⟩:=J7 hl;rfl
 have F7:=Dc (st:=Ir) l7 c7 k7
 have b7:=F7.binds (ps:=["heap","ways"]) fun _ _ _ _ _ _ us hl=>by obtain⟨_,_,rfl⟩:=Ot hl;rfl
 have F8:=Dc (st:=Ji) l8 c8 k8
 have b8:=F8.binds (ps:=["box"]) fun _ _ _ _ _ _ us hl=>by obtain⟨_,rfl⟩:=J7 hl;rfl
 have F9:=Dc (st:=Ga) l9 c9 k9
 have b9:=F9.binds (ps:=["boxes","way"]) fun _ _ _ _ _ _ us hl=>by obtain⟨_,_,rfl⟩:=Ot hl;rfl
 have F10:=Dc (st:=Ho) l10 c10 k10
 have b10:=F10.binds (ps:=["boxes","way"]) fun _ _ _ _ _ _ us hl=>by obtain⟨_,_,rfl⟩:=Ot hl;rfl
 have F11:=Dc (st:=Gb) l11 c11 k11
 have b11:=F11.binds (ps:=["boxes","numbers","way","ways"]) fun _ _ _ _ _ _ us hl=>by obtain⟨_,_,_,_,rfl⟩:=jJ hl;rfl
 have F12:=Dc (st:=Jh) l12 c12 k12
 have b12:=F12.binds (ps:=["heap"]) fun _ _ _ _ _ _ us hl=>by obtain⟨_,rfl⟩:=J7 hl;rfl
 have F13:=Dc (st:=FZ) l13 c13 k13
 have b13:=F13.binds (ps:=["cells"]) fun _ _ _ _ _ _ us hl=>by obtain⟨_,rfl⟩:=J7 hl;rfl
 have F14:=Dc (st:=Lf) l14 c14 k14
 have b14:=F14.binds (ps:=["stretches"]) fun _ _ _ _ _ _ us hl=>by obtain⟨_,rfl⟩:=J7 hl;rfl
 have F15:=Dc (st:=Gp) l15 c15 k15
 have b15:=F15.binds (ps:=["heap","least"]) fun _ _ _ _ _ _ us hl=>by obtain⟨_,_,rfl⟩:=Ot hl;rfl
 have F16:=Dc (st:=Ip) l16 c16 k16
 have b16:=F16.binds (ps:=["heap"]) fun _ _ _ _ _ _ us hl=>by obtain⟨_,rfl⟩:=J7 hl;rfl
 have F17:=Dc (st:=JL) l17 c17 k17
 have b17:=F17.binds (ps:=["heap"]) fun _ _ _ _ _ _ us hl=>by obtain⟨_,rfl⟩:=J7 hl;rfl
 have F18:=Dc (st:=Fb) l18 c18 k18
 have b18:=F18.binds (ps:=["heap"]) fun _ _ _ _ _ _ us hl=>by obtain⟨_,rfl⟩:=J7 hl;rfl
 have F19:=Dc (st:=Gi) l19 c19 k19
 have b19:=F19.binds (ps:=["heap"]) fun _ _ _ _ _ _ us hl=>by obtain⟨_,rfl⟩:=J7 hl;rfl
 have F20:=Dc (st:=Fz) l20 c20 k20
 have b20:=F20.binds (ps:=["heap","k"]) fun _ _ _ _ _ _ us hl=>by obtain⟨_,_,rfl⟩:=Ot hl;rfl
 have F21:=Dc (st:=J3) l21 c21 k21
 have b21:=F21.binds (ps:=["cell","k"]) fun _ _ _ _ _ _ us hl=>by obtain⟨_,_,rfl⟩:=Ot hl;rfl
 have F22:=Dc (st:=Je) l22 c22 k22
 have b22:=F22.binds (ps:=["cell"]) fun _ _ _ _ _ _ us hl=>by obtain⟨_,rfl⟩:=J7 hl;rfl
 have F23:=Dc (st:=Jf) l23 c23 k23
 have b23:=F23.binds (ps:=["well","many"]) fun _ _ _ _ _ _ us hl=>by obtain⟨_,_,rfl⟩:=Ot hl;rfl
 have F24:=Dc (st:=Iw) l24 c24 k24
 have b24:=F24.binds (ps:=["well"]) fun _ _ _ _ _ _ us hl=>by obtain⟨_,rfl⟩:=J7 hl;rfl
 have F25:=Dc (st:=Hq) l25 c25 k25
 have b25:=F25.binds (ps:=["well","reach"]) fun _ _ _ _ _ _ us hl=>by obtain⟨_,_,rfl⟩:=Ot hl;rfl
 have F26:=Dc (st:=JH) l26 c26 k26
 have b26:=F26.binds (ps:=["well","ways","reach","boxes"]) fun _ _ _ _ _ _ us hl=>by obtain⟨_,_,_,_,rfl⟩:=jJ hl;rfl
 have F27:=Dc (st:=J4) l27 c27 k27
 have b27:=F27.binds (ps:=["well","ways","reach","most"]) fun _ _ _ _ _ _ us hl=>by obtain⟨_,_,_,_,rfl⟩:=jJ hl;rfl
 have F28:=Dc (st:=Iv) l28 c28 k28
 have b28:=F28.binds (ps:=["boxes"]) fun _ _ _ _ _ _ us hl=>by obtain⟨_,rfl⟩:=J7 hl;rfl
 have F29:=Dc (st:=HX) l29 c29 k29
 have b29:=F29.binds (ps:=["boxes","k"]) fun _ _ _ _ _ _ us hl=>by obtain⟨_,_,rfl⟩:=Ot hl;rfl
 have F30:=Dc (st:=Iz) l30 c30 k30
 have b30:=F30.binds (ps:=["boxes"]) fun _ _ _ _ _ _ us hl=>by obtain⟨_,rfl⟩:=J7 hl;rfl
 have F31:=Dc (st:=Gz) l31 c31 k31
 have b31:=F31.binds (ps:=["boxes"]) fun _ _ _ _ _ _ us hl=>by obtain⟨_,rfl⟩:=J7 hl;rfl
 have F32:=Dc (st:=MN) l32 c32 k32
 have mM:=U06 X G aM
 have B:Blt mg:=fun x hx=>by
  simp only[UJ,U0t,U13,or_false] at hx
  rcases hx with rfl|rfl|rfl|rfl|rfl|rfl|rfl|rfl|rfl|rfl|rfl|rfl|rfl|rfl|rfl
  .exact U1u X G z1
  .exact U1u X G z2
  .exact U1u X G z3
  .exact U1u X G z4
  .exact U1u X G z5
  .exact U1u X G z6
  .exact U1u X G z7
  .exact U1u X G z8
  .exact U1u X G z9
  .exact U1u X G z10
  .exact U1u X G z11
  .exact U1u X G z12
  .exact U1u X G z13
  .exact U1u X G z14
  .exact U1u X G z15
 have Bz:mg "zip"=none:=U1u X G zBz
 have Bs:mg "sum"=none:=U1u X G zBs
 refine⟨U08 "law" "law" (CN MN) (Bw MN) (Ak MN) .none kV32 dc32 pm32 an32 cd32 ct32,fun s v=>.of_eq rfl,fun base _ _=>?_⟩
 have C_is_whole:CG l.prog w K mg base "is_whole" 1 Dz:=⟨⟨["thing"],⟨_,_,Zo F1 B,b1,k1,U06 X G a1⟩,fun ds r h=>DR h⟩⟩
 have C_are_ways:CG l.prog w K mg base "are_ways" 2 FP:=⟨⟨["thing"],⟨_,_,Zt F2 B mM (tu hM lM e1 e2 e3 (by decide)) C_is_whole,b2,k2,U06 X G a2⟩,fun ds r h=>DR h⟩⟩
 have C_is_stretch:CG l.prog w K mg base "is_stretch" 2 HS:=⟨⟨["thing"],⟨_,_,X5 F3 B C_is_whole,b3,k3,U06 X G a3⟩,fun ds r h=>DR h⟩⟩
 have C_is_box:CG l.prog w K mg base "is_box" 3 Jd:=⟨⟨["ways","thing"],⟨_,_,iD F4 B C_are_ways C_is_stretch,b4,k4,U06 X G a4⟩,fun ds r h=>DR h⟩⟩
 have C_is_heap:CG l.prog w K mg base "is_heap" 4 Io:=⟨⟨["thing"],⟨_,_,dJ F5 B mM (tu hM lM e1 e2 e3 (by decide)) C_are_ways C_is_box,b5,k5,U06 X G a5⟩,fun ds r h=>DR h⟩⟩
 have C_need_heap:CG l.prog w K mg base "need_heap" 5 Gk:=⟨⟨["heap"],⟨_,_,ZC F6 B C_is_heap,b6,k6,U06 X G a6⟩,fun ds r h=>DR h⟩⟩
 have C_need_ways:CG l.prog w K mg base "need_ways" 6 Eh:=⟨⟨["heap","ways"],⟨_,_,Z9 F7 B C_need_heap,b7,k7,U06 X G a7⟩,fun ds r h=>DR h⟩⟩
 have C_box_size:CG l.prog w K mg base "box_size" 1 Hg:=⟨⟨["box"],⟨_,_,Zr F8 B,b8,k8,U06 X G a8⟩,fun ds r h=>DR h⟩⟩
 have C_ends_along:CG l.prog w K mg base "ends_along" 1 HW:=⟨⟨["boxes","way"],⟨_,_,X6 F9 B,b9,k9,U06 X G a9⟩,fun ds r h=>DR h⟩⟩
 have C_steps_along:CG l.prog w K mg base "steps_along" 2 Fv:=⟨⟨["boxes","way"],⟨_,_,Vz F10 B Bz C_ends_along,b10,k10,U06 X G a10⟩,fun ds r h=>DR h⟩⟩
 have C_cells_from0:CG l.prog w K mg base "cells_from" 2 (CW 0):=⟨⟨["boxes","numbers","way","ways"],⟨_,_,rZ (f:=f11) rfl,b11,k11,U06 X G a11⟩,fun ds r h=>by cases h⟩⟩
 have C_cells_from1:CG l.prog w K mg base "cells_from" 3 (CW 1):=⟨⟨["boxes","numbers","way","ways"],⟨_,_,Jz F11 B C_steps_along (by decide) C_cells_from0,b11,k11,U06 X G a11⟩,fun ds r h=>DR h⟩⟩
 have C_cells_from2:CG l.prog w K mg base "cells_from" 4 (CW 2):=⟨⟨["boxes","numbers","way","ways"],⟨_,_,Jz F11 B C_steps_along (by decide) C_cells_from1,b11,k11,U06 X G a11⟩,fun ds r h=>DR h⟩⟩
 have C_cells_from3:CG l.prog w K mg base "cells_from" 5 (CW 3):=⟨⟨["boxes","numbers","way","ways"],⟨_,_,Jz F11 B C_steps_along (by decide) C_cells_from2,b11,k11,U06 X G a11⟩,fun ds r h=>DR h⟩⟩
 have C_cells_from4:CG l.prog w K mg base "cells_from" 6 (CW 4):=⟨⟨["boxes","numbers","way","ways"],⟨_,_,Jz F11 B C_steps_along (by decide) C_cells_from3,b11,k11,U06 X G a11⟩,fun ds r h=>DR h⟩⟩
 have C_cells_from:=C_cells_from4
 have C_cells_of:CG l.prog w K mg base "cells_of" 7 Dq:=⟨⟨["heap"],⟨_,_,Zq F12 B C_cells_from,b12,k12,U06 X G a12⟩,fun ds r h=>DR h⟩⟩
 have C_sizes_by_times:CG l.prog w K mg base "sizes_by_times" 2 Ep:=⟨⟨["cells"],⟨_,_,S6 F13 B C_box_size,b13,k13,U06 X G a13⟩,fun ds r h=>DR h⟩⟩
 have C_joined:CG l.prog w K mg base "joined" 1 Jc:=⟨⟨["stretches"],⟨_,_,iC F14 B,b14,k14,U06 X G a14⟩,fun ds r h=>DR h⟩⟩
 have C_pieces_held:CG l.prog w K mg base "pieces_held" 8 DX:=⟨⟨["heap","least"],⟨_,_,W0 F15 B C_joined C_cells_of,b15,k15,U06 X G a15⟩,fun ds r h=>DR h⟩⟩
 have C_pieces_of:CG l.prog w K mg base "pieces_of" 9 Cq:=⟨⟨["heap"],⟨_,_,Z8 F16 B C_need_ways C_pieces_held,b16,k16,U06 X G a16⟩,fun ds r h=>DR h⟩⟩
 have C_gaps_of:CG l.prog w K mg base "gaps_of" 10 Gy:=⟨⟨["heap"],⟨_,_,dN F17 B Bz C_pieces_of,b17,k17,U06 X G a17⟩,fun ds r h=>DR h⟩⟩
 have C_covered_length:CG l.prog w K mg base "covered_length" 10 Es:=⟨⟨["heap"],⟨_,_,S7 F18 B Bs C_pieces_of,b18,k18,U06 X G a18⟩,fun ds r h=>DR h⟩⟩
 have C_lengths_often:CG l.prog w K mg base "lengths_often" 8 Cj:=⟨⟨["heap"],⟨_,_,Uc F19 B C_need_ways C_sizes_by_times C_cells_of,b19,k19,U06 X G a19⟩,fun ds r h=>DR h⟩⟩
 have C_pieces_at_least:CG l.prog w K mg base "pieces_at_least" 9 Cw:=⟨⟨["heap","k"],⟨_,_,Rf F20 B C_need_ways C_is_whole C_pieces_held,b20,k20,U06 X G a20⟩,fun ds r h=>DR h⟩⟩
 have C_law_mixed:CG l.prog w K mg base "_law_mixed" 1 Hl:=⟨⟨["cell","k"],⟨_,_,ZK F21 B,b21,k21,U06 X G a21⟩,fun ds r h=>DR h⟩⟩
 have C_law_well:CG l.prog w K mg base "_law_well" 1 GZ:=⟨⟨["cell"],⟨_,_,Zm F22 B,b22,k22,U06 X G a22⟩,fun ds r h=>DR h⟩⟩
 have C_law_draw:Kc l.prog w K mg base "_law_draw" 2 Av:=⟨⟨["well","many"],⟨_,_,Zn F23 B C_law_mixed,b23,k23,U06 X G a23⟩,fun ns ds r h=>Pb h⟩⟩
 have C_law_reach:Kc l.prog w K mg base "_law_reach" 3 Et:=⟨⟨["well"],⟨_,_,ZG F24 B C_law_draw,b24,k24,U06 X G a24⟩,fun ns ds r h=>Pb h⟩⟩
 have C_law_stretch:Kc l.prog w K mg base "_law_stretch" 3 Fw:=⟨⟨["well","reach"],⟨_,_,W2 F25 B C_law_draw,b25,k25,U06 X G a25⟩,fun ns ds r h=>Pb h⟩⟩
 have C_law_box:Kc l.prog w K mg base "_law_box" 4 GK:=⟨⟨["well","ways","reach","boxes"],⟨_,_,dH F26 B C_law_stretch C_law_draw,b26,k26,U06 X G a26⟩,fun ns ds r h=>Pb h⟩⟩
 have C_law_boxes:Kc l.prog w K mg base "_law_boxes" 5 G4:=⟨⟨["well","ways","reach","most"],⟨_,_,ZL F27 B C_law_draw C_law_box,b27,k27,U06 X G a27⟩,fun ns ds r h=>Pb h⟩⟩
 have C_law_swept:CG l.prog w K mg base "_law_swept" 1 Dv:=⟨⟨["boxes"],⟨_,_,ZD F28 B Bz,b28,k28,U06 X G a28⟩,fun ds r h=>DR h⟩⟩
 have C_law_at_least:CG l.prog w K mg base "_law_at_least" 2 Ce:=⟨⟨["boxes","k"],⟨_,_,VN F29 B C_law_swept,b29,k29,U06 X G a29⟩,fun ds r h=>DR h⟩⟩
 have C_law_often:CG l.prog w K mg base "_law_often" 2 G3:=⟨⟨["boxes"],⟨_,_,ZJ F30 B C_law_swept,b30,k30,U06 X G a30⟩,fun ds r h=>DR h⟩⟩
 have C_law_right:CG l.prog w K mg base "_law_right" 11 Gm:=⟨⟨["boxes"],⟨_,_,ZF F31 B Bz Bs C_law_at_least C_law_often C_lengths_often C_covered_length C_gaps_of C_pieces_of C_pieces_at_least,b31,k31,U06 X G a31⟩,fun ds r h=>DR h⟩⟩
 exact(vo F32 B C_law_well C_law_right C_law_boxes C_law_reach C_lengths_often).imp (wH mO)
theorem walk{l:U6m}{q:Program}{loose:List Str}{XP:(Str->Option Value)->Heap->Prop}{YP:World->Heap->Prop}{d:DefRec}{K:Params->U0a}(hn:l.most=some 63)(hdf:d.params.defaults=[])
  (hY:∀(w:World)(h:Heap),YP w h->(K w.params).In h)
  (F:∀(w:World)(mg:Str->Option Value)(fa:Addr)(h:Heap),(K w.params).In h->h.Ns mainGlobals mg->mg d.name=some (.ref fa) ->
   ∃fd:FuncData,(∀(s:Shared)(u:Value),BindsTo s fd ⟨[u],[]⟩ [("script",u)])/\∀base:Heap,(K w.params).In base->base.Ns mainGlobals mg->DY l.prog w (K w.params) mg base CX0 12 fa fd ["script"] (Uo (K w.params))) :
  U7w q loose XP YP l.row.toRowW d [] (fun f vs=>U7t f vs) :=
 L2.je (n:=63) (k:=12) (x:="script") (CX:=CX0) (sp:=Uo) hn (by decide) hdf ⟨rfl,by decide,by decide,rfl⟩ hY F (fun _ _ a ns hl hO hS=>⟨a,ns,rfl,hO,hl,hS,fun _=>rfl⟩) fun _ _ _ _ z=>z
end W08
open PySem PySem.W PyProof.Rows
set_option maxRecDepth 100000 in
set_option maxHeartbeats 0 in
theorem PySem.Challenge.cw_boxcover_k08_pieces_and_gaps_far_holds : PySem.Challenge.rw_boxcover_k08_pieces_and_gaps_far.Holds := by
 w_on;o_law;k_head;(case hw=>w_witness2)
 k_fill
 refine W08.walk (l := PySem.Challenge.rw_boxcover_k08_pieces_and_gaps_far) rfl rfl (fun w h Y => PySem.W.kIn_of Y) ?F
 case F =>
  intro w mg fa h KX G hmg
  refine' W08.tops KX G hmg ?a1 ?l1 ?c1 ?k1 ?a2 ?l2 ?c2 ?k2 ?a3 ?l3 ?c3 ?k3 ?a4 ?l4 ?c4 ?k4 ?a5 ?l5 ?c5 ?k5 ?a6 ?l6 ?c6 ?k6 ?a7 ?l7 ?c7 ?k7 ?a8 ?l8 ?c8 ?k8 ?a9 ?l9 ?c9 ?k9 ?a10 ?l10 ?c10 ?k10 ?a11 ?l11 ?c11 ?k11 ?a12 ?l12 ?c12 ?k12 ?a13 ?l13 ?c13 ?k13 ?a14 ?l14 ?c14 ?k14 ?a15 ?l15 ?c15 ?k15 ?a16 ?l16 ?c16 ?k16 ?a17 ?l17 ?c17 ?k17 ?a18 ?l18 ?c18 ?k18 ?a19 ?l19 ?c19 ?k19 ?a20 ?l20 ?c20 ?k20 ?a21 ?l21 ?c21 ?k21 ?a22 ?l22 ?c22 ?k22 ?a23 ?l23 ?c23 ?k23 ?a24 ?l24 ?c24 ?k24 ?a25 ?l25 ?c25 ?k25 ?a26 ?l26 ?c26 ?k26 ?a27 ?l27 ?c27 ?k27 ?a28 ?l28 ?c28 ?k28 ?a29 ?l29 ?c29 ?k29 ?a30 ?l30 ?c30 ?k30 ?a31 ?l31 ?c31 ?k31 ?a32 ?l32 ?c32 ?k32 ?z1 ?z2 ?z3 ?z4 ?z5 ?z6 ?z7 ?z8 ?z9 ?z10 ?z11 ?z12 ?z13 ?z14 ?z15 ?zBz ?zBs ?aM ?hM ?lM ?e1 ?e2 ?e3
  (case a1=>k_is);(case l1=>k_is);(case c1=>k_is);(case k1=>k_is)
  (case a2=>k_is);(case l2=>k_is);(case c2=>k_is);(case k2=>k_is)
  (case a3=>k_is);(case l3=>k_is);(case c3=>k_is);(case k3=>k_is)
  (case a4=>k_is);(case l4=>k_is);(case c4=>k_is);(case k4=>k_is)
  (case a5=>k_is);(case l5=>k_is);(case c5=>k_is);(case k5=>k_is)
  (case a6=>k_is);(case l6=>k_is);(case c6=>k_is);(case k6=>k_is)
  (case a7=>k_is);(case l7=>k_is);(case c7=>k_is);(case k7=>k_is)
  (case a8=>k_is);(case l8=>k_is);(case c8=>k_is);(case k8=>k_is)
  (case a9=>k_is);(case l9=>k_is);(case c9=>k_is);(case k9=>k_is)
  (case a10=>k_is);(case l10=>k_is);(case c10=>k_is);(case k10=>k_is)
  (case a11=>k_is);(case l11=>k_is);(case c11=>k_is);(case k11=>k_is)
  (case a12=>k_is);(case l12=>k_is);(case c12=>k_is);(case k12=>k_is)
  (case a13=>k_is);(case l13=>k_is);(case c13=>k_is);(case k13=>k_is)
  (case a14=>k_is);(case l14=>k_is);(case c14=>k_is);(case k14=>k_is)
  (case a15=>k_is);(case l15=>k_is);(case c15=>k_is);(case k15=>k_is)
  (case a16=>k_is);(case l16=>k_is);(case c16=>k_is);(case k16=>k_is)
  (case a17=>k_is);(case l17=>k_is);(case c17=>k_is);(case k17=>k_is)
  (case a18=>k_is);(case l18=>k_is);(case c18=>k_is);(case k18=>k_is)
  (case a19=>k_is);(case l19=>k_is);(case c19=>k_is);(case k19=>k_is)
  (case a20=>k_is);(case l20=>k_is);(case c20=>k_is);(case k20=>k_is)
  (case a21=>k_is);(case l21=>k_is);(case c21=>k_is);(case k21=>k_is)
  (case a22=>k_is);(case l22=>k_is);(case c22=>k_is);(case k22=>k_is)
  (case a23=>k_is);(case l23=>k_is);(case c23=>k_is);(case k23=>k_is)
  (case a24=>k_is);(case l24=>k_is);(case c24=>k_is);(case k24=>k_is)
  (case a25=>k_is);(case l25=>k_is);(case c25=>k_is);(case k25=>k_is)
  (case a26=>k_is);(case l26=>k_is);(case c26=>k_is);(case k26=>k_is)
  (case a27=>k_is);(case l27=>k_is);(case c27=>k_is);(case k27=>k_is)
  (case a28=>k_is);(case l28=>k_is);(case c28=>k_is);(case k28=>k_is)
  (case a29=>k_is);(case l29=>k_is);(case c29=>k_is);(case k29=>k_is)
  (case a30=>k_is);(case l30=>k_is);(case c30=>k_is);(case k30=>k_is)
  (case a31=>k_is);(case l31=>k_is);(case c31=>k_is);(case k31=>k_is)
  (case a32=>k_is);(case l32=>k_is);(case c32=>k_is);(case k32=>k_is)
  (case z1=>k_is);(case z2=>k_is);(case z3=>k_is);(case z4=>k_is);(case z5=>k_is);(case z6=>k_is);(case z7=>k_is);(case z8=>k_is);(case z9=>k_is);(case z10=>k_is);(case z11=>k_is);(case z12=>k_is);(case z13=>k_is);(case z14=>k_is);(case z15=>k_is)
  (case zBz=>k_is)
  (case zBs=>k_is)
  (case aM=>k_is);(case lM=>k_is)
  (case hM=>rfl);(case e1=>rfl);(case e2=>rfl);(case e3=>rfl)
end
