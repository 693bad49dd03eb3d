import PyProof.Rows.All
import Wide.All
import OpenK.AllK
import Wide.FinOn
import Lean
import PyProof.EqAt
import PyProof.EqKinds
import PyProof.TupleCall
import PyProof.SetKind
import PyProof.SetNew
import PyProof.SetRoads
import PyProof.Walks
import PyProof.Rows.SetListFold
import PyProof.Seq
import PyProof.Rows.SortShell
import PyProof.TupleIter
import PyProof.CollectWalk
import PyProof.ReprRoads
import PyProof.EqLayable
import PyProof.ReprLen
import PyProof.WalkInts
import PyProof.SeqI3
import PyProof.ListMulRoad
import PyProof.ZipIter
import PyProof.EnumFor
import PyProof.EnumMake
import PyProof.Draws
import PyProof.Rows.ZipGen
import PyProof.LayNew
import PyProof.WalksMore
import PyProof.IsiTupleAll
import PyProof.Rows.Range3
import PyProof.Rows.SumAny
import PyProof.Rows.CallKwBuiltin
import PyProof.MinMaxWalk
import PySem.Challenge.RW_boxcover_k09_how_often_one_by_one
open PySem renaming wpAny_bind → U0, wpAny_pure → U0d, wpAny_holding → U15, wpAny_newObj_type → U17, wpAny_seqItems → U19, wpAny_field → U2b, wpAny_call_entry → U2d, wpAny_updateSeq → U2r, mem_of_lookup → U2u, wpAny_setField → U25, wpAny_truthy_bool → U28, wpAny_setField_rec → U3p, wpAny_Call_Name_kw → U34, wpAny_setState_of → U4c, wpAny_mono → U4e, wpAny_rule → U4h, wpAny_letGo → U4j, wpAny_typeOf → U4n, wpAny_askSetting → U4p, wpAny_isInstance → U4q, wpAny_pyIter_list → U48, wpAny_attempt → U5c, wpAny_passesOwn → U5i, wpAny_specialOf → U5m, wpAny_tryCatch → U5t, wpAny_onRaise → U56, wpAny_updateSeq_pair → U6d, wpAny_setEntries_of → U6e, wpAny_pyIter_tuple → U6m, wpAny_pyIter_slot → U6w, wpAny_execs_nil → U67, wpAny_ite_false → U7, call → U7l
open PySem.W renaming Frag → U0a, nsIn → U01, keepIn → U08, codeIn → U09, mg_of → U1a, fnOf → U1b, mg_none_of → U1t, kia_one → U2y, kitOne → U3d, findIn → U5r, cellsFrom_some → U51, OpenLaw → U6a, methodObj → U6s, instObj → U66, lookIn → U7i, WalkO → U7o
open PySem.Heap renaming get?_push_of_some → U0b, lt_size → U0k, get?_push_size → U0n, get?_update_other → U02, SameBut → U03, get?_update_self → U1k, size_push → U1s, ExtBut → U5e, get?_none_of_le → U59, IsTuple → U62
open Option renaming bind_some → U0c, map_bind → U0f, some → U1i, map → U2n, map_eq_some_iff → U26, isSome_iff_exists → U5o, toList_some → U6n, map_some → U7d
open List renaming map_map → U0e, length_cons → U0g, getElem?_eq_getElem → U0h, mem_cons_self → U0i, range → U0j, length_map → U0l, replicate → U0m, getD_eq_getElem?_getD → U0o, getElem?_eq_some_iff → U0p, length_append → U0q, map_cons → U0t, size_toArray → U0v, mem_cons → U0w, replicate_succ → U0x, mem_cons_of_mem → U0y, mem_singleton → U0z, getElem?_map → U04, mem_append_right → U06, getElem?_append_left → U1d, length_replicate → U1e, length_nil → U1h, mem_of_getElem? → U1j, pairwise_cons → U1m, replicate_zero → U1u, map_nil → U1w, lookup_cons → U1x, mem_append → U10, map_append → U11, mem_map → U12, nil_append → U16, getElem?_append_right → U2a, mem_filter → U2h, cons_append → U2m, getElem?_set_self → U2s, not_mem_nil → U2t, mem_range → U2x, foldl_cons → U2z, getElem?_set_ne → U23, length_take → U24, drop_eq_getElem_cons → U29, getElem_mem → U3a, append_nil → U3f, Nodup → U3j, all_eq_true → U3l, length_singleton → U3n, mem_append_left → U3r, pairwise_append → U3s, find?_cons → U3t, flatten_cons → U3x, getElem?_replicate → U30, length_eq_zero_iff → U31, length_pos_iff → U32, mem_iff_getElem? → U37, getElem?_toArray → U38, forIn_cons → U39, length_filter_le → U4a, foldl_append → U4d, take_length → U4s, length_set → U40, Perm → U41, lookup_append → U42, length_range → U49, eq_nil_or_concat → U5, concat_eq_append → U5a, length → U5d, filterMap_cons → U5f, mergeSort_perm → U5h, nodup_cons → U5j, forIn_nil → U5s, take_succ → U5u, pairwise_singleton → U5w, append_assoc → U5x, flatMap_cons → U50, length_eq_one_iff → U54, sum_cons → U55, getElem?_eq_none → U57, set_append_right → U58, foldl → U6, mem_map_of_mem → U6g, map_congr_left → U6h, Pairwise → U6p, all_cons → U6q, filter_congr → U6x, length_drop → U6y, isEmpty_nil → U61, filter_cons → U64, of_mem_zip → U68, range_succ → U7a, length_zip → U7b, lookup → U7f, drop_zero → U7k, any_cons → U7q, cons → U7u, range' → U7x, map_id → U7y
open Nat renaming lt_of_lt_of_le → U0r, le_refl → U0s, ne_of_lt → U0u, le_trans → U07, ne_of_gt → U1l, le_add_right → U1o, lt_succ_of_lt → U18, le_of_lt → U2c, reduceAdd → U2j, reduceSub → U2k, lt_trans → U2q, zero_le → U3h, lt_succ_self → U3k, lt_of_le_of_lt → U3o, lt_irrefl → U3y, le_succ → U4i, mul_le_mul_right → U5b, add_lt_add_left → U6f, mul_comm → U6z, not_lt_zero → U69, not_lt → U7m, le_of_eq → U7r
open Bool renaming and_eq_true → U00, false_ne_true → U1c, false_eq_true → U1n, eq_iff_iff → U2i, or_false → U4v, not_true → U4w, or_eq_true → U5l, false_and → U7h, true_and → U7p, true_or → U7v
open Option.some renaming inj → U05
open PySem.Obj renaming mapSeq → U1f, mapFields → U3z
open PySem.Builtin.SmallTypes renaming nextOf → U1g, ownedTupleIsFree → U1v
open Ne renaming symm → U1p
open PySem.SetTable renaming below → U1q, grown → U4l, probe → U6j
open PySem.Heap.SameBut renaming update → U1r
open PySem.Value renaming ref → U1y, none → U13, type → U2v, int → U27, bool → U4y, str → U65
open Array renaming length_toList → U1z, getElem?_eq_getElem → U14, getD_eq_getD_getElem? → U22, getElem?_toList → U36
open PySem.NameKind renaming free → U2e, cell → U3i
open PySem.Builtin.List renaming listExtendWith → U2f, listSameRef → U3b, listLengthHint → U3g, listItems → U46, listTooLong → U5q, listTouch → U53
open PySem.Around renaming under_plainId → U2g
open PySem.SeqAt renaming shaped → U2l
open PySem.F renaming slot_zip_next → U2o, plainAttrs_list → U3e, slot_tuple_iterator_next → U3m, plain_extend_loop → U3q, slot_list_append → U3u, type_list_append → U3v, plain_max_loop → U33, called_set → U4r, args_zip_next_1 → U4u, slot_tuple_mul → U44, entry_zip_next → U45, args_tuple_add_2 → U5p, entry_tuple_add → U5v, slot_tuple_add → U52, entry_max_loop → U63
open PyProof.Rows renaming slot_tuple_getitem → U2p, callWith_type1 → U21, IntTab → U5g
open Int renaming toNat_natCast → U2w, le_refl → U4k, le_antisymm → U5n, emod_lt_of_pos → U6o, emod_nonneg → U7c, le_of_lt → U7t, mul_one → U7w
open PySem.PassesOwn renaming never → U20
open PySem.Str renaming ofString → U3
open PySem.PyData renaming depth → U3c, depthAll → U4, canLay0 → U4m, shown → U4t, shownAll → U43, canLayAll0 → U5z, showable → U6c, eqv → U7n
open Sum renaming inl → U3w, inr → U6i
open PySem.Manifest renaming ParamKind → U35, Receiver → U5y
open PySem.Manifest.ParamKind renaming posOnly → U4b
open False renaming elim → U4f
open PySem.Builtin.Slice renaming slicePlaces → U4g, sliceAdjust → U5k
open PySem.Builtin.Tuple renaming tupleExact → U4o
open PySem.Shared renaming TypeIs → U4x, heap → U7g
open True renaming intro → U4z
open PySem.SetTable.below renaming go → U47
open ForInStep renaming yield → U6b
open List.Perm renaming refl → U6k, cons → U7j
open PySem.Calls renaming spliced_cons → U6l, spliced_nil → U6t
open List.cons renaming inj → U6r
open List.Pairwise renaming nil → U6u
open PySem.SetTable.probe renaming go → U6v
open Or renaming inr → U60, inl → U7s
open Sum.inl renaming inj → U7e
noncomputable section
set_option Elab.async false
set_option maxRecDepth 10000
set_option linter.all false
set_option maxHeartbeats 4000000
namespace PySem.W.Fast
def tw12080318422929816641:=0
def tw3552775450875457878:=0
def tw10349102133818069436:=0
def tw16922721036296106418:=0
def tw12771886431852175507:=0
def tw3058203861508505217:=0
def tw17366009105046329898:=0
def tw11359534717691340479:=0
def tw14255978122401280256:=0
def tw6580490886912652062:=0
def tw4559160797164451627:=0
def tw10501084236188771323:=0
def tw16408556928201846335:=0
def tw4378928882525240791:=0
def tw6718393584756808243:=0
def tw2788238034895627091:=0
def tw5343874844911219987:=0
def tw11205098399597920672:=0
def tw4782115397192559102:=0
def tw10990666180237471385:=0
def tw4889732812931718418:=0
def tw444215342934594869:=0
def tw3953544125369053345:=0
def tw17958145161566430321:=0
def tw6310897746754611031:=0
def tw12026777265119732868:=0
def tw14302159363432417278:=0
def tw12185217939522377041:=0
def tw9284282079106163026:=0
def tw11726616343090372463:=0
def tw8127155377859037368:=0
def tw13865525089088862127:=0
def tw459988231634404270:=0
def tw8744579908060582190:=0
def tw6099255729710461108:=0
def tw4246898392443262163:=0
def tw5205806963351270680:=0
def tw5349131180360493580:=0
def tw8201200708170685342:=0
def tw4431101101841500857:=0
def tw4858678247286975072:=0
def tw1254122687327763157:=0
def tw7805951448211133170:=0
def tw14261525627308844108:=0
def tw4769066428906016764:=0
def tw1714303820532745287:=0
def tw12637796688873710450:=0
def tw17329010942760744913:=0
def tw4328395389371803234:=0
def tw16598467415984890653:=0
def tw1087247538389634019:=0
def tw11932966462404303793:=0
def tw17819034747258585620:=0
def tw15402521814376303314:=0
def tw4019349894513798527:=0
def tw1892274892671184408:=0
def tw5915664064083439995:=0
def tw5709899992923171214:=0
def tw7629783248281964670:=0
def tw15190025770489320892:=0
def tw3406809129576616902:=0
def tw18392475239548791458:=0
def tw7902045653504232364:=0
def tw5994761856860265239:=0
def tw15485966377274914326:=0
def tw5229543675084645793:=0
def tw10792704312543938311:=0
def tw11053040434811975677:=0
def tw10487340370055998345:=0
def tw16732341302070479372:=0
def tw18240871633421928772:=0
def tw14167530645617045101:=0
def tw11019475974473461471:=0
def tw14643343406961941721:=0
def tw10695871259826366481:=0
def tw2698071068861337487:=0
def tw8913005162696318642:=0
def tw723473928139142341:=0
def tw15671404193907982380:=0
def tw11216296642982834674:=0
def tw14895207867093666096:=0
def tw6924475991778834801:=0
def tw4732222743962247200:=0
def tw9749058135114239496:=0
def tw16153555170588355461:=0
def tw7400825061143767388:=0
def tw7126278817297761602:=0
def tw8123046735347832152:=0
def tw14525940189741731808:=0
def tw17200303124998673819:=0
def tw12019936397997998546:=0
def tw4323493045397845192:=0
def tw7320497453725371888:=0
def tw15217045793756806146:=0
def tw16747771492951592112:=0
def tw3217140743335832478:=0
def tw2495383550843990481:=0
def tw15383001649846748091:=0
def tw12453509371975291223:=0
def tw3695204156761064346:=0
def tw13242521534840849236:=0
def tw12673061629525357733:=0
def tw12465097397828542668:=0
def tw1216862789434977118:=0
def tw8683357420990458910:=0
def tw8326761443526334200:=0
def tw18287126553675408431:=0
def tw13806442079424646199:=0
def tw15246637191032850726:=0
def tw3933851154565547749:=0
end PySem.W.Fast
section
set_option maxRecDepth 100000
namespace L2
open PySem PySem.Spec PyProof.Rows
abbrev Key:=Sum Int Str
def QD:Key->Value->Bool
 |.inl k,v=>Value.isInt k v
 |.inr x,v=>Value.isStrOf x v
def vo(w:World):Key->Int
 |.inl k=>hashInt k
 |.inr x=>hashStr w x
theorem FZ:∀{k:Key} {v:Value},QD k v=true->(∃i t,k=U3w i/\v=U27 i t)∨(∃x t,k=U6i x/\v=U65 x t)
 |.inl i,v,h=>by
  obtain⟨t,e⟩:=Value.isInt_shape (k:=i) (v:=v) h
  exact .inl ⟨i,t,rfl,e⟩
 |.inr x,v,h=>by
  obtain⟨t,e⟩:=Value.isStrOf_shape (x:=x) (v:=v) h
  exact .inr ⟨x,t,rfl,e⟩
theorem bZ(i:Int)(t:Tok):QD (.inl i) (.int i t)=true:=by simp[QD,Value.isInt]
theorem bY(x:Str)(t:Tok):QD (.inr x) (.str x t)=true:=by simp[QD,Value.isStrOf]
theorem rF(a b:Int):decide ((U3w a:Key)=U3w b)=(a==b):=by
 by_cases e:a=b
 .subst e;simp
 .have h:¬(U3w a:Key)=U3w b:=fun q=>e (U7e q)
  rw[decide_eq_false h]
  exact(beq_eq_false_iff_ne.mpr e).symm
theorem rC(a b:Str):decide ((U6i a:Key)=U6i b)=decide (a=b):=by
 by_cases e:a=b
 .subst e;simp
 .have h:¬(U6i a:Key)=U6i b:=fun q=>e (U6i.inj q)
  rw[decide_eq_false h,decide_eq_false e]
theorem rE(a:Int)(b:Str):decide ((U3w a:Key)=U6i b)=false:=decide_eq_false (fun q=>nomatch q)
theorem rD(a:Str)(b:Int):decide ((U6i a:Key)=U3w b)=false:=decide_eq_false (fun q=>nomatch q)
def Ei(prog:Program)(w:World):PySem.KeyKind prog w Key where
 is:=QD
 hash:=vo w
 inj:=fun v a b ha hb=>by
  rcases FZ ha with ⟨i,t,rfl,rfl⟩|⟨x,t,rfl,rfl⟩
  .rcases FZ hb with ⟨j,u,rfl,e⟩|⟨y,u,rfl,e⟩
   .injection e with e1 _;rw[e1]
   .exact nomatch e
  .rcases FZ hb with ⟨j,u,rfl,e⟩|⟨y,u,rfl,e⟩
   .exact nomatch e
   .injection e with e1 _;rw[e1]
 byValue:=fun k v h=>by
  rcases FZ h with ⟨i,t,rfl,rfl⟩|⟨x,t,rfl,rfl⟩<;>rfl
 pyHash:=fun hv h=>by
  rcases FZ hv with ⟨i,t,rfl,rfl⟩|⟨x,t,rfl,rfl⟩
  .exact wpAny_pyHash_int h
  .exact wpAny_pyHash_str h
 eqBool:=fun hu hv h=>by
  rcases FZ hu with ⟨i,t,rfl,rfl⟩|⟨x,t,rfl,rfl⟩
  .rcases FZ hv with ⟨j,u,rfl,rfl⟩|⟨y,u,rfl,rfl⟩
   .rw[rF] at h;exact wpAny_eqBool_int h
   .rw[rE] at h;exact SeqAt.EqAt.int_str i t y u _ _ _ _ h
  .rcases FZ hv with ⟨j,u,rfl,rfl⟩|⟨y,u,rfl,rfl⟩
   .rw[rD] at h;exact SeqAt.EqAt.str_int x t j u _ _ _ _ h
   .rw[rC] at h;exact wpAny_eqBool_str h
 «strs»:=fun k x t v h=>by
  rcases FZ h with ⟨i,u,rfl,e⟩|⟨y,u,rfl,e⟩
  .exact nomatch e
  .injection e with e1 _
   subst e1
   cases v<;>rfl
theorem Xx(prog:Program)(w:World)(i:Int)(t:Tok):(Ei prog w).is (.inl i) (.int i t)=true:=bZ i t
theorem Xw(prog:Program)(w:World)(x:Str)(t:Tok):(Ei prog w).is (.inr x) (.str x t)=true:=bY x t
end L2
namespace L2
open PySem PySem.Spec PyProof.Rows
inductive V where
 |non|bl (b:Bool)|int (i:Int)|str (x:Str)|byt (b:Array UInt8)|flt (b:UInt64)|ref (a:Addr)|ty (n:String)
 deriving DecidableEq
def RelV:V->Value->Prop
 |.non,u=>u=U13
 |.bl b,u=>u=U4y b
 |.int i,u=>∃t,u=U27 i t
 |.str x,u=>∃t,u=U65 x t
 |.byt b,u=>∃t,u=Value.bytes b t
 |.flt b,u=>∃t,u=Value.float b t
 |.ref a,u=>u=U1y a
 |.ty n,u=>u=U2v n
abbrev Vals:List V->List Value->Prop:=Paired RelV
theorem Vals.length{xs:List V}{us:List Value}(r:Vals xs us):xs.length=us.length:=Paired.length r
theorem Vals.get:∀{xs:List V} {us:List Value} {i:Nat} {x:V},Vals xs us->xs[i]?=some x->∃u,us[i]?=some u/\RelV x u
 |_,_,_,_,.nil,e=>by simp at e
 |_,_,0,_,.cons r _,e=>by simp at e;subst e;exact⟨_,rfl,r⟩
 |_,_,i+1,x,.cons _ t,e=>by
  obtain⟨u,h1,h2⟩:=Vals.get (i:=i) (x:=x) t (by simpa using e)
  exact⟨u,by simpa using h1,h2⟩
theorem Vals.set{x:V}{u:Value}(r:RelV x u):∀{xs:List V} {us:List Value} (i:Nat),Vals xs us->Vals (xs.set i x) (us.set i u)
 |_,_,_,.nil=>.nil
 |_,_,0,.cons _ t=>.cons r t
 |_,_,i+1,.cons q t=>.cons q (Vals.set r i t)
theorem Vals.append:∀{xs ys:List V} {us ws:List Value},Vals xs us->Vals ys ws->Vals (xs++ys) (us++ws)
 |_,_,_,_,.nil,s=>s
 |_,_,_,_,.cons r t,s=>.cons r (Vals.append t s)
theorem Vals.take:∀{xs:List V} {us:List Value} (n:Nat),Vals xs us->Vals (xs.take n) (us.take n)
 |_,_,0,_=>.nil
 |_,_,_+1,.nil=>.nil
 |_,_,n+1,.cons r t=>.cons r (Vals.take n t)
theorem Vals.drop:∀{xs:List V} {us:List Value} (n:Nat),Vals xs us->Vals (xs.drop n) (us.drop n)
 |_,_,0,r=>r
 |_,_,_+1,.nil=>.nil
 |_,_,n+1,.cons _ t=>Vals.drop n t
def Lk:Option V->Option Value->Prop
 |some v,some u=>RelV v u
 |none,none=>True
 |_,_=>False
def KV{κ:Type}:List (κ×V)->List (κ×Value)->Prop:=Paired fun(p:κ×V) (q:κ×Value)=>p.1=q.1/\RelV p.2 q.2
def kV:Key->V
 |.inl i=>.int i
 |.inr x=>.str x
inductive HO where
  /-- a list -/
 |lst (xs:List V)
  /-- a tuple (never changes) -/
 |tup (xs:List V)
  /-- a dict whose keys are ints and texts; one whose keys are tuples of ints and texts (the empty one is both) -/
 |dK (kvs:List (Key×V))|dT (kvs:List (List Key×V))
  /-- a set of ints: its members, its size -/
 |set (S:Int->Bool) (n:Nat)
  /-- an instance of the class at C, its dict at dx, its attributes -/
 |ins (C dx:Addr) (fs:List (Str×V))
  /-- the dict of the instance at x -/
 |own (x:Addr)
  /-- the dict of an exception -/
 |xd (fs:List (Str×V))
  /-- a bound method, f of x -/
 |met (f x:Addr)
  /-- a range object lo, lo + 1, .. below hi -/
 |rng (lo hi:Int)
  /-- a thing that is known to the object (the script; a dict while a loop walks it): read, never written while it is so -/
 |frz (o:Obj) (u:HO)
  /-- a code object's table -/
 |tbl (ps:Array Value)
  /-- any other thing, by what is true of its one object (a def of one's own: SetO a S n := HO.ext fun h => ..) -/
 |ext (φ:Heap->Prop)
abbrev Hp:=Addr->Option HO
def upd(H:Hp)(a:Addr)(o:HO):Hp:=fun b=>if b=a then some o else H b
theorem Bo{H:Hp}{a:Addr}{o:HO}:upd H a o a=some o:=by unfold upd;rw[if_pos rfl]
theorem BZ{H:Hp}{a b:Addr}{o:HO}(h:b≠a):upd H a o b=H b:=by unfold upd;rw[if_neg h]
theorem uc{H:Hp}{a b:Addr}{o u:HO}(h:H a=some o)(h':H b=some u)(d:o≠u):a≠b:=by
 intro e;subst e;rw[h] at h';exact d (U05 h')
theorem DR{H:Hp}{a b:Addr}{o:HO}(h:H a=some o)(h':H b=none):a≠b:=by
 intro e;subst e;rw[h] at h';cases h'
section
variable(P:Program)(w:World)
def Cp(H:Hp)(h:Heap)(a:Addr):HO->Prop
 |.lst xs=>xs.length<=sizeLine/\∃(its:List Value)(n:Nat),Vals xs its/\h.get? a=some { cls:=.type "list",data:=.seq its.toArray n }
 |.tup xs=>xs.length<=sizeLine/\∃its:List Value,Vals xs its/\IsTup h a its.toArray
 |.dK kvs=>kvs.length<=sizeLine/\(a==sysModules)=false/\∃vs,KV kvs vs/\h.DictOf (Ei P w) a vs
 |.dT kvs=>kvs.length<=sizeLine/\(a==sysModules)=false/\∃xs:List (List Key×Addr×Value),
   Paired (fun(p:List Key×V) (q:List Key×Addr×Value)=>p.1=q.1/\H q.2.1=some (.tup (p.1.map kV))/\RelV p.2 q.2.2) kvs xs /\
   ∃o es ep,h.get? a=some o/\o.ExactDict/\o.data=.dict es ep/\es.toList=xs.map (entryOfKey (tupleKind (Ei P w)))/\(xs.map (·.1)).Nodup
 |.set S n=>h.SetOf (intKind P w) a S n
 |.ins C dx fs=>H dx=some (.own a)/\fs.length<=1000/\dx≠a/\h.get? a=some (U66 C dx) /\
   ∃mA,h.Ns1 dx mA/\(∀f,Lk (fs.lookup f) (mA f))/\PySem.Within mA (fs.map (·.1))
 |.own _=>∃o,h.get? a=some o
 |.xd fs=>∃mA,h.Ns1 a mA/\∀f,Lk (fs.lookup f) (mA f)
 |.rng lo hi=>∃t u v,h.get? a=some { cls:=.type "range",data:=.fields #[.int lo t,.int hi u,.int 1 v] }
 |.frz o u=>h.get? a=some o/\Cp H h a u
 |.tbl ps=>h.get? a=some { cls:=.none,data:=.fields ps }
 |.met f x=>h.get? a=some (U6s (.ref f) (.ref x))
 |.ext φ=>φ h/\(∃o,h.get? a=some o)/\∀h1 h2:Heap,φ h1->(∀o,h1.get? a=some o->h2.get? a=some o)->φ h2
def HOk(H:Hp)(h:Heap):Prop:=∀a o,H a=some o->Cp P w H h a o
end
section
variable{P:Program}{w:World}{H H':Hp}{h h':Heap}{a:Addr}{o:HO}
theorem Cp.lt(x:Cp P w H h a o):a<h.objs.size:=by
 cases o with
 |lst xs=>obtain⟨_,_,_,_,e⟩:=x;exact U0k e
 |tup xs=>obtain⟨_,_,_,p⟩:=x;exact p.lt
 |dK kvs=>obtain⟨_,_,_,_,o,_,_,e,_⟩:=x;exact U0k e
 |dT kvs=>obtain⟨_,_,_,_,o,_,_,e,_⟩:=x;exact U0k e
 |set S n=>obtain⟨o,_,_,_,e,_⟩:=x;exact U0k e
 |ins C dx fs=>obtain⟨_,_,_,e,_⟩:=x;exact U0k e
 |own y=>obtain⟨_,e⟩:=x;exact U0k e
 |xd fs=>obtain⟨_,⟨_,_,_,e,_⟩,_⟩:=x;exact U0k e
 |rng lo hi=>obtain⟨_,_,_,e⟩:=x;exact U0k e
 |frz ob u=>obtain⟨e,_⟩:=x;exact U0k e
 |tbl ps=>exact U0k (show h.get? a=some _ from x)
 |met f y=>exact U0k (show h.get? a=some _ from x)
 |ext φ=>obtain⟨_,⟨_,e⟩,_⟩:=x;exact U0k e
theorem Paired.dB{α β:Type}{F G:α->β->Prop}:∀{l₁:List α} {l₂:List β},Paired F l₁ l₂->(∀a b,F a b->G a b)->Paired G l₁ l₂
 |_,_,.nil,_=>.nil
 |_,_,.cons r t,f=>.cons (f _ _ r) (Paired.dB t f)
theorem Cp.stay(x:Cp P w H h a o)(k:∀b u,(b=a∨H b=some (.own a))->h.get? b=some u->h'.get? b=some u)
  (ho:∀b,H b=some (.own a)->H' b=some (.own a)) (ht:∀b xs,H b=some (.tup xs)->H' b=some (.tup xs)):Cp P w H' h' a o:=by
 induction o with
 |lst xs=>obtain⟨z,its,n,r,e⟩:=x;exact⟨z,its,n,r,k _ _ (.inl rfl) e⟩
 |tup xs=>obtain⟨z,its,r,ob,e,c⟩:=x;exact⟨z,its,r,ob,k _ _ (.inl rfl) e,c⟩
 |dK kvs=>obtain⟨z,y,vs,r,ob,es,ep,e,c⟩:=x;exact⟨z,y,vs,r,ob,es,ep,k _ _ (.inl rfl) e,c⟩
 |dT kvs =>
  obtain⟨z,y,xs,r,ob,es,ep,e,c⟩:=x
  exact⟨z,y,xs,Paired.dB r fun p q z=>⟨z.1,ht _ _ z.2.1,z.2.2⟩,ob,es,ep,k _ _ (.inl rfl) e,c⟩
 |set S n=>obtain⟨ob,es,ep,t,e,c⟩:=x;exact⟨ob,es,ep,t,k _ _ (.inl rfl) e,c⟩
 |ins C dx fs =>
  obtain⟨d,z,ne,e,mA,⟨od,es,ep,e2,c⟩,r⟩:=x
  exact⟨ho _ d,z,ne,k _ _ (.inl rfl) e,mA,⟨od,es,ep,k _ _ (.inr d) e2,c⟩,r⟩
 |own y=>obtain⟨ob,e⟩:=x;exact⟨ob,k _ _ (.inl rfl) e⟩
 |xd fs=>obtain⟨mA,⟨od,es,ep,e,c⟩,r⟩:=x;exact⟨mA,⟨od,es,ep,k _ _ (.inl rfl) e,c⟩,r⟩
 |rng lo hi=>obtain⟨t,u,v,e⟩:=x;exact⟨t,u,v,k _ _ (.inl rfl) e⟩
 |frz ob u ih=>obtain⟨e,q⟩:=x;exact⟨k _ _ (.inl rfl) e,ih q⟩
 |tbl ps =>
  have e:h.get? a=some { cls:=.none,data:=.fields ps }:=x
  show h'.get? a=some { cls:=.none,data:=.fields ps }
  exact k a _ (.inl rfl) e
 |met f y =>
  have e:h.get? a=some (U6s (.ref f) (.ref y)):=x
  show h'.get? a=some (U6s (.ref f) (.ref y))
  exact k a _ (.inl rfl) e
 |ext φ=>obtain⟨p,⟨o,e⟩,st⟩:=x;exact⟨st _ _ p fun o q=>k _ _ (.inl rfl) q,⟨o,k _ _ (.inl rfl) e⟩,st⟩
theorem HOk.lt(x:HOk P w H h)(e:H a=some o):a<h.objs.size:=(x a o e).lt
theorem HOk.fresh(x:HOk P w H h)(e:h.objs.size<=a):H a=none:=by
 cases q:H a with
 |none=>rfl
 |some u=>exact absurd (U0r (x.lt q) e) (U3y _)
theorem HOk.kept(x:HOk P w H h)(k:∀b u,h.get? b=some u->h'.get? b=some u):HOk P w H h':=fun a o e =>
 (x a o e).stay (fun b u _ q=>k b u q) (fun _ q=>q) fun _ _ q=>q
theorem HOk.laid(x:HOk P w H h)(k:∀b u,h.get? b=some u->h'.get? b=some u)(hp:h.objs.size<=a)(new:Cp P w (upd H a o) h' a o):HOk P w (upd H a o) h':=fun b u e=>by
 have hn:=x.fresh hp
 by_cases hb:b=a
 .subst hb;rw[Bo] at e;cases e;exact new
 .rw[BZ hb] at e
  exact(x b u e).stay (fun c v _ q=>k c v q) (fun c q=>by rw[BZ (DR q hn)];exact q) fun c xs q=>by rw[BZ (DR q hn)];exact q
end
def Rd(H:Hp)(a:Addr)(u:HO):Prop:=H a=some u∨∃o,H a=some (.frz o u)
theorem Rd.ok{P:Program}{w:World}{H:Hp}{h:Heap}{a:Addr}{u:HO}(r:Rd H a u)(x:HOk P w H h):Cp P w H h a u:=by
 rcases r with r|⟨o,r⟩
 .exact x a u r
 .obtain⟨_,q⟩:=x a _ r
  exact q
def Mut:Option HO->Prop
 |some (.lst _)=>True
 |some (.dK _)=>True
 |some (.dT _)=>True
 |some (.set _ _)=>True
 |some (.ins _ _ _)=>True
 |some (.ext _)=>True
 |_=>False
section
variable{P:Program}{w:World}{H:Hp}{h h':Heap}{x e:Addr}{o':HO}
theorem HOk.write(ok:HOk P w H h)(mu:Mut (H x))(he:e=x∨H e=some (.own x))(k:∀b u,b≠e->h.get? b=some u->h'.get? b=some u)(heo:∃u,h'.get? e=some u)
  (new:Cp P w (upd H x o') h' x o'):HOk P w (upd H x o') h':=fun b u q=>by
 have nown:∀c y,H c=some (.own y)->c≠x:=fun c y r z=>by subst z;rw[r] at mu;exact mu
 have ntup:∀c xs,H c=some (.tup xs)->c≠x:=fun c xs r z=>by subst z;rw[r] at mu;exact mu
 by_cases hb:b=x
 .subst hb;rw[Bo] at q;cases q;exact new
 .rw[BZ hb] at q
  by_cases hbe:b=e
  .have q':H b=some (.own x):=by
    rcases he with z|z
    .exact absurd (hbe.trans z) hb
    .rw[hbe];exact z
   rw[q] at q';cases q'
   obtain⟨v,hv⟩:=heo
   exact⟨v,by rw[hbe];exact hv⟩
  .refine(ok b u q).stay (fun c v hc r=>k c v ?_ r) (fun c r=>by rw[BZ (nown c b r)];exact r) fun c xs r=>by rw[BZ (ntup c xs r)];exact r
   rcases hc with rfl|hc
   .exact hbe
   .rintro rfl
    rcases he with z|z
    .exact nown c b hc z
    .rw[hc] at z;cases z;exact hb rfl
end
structure Un(fs ex:List Addr)(H H':Hp)(h h':Heap):Prop where
 keep:∀b o,h.get? b=some o->H b=none->b ∉ fs->b ∉ ex->h'.get? b=some o
 slot:∀b o,h.get? b=some o->H b=none->b∈fs->b ∉ ex->∃sl,h'.get? b=some { o with slots:=sl }
 free:∀b o,h.get? b=some o->H b=none->b ∉ ex->H' b=none
 there:∀b o,h.get? b=some o->b ∉ ex->∃o',h'.get? b=some o'
 tups:∀b xs,H b=some (.tup xs)->H' b=some (.tup xs)
 frzs:∀b o u,H b=some (.frz o u)->H' b=some (.frz o u)
 tbls:∀b ps,H b=some (.tbl ps)->∃more,H' b=some (.tbl (ps++more))
 sy:H sysModules=none->H' sysModules=none
section
variable{fs fs' ex ex':List Addr}{H H1 H2:Hp}{h h1 h2 h':Heap}{a x e:Addr}{o:HO}
theorem Un.any(u:Un fs ex H H1 h h1){b:Addr}{ob:Obj}(q:h.get? b=some ob)(n:H b=none)(hx:b ∉ ex):∃sl,h1.get? b=some { ob with slots:=sl }:=by
 by_cases hb:b∈fs
 .exact u.slot b ob q n hb hx
 .exact⟨ob.slots,u.keep b ob q n hb hx⟩
theorem Un.kept(k:∀b u,h.get? b=some u->h'.get? b=some u):Un fs ex H H h h' :=
 ⟨fun b ob q _ _ _=>k b ob q,fun b ob q _ _ _=>⟨ob.slots,k b ob q⟩,fun _ _ _ n _=>n,fun b ob q _=>⟨ob,k b ob q⟩,fun _ _ q=>q,fun _ _ _ q=>q,fun _ ps q=>⟨#[],by rw[q];simp⟩,id⟩
theorem Un.refl:Un fs ex H H h h:=Un.kept fun _ _ q=>q
theorem Un.laid(k:∀b u,h.get? b=some u->h'.get? b=some u)(hp:h.objs.size<=a)(hn:H a=none)(hsy:sysModules≠a):Un fs ex H (upd H a o) h h' where
 sy:=fun n=>by rw[BZ hsy];exact n
 keep:=fun b u q _ _ _=>k b u q
 slot:=fun b u q _ _ _=>⟨u.slots,k b u q⟩
 free:=fun b u q n _=>by rw[BZ (U0u (U0r (U0k q) hp))];exact n
 there:=fun b u q _=>⟨u,k b u q⟩
 tups:=fun b xs q=>by rw[BZ (DR q hn)];exact q
 frzs:=fun b u xs q=>by rw[BZ (DR q hn)];exact q
 tbls:=fun b ps q=>⟨#[],by rw[BZ (DR q hn),q];simp⟩
theorem Un.write(mu:Mut (H x))(he:e=x∨H e=some (.own x))(k:∀b u,b≠e->h.get? b=some u->h'.get? b=some u)(heo:∃u,h'.get? e=some u):Un fs ex H (upd H x o) h h':=by
 have hx:∀b,H b=none->b≠x:=fun b n z=>by subst z;rw[n] at mu;exact mu
 have hb:∀b,H b=none->b≠e:=fun b n z=>by
  subst z
  rcases he with r|r
  .exact hx b n r
  .rw[n] at r;cases r
 have hm:∀b u,H b=some u->¬Mut (some u)->b≠x:=fun b u q nm z=>by subst z;rw[q] at mu;exact nm mu
 refine⟨fun b u q n _ _=>k b u (hb b n) q,fun b u q n _ _=>⟨u.slots,k b u (hb b n) q⟩,fun b u q n _=>by rw[BZ (hx b n)];exact n,fun b u q _=>?_,
  fun b xs q=>by rw[BZ (hm b _ q fun z=>z)];exact q,fun b u xs q=>by rw[BZ (hm b _ q fun z=>z)];exact q,fun b ps q=>⟨#[],by rw[BZ (hm b _ q fun z=>z),q];simp⟩,fun n=>by rw[BZ (hx _ n)];exact n⟩
 by_cases hbe:b=e
 .subst hbe;exact heo
 .exact⟨u,k b u hbe q⟩
end
def trk(h:Heap)(H:Hp):List Addr:=(U0j h.objs.size).filter fun a=>(H a).isSome
def Nk(h:Heap)(H:Hp):Heap:=PySem.W.hideAll h (trk h H)
theorem cF(h:Heap)(H:Hp):(Nk h H).objs.size=h.objs.size:=PySem.W.hideAll_size _ _
theorem iB{h:Heap}{H:Hp}{b:Addr}{o:Obj}(e:h.get? b=some o)(n:H b=none):(Nk h H).get? b=some o :=
 PySem.W.hideAll_get _ e fun hm=>by
  have q:(H b).isSome=true:=(U2h.mp hm).2
  rw[n] at q;simp at q
theorem lJ{h:Heap}{H:Hp}{b:Addr}{o:Obj}(e:(Nk h H).get? b=some o):h.get? b=some o/\H b=none:=by
 have e':h.get? b=some o:=PySem.W.of_hideAll (trk h H) e
 refine⟨e',?_⟩
 cases q:H b with
 |none=>rfl
 |some x =>
  have hm:b∈trk h H:=U2h.mpr ⟨U2x.mpr (U0k e'),by simp[q]⟩
  have z:(Nk h H).get? b=none:=PySem.W.hideAll_none (trk h H) hm
  rw[z] at e;cases e
def nP(g h:Heap)(L:Addr):List (Addr×Obj):=(U0j h.objs.size).filterMap fun a=>if a=L∨(g.get? a).isSome=true then none else (h.get? a).map fun o=>(a,o)
def rest(g h:Heap)(L d:Addr):List (Addr×Obj):=(nP g h L).filter fun p=>decide (p.1≠d)
end L2
namespace L2
open PySem PySem.Spec PyProof.Rows
structure Mod(K:U0a)(mg:Str->Option Value)(base:Heap):Prop where
 kin:K.In base
 glob:base.Ns mainGlobals mg
 blt:∃mb,base.Ns builtinsNs mb/\∀x:Str,x≠"__name__"->mb x=bootBuiltins x
 nolimit:base.NoLimit
/-- the context: a def's body (or a comprehension's block) running. base: fixed through the whole law; s₀, H₀: the entry; outer: the frames whose slots others may change (a def's callers); stack: all frames that run;
   ex: iterators that were made ahead of the entry and are walked here (a comprehension's); fn: the names whose cells were made at the entry (a def: all; a comprehension's block: its own); calm: not within an except suite; pn: pins that every state bears; xe: what is wanted of an exception that leaves the code -/
structure Cx where
 prog:Program
 w:World
 K:U0a
 mg:Str->Option Value
 base:Heap
 A:Around
 N:List Str
 s₀:Shared
 H₀:Hp
 env:Env
 outer:List Env
 stack:List Env
 ex:List Addr
 fn:Str->Bool
 calm:Bool
 pn:List (Addr×Obj)
 xe:Value->Shared->Prop
def frs(l:List Env):List Addr:=l.filterMap (·.frame)
abbrev Cx.fs(X:Cx):List Addr:=frs X.outer
def Vis(sc:Scope)(x:Str):Prop:=sc.names.lookup x=some .local∨sc.names.lookup x=some .cell∨sc.names.lookup x=some .free
def Loc(sc:Scope)(x:Str):Prop:=sc.names.lookup x=some .local∨sc.names.lookup x=some .cell
def Look(env:Env)(h:Heap)(m:Str->Option Value)(x:Str)(u:Value):Prop :=
 (env.kindOf x=some .local/\m x=some u)∨((env.kindOf x=some .cell∨env.kindOf x=some .free)/\∃c,env.cells.lookup x=some c/\h.IsCell c (some u))
structure Cx.Ok(X:Cx):Prop where
 mod:Mod X.K X.mg X.base
 kind:X.env.scope.kind=.function
 glob:X.env.globals=mainGlobals
 blt:X.env.builtins=builtinsNs
 above:X.s₀.heap.objs.size<=X.env.locals
 inj:∀x y c,X.env.cells.lookup x=some c->X.env.cells.lookup y=some c->x=y
 has:∀x,(X.env.kindOf x=some .cell∨X.env.kindOf x=some .free)->∃c,X.env.cells.lookup x=some c
 cab:∀x c,X.fn x=true->X.env.cells.lookup x=some c->X.s₀.heap.objs.size<=c
 hd:X.calm=true->X.A.handled=none
 frames:X.A.frames=some X.stack
 stk:X.stack=X.outer∨(X.stack=X.env::X.outer/\X.env.frame=some X.env.locals)
 exf:∀b∈X.ex,b≠X.env.locals/\∀x c,X.env.cells.lookup x=some c->c≠b
 bs:∀b o,X.base.get? b=some o->X.s₀.heap.get? b=some o/\X.H₀ b=none
 bsz:X.base.objs.size<=X.s₀.heap.objs.size
 noex:∀b o,X.base.get? b=some o->b ∉ X.ex
 exfs:∀b∈X.ex,b ∉ X.fs
 Li:X.s₀.heap.FunFrames X.base X.outer
 frf:∀b∈X.fs,X.H₀ b=none
 sy:X.H₀ sysModules=none
structure Inv(X:Cx)(pins:List (Addr×Obj))(σ:List (Option V))(H:Hp)(s:Shared):Prop where
 ok:X.Ok
 os:s.os=X.s₀.os
 bare:AllBare s.gens
 base:Un X.fs X.ex X.H₀ H X.s₀.heap s.heap
 loc:∃m,s.heap.Ns X.env.locals m/\∀(i:Nat)(x:Str)(v:V),X.N[i]?=some x->σ[i]?=some (some v)->Vis X.env.scope x->∃u,RelV v u/\Look X.env s.heap m x u
 cell:∀x c,X.env.cells.lookup x=some c->∃v,s.heap.IsCell c v
 free:H X.env.locals=none
 freeC:∀x c,X.env.cells.lookup x=some c->H c=none
 pin:∀p∈X.pn++pins,s.heap.get? p.1=some p.2/\H p.1=none/\p.1≠X.env.locals/\p.1 ∉ X.fs/\∀v,p.2.data≠.cell v
 hok:HOk X.prog X.w H s.heap
 len:σ.length=X.N.length
section
variable{X:Cx}{pins:List (Addr×Obj)}{σ:List (Option V)}{H H':Hp}{s:Shared}{h':Heap}
theorem Cx.Ok.vg(ok:X.Ok){b:Addr}{o:Obj}(e:X.base.get? b=some o):b ∉ X.fs:=fun hb=>by
 have:=(ok.Li.mem hb).1
 rw[e] at this;cases this
theorem Inv.bs(I:Inv X pins σ H s):∀b o,X.base.get? b=some o->s.heap.get? b=some o/\H b=none:=fun b o e =>
 ⟨I.base.keep b o (I.ok.bs b o e).1 (I.ok.bs b o e).2 (I.ok.vg e) (I.ok.noex b o e),I.base.free b o (I.ok.bs b o e).1 (I.ok.bs b o e).2 (I.ok.noex b o e)⟩
theorem Inv.bk(I:Inv X pins σ H s):∀b o,X.base.get? b=some o->s.heap.get? b=some o:=fun b o e=>(I.bs b o e).1
theorem Inv.mod(I:Inv X pins σ H s):Mod X.K X.mg X.base:=I.ok.mod
theorem Inv.kIn(I:Inv X pins σ H s):X.K.In s.heap:=I.ok.mod.kin.keeps I.bk
theorem Inv.fr(I:Inv X pins σ H s):∃m,Fr X.base X.env.locals s.heap m :=
 let ⟨m,hn,_⟩:=I.loc
 ⟨m,hn,I.bk,U07 I.ok.bsz I.ok.above⟩
theorem Inv.lt(I:Inv X pins σ H s):X.env.locals<s.heap.objs.size:=let ⟨_,hn,_⟩:=I.loc;hn.lt
theorem Inv.sz(I:Inv X pins σ H s):X.s₀.heap.objs.size<=s.heap.objs.size:=U07 I.ok.above (U2c I.lt)
theorem Inv.d9(I:Inv X pins σ H s){a:Addr}(h:s.heap.objs.size<=a):a ∉ X.fs:=fun hb=>by
 obtain⟨_,o,ho,_⟩:=I.ok.Li.mem hb
 exact absurd (U0r (U0k ho) (U07 I.sz h)) (U3y _)
theorem Inv.cne(I:Inv X pins σ H s):∀x c,X.env.cells.lookup x=some c->c≠X.env.locals:=fun x c e z=>by
 obtain⟨v,o,ho,hd⟩:=I.cell x c e
 obtain⟨m,⟨o',es,ep,ho',hd',_⟩,_⟩:=I.loc
 rw[z,ho'] at ho;cases ho;rw[hd'] at hd;cases hd
theorem Inv.Li(I:Inv X pins σ H s):s.heap.FunFrames X.base X.outer:=by
 have all:∀(l:List Env),(∀b∈frs l,b∈X.fs)->X.s₀.heap.FunFrames X.base l->s.heap.FunFrames X.base l:=by
  intro l
  induction l with
  |nil=>intro _ _;trivial
  |cons env r ih =>
   intro hs hl
   obtain⟨hk,⟨L,o,hf,hn,ho,hd⟩,hr⟩:=hl
   have hL:L∈X.fs:=hs L (by unfold frs;rw[U5f,hf];exact U0i)
   obtain⟨sl,e⟩:=I.base.slot L o ho (I.ok.frf L hL) hL fun z=>I.ok.exfs L z hL
   exact⟨hk,⟨L,_,hf,hn,e,hd⟩,ih (fun b hb=>hs b (by unfold frs;rw[U5f,hf];exact U0y _ hb)) hr⟩
 exact all X.outer (fun _ hb=>hb) I.ok.Li
theorem Inv.stack(I:Inv X pins σ H s):s.heap.FunFrames X.base X.stack:=by
 rcases I.ok.stk with e|⟨e,hf⟩
 .rw[e];exact I.Li
 .rw[e]
  obtain⟨m,hn,_⟩:=I.loc
  refine .cons (by rw[I.ok.kind];decide) hf hn ?_ I.Li
  exact U59 (U07 I.ok.bsz I.ok.above)
theorem Inv.Ol(I:Inv X pins σ H s):∀b∈frs X.stack,b∈X.env.locals::X.fs:=fun b hb=>by
 rcases I.ok.stk with e|⟨e,hf⟩
 .rw[e] at hb;exact U0y _ hb
 .rw[e] at hb
  unfold frs at hb
  rw[U5f,hf] at hb
  exact hb
theorem Inv.YL(I:Inv X pins σ H s):∀b∈frs X.stack,H b=none:=fun b hb=>by
 rcases U0w.mp (I.Ol b hb) with e|hb
 .rw[e];exact I.free
 .obtain⟨_,o,ho,_⟩:=I.ok.Li.mem hb
  exact I.base.free b o ho (I.ok.frf b hb) fun z=>I.ok.exfs b z hb
theorem Inv.Vq(I:Inv X pins σ H s):sysModules<s.heap.objs.size:=by
 obtain⟨o,_,_,e,_⟩:=I.ok.mod.glob
 exact U2q (by decide:(1:Nat)<3) (U0k (I.bk _ _ e))
theorem Inv.Qz(I:Inv X pins σ H s):H sysModules=none:=I.base.sy I.ok.sy
theorem Inv.step{g':Array GenState}{t':Nat}{d':Drawn}{ch:List Addr}(I:Inv X pins σ H s)
  (hch:∀b∈ch,(b∈X.ex∨X.s₀.heap.objs.size<=b)/\b≠X.env.locals/\(∀x c,X.env.cells.lookup x=some c->c≠b)/\∀p∈X.pn++pins,p.1≠b)
  (keep:∀b o,b≠X.env.locals->b ∉ X.fs->b ∉ ch->s.heap.get? b=some o->H b=none->h'.get? b=some o)
  (slot:∀b o,b≠X.env.locals->b∈X.fs->b ∉ ch->s.heap.get? b=some o->H b=none->∃sl,h'.get? b=some { o with slots:=sl }) (free:∀b o,b ∉ ch->s.heap.get? b=some o->H b=none->H' b=none)
  (there:∀b o,b ∉ ch->s.heap.get? b=some o->∃o',h'.get? b=some o')
  (tups:∀b xs,H b=some (.tup xs)->H' b=some (.tup xs)) (frzs:∀b o u,H b=some (.frz o u)->H' b=some (.frz o u)) (tbls:∀b ps,H b=some (.tbl ps)->∃more,H' b=some (.tbl (ps++more)))
  (ns:∀m,s.heap.Ns X.env.locals m->h'.Ns X.env.locals m) (hok:HOk X.prog X.w H' h') (hg:AllBare g') (sy:H sysModules=none->H' sysModules=none) :
  Inv X pins σ H' { s with heap:=h',gens:=g',drawn:=d',toks:=t' }:=by
 have neL:∀b o,X.s₀.heap.get? b=some o->b≠X.env.locals:=fun b o e=>U0u (U0r (U0k e) I.ok.above)
 have neC:∀b o,X.s₀.heap.get? b=some o->b ∉ X.ex->b ∉ ch:=fun b o e hx hb=>by
  rcases(hch b hb).1 with z|z
  .exact hx z
  .exact absurd (U0r (U0k e) z) (U3y _)
 have cellK:∀x c,X.env.cells.lookup x=some c->∀v,s.heap.IsCell c v->h'.IsCell c v:=fun x c e v ⟨o,ho,hd⟩=>by
  have nch:c ∉ ch:=fun z=>(hch c z).2.2.1 x c e rfl
  by_cases hc:c∈X.fs
  .obtain⟨sl,q⟩:=slot c o (I.cne x c e) hc nch ho (I.freeC x c e)
   exact⟨_,q,hd⟩
  .exact⟨o,keep c o (I.cne x c e) hc nch ho (I.freeC x c e),hd⟩
 refine⟨I.ok,I.os,hg,⟨fun b o e n hb hx=>?_,fun b o e n hb hx=>?_,fun b o e n hx=>?_,fun b o e hx=>?_,fun b xs e=>tups b xs (I.base.tups b xs e),fun b o xs e=>frzs b o xs (I.base.frzs b o xs e),fun b ps e=>?_,fun n=>sy (I.base.sy n)⟩,?_,fun x c e=>?_,?_,fun x c e=>?_,fun p hp=>?_,hok,I.len⟩
 .exact keep b o (neL b o e) hb (neC b o e hx) (I.base.keep b o e n hb hx) (I.base.free b o e n hx)
 .obtain⟨sl,e1⟩:=I.base.slot b o e n hb hx
  obtain⟨sl',e2⟩:=slot b _ (neL b o e) hb (neC b o e hx) e1 (I.base.free b o e n hx)
  exact⟨sl',e2⟩
 .obtain⟨o',e1⟩:=I.base.there b o e hx
  exact free b o' (neC b o e hx) e1 (I.base.free b o e n hx)
 .obtain⟨o',e1⟩:=I.base.there b o e hx
  exact there b o' (neC b o e hx) e1
 .obtain⟨m1,e1⟩:=I.base.tbls b ps e
  obtain⟨m2,e2⟩:=tbls b _ e1
  exact⟨m1++m2,by rw[e2,Array.append_assoc]⟩
 .obtain⟨m,hn,hl⟩:=I.loc
  refine⟨m,ns m hn,fun i x v e1 e2 e3=>?_⟩
  obtain⟨u,r,l⟩:=hl i x v e1 e2 e3
  refine⟨u,r,?_⟩
  rcases l with l|⟨k,c,e,z⟩
  .exact .inl l
  .exact .inr ⟨k,c,e,cellK x c e _ z⟩
 .obtain⟨v,z⟩:=I.cell x c e
  exact⟨v,cellK x c e v z⟩
 .obtain⟨m,⟨o,_,_,ho,_⟩,_⟩:=I.loc
  exact free _ o (fun z=>(hch _ z).2.1 rfl) ho I.free
 .obtain⟨v,o,ho,hd⟩:=I.cell x c e
  exact free c o (fun z=>(hch c z).2.2.1 x c e rfl) ho (I.freeC x c e)
 .obtain⟨e,n,ne,nf,d⟩:=I.pin p hp
  have nch:p.1 ∉ ch:=fun z=>(hch p.1 z).2.2.2 p hp rfl
  exact⟨keep p.1 p.2 ne nf nch e n,free p.1 p.2 nch e n,ne,nf,d⟩
theorem Inv.un{t':Nat}(I:Inv X pins σ H s)(u:Un X.fs [] H H' s.heap h')(hok:HOk X.prog X.w H' h'):Inv X pins σ H' { s with heap:=h',toks:=t' }:=by
 obtain⟨m,⟨o,es,ep,ho,r⟩,_⟩:=id I.loc
 obtain⟨sl,hL⟩:=u.any ho I.free (by simp)
 exact I.step (g':=s.gens) (d':=s.drawn) (ch:=[]) (fun _ z=>nomatch z) (fun b o _ hb _ e n=>u.keep b o e n hb (by simp)) (fun b o _ hb _ e n=>u.slot b o e n hb (by simp)) (fun b o _ e n=>u.free b o e n (by simp)) (fun b o _ e=>u.there b o e (by simp)) u.tups u.frzs u.tbls (fun m' hm=>by
  obtain⟨o',es',ep',ho',r'⟩:=hm
  rw[ho] at ho';cases ho'
  exact⟨_,es',ep',hL,r'⟩) hok I.bare u.sy
theorem Inv.call{g':Array GenState}{t':Nat}{d':Drawn}{ch:List Addr}(I:Inv X pins σ H s)(u:Un (frs X.stack) ch H H' s.heap h')(hok:HOk X.prog X.w H' h')(hg:AllBare g')
  (hch:∀b∈ch,(b∈X.ex∨X.s₀.heap.objs.size<=b)/\b≠X.env.locals/\(∀x c,X.env.cells.lookup x=some c->c≠b)/\∀p∈X.pn++pins,p.1≠b) :
  Inv X pins σ H' { s with heap:=h',gens:=g',drawn:=d',toks:=t' }:=by
 obtain⟨m,⟨o,es,ep,ho,r⟩,_⟩:=id I.loc
 obtain⟨sl,hL⟩:=u.any ho I.free fun z=>(hch _ z).2.1 rfl
 exact I.step (ch:=ch) hch (fun b o hL hb hc e n=>u.keep b o e n (fun z=>(U0w.mp (I.Ol b z)).elim hL hb) hc) (fun b o _ _ hc e n=>u.any e n hc) (fun b o hc e n=>u.free b o e n hc) (fun b o hc e=>u.there b o e hc) u.tups u.frzs u.tbls (fun m' hm=>by
  obtain⟨o',es',ep',ho',r'⟩:=hm
  rw[ho] at ho';cases ho'
  exact⟨_,es',ep',hL,r'⟩) hok hg u.sy
theorem Inv.turned{t':Nat}{it:Addr}(I:Inv X pins σ H s)(k:∀b o,b≠it->s.heap.get? b=some o->h'.get? b=some o)(hn:H it=none)(hL:it≠X.env.locals)
  (h1:it∈X.ex∨X.s₀.heap.objs.size<=it) (h2:∀x c,X.env.cells.lookup x=some c->c≠it) (h3:∀p∈X.pn++pins,p.1≠it):Inv X pins σ H { s with heap:=h',toks:=t' }:=by
 have nit:∀b u,H b=some u->b≠it:=fun b u e z=>by rw[z,hn] at e;cases e
 refine I.step (g':=s.gens) (d':=s.drawn) (ch:=[it]) (fun b hb=>?_) (fun b o _ _ hc e _=>k b o (fun z=>hc (by simp[z])) e) (fun b o _ _ hc e _=>⟨o.slots,k b o (fun z=>hc (by simp[z])) e⟩) (fun _ _ _ _ n=>n)
  (fun b o hc e=>⟨o,k b o (fun z=>hc (by simp[z])) e⟩) (fun _ _ e=>e) (fun _ _ _ e=>e) (fun b ps e=>⟨#[],by rw[e];simp⟩) (fun m hm=>?_) (fun b u e=>?_) I.bare id
 .have e:b=it:=by simpa using hb
  subst e
  exact⟨h1,hL,h2,h3⟩
 .obtain⟨o,es,ep,ho,r⟩:=hm
  exact⟨o,es,ep,k _ o (U1p hL) ho,r⟩
 .refine(I.hok b u e).stay (fun c v hc q=>k c v ?_ q) (fun _ q=>q) fun _ _ q=>q
  rcases hc with z|z
  .rw[z];exact nit b u e
  .exact nit c _ z
theorem Inv.tok(I:Inv X pins σ H s)(t:Nat):Inv X pins σ H { s with toks:=t }:=I.un (h':=s.heap) (t':=t) Un.refl I.hok
theorem Inv.kept{t':Nat}(I:Inv X pins σ H s)(k:∀b u,s.heap.get? b=some u->h'.get? b=some u):Inv X pins σ H { s with heap:=h',toks:=t' }:=I.un (Un.kept k) (I.hok.kept k)
theorem Inv.laid{a:Addr}{o:HO}{t':Nat}(I:Inv X pins σ H s)(k:∀b u,s.heap.get? b=some u->h'.get? b=some u)(hp:s.heap.objs.size<=a)(new:Cp X.prog X.w (upd H a o) h' a o) :
  Inv X pins σ (upd H a o) { s with heap:=h',toks:=t' }:=I.un (Un.laid k hp (I.hok.fresh hp) (U0u (U0r I.Vq hp))) (I.hok.laid k hp new)
theorem Inv.write{x e:Addr}{o:HO}{t':Nat}(I:Inv X pins σ H s)(mu:Mut (H x))(he:e=x∨H e=some (.own x))(k:∀b u,b≠e->s.heap.get? b=some u->h'.get? b=some u)(heo:∃u,h'.get? e=some u)
  (new:Cp X.prog X.w (upd H x o) h' x o):Inv X pins σ (upd H x o) { s with heap:=h',toks:=t' }:=I.un (Un.write mu he k heo) (I.hok.write mu he k heo new)
theorem Inv.weak{σ':List (Option V)}(I:Inv X pins σ H s)(hl:σ'.length=σ.length)(w:∀(i:Nat) v,σ'[i]?=some (some v)->σ[i]?=some (some v)):Inv X pins σ' H s :=
 ⟨I.ok,I.os,I.bare,I.base,let ⟨m,hn,hl'⟩:=I.loc;⟨m,hn,fun i x v e1 e2 e3=>hl' i x v e1 (w i v e2) e3⟩,I.cell,I.free,I.freeC,I.pin,I.hok,hl.trans I.len⟩
theorem Inv.QM{pins':List (Addr×Obj)}(I:Inv X pins σ H s)(h:∀p∈pins',s.heap.get? p.1=some p.2/\H p.1=none/\p.1≠X.env.locals/\p.1 ∉ X.fs/\∀v,p.2.data≠.cell v):Inv X pins' σ H s :=
 ⟨I.ok,I.os,I.bare,I.base,I.loc,I.cell,I.free,I.freeC,fun p hp=>(U10.mp hp).elim (fun z=>I.pin p (U3r _ z)) (h p),I.hok,I.len⟩
theorem Wa{N:List Str}(hN:N.Nodup){i j:Nat}{x:Str}(a:N[i]?=some x)(b:N[j]?=some x):i=j:=by
 obtain⟨h1,e1⟩:=U0p.mp a
 obtain⟨h2,e2⟩:=U0p.mp b
 exact(List.getElem_inj hN).mp (e1.trans e2.symm)
theorem Uh{M:Model}{A:Around}{E:Value->Shared->Prop}{i:Nat}{x:Str}{v:V}{u:Value}{Q:Unit->Shared->Prop}(I:Inv X pins σ H s)(hN:X.N.Nodup)(hi:X.N[i]?=some x)(hx:Loc X.env.scope x)(r:RelV v u)
  (h:∀s',Inv X pins (σ.set i (some v)) H s'->(∃a,U03 a s.heap s'.heap/\(a=X.env.locals∨X.env.cells.lookup x=some a))->Q () s') (hf:X.fn x=true∨X.env.scope.names.lookup x=some .local:=by first|exact .inl rfl|exact .inr rfl|assumption):wpAny M A (storeName X.env x u) Q E s:=by
 obtain⟨m,hn,hl⟩:=id I.loc
 have hcls:(X.env.scope.kind==.class||(X.env.scope.kind==.module&&X.env.locals != X.env.globals))=false:=by rw[I.ok.kind];rfl
 have hiσ:i<σ.length:=by rw[I.len];exact(U0p.mp hi).1
 have cne:=I.cne
 have tracked:∀{a:Addr} {h':Heap},(∃o,s.heap.get? a=some o/\H a=none)->U03 a s.heap h'->HOk X.prog X.w H h':=fun {a h'} ha hs b ob e=>by
  obtain⟨_,_,hfree⟩:=ha
  refine(I.hok b ob e).stay (fun c w' hc q=>(hs.2 c ?_).trans q) (fun _ q=>q) fun _ _ q=>q
  rintro rfl
  rcases hc with rfl|hc
  .rw[hfree] at e;cases e
  .rw[hfree] at hc;cases hc
 rcases hx with hk|hk
 .refine wpAny_storeName_local hk hn (fun h' hn' hs=>?_) hcls
  obtain⟨oL,_,_,hoL,_⟩:=id hn
  refine h _ ⟨I.ok,I.os,I.bare,⟨fun b o e n hb hx=>?_,fun b o e n hb hx=>?_,I.base.free,fun b o e hx=>?_,I.base.tups,I.base.frzs,I.base.tbls,I.base.sy⟩,⟨_,hn',fun j y v' e1 e2 e3=>?_⟩,fun y c e=>?_,I.free,I.freeC,fun p hp=>?_,tracked ⟨oL,hoL,I.free⟩ hs,by simpa using I.len⟩ ⟨_,hs,.inl rfl⟩
  .exact(hs.2 b (U0u (U0r (U0k e) I.ok.above))).trans (I.base.keep b o e n hb hx)
  .obtain⟨sl,e1⟩:=I.base.slot b o e n hb hx
   exact⟨sl,(hs.2 b (U0u (U0r (U0k e) I.ok.above))).trans e1⟩
  .obtain⟨o',e1⟩:=I.base.there b o e hx
   exact⟨o',(hs.2 b (U0u (U0r (U0k e) I.ok.above))).trans e1⟩
  .by_cases hj:j=i
   .subst hj
    rw[hi] at e1;cases e1
    rw[U2s hiσ] at e2
    cases e2
    exact⟨u,r,.inl ⟨hk,by simp⟩⟩
   .rw[U23 (U1p hj)] at e2
    obtain⟨u',r',q⟩:=hl j y v' e1 e2 e3
    refine⟨u',r',?_⟩
    rcases q with ⟨k,e⟩|⟨k,c,e,z⟩
    .refine .inl ⟨k,?_⟩
     have:y≠x:=fun e=>hj (Wa hN e1 (e ▸ hi))
     simp[this,e]
    .exact .inr ⟨k,c,e,z.sameBut hs (cne y c e)⟩
  .obtain⟨w',z⟩:=I.cell y c e
   exact⟨w',z.sameBut hs (cne y c e)⟩
  .obtain⟨e,n,ne,nf,d⟩:=I.pin p hp
   exact⟨(hs.2 p.1 ne).trans e,n,ne,nf,d⟩
 .have hfn:X.fn x=true:=by
   rcases hf with z|z
   .exact z
   .rw[z] at hk;cases hk
  obtain⟨c,hc⟩:=I.ok.has x (.inl hk)
  obtain⟨w',z⟩:=I.cell x c hc
  refine wpAny_storeName_cell I.ok.kind hk hc z (fun h' hc' hs=>?_)
  obtain⟨oc,hoc,hocd⟩:=id z
  refine h { s with heap:=h' } ⟨I.ok,I.os,I.bare,⟨fun b o e n hb hx=>?_,fun b o e n hb hx=>?_,I.base.free,fun b o e hx=>?_,I.base.tups,I.base.frzs,I.base.tbls,I.base.sy⟩,⟨m,hn.sameBut hs (U1p (cne x c hc)),fun j y v' e1 e2 e3=>?_⟩,fun y c' e=>?_,I.free,I.freeC,fun p hp=>?_,tracked ⟨oc,hoc,I.freeC x c hc⟩ hs,by simpa using I.len⟩ ⟨c,hs,.inr hc⟩
  .exact(hs.2 b (U0u (U0r (U0k e) (I.ok.cab x c hfn hc)))).trans (I.base.keep b o e n hb hx)
  .obtain⟨sl,e1⟩:=I.base.slot b o e n hb hx
   exact⟨sl,(hs.2 b (U0u (U0r (U0k e) (I.ok.cab x c hfn hc)))).trans e1⟩
  .obtain⟨o',e1⟩:=I.base.there b o e hx
   exact⟨o',(hs.2 b (U0u (U0r (U0k e) (I.ok.cab x c hfn hc)))).trans e1⟩
  .by_cases hj:j=i
   .subst hj
    rw[hi] at e1;cases e1
    rw[U2s hiσ] at e2
    cases e2
    exact⟨u,r,.inr ⟨.inl hk,c,hc,hc'⟩⟩
   .rw[U23 (U1p hj)] at e2
    obtain⟨u',r',q⟩:=hl j y v' e1 e2 e3
    refine⟨u',r',?_⟩
    rcases q with q|⟨k,c',e,z'⟩
    .exact .inl q
    .refine .inr ⟨k,c',e,z'.sameBut hs ?_⟩
     rintro rfl
     exact hj (Wa hN e1 (I.ok.inj _ _ _ e hc ▸ hi))
  .by_cases hcc:c'=c
   .subst hcc;exact⟨_,hc'⟩
   .obtain⟨w2,z2⟩:=I.cell y c' e
    exact⟨w2,z2.sameBut hs hcc⟩
  .obtain⟨e,n,ne,nf,d⟩:=I.pin p hp
   refine⟨(hs.2 p.1 ?_).trans e,n,ne,nf,d⟩
   intro q
   rw[q,hoc] at e
   have q':oc=p.2:=U05 e
   exact d w' (by rw[←q'];exact hocd)
theorem WK{M:Model}{A:Around}{E:Value->Shared->Prop}{i:Nat}{x:Str}{v:V}{u:Value}{Q:Unit->Shared->Prop}(I:Inv X pins σ H s)(hN:X.N.Nodup)(hi:X.N[i]?=some x)(hx:Loc X.env.scope x)(r:RelV v u)
  (h:∀s',Inv X pins (σ.set i (some v)) H s'->Q () s') (hf:X.fn x=true∨X.env.scope.names.lookup x=some .local:=by first|exact .inl rfl|exact .inr rfl|assumption):wpAny M A (storeName X.env x u) Q E s :=
 Uh I hN hi hx r (fun s' I' _=>h s' I') hf
theorem Inv.call'{s':Shared}{ch:List Addr}(I:Inv X pins σ H s)(ho:s'.os=s.os)(u:Un (frs X.stack) ch H H' s.heap s'.heap)(hok:HOk X.prog X.w H' s'.heap)(hg:AllBare s'.gens)
  (hch:∀b∈ch,(b∈X.ex∨X.s₀.heap.objs.size<=b)/\b≠X.env.locals/\(∀x c,X.env.cells.lookup x=some c->c≠b)/\∀p∈X.pn++pins,p.1≠b):Inv X pins σ H' s':=by
 obtain⟨h',g',d',t',o'⟩:=s'
 have e:o'=s.os:=ho
 subst e
 exact I.call (g':=g') (t':=t') (d':=d') u hok hg hch
end
abbrev XK:=Value->Option Addr->Hp->Prop
abbrev St:=List (Option V)
abbrev VK:=V->Hp->Prop
abbrev TE:=St->Hp->VK->Prop
abbrev TT:=St->Hp->(Bool->Hp->Prop)->Prop
abbrev TA:=St->Hp->(List V->Hp->Prop)->Prop
structure Ends where
 nx:St->Hp->Prop
 rt:VK
 bk:St->Hp->Prop:=fun _ _=>False
 ct:St->Hp->Prop:=fun _ _=>False
abbrev TS:=Ends->St->Hp->Prop
def EP(X:Cx)(pins:List (Addr×Obj))(σ:St)(Q:VK)(u:Value)(s':Shared):Prop:=∃v H',Inv X pins σ H' s'/\RelV v u/\Q v H'
def TP(X:Cx)(pins:List (Addr×Obj))(σ:St)(Q:Bool->Hp->Prop)(b:Bool)(s':Shared):Prop:=∃H',Inv X pins σ H' s'/\Q b H'
def AP(X:Cx)(pins:List (Addr×Obj))(σ:St)(Q:List V->Hp->Prop)(us:List Value)(s':Shared):Prop:=∃vs H',Inv X pins σ H' s'/\Vals vs us/\Q vs H'
def SP(X:Cx)(pins:List (Addr×Obj))(D:Ends)(f:Flow)(s':Shared):Prop :=
 match f with
 |.next=>∃σ' H',Inv X pins σ' H' s'/\D.nx σ' H'
 |.brk=>∃σ' H',Inv X pins σ' H' s'/\D.bk σ' H'
 |.cont=>∃σ' H',Inv X pins σ' H' s'/\D.ct σ' H'
 |.ret u=>∃v σ' H',Inv X pins σ' H' s'/\RelV v u/\D.rt v H'
def PE(X:Cx)(e:Expr)(t:TE):Prop :=
 ∀(pins:List (Addr×Obj))(s:Shared)(σ:St)(H:Hp)(Q:VK),Inv X pins σ H s->t σ H Q->wpAny (model X.prog X.w) X.A (eval e X.env) (EP X pins σ Q) X.xe s
def PT(X:Cx)(e:Expr)(t:TT):Prop :=
 ∀(pins:List (Addr×Obj))(s:Shared)(σ:St)(H:Hp)(Q:Bool->Hp->Prop),Inv X pins σ H s->t σ H Q->wpAny (model X.prog X.w) X.A (isTrue e X.env (eval e X.env)) (TP X pins σ Q) X.xe s
def PW(X:Cx)(e:Expr)(t:TT):Prop :=
 ∀(whole:Sem Value)(pins:List (Addr×Obj))(s:Shared)(σ:St)(H:Hp)(Q:Bool->Hp->Prop),Inv X pins σ H s->t σ H Q->wpAny (model X.prog X.w) X.A (isTrue e X.env whole) (TP X pins σ Q) X.xe s
theorem PW.pt{X:Cx}{e:Expr}{t:TT}(h:PW X e t):PT X e t:=h _
def PA(X:Cx)(es:List Expr)(t:TA):Prop :=
 ∀(pos:Pos)(pins:List (Addr×Obj))(s:Shared)(σ:St)(H:Hp)(Q:List V->Hp->Prop),Inv X pins σ H s->t σ H Q->wpAny (model X.prog X.w) X.A (spliced (backTo pos (starEach es X.env))) (AP X pins σ Q) X.xe s
def PS(X:Cx)(st:Stmt)(t:TS):Prop :=
 ∀(pins:List (Addr×Obj))(s:Shared)(σ:St)(H:Hp)(D:Ends),Inv X pins σ H s->t D σ H->wpAny (model X.prog X.w) X.A (exec st X.env) (SP X pins D) X.xe s
def PSs(X:Cx)(st:List Stmt)(t:TS):Prop :=
 ∀(pins:List (Addr×Obj))(s:Shared)(σ:St)(H:Hp)(D:Ends),Inv X pins σ H s->t D σ H->wpAny (model X.prog X.w) X.A (execs st X.env) (SP X pins D) X.xe s
theorem thn{α:Type}{t:Sem α}{Q Q':α->Shared->Prop}{M:Model}{A:Around}{E:Value->Shared->Prop}{s:Shared}(h:wpAny M A t Q E s)(hQ:∀a s,Q a s->Q' a s):wpAny M A t Q' E s:=U4e h hQ fun _ _ x=>x
end L2
namespace L2
open PySem PySem.Spec PyProof.Rows
section
variable{X:Cx}
theorem bin{a b:Expr}{ta tb:TE}(ha:PE X a ta)(hb:PE X b tb){pins:List (Addr×Obj)}{s:Shared}{σ:St}{H:Hp}{R:V->V->Hp->Prop}(I:Inv X pins σ H s)(h:ta σ H fun x H1=>tb σ H1 fun y H2=>R x y H2)
  {α:Type} {Q:α->Shared->Prop} {f:Value->Value->Sem α}
  (hf:∀v u s2 x y H2,Inv X pins σ H2 s2->RelV x v->RelV y u->R x y H2->wpAny (model X.prog X.w) X.A (f v u) Q X.xe s2) :
  wpAny (model X.prog X.w) X.A (eval a X.env) (fun v s₁=>wpAny (model X.prog X.w) X.A (eval b X.env) (fun u s₂=>wpAny (model X.prog X.w) X.A (f v u) Q X.xe s₂) X.xe s₁) X.xe s:=by
 refine thn (ha pins s σ H _ I h) fun v s1 ⟨x,H1,I1,r1,q1⟩=>?_
 refine thn (hb pins s1 σ H1 _ I1 q1) fun u s2 ⟨y,H2,I2,r2,q2⟩=>?_
 exact hf v u s2 x y H2 I2 r1 r2 q2
def oJ(i:Nat):TE:=fun σ H Q=>∃v,σ[i]?=some (some v)/\Q v H
def tC(v:V):TE:=fun _ H Q=>Q v H
theorem Zz{i:Nat}{x:Str}{pos:Pos}(hN:X.N[i]?=some x)(hv:Vis X.env.scope x)(hd:(x==("__debug__":Str))=false:=by decide)(hcd:(x==("__classdict__":Str))=false:=by decide):PE X (.Name x pos) (oJ i):=by
 intro pins s σ H Q I h
 obtain⟨v,e,h⟩:=h
 obtain⟨m,hn,hl⟩:=I.loc
 obtain⟨u,r,l⟩:=hl i x v hN e hv
 have fin:EP X pins σ Q u s:=⟨v,H,I,r,h⟩
 rcases l with ⟨hk,hm⟩|⟨hk,c,hc,hcell⟩
 .exact wpAny_Name (wpAny_loadName_local I.ok.kind hk hn hm fin) hd
 .rcases hk with hk|hk
  .exact wpAny_Name (wpAny_loadName_cell I.ok.kind hk hc hcell fin) hd
  .exact wpAny_Name (wpAny_loadName_free I.ok.kind hk hc hcell fin hcd) hd
theorem aC{i j pos}:PE X (.Constant (.int i) j pos) (tC (.int i)):=fun _ _ _ H _ I h=>wpAny_Constant_int ⟨.int i,H,I.tok _,⟨_,rfl⟩,h⟩
theorem uV{b j pos}:PE X (.Constant (.bool b) j pos) (tC (.bl b)):=fun _ _ _ H _ I h=>Constant_bool ⟨.bl b,H,I,rfl,h⟩
def Gl(X:Cx)(x:Str):Prop:=X.env.kindOf x=some .globalImplicit
theorem Ye{E:Value->Shared->Prop}{pins:List (Addr×Obj)}{s:Shared}{σ:St}{H:Hp}{x:Str}{u:Value}{pos:Pos}{Q:Value->Shared->Prop}(I:Inv X pins σ H s)(hg:Gl X x)(hm:X.mg x=some u)(h:Q u s)
  (hd:(x==("__debug__":Str))=false:=by decide):wpAny (model X.prog X.w) X.A (eval (.Name x pos) X.env) Q E s :=
 Calls.Name_function_global I.ok.kind hg (Calls.loadGlobal_global (by rw[I.ok.glob];exact I.mod.glob.keeps I.bk) hm h) hd
theorem Je{E:Value->Shared->Prop}{pins:List (Addr×Obj)}{s:Shared}{σ:St}{H:Hp}{x:Str}{u:Value}{pos:Pos}{Q:Value->Shared->Prop}(I:Inv X pins σ H s)(hg:Gl X x)(hm:X.mg x=none)(hv:bootBuiltins x=some u)(h:Q u s)
  (hn:x≠"__name__":=by decide) (hd:(x==("__debug__":Str))=false:=by decide):wpAny (model X.prog X.w) X.A (eval (.Name x pos) X.env) Q E s:=by
 obtain⟨mb,h1,h2⟩:=I.mod.blt
 exact Calls.Name_function_global I.ok.kind hg (Calls.loadGlobal_builtin (by rw[I.ok.glob];exact I.mod.glob.keeps I.bk) hm (by rw[I.ok.blt];exact h1.keeps I.bk) ((h2 x hn).trans hv) h) hd
theorem Yb{x:Str}{v:V}{u:Value}{pos:Pos}(hg:Gl X x)(hm:X.mg x=some u)(r:RelV v u)(hd:(x==("__debug__":Str))=false:=by decide):PE X (.Name x pos) (tC v) :=
 fun _ _ _ H _ I h=>Ye I hg hm ⟨v,H,I,r,h⟩ hd
theorem lD{x:Str}{v:V}{u:Value}{pos:Pos}(hg:Gl X x)(hm:X.mg x=none)(hv:bootBuiltins x=some u)(r:RelV v u)(hn:x≠"__name__":=by decide)(hd:(x==("__debug__":Str))=false:=by decide):PE X (.Name x pos) (tC v) :=
 fun _ _ _ H _ I h=>Je I hg hm hv ⟨v,H,I,r,h⟩ hn hd
variable{a b:Expr}{ta tb:TE}{pos:Pos}
def PC(X:Cx)(op:CmpOp)(a b:Expr)(t:TE):Prop :=
 ∀(pins:List (Addr×Obj))(s:Shared)(σ:St)(H:Hp)(Q:VK),Inv X pins σ H s->t σ H Q ->
  wpAny (model X.prog X.w) X.A (eval a X.env) (fun v s₁=>wpAny (model X.prog X.w) X.A (eval b X.env) (fun u s₂=>wpAny (model X.prog X.w) X.A (compareOp op v u) (EP X pins σ Q) X.xe s₂) X.xe s₁) X.xe s
theorem gF(b:Expr){op:CmpOp}(h:op≠.In)(h2:op≠.NotIn):behindInMarks op b=false:=by
 have e1:(op==CmpOp.In)=false:=by cases op<;>first|rfl|exact absurd rfl h
 have e2:(op==CmpOp.NotIn)=false:=by cases op<;>first|rfl|exact absurd rfl h2
 cases b<;>simp[behindInMarks,e1,e2]
def tB(t:TE):TT:=fun σ H Q=>t σ H fun x H1=>∃c,x=.bl c/\Q c H1
theorem wY{op:CmpOp}{t:TE}(h:PC X op a b t)(h1:behindInMarks op b=false:=by first|exact gF _ (by decide) (by decide)|rfl):PT X (.Compare a [op] [b] pos) (tB t):=by
 intro pins s σ H Q I hw
 refine wpAny_isTrue_Compare1 (thn (h pins s σ H _ I hw) fun v s1 h1=>thn h1 fun u s2 h2=>thn h2 fun c s3 ⟨x,H1,I1,r1,q1⟩=>?_) h1
 obtain⟨d,rfl,q⟩:=q1
 cases r1
 exact U28 ⟨H1,I1,q⟩
theorem qK{e:Expr}{t:TE}(h:PE X e t)(he:∀whole,isTrue e X.env whole=(do let v ←whole;standAt e.pos;holding [v] (truthy v)):=by intro _;rfl):PT X e (tB t):=by
 intro pins s σ H Q I hw
 refine isTrue_plain (thn (h pins s σ H _ I hw) fun v s1 ⟨x,H1,I1,r1,q1⟩=>?_) (he _)
 obtain⟨d,rfl,q⟩:=q1
 cases r1
 exact U28 ⟨H1,I1,q⟩
variable{tA tB':TT}{rest:List Expr}
def Nh(t u:TT):TT:=fun σ H Q=>t σ H fun c H1=>if c=true then u σ H1 Q else Q false H1
def tOr(t u:TT):TT:=fun σ H Q=>t σ H fun c H1=>if c=true then Q true H1 else u σ H1 Q
def Il(t:TT):TT:=fun σ H Q=>t σ H fun c H1=>Q (!c) H1
theorem jt(ha:PT X a tA):PW X (.BoolOp .And [a] pos) tA:=by
 intro wh pins s σ H Q I h
 refine isTrue_and (thn (ha pins s σ H Q I h) fun c s1 e=>?_)
 cases c with
 |true=>exact isTrue_and_nil e
 |false=>exact e
theorem qI(ha:PT X a tA):PW X (.BoolOp .Or [a] pos) tA:=by
 intro wh pins s σ H Q I h
 refine isTrue_or (thn (ha pins s σ H Q I h) fun c s1 e=>?_)
 cases c with
 |false=>exact isTrue_or_nil e
 |true=>exact e
theorem qJ(ha:PT X a tA)(hb:PW X (.BoolOp .And (b::rest) pos) tB'):PW X (.BoolOp .And (a::b::rest) pos) (Nh tA tB'):=by
 intro wh pins s σ H Q I h
 refine isTrue_and (thn (ha pins s σ H _ I h) fun c s1 ⟨H1,I1,q1⟩=>?_)
 cases c with
 |true=>exact hb wh pins s1 σ H1 Q I1 q1
 |false=>exact⟨H1,I1,q1⟩
theorem uP(ha:PT X a tA)(hb:PW X (.BoolOp .Or (b::rest) pos) tB'):PW X (.BoolOp .Or (a::b::rest) pos) (tOr tA tB'):=by
 intro wh pins s σ H Q I h
 refine isTrue_or (thn (ha pins s σ H _ I h) fun c s1 ⟨H1,I1,q1⟩=>?_)
 cases c with
 |true=>exact⟨H1,I1,q1⟩
 |false=>exact hb wh pins s1 σ H1 Q I1 q1
theorem qL(ha:PT X a tA):PT X (.UnaryOp .Not a pos) (Il tA):=by
 intro pins s σ H Q I h
 exact isTrue_not (ha pins s σ H (fun c H1=>Q (!c) H1) I h)
def uH(ta tb:TE):TE:=fun σ H Q=>ta σ H fun x H1=>∃c,x=.bl c/\if c=true then tb σ H1 Q else Q (.bl false) H1
def u9(ta:TE):TE:=fun σ H Q=>ta σ H fun x H1=>∃c,x=.bl c/\Q (.bl (!c)) H1
theorem qU{op}{t:TE}(h:PE X a t):PE X (.BoolOp op [a] pos) t:=fun pins s σ H Q I hw=>BoolOp_one (h pins s σ H Q I hw)
theorem qX(ha:PE X a ta)(hb:PE X (.BoolOp .And (b::rest) pos) tb):PE X (.BoolOp .And (a::b::rest) pos) (uH ta tb):=by
 intro pins s σ H Q I h
 refine BoolOp_and (thn (ha pins s σ H _ I h) fun v s1 ⟨x,H1,I1,r1,q1⟩=>?_)
 obtain⟨c,rfl,q1⟩:=q1
 cases r1
 refine U28 ?_
 cases c with
 |true=>exact hb pins s1 σ H1 Q I1 q1
 |false=>exact⟨.bl false,H1,I1,rfl,q1⟩
theorem qW(ha:PE X a ta):PE X (.UnaryOp .Not a pos) (u9 ta):=by
 intro pins s σ H Q I h
 refine UnaryOp_ (thn (ha pins s σ H _ I h) fun v s1 ⟨x,H1,I1,r1,q1⟩=>?_)
 obtain⟨c,rfl,q1⟩:=q1
 cases r1
 exact not_of (U28 ⟨.bl (!c),H1,I1,rfl,q1⟩)
end
end L2
namespace L2
open PySem PySem.Spec PyProof.Rows
def SqL(K:U0a)(H:Hp)(a:Addr)(xs:List V):Prop :=
 Rd H a (.lst xs) ∨
  ∃(o:Obj)(its:Array Value)(n:Nat),K.lookup a=some o/\o.cls=.type "list"/\o.dict=none/\o.data=.seq its n/\its.size<=sizeLine/\Vals xs its.toList
def SqT(K:U0a)(H:Hp)(a:Addr)(xs:List V):Prop :=
 Rd H a (.tup xs) ∨
  ∃(o:Obj)(its:Array Value)(n:Nat),K.lookup a=some o/\o.cls=.type "tuple"/\o.data=.seq its n/\its.size<=sizeLine/\Vals xs its.toList
def w6:Value->Option V
 |.none=>some .non
 |.bool b=>some (.bl b)
 |.int i _=>some (.int i)
 |.str x _=>some (.str x)
 |.bytes b _=>some (.byt b)
 |.float b _=>some (.flt b)
 |.ref a=>some (.ref a)
 |.type n=>some (.ty n)
 |_=>none
theorem RelV.abs{x:V}{u:Value}(r:RelV x u):w6 u=some x:=by
 cases x with
 |non=>cases r;rfl
 |bl _=>cases r;rfl
 |int _=>obtain⟨t,rfl⟩:=r;rfl
 |str _=>obtain⟨t,rfl⟩:=r;rfl
 |byt _=>obtain⟨t,rfl⟩:=r;rfl
 |flt _=>obtain⟨t,rfl⟩:=r;rfl
 |ref _=>cases r;rfl
 |ty _=>cases r;rfl
theorem RelV.inj{x y:V}{u:Value}(r:RelV x u)(q:RelV y u):x=y:=U05 (r.abs.symm.trans q.abs)
theorem Vals.inj:∀{xs ys:List V} {us:List Value},Vals xs us->Vals ys us->xs=ys
 |_,_,_,.nil,.nil=>rfl
 |_,_,_,.cons r t,.cons r' t'=>by rw[r.inj r',Vals.inj t t']
section
variable{X:Cx}{pins:List (Addr×Obj)}{σ:St}{H:Hp}{s:Shared}{a:Addr}{xs ys:List V}
theorem SqL.of{K:U0a}(h:H a=some (.lst xs)):SqL K H a xs:=.inl (.inl h)
theorem SqT.of{K:U0a}(h:H a=some (.tup xs)):SqT K H a xs:=.inl (.inl h)
theorem Inv.list(I:Inv X pins σ H s)(h:SqL X.K H a xs):∃its:List Value,Vals xs its/\PlainL s.heap a its.toArray/\xs.length<=sizeLine:=by
 rcases h with h|⟨o,its,n,hk,hc,hd,hs,hz,r⟩
 .obtain⟨z,its,n,r,e⟩:=h.ok I.hok
  exact⟨its,r,⟨_,n,e,rfl,rfl,rfl⟩,z⟩
 .refine⟨its.toList,r,⟨o,n,I.kIn a o hk,hc,hd,by simpa using hs⟩,?_⟩
  have e:=r.length
  simp only[U1z] at e
  omega
theorem Inv.tuple(I:Inv X pins σ H s)(h:SqT X.K H a xs):∃its:List Value,Vals xs its/\IsTup s.heap a its.toArray/\xs.length<=sizeLine:=by
 rcases h with h|⟨o,its,n,hk,hc,hs,hz,r⟩
 .obtain⟨z,its,r,p⟩:=h.ok I.hok
  exact⟨its,r,p,z⟩
 .refine⟨its.toList,r,⟨o,I.kIn a o hk,hc,n,by simpa using hs⟩,?_⟩
  have e:=r.length
  simp only[U1z] at e
  omega
theorem Inv.gO(I:Inv X pins σ H s)(h:SqL X.K H a xs)(h':SqL X.K H a ys):xs=ys:=by
 obtain⟨its,r,⟨o,n,e,_,_,d⟩,_⟩:=I.list h
 obtain⟨its',r',⟨o',n',e',_,_,d'⟩,_⟩:=I.list h'
 rw[e] at e';cases e'
 rw[d] at d'
 injection d' with d1 _
 have:its=its':=by simpa using congrArg Array.toList d1
 subst this
 exact r.inj r'
theorem Inv.aY(I:Inv X pins σ H s)(h:SqT X.K H a xs)(h':SqT X.K H a ys):xs=ys:=by
 obtain⟨its,r,⟨o,e,_,n,d⟩,_⟩:=I.tuple h
 obtain⟨its',r',⟨o',e',_,n',d'⟩,_⟩:=I.tuple h'
 rw[e] at e';cases e'
 rw[d] at d'
 injection d' with d1 _
 have:its=its':=by simpa using congrArg Array.toList d1
 subst this
 exact r.inj r'
end
abbrev Cx.wish(X:Cx)(E:Value->Shared->Prop):Cx:={ X with xe:=E }
abbrev Cx.nox(X:Cx):Cx:=X.wish fun _ _=>False
theorem Cx.Ok.wish{X:Cx}(ok:X.Ok)(E:Value->Shared->Prop):(X.wish E).Ok :=
 ⟨ok.mod,ok.kind,ok.glob,ok.blt,ok.above,ok.inj,ok.has,ok.cab,ok.hd,ok.frames,ok.stk,ok.exf,ok.bs,ok.bsz,ok.noex,ok.exfs,ok.Li,ok.frf,ok.sy⟩
theorem Cx.Ok.K7{X:Cx}{E:Value->Shared->Prop}(ok:(X.wish E).Ok):X.Ok :=
 ⟨ok.mod,ok.kind,ok.glob,ok.blt,ok.above,ok.inj,ok.has,ok.cab,ok.hd,ok.frames,ok.stk,ok.exf,ok.bs,ok.bsz,ok.noex,ok.exfs,ok.Li,ok.frf,ok.sy⟩
section
variable{X:Cx}{pins:List (Addr×Obj)}{σ:St}{H:Hp}{s:Shared}{E:Value->Shared->Prop}
theorem Inv.wish(I:Inv X pins σ H s)(E:Value->Shared->Prop):Inv (X.wish E) pins σ H s:=⟨I.ok.wish E,I.os,I.bare,I.base,I.loc,I.cell,I.free,I.freeC,I.pin,I.hok,I.len⟩
theorem Inv.K7(I:Inv (X.wish E) pins σ H s):Inv X pins σ H s:=⟨I.ok.K7,I.os,I.bare,I.base,I.loc,I.cell,I.free,I.freeC,I.pin,I.hok,I.len⟩
theorem SP.K7{D:Ends}{f:Flow}{s':Shared}(h:SP (X.wish E) pins D f s'):SP X pins D f s':=by
 cases f with
 |next=>obtain⟨σ',H',I,q⟩:=h;exact⟨σ',H',I.K7,q⟩
 |brk=>obtain⟨σ',H',I,q⟩:=h;exact⟨σ',H',I.K7,q⟩
 |cont=>obtain⟨σ',H',I,q⟩:=h;exact⟨σ',H',I.K7,q⟩
 |ret u=>obtain⟨v,σ',H',I,r,q⟩:=h;exact⟨v,σ',H',I.K7,r,q⟩
theorem PSs.nox{st:List Stmt}{t:TS}(h:PSs X.nox st t):PSs X st t:=fun pins s σ H D I hw =>
 U4e (h pins s σ H D (I.wish _) hw) (fun _ _ q=>q.K7) fun _ _ z=>U4f z
end
section
variable{X:Cx}{st:Stmt}{rest:List Stmt}{t u:TS}{e:Expr}{te:TE}{pos:Pos}
def uD:TS:=fun D σ H=>D.nx σ H
def vP(t u:TS):TS:=fun D σ H=>t { D with nx:=u D } σ H
theorem kE:PSs X [] uD:=fun _ _ σ H _ I h=>U67 ⟨σ,H,I,h⟩
theorem fP(h1:PS X st t)(h2:PSs X rest u):PSs X (st::rest) (vP t u):=by
 intro pins s σ H D I h
 refine wpAny_execs_cons (thn (h1 pins s σ H { D with nx:=u D } I h) fun f s1 q=>?_)
 cases f with
 |next =>
  obtain⟨σ',H',I',q⟩:=q
  exact h2 pins s1 σ' H' D I' q
 |ret v=>exact q
 |brk=>exact q
 |cont=>exact q
theorem jz(h1:PS X st t):PSs X [st] t:=by
 intro pins s σ H D I h
 refine wpAny_execs_cons (thn (h1 pins s σ H D I h) fun f s1 q=>?_)
 cases f with
 |next=>exact U67 q
 |ret v=>exact q
 |brk=>exact q
 |cont=>exact q
theorem Inv.quiet{pins:List (Addr×Obj)}{σ:St}{H:Hp}{s:Shared}(I:Inv X pins σ H s):interactive X.env=false:=by simp[interactive,I.ok.kind]
def uF(te:TE):TS:=fun D σ H=>te σ H fun _ H1=>D.nx σ H1
theorem kJ(he:PE X e te)(hs:swapsWith e none pos.line X.env=pure false:=by rfl):PS X (.Expr e pos) (uF te):=by
 intro pins s σ H D I h
 exact wpAny_Expr_any (thn (he pins s σ H _ I h) fun v s1 ⟨x,H1,I1,r1,q1⟩=>⟨σ,H1,I1,q1⟩) I.quiet hs
def vQ(te:TE):TS:=fun D σ H=>te σ H D.rt
theorem qN(he:PE X e te):PS X (.Return (some e) pos) (vQ te):=by
 intro pins s σ H D I h
 exact wpAny_Return_some (thn (he pins s σ H _ I h) fun v s1 ⟨x,H1,I1,r1,q1⟩=>⟨x,σ,H1,I1,r1,q1⟩)
def vU(c:TT)(t u:TS):TS:=fun D σ H=>c σ H fun b H1=>if b=true then t D σ H1 else u D σ H1
theorem uQ{c:Expr}{a b:List Stmt}{tc:TT}(hc:PT X c tc)(ha:PSs X a t)(hb:PSs X b u):PS X (.If c a b pos) (vU tc t u):=by
 intro pins s σ H D I h
 refine wpAny_If (thn (hc pins s σ H _ I h) fun d s1 ⟨H1,I1,q1⟩=>?_)
 cases d with
 |true=>exact ha pins s1 σ H1 D I1 q1
 |false=>exact hb pins s1 σ H1 D I1 q1
def pQ:TS:=fun _ _ _=>False
theorem fQ:PS X st pQ:=fun _ _ _ _ _ _ h=>h.elim
end
abbrev TG:=V->St->Hp->(St->Hp->Prop)->Prop
abbrev TGs:=List V->St->Hp->(St->Hp->Prop)->Prop
def PG(X:Cx)(target:Expr)(t:TG):Prop :=
 ∀(pins:List (Addr×Obj))(s:Shared)(σ:St)(H:Hp)(v:V)(u:Value)(Q:St->Hp->Prop),Inv X pins σ H s->RelV v u->t v σ H Q ->
  wpAny (model X.prog X.w) X.A (assign target X.env u) (fun _ s'=>∃σ' H',Inv X pins σ' H' s'/\Q σ' H') X.xe s
def PGs(X:Cx)(ts:List Expr)(t:TGs):Prop :=
 ∀(pins:List (Addr×Obj))(s:Shared)(σ:St)(H:Hp)(vs:List V)(us:List Value)(Q:St->Hp->Prop),Inv X pins σ H s->Vals vs us->t vs σ H Q ->
  wpAny (model X.prog X.w) X.A (assignInOrder ((assignEach ts X.env).map (·.2)) us) (fun _ s'=>∃σ' H',Inv X pins σ' H' s'/\Q σ' H') X.xe s
abbrev dI:=V->V->V->Hp->(Hp->Prop)->Prop
def pJ(X:Cx)(t:dI):Prop :=
 ∀(pins:List (Addr×Obj))(s:Shared)(σ:St)(H:Hp)(o i v:V)(ov iv u:Value)(Q:Hp->Prop),Inv X pins σ H s->RelV o ov->RelV i iv->RelV v u->t o i v H Q ->
  wpAny (model X.prog X.w) X.A (setItem ov iv u) (fun _ s'=>∃H',Inv X pins σ H' s'/\Q H') X.xe s
section
variable{X:Cx}{pos:Pos}
def Vg(i:Nat):TG:=fun v σ H Q=>Q (σ.set i (some v)) H
theorem kh{i:Nat}{x:Str}(hN:X.N.Nodup)(hi:X.N[i]?=some x)(hx:Loc X.env.scope x)(hf:X.fn x=true∨X.env.scope.names.lookup x=some .local:=by first|exact .inl rfl|exact .inr rfl|assumption):PG X (.Name x pos) (Vg i):=by
 intro pins s σ H v u Q I r h
 exact wpAny_assign_Name (WK I hN hi hx r (fun s' I'=>⟨_,H,I',h⟩) hf)
def dF:TGs:=fun vs σ H Q=>vs=[]/\Q σ H
def ZF(t:TG)(u:TGs):TGs:=fun vs σ H Q=>∃v r,vs=v::r/\t v σ H fun σ' H'=>u r σ' H' Q
theorem kZ:PGs X [] dF:=by
 intro pins s σ H vs us Q I r h
 obtain⟨e,h⟩:=h
 subst e
 cases r
 exact assignInOrder_nil ⟨σ,H,I,h⟩
theorem fV{e:Expr}{es:List Expr}{t:TG}{u:TGs}(h1:PG X e t)(h2:PGs X es u)
  (hs:(assignEach (e::es) X.env).map (·.2)=assign e X.env::(assignEach es X.env).map (·.2):=by rfl):PGs X (e::es) (ZF t u):=by
 intro pins s σ H vs us Q I r h
 obtain⟨v,vr,e1,h⟩:=h
 subst e1
 cases r with
 |cons r rr =>
  rw[hs]
  refine assignInOrder_cons (thn (h1 pins s σ H _ _ _ I r h) fun _ s1 ⟨σ1,H1,I1,q1⟩=>?_)
  exact h2 pins s1 σ1 H1 _ _ Q I1 rr q1
def dD(K:U0a)(n:Nat)(t:TGs):TG:=fun v σ H Q=>∃a xs,v=.ref a/\SqT K H a xs/\xs.length=n/\t xs σ H Q
theorem qQ{es:List Expr}{k:Nat}{t:TGs}{n:Nat}(hc:X.calm=true)(h:PGs X es t)
  (hn:(assignEach es X.env).length=n:=by rfl) (hst:(assignEach es X.env).findIdx? (·.1)=none:=by rfl):PG X (.Tuple es k pos) (dD X.K n t):=by
 intro pins s σ H v u Q I r hw
 obtain⟨a,xs,e1,hq,hl,hw⟩:=hw
 subst e1
 cases r
 obtain⟨its,rv,ht,hz⟩:=I.tuple hq
 refine assign_Tuple_tuple (I.ok.hd hc) ht (by simp[hn,←hl,rv.length]) hst fun h' hx=>?_
 have I1:Inv X pins σ H { s with heap:=h' }:=I.kept (t':=s.toks) fun b o e=>hx b o (U0u (U0k e)) e
 exact h pins _ σ H xs _ Q I1 (by simpa using rv) hw
def vp(to ti:TE)(t:dI):TG:=fun v σ H Q=>to σ H fun o H1=>ti σ H1 fun i H2=>t o i v H2 fun H3=>Q σ H3
theorem qR{o i:Expr}{to ti:TE}{t:dI}(ho:PE X o to)(hi:PE X i ti)(hs:pJ X t)
  (ha:∀v,assign (.Subscript o i pos) X.env v=(do
   let ov ←holding [v] (eval o X.env)
   let iv ←holding [v,ov] (eval i X.env)
   standAt pos
   holding [v,ov,iv] (setItem ov iv v)
   release [v,ov,iv] []):=by intro _;rfl):PG X (.Subscript o i pos) (vp to ti t):=by
 intro pins s σ H v u Q I r h
 rw[ha]
 refine U0 (U15 (thn (ho pins s σ H _ I h) fun ov s1 ⟨x,H1,I1,r1,q1⟩=>?_))
 refine U0 (U15 (thn (hi pins s1 σ H1 _ I1 q1) fun iv s2 ⟨y,H2,I2,r2,q2⟩=>?_))
 refine U0 (wpAny_standAt (U0 (U15 (thn (hs pins s2 σ H2 x y v ov iv u _ I2 r1 r2 r q2) fun _ s3 ⟨H3,I3,q3⟩=>?_))))
 exact wpAny_release ⟨σ,H3,I3,q3⟩
def oN(te:TE)(g:TG):TS:=fun D σ H=>te σ H fun x H1=>g x σ H1 D.nx
theorem Zy{tg e:Expr}{te:TE}{g:TG}(he:PE X e te)(hg:PG X tg g)(hs:swapsWithSole [tg] e pos.line X.env=pure false:=by rfl)(hw:swappedStores [tg] e X.env=pure none:=by rfl)
  (h1:(assignEach [tg] X.env).map (·.2)=[assign tg X.env]:=by rfl):PS X (.Assign [tg] e pos) (oN te g):=by
 intro pins s σ H D I h
 refine wpAny_Assign_stores (thn (he pins s σ H _ I h) fun v s1 ⟨x,H1,I1,r1,q1⟩=>?_) hs hw
 rw[h1]
 exact thn (hg pins s1 σ H1 x v _ I1 r1 q1) fun _ s2 q=>q
theorem qM{i:Nat}{x:Str}{e:Expr}{te:TE}{pos':Pos}(hN:X.N.Nodup)(hi:X.N[i]?=some x)(hx:Loc X.env.scope x)(he:PE X e te)(hs:swapsWith e (some (.Name x pos')) pos.line X.env=pure false:=by rfl)(hf:X.fn x=true∨X.env.scope.names.lookup x=some .local:=by first|exact .inl rfl|exact .inr rfl|assumption) :
  PS X (.Assign [.Name x pos'] e pos) (oN te (Vg i)):=by
 intro pins s σ H D I h
 refine wpAny_Assign_Name (thn (he pins s σ H _ I h) fun v s1 ⟨y,H1,I1,r1,q1⟩=>?_) hs
 exact WK I1 hN hi hx r1 (fun s2 I2=>⟨_,H1,I2,q1⟩) hf
end
section
variable{X:Cx}{pos:Pos}
end
structure It where
 go:Nat->Hp->Prop
 yld:Nat->Hp->V->Hp->Prop
 stop:Nat->Hp->Prop
def Oj(X:Cx)(pins:List (Addr×Obj))(H:Hp)(b:Addr):Prop :=
 H b=none/\b≠X.env.locals/\b ∉ X.fs/\(b∈X.ex∨X.s₀.heap.objs.size<=b)/\(∀x c,X.env.cells.lookup x=some c->c≠b)/\∀p∈X.pn++pins,p.1≠b
theorem Inv.dG{X:Cx}{pins:List (Addr×Obj)}{σ:St}{H H':Hp}{s:Shared}{b:Addr}(I:Inv X pins σ H s)(hb:s.heap.objs.size<=b)(hn:H' b=none):Oj X pins H' b:=by
 refine⟨hn,U1l (U0r I.lt hb),I.d9 hb,.inr (U07 I.sz hb),fun x c e z=>?_,fun p hp z=>?_⟩
 .obtain⟨v,q⟩:=I.cell x c e
  exact absurd (U0r q.lt (by rw[z];exact hb)) (U3y _)
 .exact absurd (U0r (U0k (I.pin p hp).1) (by rw[z];exact hb)) (U3y _)
structure Turn(P:Program)(w:World)(K:U0a)(tg:Expr)(J:It)(fp:List Addr)(it:Addr)(tn:Nat->Heap->Prop):Prop where
 mem:it∈fp
 obj:∀i h,tn i h->∀b∈fp,∃o,h.get? b=some o/\∀v,o.data≠.cell v
 keep:∀i h h',tn i h->(∀b∈fp,∀o,h.get? b=some o->h'.get? b=some o)->tn i h'
 item:∀(X:Cx),X.prog=P->X.w=w->X.K=K->X.calm=true->∀(i:Nat)(pins:List (Addr×Obj))(s:Shared)(σ:St)(H:Hp)(E:Value->Shared->Prop),Inv X pins σ H s->(∀b∈fp,Oj X pins H b)->tn i s.heap->J.go i H ->
  wpAny (model P w) X.A (pyNext (.ref it)) (fun r s1=>∃u,r=some u /\
   wpAny (model P w) X.A (letOwnedTupleGo tg (.ref it) u) (fun _ s2=>∃x H',Inv X pins σ H' s2/\RelV x u/\J.yld i H x H'/\tn (i+1) s2.heap/\∀b∈fp,H' b=none) E s1) E s
 done:∀(X:Cx),X.prog=P->X.w=w->X.K=K->X.calm=true->∀(i:Nat)(pins:List (Addr×Obj))(s:Shared)(σ:St)(H:Hp)(E:Value->Shared->Prop),Inv X pins σ H s->(∀b∈fp,Oj X pins H b)->tn i s.heap->J.stop i H ->
  wpAny (model P w) X.A (pyNext (.ref it)) (fun r s1=>r=none/\Inv X pins σ H s1) E s
 self:∀(A:Around)(i:Nat)(s:Shared)(Q:Value->Shared->Prop)(E:Value->Shared->Prop),tn i s.heap->Q (.ref it) s->wpAny (model P w) A (pyIter (.ref it)) Q E s
abbrev TI:=St->Hp->(It->Hp->Prop)->Prop
def PIE(X:Cx)(pins:List (Addr×Obj))(σ:St)(tg:Expr)(R:It->Hp->Prop)(itv:Value)(s2:Shared):Prop :=
 ∃(it:Addr)(fp:List Addr)(tn:Nat->Heap->Prop)(J:It)(H':Hp),itv=.ref it/\Inv X pins σ H' s2/\Turn X.prog X.w X.K tg J fp it tn/\tn 0 s2.heap/\(∀b∈fp,Oj X pins H' b)/\R J H'
def PI(X:Cx)(tg iter:Expr)(wi:TI):Prop :=
 ∀(pins:List (Addr×Obj))(s:Shared)(σ:St)(H:Hp)(R:It->Hp->Prop),Inv X pins σ H s->wi σ H R ->
  wpAny (model X.prog X.w) X.A (eval iter X.env) (fun v s1=>wpAny (model X.prog X.w) X.A (pyIter v) (PIE X pins σ tg R) X.xe s1) X.xe s
theorem ZD{M:Model}{A:Around}{E:Value->Shared->Prop}{s:Shared}{tg:Expr}{it:Addr}{u:Value}{o:Obj}{n:String}{vs:Array Value}{Q:Unit->Shared->Prop}(ho:s.heap.get? it=some o)(hc:o.cls=.type n)(hd:o.data=.fields vs)
  (hn:["enumerate","zip","dict_itemiterator","dict_reverseitemiterator","odict_iterator","itertools.zip_longest","itertools.pairwise"].contains n=false) (hQ:Q () s):wpAny M A (letOwnedTupleGo tg (.ref it) u) Q E s:=by
 unfold letOwnedTupleGo
 cases tg<;>first
  |exact U0d hQ
  |(cases u<;>first
    |exact U0d hQ
    |(refine U0 (wpAny_load ho ?_)
      rw[hc,hd]
      show wpAny M A (if (["enumerate","zip","dict_itemiterator","dict_reverseitemiterator","odict_iterator","itertools.zip_longest","itertools.pairwise"].contains n&&vs[0]?==some (rawInt _))=true then _ else _) Q E s
      rw[if_neg (by intro h;rw[hn,U7h] at h;cases h)]
      exact U0d hQ))
def Itl(K:U0a)(a:Addr):It :=
 ⟨fun i H=>∃xs x,SqL K H a xs/\xs[i]?=some x,fun i H x H'=>H'=H/\∀xs,SqL K H a xs->xs[i]?=some x,fun i H=>∃xs,SqL K H a xs/\xs.length<=i⟩
def Itt(K:U0a)(a:Addr):It :=
 ⟨fun i H=>∃xs x,SqT K H a xs/\xs[i]?=some x,fun i H x H'=>H'=H/\∀xs,SqT K H a xs->xs[i]?=some x,fun i H=>∃xs,SqT K H a xs/\xs.length<=i⟩
def Itr(lo:Int)(n:Nat):It:=⟨fun i _=>i<n,fun i H x H'=>H'=H/\x=.int (lo+i),fun i _=>n<=i⟩
theorem aX{P:Program}{w:World}{K:U0a}{tg:Expr}(a it:Addr):Turn P w K tg (Itl K a) [it] it (fun i h=>h.IsListIter it a i) where
 mem:=by simp
 obj:=fun i h st b hb=>by
  have e:b=it:=by simpa using hb
  subst e
  obtain⟨o,e,c,d⟩:=st
  exact⟨o,e,fun v z=>by rw[d] at z;cases z⟩
 keep:=fun i h h' st k=>st.at fun o e=>k it (by simp) o e
 item:=by
  intro X hP hw hK hc i pins s σ H E I hf st hg
  subst hP hw hK
  obtain⟨xs,x,hq,hx⟩:=hg
  obtain⟨its,rv,p,hz⟩:=I.list hq
  obtain⟨u,hu,ru⟩:=rv.get hx
  obtain⟨f0,f1,f2,f3,f4,f5⟩:=hf it (by simp)
  refine wpAny_pyNext_list_item st p.isList (x:=u) (by simpa using hu) fun h' st' sb=>?_
  have I1:Inv X pins σ H { s with heap:=h' }:=I.turned (t':=s.toks) (fun b o hb e=>(sb.2 b hb).trans e) f0 f1 f3 f4 f5
  obtain⟨o,e,c,d⟩:=id st'
  exact⟨u,rfl,ZD (s:={ s with heap:=h' }) e c d (by decide) ⟨x,H,I1,ru,⟨rfl,fun ys hy=>by rw[I.gO hy hq];exact hx⟩,st',fun b hb=>(hf b hb).1⟩⟩
 done:=by
  intro X hP hw hK hc i pins s σ H E I hf st hg
  subst hP hw hK
  obtain⟨xs,hq,hx⟩:=hg
  obtain⟨its,rv,p,hz⟩:=I.list hq
  obtain⟨f0,f1,f2,f3,f4,f5⟩:=hf it (by simp)
  have hl:=rv.length
  exact wpAny_pyNext_list_end (I.ok.hd hc) st p.isList (by simp;omega) fun h' eb=>⟨rfl,I.turned (t':=s.toks) (fun b o hb e=>eb b o hb e) f0 f1 f3 f4 f5⟩
 self:=fun _ _ _ _ _ st h=>wpAny_pyIter_listiter st h
theorem ZK{P:Program}{w:World}{K:U0a}{tg:Expr}(a it:Addr):Turn P w K tg (Itt K a) [it] it (fun i h=>h.IsTupleIter it a i) where
 mem:=by simp
 obj:=fun i h st b hb=>by
  have e:b=it:=by simpa using hb
  subst e
  obtain⟨o,e,c,d⟩:=st
  exact⟨o,e,fun v z=>by rw[d] at z;cases z⟩
 keep:=fun i h h' st k=>st.at fun o e=>k it (by simp) o e
 item:=by
  intro X hP hw hK hc i pins s σ H E I hf st hg
  subst hP hw hK
  obtain⟨xs,x,hq,hx⟩:=hg
  obtain⟨its,rv,p,hz⟩:=I.tuple hq
  obtain⟨u,hu,ru⟩:=rv.get hx
  obtain⟨f0,f1,f2,f3,f4,f5⟩:=hf it (by simp)
  refine wpAny_pyNext_tuple_item st (show s.heap.IsTuple a its.toArray from p) (x:=u) (by simpa using hu) fun h' st' sb=>?_
  have I1:Inv X pins σ H { s with heap:=h' }:=I.turned (t':=s.toks) (fun b o hb e=>(sb.2 b hb).trans e) f0 f1 f3 f4 f5
  obtain⟨o,e,c,d⟩:=id st'
  exact⟨u,rfl,ZD (s:={ s with heap:=h' }) e c d (by decide) ⟨x,H,I1,ru,⟨rfl,fun ys hy=>by rw[I.aY hy hq];exact hx⟩,st',fun b hb=>(hf b hb).1⟩⟩
 done:=by
  intro X hP hw hK hc i pins s σ H E I hf st hg
  subst hP hw hK
  obtain⟨xs,hq,hx⟩:=hg
  obtain⟨its,rv,p,hz⟩:=I.tuple hq
  obtain⟨f0,f1,f2,f3,f4,f5⟩:=hf it (by simp)
  have hl:=rv.length
  exact wpAny_pyNext_tuple_end (I.ok.hd hc) st (show s.heap.IsTuple a its.toArray from p) (by simp;omega) fun h' eb=>⟨rfl,I.turned (t':=s.toks) (fun b o hb e=>eb b o hb e) f0 f1 f3 f4 f5⟩
 self:=fun _ _ _ _ _ st h=>wpAny_pyIter_tupleiter st h
theorem ZL{P:Program}{w:World}{K:U0a}{tg:Expr}(it:Addr)(lo:Int)(n:Nat):Turn P w K tg (Itr lo n) [it] it (fun i h=>IsRangeIter h it (lo+(i:Nat)*1) ((n:Int)-(i:Nat)) 1) where
 mem:=by simp
 obj:=fun i h st b hb=>by
  have e:b=it:=by simpa using hb
  subst e
  exact⟨_,st,fun v z=>by
   have z':Data.fields _=Data.cell v:=z
   cases z'⟩
 keep:=fun i h h' st k=>k it (by simp) _ st
 item:=by
  intro X hP hw hK hc i pins s σ H E I hf st hg
  subst hP hw hK
  obtain⟨f0,f1,f2,f3,f4,f5⟩:=hf it (by simp)
  have W:=Walks.range (prog:=X.prog) (w:=X.w) (I.ok.hd hc) it lo 1 n
  refine W.item i s _ _ hg st fun v h' tk hv st' kk=>?_
  obtain⟨t,rfl⟩:=hv
  have I1:Inv X pins σ H { s with heap:=h',toks:=tk }:=I.turned (fun b o hb e=>kk b o (by simpa using hb) e) f0 f1 f3 f4 f5
  refine⟨_,rfl,ZD (s:={ s with heap:=h',toks:=tk }) (n:="range_iterator") st' rfl rfl (by decide) ⟨.int (lo+i),H,I1,⟨t,?_⟩,⟨rfl,rfl⟩,st',fun b hb=>(hf b hb).1⟩⟩
  rw[U7w]
 done:=by
  intro X hP hw hK hc i pins s σ H E I hf st hg
  subst hP hw hK
  obtain⟨f0,f1,f2,f3,f4,f5⟩:=hf it (by simp)
  exact wpAny_pyNext_range_end (I.ok.hd hc) st (by have:n<=i:=hg;omega) fun h' eb=>⟨rfl,I.turned (t':=s.toks) (fun b o hb e=>eb b o hb e) f0 f1 f3 f4 f5⟩
 self:=fun _ _ _ _ _ st h=>wpAny_pyIter_rangeiter st h
end L2
namespace L2
open PySem PySem.Spec PyProof.Rows
section
variable{X:Cx}{tg:Expr}
theorem WQ{pins:List (Addr×Obj)}{σ:St}{H:Hp}{s:Shared}{R:It->Hp->Prop}{E:Value->Shared->Prop}{lo hi:Int}{t u v:Tok}{tk:Nat}(I:Inv X pins σ H s)(h1:-(2^62)<=lo)(h2:lo<2^62)(h3:-(2^62)<=hi)(h4:hi<2^62)
  (q:R (Itr lo (hi-lo).toNat) H):wpAny (model X.prog X.w) X.A (pyIter (.ref s.heap.objs.size)) (PIE X pins σ tg R) E { s with heap:=s.heap.push { cls:=.type "range",data:=.fields #[.int lo t,.int hi u,.int 1 v] },toks:=tk }:=by
 refine wpAny_pyIter_range (IsRange.new ..) (small_one h1 h2 h3 h4) ?_
 have I1:Inv X pins σ H { s with heap:=s.heap.push { cls:=.type "range",data:=.fields #[.int lo t,.int hi u,.int 1 v] },toks:=tk }:=I.kept fun b o e=>U0b _ e
 refine⟨(s.heap.push { cls:=.type "range",data:=.fields #[.int lo t,.int hi u,.int 1 v] }).objs.size,[(s.heap.push { cls:=.type "range",data:=.fields #[.int lo t,.int hi u,.int 1 v] }).objs.size],_,_,H,rfl,
  I1.kept (t':=tk) fun b o e=>U0b _ e,ZL _ lo (hi-lo).toNat,?_,fun b hb=>?_,q⟩
 .have e1:lo+((0:Nat):Int)*1=lo:=by simp
  have e2:(((hi-lo).toNat:Nat):Int)-((0:Nat):Int)=Builtin.Range.rangeSize lo hi 1:=by rw[rangeSize_one];split<;>omega
  show IsRangeIter _ _ (lo+((0:Nat):Int)*1) ((((hi-lo).toNat:Nat):Int)-((0:Nat):Int)) 1
  rw[e1,e2]
  exact U0n _ rfl
 .have e:b=(s.heap.push { cls:=.type "range",data:=.fields #[.int lo t,.int hi u,.int 1 v] }).objs.size:=by simpa using hb
  subst e
  exact I1.dG (U0s _) (I1.hok.fresh (U0s _))
def ur(ta:TA):TI:=fun σ H R=>ta σ H fun vs H1=>∃j:Int,vs=[.int j]/\-(2^62)<=j/\j<2^62/\R (Itr 0 j.toNat) H1
def uq(ta:TA):TI:=fun σ H R=>ta σ H fun vs H1=>∃i j:Int,vs=[.int i,.int j]/\(-(2^62)<=i/\i<2^62/\-(2^62)<=j/\j<2^62)/\R (Itr i (j-i).toNat) H1
theorem bM{a:Expr}{ta:TA}{p pos:Pos}(hg:Gl X "range")(hm:X.mg "range"=none)(ha:PA X [a] ta)(hs:starEach [a] X.env=[(false,eval a X.env)]:=by rfl):PI X tg (.Call (.Name "range" p) [a] [] pos) (ur ta):=by
 intro pins s σ H R I h
 refine Call_ (Je I hg hm boot_range (U21 (thn (ha pos pins s σ H _ I h) fun us s1 ⟨vs,H1,I1,r1,q1⟩=>?_) hs rfl))
 obtain⟨j,e,q1,q2,q⟩:=q1
 subst e
 cases r1 with
 |cons r rr =>
  cases rr
  obtain⟨t,rfl⟩:=r
  exact call_range_1 (WQ I1 (by omega) (by omega) q1 q2 (by simpa using q))
theorem bL{a b:Expr}{ta:TA}{p pos:Pos}(hg:Gl X "range")(hm:X.mg "range"=none)(ha:PA X [a,b] ta)(hs:starEach [a,b] X.env=[(false,eval a X.env),(false,eval b X.env)]:=by rfl)(hs2:starEach [b] X.env=[(false,eval b X.env)]:=by rfl) :
  PI X tg (.Call (.Name "range" p) [a,b] [] pos) (uq ta):=by
 intro pins s σ H R I h
 refine Call_ (Je I hg hm boot_range (U21 (thn (ha pos pins s σ H _ I h) fun us s1 ⟨vs,H1,I1,r1,q1⟩=>?_) (by rw[hs,hs2]) (by rw[hs2];rfl)))
 obtain⟨i,j,e,⟨q1,q2,q3,q4⟩,q⟩:=q1
 subst e
 cases r1 with
 |cons r rr =>
  cases rr with
  |cons r' rr =>
   cases rr
   obtain⟨t,rfl⟩:=r
   obtain⟨t',rfl⟩:=r'
   exact call_range_2 (WQ I1 q1 q2 q3 q4 q)
def vV(wi:TI)(g:TG)(tb:TS):TS:=fun D σ H=>wi σ H fun J H1=>∃W:Nat->Nat->St->Hp->Prop,(∃m,W 0 m σ H1)/\∀i m σ H,W i m σ H ->
 (J.stop i H/\D.nx σ H)∨(J.go i H/\∃N:St->Hp->Prop,(∀σ' H',N σ' H'->∃m',m'<m/\W (i+1) m' σ' H')/\∀x H',J.yld i H x H'->g x σ H' fun σ2 H2=>tb { D with nx:=N,ct:=N,bk:=D.nx } σ2 H2)
def K8(fp:List Addr)(h:Heap):List (Addr×Obj):=fp.filterMap fun b=>(h.get? b).map fun o=>(b,o)
theorem Kv{fp:List Addr}{h:Heap}{b:Addr}{o:Obj}(hb:b∈fp)(e:h.get? b=some o):(b,o)∈K8 fp h:=List.mem_filterMap.mpr ⟨b,hb,by rw[e];rfl⟩
theorem Ur{fp:List Addr}{h:Heap}{p:Addr×Obj}(hp:p∈K8 fp h):p.1∈fp/\h.get? p.1=some p.2:=by
 obtain⟨b,hb,e⟩:=List.mem_filterMap.mp hp
 cases q:h.get? b with
 |none=>rw[q] at e;cases e
 |some o =>
  rw[q] at e
  have e':(b,o)=p:=U05 e
  subst e'
  exact⟨hb,q⟩
theorem Inv.pinned{pins:List (Addr×Obj)}{σ:St}{H:Hp}{s:Shared}{fp:List Addr}(I:Inv X pins σ H s)(hf:∀b∈fp,Oj X pins H b)(ho:∀b∈fp,∃o,s.heap.get? b=some o/\∀v,o.data≠.cell v):Inv X (pins++K8 fp s.heap) σ H s :=
 I.QM fun p hp=>(U10.mp hp).elim (fun z=>I.pin p (U06 _ z)) fun z=>by
  obtain⟨hb,e⟩:=Ur z
  obtain⟨f0,f1,f2,_⟩:=hf p.1 hb
  obtain⟨o,e',d⟩:=ho p.1 hb
  rw[e] at e';cases e'
  exact⟨e,f0,f1,f2,d⟩
theorem Inv.Nr{pins pl:List (Addr×Obj)}{σ:St}{H:Hp}{s:Shared}(I:Inv X (pins++pl) σ H s):Inv X pins σ H s:=I.QM fun p hp=>I.pin p (U06 _ (U3r _ hp))
theorem qO{iter:Expr}{body:List Stmt}{wi:TI}{g:TG}{tb:TS}{pos:Pos}(hp:PassesOwn (model X.prog X.w) X.A X.env X.xe)(hc:X.calm=true)(hi:PI X tg iter wi)(hg:PG X tg g)(hb:PSs X body tb)
  (hs:∀x,foldedSetIterable iter X.env x=pure x:=by intro _;rfl):PS X (.For tg iter body [] pos) (vV wi g tb):=by
 intro pins s σ H D I h
 refine wpAny_For (thn (hi pins s σ H _ I h) fun v s1 h1=>thn h1 fun itv s2 h2=>?_) hs
 obtain⟨it,fp,tn,J,H2,e,I2,T,st2,f2,W,⟨m0,w0⟩,turn⟩:=h2
 subst e
 -- what stays true of the iterator's objects through the loop
 have stat:∀{H':Hp},(∀b∈fp,H' b=none)->∀b∈fp,Oj X pins H' b:=fun hn b hb=>⟨hn b hb,(f2 b hb).2⟩
 refine codeAny_forLoop_any (fun n s'=>∃i σ' H',Inv X pins σ' H' s'/\tn i s'.heap/\(∀b∈fp,H' b=none)/\W i n σ' H') ?_ m0 ⟨0,σ,H2,I2,st2,fun b hb=>(f2 b hb).1,w0⟩
 rintro n s3 ⟨i,σ3,H3,I3,st3,fr3,w3⟩
 rcases turn i n σ3 H3 w3 with ⟨stop,qn⟩|⟨go,N,hN,step⟩
 .refine U5i hp (thn (T.done X rfl rfl rfl hc i pins s3 σ3 H3 X.xe I3 (stat fr3) st3 stop) fun r s4 ⟨hr,I4⟩=>?_)
  subst hr
  exact U67 ⟨σ3,H3,I4,qn⟩
 .refine U5i hp (thn (T.item X rfl rfl rfl hc i pins s3 σ3 H3 X.xe I3 (stat fr3) st3 go) fun r s4 ⟨u,hr,h4⟩=>?_)
  subst hr
  refine U5i hp (thn h4 fun _ s5 ⟨x,H5,I5,r5,y5,st5,fr5⟩=>?_)
  have I5':=I5.pinned (stat fr5) (T.obj _ _ st5)
  refine U5i hp (thn (hg _ s5 σ3 H5 x u _ I5' r5 (step x H5 y5)) fun _ s6 ⟨σ6,H6,I6,q6⟩=>?_)
  refine U5i hp (thn (hb _ s6 σ6 H6 _ I6 q6) fun f s7 q7=>?_)
  have again:∀{σ7:St} {H7:Hp},Inv X (pins++K8 fp s5.heap) σ7 H7 s7->N σ7 H7->∃m,m<n/\∃i σ' H',Inv X pins σ' H' s7/\tn i s7.heap/\(∀b∈fp,H' b=none)/\W i m σ' H':=fun {σ7 H7} I7 n7=>by
   obtain⟨m',hm,w7⟩:=hN σ7 H7 n7
   refine⟨m',hm,i+1,σ7,H7,I7.Nr,T.keep _ _ _ st5 fun b hb o e=>(I7.pin (b,o) (U06 _ (U06 _ (Kv hb e)))).1,fun b hb=>?_,w7⟩
   obtain⟨o,e,d⟩:=T.obj _ _ st5 b hb
   exact(I7.pin (b,o) (U06 _ (U06 _ (Kv hb e)))).2.1
  cases f with
  |next=>obtain⟨σ7,H7,I7,n7⟩:=q7;exact again I7 n7
  |cont=>obtain⟨σ7,H7,I7,n7⟩:=q7;exact again I7 n7
  |brk=>obtain⟨σ7,H7,I7,q7⟩:=q7;exact⟨σ7,H7,I7.Nr,q7⟩
  |ret v=>obtain⟨x7,σ7,H7,I7,r7,q7⟩:=q7;exact⟨x7,σ7,H7,I7.Nr,r7,q7⟩
end
end L2
namespace L2
open PySem PySem.Spec PyProof.Rows
abbrev R2:=V->V->Hp->VK->Prop
def OpR(X:Cx)(f:Value->Value->Sem Value)(r:R2):Prop :=
 ∀(pins:List (Addr×Obj))(s:Shared)(σ:St)(H:Hp)(x y:V)(v u:Value)(Q:VK),Inv X pins σ H s->RelV x v->RelV y u->r x y H Q ->
  wpAny (model X.prog X.w) X.A (f v u) (EP X pins σ Q) X.xe s
def UnR(X:Cx)(f:Value->Sem Value)(r:V->Hp->VK->Prop):Prop :=
 ∀(pins:List (Addr×Obj))(s:Shared)(σ:St)(H:Hp)(x:V)(v:Value)(Q:VK),Inv X pins σ H s->RelV x v->r x H Q ->
  wpAny (model X.prog X.w) X.A (f v) (EP X pins σ Q) X.xe s
def DN(X:Cx)(f:Value)(r:List V->Hp->VK->Prop):Prop :=
 ∀(pins:List (Addr×Obj))(s:Shared)(σ:St)(H:Hp)(xs:List V)(us:List Value)(Q:VK),Inv X pins σ H s->Vals xs us->r xs H Q ->
  wpAny (model X.prog X.w) X.A (call f us) (EP X pins σ Q) X.xe s
def tOp(r:R2)(ta tb:TE):TE:=fun σ H Q=>ta σ H fun x H1=>tb σ H1 fun y H2=>r x y H2 Q
def tUn(r:V->Hp->VK->Prop)(ta:TE):TE:=fun σ H Q=>ta σ H fun x H1=>r x H1 Q
def rI(C:Int->Int->Prop)(g:Int->Int->V):R2:=fun x y H Q=>∃i j,x=.int i/\y=.int j/\C i j/\Q (g i j) H
def rI0(g:Int->Int->V):R2:=fun x y H Q=>∃i j,x=.int i/\y=.int j/\Q (g i j) H
def rU(g:Int->V):V->Hp->VK->Prop:=fun x H Q=>∃i,x=.int i/\Q (g i) H
section
variable{X:Cx}{a b c:Expr}{ta tb tc:TE}{pos:Pos}
theorem Yx(ha:PE X a ta)(hb:PE X b tb){pins:List (Addr×Obj)}{s:Shared}{σ:St}{H:Hp}{R:V->V->Hp->Prop}(I:Inv X pins σ H s)
  (h:ta σ H fun x H1=>tb σ H1 fun y H2=>R x y H2) {Q:Value->Shared->Prop} {f:Value->Value->Sem Value}
  (hf:∀v u s2 x y H2,Inv X pins σ H2 s2->RelV x v->RelV y u->R x y H2->wpAny (model X.prog X.w) X.A (f v u) Q X.xe s2) :
  wpAny (model X.prog X.w) X.A (eval a X.env) (fun v s₁=>wpAny (model X.prog X.w) X.A (eval b X.env) (fun u s₂=>wpAny (model X.prog X.w) X.A (f v u) Q X.xe s₂) X.xe s₁) X.xe s:=by
 refine thn (ha pins s σ H _ I h) fun v s1 ⟨x,H1,I1,r1,q1⟩=>?_
 refine thn (hb pins s1 σ H1 _ I1 q1) fun u s2 ⟨y,H2,I2,r2,q2⟩=>?_
 exact hf v u s2 x y H2 I2 r1 r2 q2
theorem jC{op:Operator}{r:R2}(ho:OpR X (binaryOp op) r)(ha:PE X a ta)(hb:PE X b tb):PE X (.BinOp a op b pos) (tOp r ta tb):=by
 intro pins s σ H Q I h
 exact wpAny_BinOp (Yx ha hb I h fun v u s2 x y H2 I2 rx ry q=>ho pins s2 σ H2 x y v u Q I2 rx ry q)
theorem uR{op:UnaryOp}{r:V->Hp->VK->Prop}(ho:UnR X (unaryOp op) r)(ha:PE X a ta):PE X (.UnaryOp op a pos) (tUn r ta):=by
 intro pins s σ H Q I h
 exact UnaryOp_ (thn (ha pins s σ H _ I h) fun v s1 ⟨x,H1,I1,r1,q1⟩=>ho pins s1 σ H1 x v Q I1 r1 q1)
theorem opI{f:Value->Value->Sem Value}{C:Int->Int->Prop}{g:Int->Int->Int}
  (rule:∀(i j:Int)(t u:Tok)(s:Shared)(Q:Value->Shared->Prop)(E:Value->Shared->Prop),C i j->Q (.int (g i j) s.toks) { s with toks:=s.toks+1 }->wpAny (model X.prog X.w) X.A (f (.int i t) (.int j u)) Q E s) :
  OpR X f (rI C fun i j=>.int (g i j)):=by
 intro pins s σ H x y v u Q I rx ry h
 obtain⟨i,j,rfl,rfl,hc,q⟩:=h
 obtain⟨t,rfl⟩:=rx
 obtain⟨t',rfl⟩:=ry
 exact rule i j t t' s _ _ hc ⟨.int (g i j),H,I.tok _,⟨_,rfl⟩,q⟩
theorem pF{f:Value->Value->Sem Value}{g:Int->Int->Int}
  (rule:∀(i j:Int)(t u:Tok)(s:Shared)(Q:Value->Shared->Prop)(E:Value->Shared->Prop),Q (.int (g i j) s.toks) { s with toks:=s.toks+1 }->wpAny (model X.prog X.w) X.A (f (.int i t) (.int j u)) Q E s) :
  OpR X f (rI0 fun i j=>.int (g i j)):=by
 intro pins s σ H x y v u Q I rx ry h
 obtain⟨i,j,rfl,rfl,q⟩:=h
 obtain⟨t,rfl⟩:=rx
 obtain⟨t',rfl⟩:=ry
 exact rule i j t t' s _ _ ⟨.int (g i j),H,I.tok _,⟨_,rfl⟩,q⟩
theorem Yu{f:Value->Value->Sem Value}{g:Int->Int->Bool}
  (rule:∀(i j:Int)(t u:Tok)(s:Shared)(Q:Value->Shared->Prop)(E:Value->Shared->Prop),Q (.bool (g i j)) s->wpAny (model X.prog X.w) X.A (f (.int i t) (.int j u)) Q E s) :
  OpR X f (rI0 fun i j=>.bl (g i j)):=by
 intro pins s σ H x y v u Q I rx ry h
 obtain⟨i,j,rfl,rfl,q⟩:=h
 obtain⟨t,rfl⟩:=rx
 obtain⟨t',rfl⟩:=ry
 exact rule i j t t' s _ _ ⟨.bl (g i j),H,I,rfl,q⟩
def dR(i j:Int):Prop:=0<=j/\j<=1000000/\i.natAbs<2^64
def Vt(i j:Int):Prop:=(-(2^64)<i/\i<2^64)∨(-(2^64)<j/\j<2^64)
theorem Vt.ok{i j:Int}(h:Vt i j):IntMulOk i j:=by
 rcases h with ⟨h1,h2⟩|⟨h1,h2⟩
 .exact .of_left (intBits_le_64 h1 h2)
 .exact .of_right (intBits_le_64 h1 h2)
theorem qm:OpR X (binaryOp .Add) (rI0 fun i j=>.int (i+j)):=pF fun _ _ _ _ _ _ _ q=>add_int q
theorem Ov:OpR X (binaryOp .Sub) (rI0 fun i j=>.int (i-j)):=pF fun _ _ _ _ _ _ _ q=>sub_int q
theorem qe:OpR X (binaryOp .Mult) (rI Vt fun i j=>.int (i*j)):=opI fun _ _ _ _ _ _ _ hc q=>mul_int q hc.ok
theorem N7:OpR X (binaryOp .Mod) (rI (fun _ j=>0<j) fun i j=>.int (i%j)):=opI fun i j _ _ _ _ _ hc q=>by
 have h1:(0:Int)<j:=hc
 exact mod_int' (by omega) (by rw[Int.fmod_eq_emod_of_nonneg i (by omega)];exact q)
theorem Vv:OpR X (binaryOp .Pow) (rI dR fun i j=>.int (i^j.toNat)):=opI fun _ _ _ _ _ _ _ hc q=>pow_int_small hc.1 hc.2.1 hc.2.2 q
theorem unI{f:Value->Sem Value}{g:Int->Int}
  (rule:∀(i:Int)(t:Tok)(s:Shared)(Q:Value->Shared->Prop)(E:Value->Shared->Prop),Q (.int (g i) s.toks) { s with toks:=s.toks+1 }->wpAny (model X.prog X.w) X.A (f (.int i t)) Q E s) :
  UnR X f (rU fun i=>.int (g i)):=by
 intro pins s σ H x v Q I rx h
 obtain⟨i,rfl,q⟩:=h
 obtain⟨t,rfl⟩:=rx
 exact rule i t s _ _ ⟨.int (g i),H,I.tok _,⟨_,rfl⟩,q⟩
theorem Jc:UnR X (unaryOp .USub) (rU fun i=>.int (-i)):=unI fun _ _ _ _ _ q=>neg_int q
end
def oR:V->V->Bool
 |.non,.non=>true|.non,.int _=>true|.int _,.non=>true|.non,.bl _=>true|.bl _,.non=>true|.non,.str _=>true|.str _,.non=>true
 |.int _,.int _=>true|.bl _,.bl _=>true|.str _,.str _=>true|.byt _,.byt _=>true
 |.int _,.str _=>true|.str _,.int _=>true|.bl _,.str _=>true|.str _,.bl _=>true
 |_,_=>false
def rEq:R2:=fun x y H Q=>oR x y=true/\Q (.bl (decide (x=y))) H
def rNe:R2:=fun x y H Q=>oR x y=true/\Q (.bl (!decide (x=y))) H
theorem Yl{i j:Int}:decide (V.int i=V.int j)=(i==j):=by
 rw[U2i]
 simp
theorem aP{i j:Bool}:decide (V.bl i=V.bl j)=(i==j):=by
 rw[U2i]
 simp
theorem Yk{i j:Str}:decide (V.str i=V.str j)=(i==j):=by
 rw[U2i]
 simp
theorem Ym{i j:Array UInt8}:decide (V.byt i=V.byt j)=(i.toList==j.toList):=by
 rw[U2i]
 cases i
 cases j
 simp
section
variable{X:Cx}{a b c:Expr}{ta tb tc:TE}{pos:Pos}
theorem Cv{pins:List (Addr×Obj)}{σ:St}{H:Hp}{s:Shared}{Q:VK}{k k':Bool}(I:Inv X pins σ H s)(q:Q (.bl k) H)(e:k=k'):EP X pins σ Q (.bool k') s:=by
 subst e
 exact⟨.bl k,H,I,rfl,q⟩
theorem uY:OpR X (compareOp .Eq) rEq:=by
 intro pins s σ H x y v u Q I rx ry h
 obtain⟨hs,q⟩:=h
 cases x with
 |non =>
  cases rx
  cases y with
  |non=>cases ry;exact PySem.EqNone.eq_none_none (Cv I q (by simp))
  |bl j=>cases ry;exact PySem.EqNone.eq_none_bool (Cv I q (by simp))
  |int j=>obtain⟨t',rfl⟩:=ry;exact PySem.EqNone.eq_none_int (Cv I q (by simp))
  |str j=>obtain⟨t',rfl⟩:=ry;exact PySem.EqNone.eq_none_str (Cv I q (by simp))
  |_=>exact absurd (show false=true from hs) U1c
 |bl i =>
  cases rx
  cases y with
  |non=>cases ry;exact PySem.EqNone.eq_bool_none (Cv I q (by simp))
  |bl j=>cases ry;exact eq_bool (Cv I q aP)
  |str j=>obtain⟨t',rfl⟩:=ry;exact PySem.EqMixed.eq_bool_str (Cv I q (by simp))
  |_=>exact absurd (show false=true from hs) U1c
 |int i =>
  obtain⟨t,rfl⟩:=rx
  cases y with
  |non=>cases ry;exact PySem.EqNone.eq_int_none (Cv I q (by simp))
  |int j=>obtain⟨t',rfl⟩:=ry;exact eq_int (Cv I q Yl)
  |str j=>obtain⟨t',rfl⟩:=ry;exact PySem.EqMixed.eq_int_str (Cv I q (by simp))
  |_=>exact absurd (show false=true from hs) U1c
 |str i =>
  obtain⟨t,rfl⟩:=rx
  cases y with
  |non=>cases ry;exact PySem.EqNone.eq_str_none (Cv I q (by simp))
  |bl j=>cases ry;exact PySem.EqMixed.eq_str_bool (Cv I q (by simp))
  |int j=>obtain⟨t',rfl⟩:=ry;exact PySem.EqMixed.eq_str_int (Cv I q (by simp))
  |str j=>obtain⟨t',rfl⟩:=ry;exact eq_str (Cv I q Yk)
  |_=>exact absurd (show false=true from hs) U1c
 |byt i =>
  obtain⟨t,rfl⟩:=rx
  cases y with
  |byt j=>obtain⟨t',rfl⟩:=ry;exact PySem.W.eq_bytes (Cv I q Ym)
  |_=>exact absurd (show false=true from hs) U1c
 |_=>cases y<;>exact absurd (show false=true from hs) U1c
theorem uX:OpR X (compareOp .NotEq) rNe:=by
 intro pins s σ H x y v u Q I rx ry h
 obtain⟨hs,q⟩:=h
 cases x with
 |non =>
  cases rx
  cases y with
  |non=>cases ry;exact PySem.EqNone.ne_none_none (Cv I q (by simp))
  |bl j=>cases ry;exact PySem.EqNone.ne_none_bool (Cv I q (by simp))
  |int j=>obtain⟨t',rfl⟩:=ry;exact PySem.EqNone.ne_none_int (Cv I q (by simp))
  |str j=>obtain⟨t',rfl⟩:=ry;exact PySem.EqNone.ne_none_str (Cv I q (by simp))
  |_=>exact absurd (show false=true from hs) U1c
 |bl i =>
  cases rx
  cases y with
  |non=>cases ry;exact PySem.EqNone.ne_bool_none (Cv I q (by simp))
  |bl j=>cases ry;exact ne_bool (Cv I q (congrArg not aP))
  |str j=>obtain⟨t',rfl⟩:=ry;exact PySem.EqMixed.ne_bool_str (Cv I q (by simp))
  |_=>exact absurd (show false=true from hs) U1c
 |int i =>
  obtain⟨t,rfl⟩:=rx
  cases y with
  |non=>cases ry;exact PySem.EqNone.ne_int_none (Cv I q (by simp))
  |int j=>obtain⟨t',rfl⟩:=ry;exact ne_int (Cv I q (congrArg not Yl))
  |str j=>obtain⟨t',rfl⟩:=ry;exact PySem.EqMixed.ne_int_str (Cv I q (by simp))
  |_=>exact absurd (show false=true from hs) U1c
 |str i =>
  obtain⟨t,rfl⟩:=rx
  cases y with
  |non=>cases ry;exact PySem.EqNone.ne_str_none (Cv I q (by simp))
  |bl j=>cases ry;exact PySem.EqMixed.ne_str_bool (Cv I q (by simp))
  |int j=>obtain⟨t',rfl⟩:=ry;exact PySem.EqMixed.ne_str_int (Cv I q (by simp))
  |str j=>obtain⟨t',rfl⟩:=ry;exact ne_str (Cv I q (congrArg not Yk))
  |_=>exact absurd (show false=true from hs) U1c
 |byt i =>
  obtain⟨t,rfl⟩:=rx
  cases y with
  |byt j=>obtain⟨t',rfl⟩:=ry;exact PySem.W.ne_bytes (Cv I q (congrArg not Ym))
  |_=>exact absurd (show false=true from hs) U1c
 |_=>cases y<;>exact absurd (show false=true from hs) U1c
theorem Rm:OpR X (compareOp .Lt) (rI0 fun i j=>.bl (decide (i<j))):=Yu fun _ _ _ _ _ _ _ q=>lt_int q
theorem jD:OpR X (compareOp .LtE) (rI0 fun i j=>.bl (decide (i<=j))):=Yu fun _ _ _ _ _ _ _ q=>le_int q
theorem QC:OpR X (compareOp .Gt) (rI0 fun i j=>.bl (decide (j<i))):=Yu fun _ _ _ _ _ _ _ q=>gt_int q
theorem Ve:OpR X (compareOp .GtE) (rI0 fun i j=>.bl (decide (j<=i))):=Yu fun _ _ _ _ _ _ _ q=>ge_int q
theorem OpR.or{f:Value->Value->Sem Value}{r r':R2}(h:OpR X f r)(h':OpR X f r'):OpR X f (fun x y H Q=>r x y H Q∨r' x y H Q):=by
 intro pins s σ H x y v u Q I rx ry q
 rcases q with q|q
 .exact h pins s σ H x y v u Q I rx ry q
 .exact h' pins s σ H x y v u Q I rx ry q
theorem DX(b:Expr){op:CmpOp}(h:op≠.In:=by decide)(h2:op≠.NotIn:=by decide):behindInMarks op b=false:=by
 have e1:(op==CmpOp.In)=false:=by cases op<;>first|rfl|exact absurd rfl h
 have e2:(op==CmpOp.NotIn)=false:=by cases op<;>first|rfl|exact absurd rfl h2
 cases b<;>simp[behindInMarks,e1,e2]
theorem Yc{op:CmpOp}{r:R2}(ho:OpR X (compareOp op) r)(ha:PE X a ta)(hb:PE X b tb)(hm:behindInMarks op b=false):PE X (.Compare a [op] [b] pos) (tOp r ta tb):=by
 intro pins s σ H Q I h
 exact wpAny_Compare1 (Yx ha hb I h fun v u s2 x y H2 I2 rx ry q=>ho pins s2 σ H2 x y v u Q I2 rx ry q) hm
def Z4(t:TE):TT:=fun σ H Q=>t σ H fun x H'=>∃k,x=.bl k/\Q k H'
theorem jy{op:CmpOp}{r:R2}(ho:OpR X (compareOp op) r)(ha:PE X a ta)(hb:PE X b tb)(hm:behindInMarks op b=false):PT X (.Compare a [op] [b] pos) (Z4 (tOp r ta tb)):=by
 intro pins s σ H Q I h
 refine wpAny_isTrue_Compare1 (thn (ha pins s σ H _ I h) fun v s1 ⟨x,H1,I1,r1,q1⟩=>thn (hb pins s1 σ H1 _ I1 q1) fun u s2 ⟨y,H2,I2,r2,q2⟩ =>
  thn (ho pins s2 σ H2 x y v u _ I2 r1 r2 q2) fun c s3 ⟨z,H3,I3,r3,k,e,q3⟩=>?_) hm
 subst e
 cases r3
 exact U28 ⟨H3,I3,q3⟩
def Zu(r r':R2)(ta tb tc:TE):TE:=fun σ H Q=>ta σ H fun x H1=>tb σ H1 fun y H2=>r x y H2 fun z H3=>∃k,z=.bl k /\
 (if k=true then tc σ H3 fun w' H4=>r' y w' H4 Q else Q (.bl false) H3)
theorem fO{op op':CmpOp}{r r':R2}(ho:OpR X (compareOp op) r)(ho':OpR X (compareOp op') r')(ha:PE X a ta)(hb:PE X b tb)(hc:PE X c tc)
  (hm:lastMarks [op,op'] [b,c]=false:=by with_unfolding_all rfl):PT X (.Compare a [op,op'] [b,c] pos) (Z4 (Zu r r' ta tb tc)):=by
 intro pins s σ H Q I h
 refine isTrue_chain (thn (ha pins s σ H _ I h) fun v s1 ⟨x,H1,I1,r1,q1⟩=>test_link (thn (hb pins s1 σ H1 _ I1 q1) fun u s2 ⟨y,H2,I2,r2,q2⟩ =>
  thn (ho pins s2 σ H2 x y v u _ I2 r1 r2 q2) fun d s3 ⟨z,H3,I3,r3,k,e,q3⟩=>?_)) hm
 subst e
 cases r3
 refine U28 ?_
 cases k with
 |false =>
  obtain⟨k',e',q'⟩:=q3
  cases e'
  exact ite_ff ⟨H3,I3,q'⟩
 |true =>
  refine ite_tt (test_last (thn (hc pins s3 σ H3 _ I3 q3) fun w' s4 ⟨z',H4,I4,r4,q4⟩=>thn (ho' pins s4 σ H4 y z' u w' _ I4 r2 r4 q4) fun d' s5 ⟨z2,H5,I5,r5,k2,e2,q5⟩=>?_))
  subst e2
  cases r5
  exact U28 ⟨H5,I5,q5⟩
theorem Ox:(sizeLine:Nat)<2^63:=by rw[sizeLine_eq];decide
theorem ZW:OpR X (binaryOp .Add) (fun x y H Q=>∃i j,x=.str i/\y=.str j/\i.length+j.length<=sizeLine/\Q (.str (i++j)) H):=by
 intro pins s σ H x y v u Q I rx ry h
 obtain⟨i,j,rfl,rfl,hz,q⟩:=h
 obtain⟨t,rfl⟩:=rx
 obtain⟨t',rfl⟩:=ry
 exact add_str (fun t' tk=>⟨.str (i++j),H,I.tok _,⟨_,rfl⟩,q⟩) hz
theorem vals1{x:V}{us:List Value}(r:Vals [x] us):∃u,us=[u]/\RelV x u:=by
 cases r with
 |cons r1 r2=>cases r2;exact⟨_,rfl,r1⟩
theorem vals2{x y:V}{us:List Value}(r:Vals [x,y] us):∃u w',us=[u,w']/\RelV x u/\RelV y w':=by
 cases r with
 |cons r1 r2 =>
  cases r2 with
  |cons r3 r4=>cases r4;exact⟨_,_,rfl,r1,r3⟩
theorem cU(hc:X.calm=true):DN X (.builtin "max") (fun xs H Q=>∃i j,xs=[.int i,.int j]/\Q (.int (if j>i then j else i)) H):=by
 intro pins s σ H xs us Q I r h
 obtain⟨i,j,rfl,q⟩:=h
 obtain⟨u,w',rfl,⟨t,rfl⟩,⟨t',rfl⟩⟩:=vals2 r
 refine max_two_ints (I.ok.hd hc) fun h' tk k=>⟨_,H,I.kept k,?_,q⟩
 by_cases hj:j>i
 .rw[if_pos hj,if_pos hj];exact⟨_,rfl⟩
 .rw[if_neg hj,if_neg hj];exact⟨_,rfl⟩
theorem cQ(hc:X.calm=true):DN X (.builtin "min") (fun xs H Q=>∃i j,xs=[.int i,.int j]/\Q (.int (if j<i then j else i)) H):=by
 intro pins s σ H xs us Q I r h
 obtain⟨i,j,rfl,q⟩:=h
 obtain⟨u,w',rfl,⟨t,rfl⟩,⟨t',rfl⟩⟩:=vals2 r
 refine min_two_ints (I.ok.hd hc) fun h' tk k=>⟨_,H,I.kept k,?_,q⟩
 by_cases hj:j<i
 .rw[if_pos hj,if_pos hj];exact⟨_,rfl⟩
 .rw[if_neg hj,if_neg hj];exact⟨_,rfl⟩
theorem V4:DN X (.type "int") (fun xs H Q=>(∃i,xs=[.int i]/\Q (.int i) H)∨∃k,xs=[.bl k]/\Q (.int (if k then 1 else 0)) H):=by
 intro pins s σ H xs us Q I r h
 rcases h with ⟨i,rfl,q⟩|⟨k,rfl,q⟩
 .obtain⟨u,rfl,t,rfl⟩:=vals1 r
  exact call_int_int ⟨.int i,H,I,⟨_,rfl⟩,q⟩
 .obtain⟨u,rfl,r1⟩:=vals1 r
  cases r1
  exact call_int_bool ⟨.int (if k then 1 else 0),H,I.tok _,⟨_,rfl⟩,q⟩
end
end L2
namespace L2
open PySem PySem.Spec PyProof.Rows
structure dN(h:Heap)(x dx C:Addr)(mA:Str->Option Value):Prop where
 obj:h.get? x=some (U66 C dx)
 ns:h.Ns1 dx mA
 ne:dx≠x
theorem bV{h:Heap}{dx:Addr}{mA:Str->Option Value}(n:h.Ns1 dx mA):∃od,h.get? dx=some od/\∀name,U7i name od=some (mA name):=by
 obtain⟨o,es,ep,ho,hd,hk,_,hm⟩:=n
 refine⟨o,ho,fun name=>?_⟩
 have e:=hm name
 unfold nsFind findBy at e
 rw[←Array.find?_toList] at e
 unfold U7i
 rw[hd]
 dsimp only
 split
 .rename_i y q
  rw[q] at e
  exact congrArg some e
 .rename_i q
  rw[q] at e
  have a:es.toList.any (·.refKey)=false:=by
   rw[List.any_eq_false]
   intro y hy
   obtain⟨z,t,hkey⟩:=hk y (Array.mem_toList_iff.mp hy)
   simp[DictEntry.refKey,hkey]
  have a':¬es.toList.any (·.refKey)=true:=by rw[a];exact U1c
  rw[if_neg a']
  exact congrArg some e
theorem dN.look{h:Heap}{x dx C:Addr}{mA:Str->Option Value}(I:dN h x dx C mA):∃od,PySem.W.InstAt h x (U66 C dx) C (some od)/\∀name,U7i name od=some (mA name) :=
 let ⟨od,ho,hl⟩:=bV I.ns
 ⟨od,⟨I.obj,rfl,rfl,ho⟩,hl⟩
section
variable{prog:Program}{w:World}{A:Around}{E:Value->Shared->Prop}{s:Shared}{K:U0a}{x dx C f:Addr}{mA:Str->Option Value}{name:Str}{v:Value}
end
theorem Lk.some_of{v:V}{o:Option Value}(r:Lk (some v) o):∃u,o=some u/\RelV v u:=by
 cases o with
 |none=>exact(show False from r).elim
 |some u=>exact⟨u,rfl,r⟩
section
variable{P:Program}{w:World}{H H':Hp}{h h':Heap}{a C dx:Addr}{fs fs':List (Str×V)}
theorem mO(hok:HOk P w H h)(e:H a=some (.ins C dx fs)):∃mA,dN h a dx C mA/\(∀f,Lk (fs.lookup f) (mA f))/\PySem.Within mA (fs.map (·.1))/\fs.length<=1000/\H dx=some (.own a):=by
 obtain⟨d,z,ne,ob,mA,n,r,q⟩:=(show Cp P w H h a (.ins C dx fs) from hok a _ e)
 exact⟨mA,⟨ob,n,ne⟩,r,q,z,d⟩
end
structure Cls(K:U0a)(C:Addr):Prop where
 pg:PySem.W.plainGet K C Str.empty=true
 hd:PySem.W.hasDictIn K C=true
 po:PySem.W.plainOver K C=true
 sa:U5r K (.ref C) "__setattr__"=some (some (.builtin "object.__setattr__"))
theorem Cls.get{K:U0a}{C:Addr}(c:Cls K C)(f:Str):PySem.W.plainGet K C f=true:=c.pg
structure Con(K:U0a)(C:Addr)(f:Str)(v:V)(u:Value):Prop where
 at_:U5r K (.ref C) f=some (some u)
 rel:RelV v u
 get:PySem.W.specialIn K u "__get__"=some none
 cp:PySem.W.copiedNames.contains f=false
structure Meth(K:U0a)(C:Addr)(m:Str)(f:Addr):Prop where
 at_:U5r K (.ref C) m=some (some (.ref f))
 fn:PySem.W.isFn K (.ref f)=true
 kp:U08 K (.ref f)=true
section
variable{X:Cx}{pins:List (Addr×Obj)}{σ:St}{H:Hp}{s:Shared}{a C dx:Addr}{fs:List (Str×V)}{f:Str}{v:V}{A:Around}{E:Value->Shared->Prop}
end
section
variable{X:Cx}{o e value:Expr}{f:Str}{pos pos' tpos:Pos}{ta tv:TE}
end
section
variable{X:Cx}{pins:List (Addr×Obj)}{σ:St}{H:Hp}{s:Shared}{A:Around}{E:Value->Shared->Prop}{Q:Value->Shared->Prop}{c:Value}{b:Bool}
inductive JD (K:U0a) (H:Hp):V->Value->Prop where
 |non:JD K H .non (.type "NoneType")
 |bl (x:Bool):JD K H (.bl x) (.type "bool")
 |int (i:Int):JD K H (.int i) (.type "int")
 |str (x:Str):JD K H (.str x) (.type "str")
 |flt (x:UInt64):JD K H (.flt x) (.type "float")
 |lst {a:Addr} {xs:List V} (e:H a=some (.lst xs)):JD K H (.ref a) (.type "list")
 |frz {a:Addr} {o:Obj} {xs:List V} (e:H a=some (.frz o (.lst xs))):JD K H (.ref a) (.type "list")
 |tup {a:Addr} {xs:List V} (e:H a=some (.tup xs)):JD K H (.ref a) (.type "tuple")
 |dK {a:Addr} {kvs:List (Key×V)} (e:H a=some (.dK kvs)):JD K H (.ref a) (.type "dict")
 |dT {a:Addr} {kvs:List (List Key×V)} (e:H a=some (.dT kvs)):JD K H (.ref a) (.type "dict")
 |ins {a C dx:Addr} {fs:List (Str×V)} (e:H a=some (.ins C dx fs)) (cl:Cls K C) (ha:U5r K (.ref C) "__class__"=some (some (.builtin "object.__class__")))
   (hn:PySem.W.specialIn K (.builtin "object.__class__") "__get__"=some (some (.builtin "getset_descriptor.__get__"))) (htk:PySem.W.takesIn K (.builtin "object.__class__")=some true)
   (hm:PySem.W.mroIn K C (.type "object")=some true):JD K H (.ref a) (.ref C)
theorem bh{x:V}{u t:Value}(I:Inv X pins σ H s)(rx:RelV x u)(ty:JD X.K H x t)(e:U3d X.K t c=some b)(h:∀tk,Q (.bool b) { s with toks:=tk }) :
  wpAny (model X.prog X.w) A (call (.builtin "isinstance") [u,c]) Q E s:=by
 cases ty with
 |non=>cases (show u=U13 from rx);exact U2y PySem.W.kitx_none I.kIn U4z e (fun z=>nomatch z) h
 |bl y=>cases (show u=U4y y from rx);exact U2y PySem.W.kitx_bool I.kIn U4z e (fun z=>nomatch z) h
 |int i=>obtain⟨t,q⟩:=(show ∃t,u=U27 i t from rx);cases q;exact U2y PySem.W.kitx_int I.kIn U4z e (fun z=>nomatch z) h
 |str y=>obtain⟨t,q⟩:=(show ∃t,u=U65 y t from rx);cases q;exact U2y PySem.W.kitx_str I.kIn U4z e (fun z=>nomatch z) h
 |flt y=>obtain⟨t,q⟩:=(show ∃t,u=Value.float y t from rx);cases q;exact U2y PySem.W.kitx_float I.kIn U4z e (fun z=>nomatch z) h
 |@lst a xs ea =>
  cases (show u=U1y a from rx)
  obtain⟨_,_,n,_,h1⟩:=(show Cp X.prog X.w H s.heap a (.lst xs) from I.hok a _ ea)
  exact U2y PySem.W.kitx_list I.kIn ⟨_,h1,rfl⟩ e (fun z=>nomatch z) h
 |@frz a ob xs ea =>
  cases (show u=U1y a from rx)
  obtain⟨_,_,_,n,_,h1⟩:=(show Cp X.prog X.w H s.heap a (.frz ob (.lst xs)) from I.hok a _ ea)
  exact U2y PySem.W.kitx_list I.kIn ⟨_,h1,rfl⟩ e (fun z=>nomatch z) h
 |@tup a xs ea =>
  cases (show u=U1y a from rx)
  obtain⟨_,_,_,p⟩:=(show Cp X.prog X.w H s.heap a (.tup xs) from I.hok a _ ea)
  obtain⟨o,h1,h2,_⟩:=p
  exact U2y PySem.W.kitx_tuple I.kIn ⟨o,h1,h2⟩ e (fun z=>nomatch z) h
 |@dK a kvs ea =>
  cases (show u=U1y a from rx)
  obtain⟨_,_,vs,_,p⟩:=(show Cp X.prog X.w H s.heap a (.dK kvs) from I.hok a _ ea)
  obtain⟨o,es,ep,h1,h2,_⟩:=p
  exact U2y PySem.W.kitx_dict I.kIn ⟨o,h1,h2.1⟩ e (fun z=>nomatch z) h
 |@dT a kvs ea =>
  cases (show u=U1y a from rx)
  obtain⟨_,_,xs,_,o,es,ep,h1,h2,_⟩:=(show Cp X.prog X.w H s.heap a (.dT kvs) from I.hok a _ ea)
  exact U2y PySem.W.kitx_dict I.kIn ⟨o,h1,h2.1⟩ e (fun z=>nomatch z) h
 |@ins a C dx fs ea cl ha hn htk hm =>
  cases (show u=U1y a from rx)
  obtain⟨mA,O,_⟩:=mO I.hok ea
  obtain⟨od,J,_⟩:=O.look
  exact U2y (PySem.W.kitx_own (cl.get _) cl.hd ha hn htk hm) I.kIn J e (fun z=>nomatch z) h
end
end L2
namespace L2
open PySem PySem.Spec PyProof.Rows
structure Ed(k:Nat)(A:Around):Prop where
 hd:A.handled=none
 dp:A.depth+3*k+5<recursionLimit
 un:A.units+16*k+200<cLine
 gd:A.guards=some []
theorem Ed.mono{j k:Nat}{A:Around}(r:Ed k A)(h:j<=k):Ed j A:=⟨r.hd,by have:=r.dp;omega,by have:=r.un;omega,r.gd⟩
theorem Ed.deeper{k:Nat}{A:Around}(r:Ed (k+1) A)(env:Env):Ed k (A.deeper env) :=
 ⟨r.hd,by have:=r.dp;show A.depth+1+3*k+5<_;omega,by have:=r.un;show A.units+3+16*k+200<_;omega,r.gd⟩
theorem Ed.depth{k:Nat}{A:Around}(r:Ed k A):A.depth<recursionLimit:=by have:=r.dp;omega
theorem Ed.units{k:Nat}{A:Around}(r:Ed k A):A.units+64<cLine:=by have:=r.un;omega
def oM:TA:=fun _ H Q=>Q [] H
def j5(ta:TE)(tr:TA):TA:=fun σ H Q=>ta σ H fun x H1=>tr σ H1 fun xs H2=>Q (x::xs) H2
section
variable{X:Cx}{e:Expr}{es:List Expr}{te:TE}{t:TA}{pos:Pos}
theorem Ou:PA X [] oM:=fun _ _ _ _ H Q I h=>U6t ⟨[],H,I,.nil,h⟩
theorem NT(ha:PE X e te)(hr:PA X es t)(hs:starEach (e::es) X.env=(false,eval e X.env)::starEach es X.env:=by rfl):PA X (e::es) (j5 te t):=by
 intro pos pins s σ H Q I h
 rw[hs]
 show wpAny _ _ (spliced ((false,eval e X.env)::backTo pos (starEach es X.env))) _ _ s
 refine U6l (thn (ha pins s σ H _ I h) fun u s1 ⟨x,H1,I1,r1,q1⟩=>?_)
 exact thn (hr pos pins s1 σ H1 _ I1 q1) fun us s2 ⟨xs,H2,I2,r2,q2⟩=>⟨x::xs,H2,I2,.cons r1 r2,q2⟩
def oK(t:TA):TE:=fun σ H Q=>t σ H fun xs H1=>xs.length<=sizeLine/\∀p,H1 p=none->Q (.ref p) (upd H1 p (.tup xs))
def vR(t:TA):TE:=fun σ H Q=>t σ H fun xs H1=>xs.length<=sizeLine/\∀p,H1 p=none->Q (.ref p) (upd H1 p (.lst xs))
theorem qT{x1}(h:PA X es t):PE X (.Tuple es x1 pos) (oK t):=by
 intro pins s σ H Q I hq
 refine wpAny_Tuple_spliced (thn (h pos pins s σ H _ I hq) fun us s1 ⟨xs,H1,I1,r,z,q⟩=>⟨by rw[←r.length];exact z,?_⟩)
 have hf:H1 s1.heap.objs.size=none:=I1.hok.fresh (U0s _)
 refine⟨.ref s1.heap.objs.size,upd H1 s1.heap.objs.size (.tup xs),I1.laid (t':=s1.toks) (fun b u e=>U0b _ e) (U0s _) ?_,rfl,q _ hf⟩
 exact⟨z,us,r,⟨_,U0n _ rfl,rfl,_,rfl⟩⟩
theorem aA(h:PA X es t):PE X (.List es pos) (vR t):=by
 intro pins s σ H Q I hq
 refine wpAny_List_spliced (thn (h pos pins s σ H _ I hq) fun us s1 ⟨xs,H1,I1,r,z,q⟩=>⟨by rw[←r.length];exact z,?_⟩)
 have hf:H1 s1.heap.objs.size=none:=I1.hok.fresh (U0s _)
 refine⟨.ref s1.heap.objs.size,upd H1 s1.heap.objs.size (.lst xs),I1.laid (t':=s1.toks) (fun b u e=>U0b _ e) (U0s _) ?_,rfl,q _ hf⟩
 exact⟨z,us,0,r,U0n _ rfl⟩
end
abbrev Sp:=List V->Hp->VK->XK->Prop
abbrev CXT:=List Env->Hp->Shared->XK->Value->Shared->Prop
structure Z2(P:Program)(w:World)(K:U0a)(mg:Str->Option Value)(base:Heap)(A:Around)(outer:List Env)(s:Shared)(H:Hp):Prop where
 frames:A.frames=some outer
 mod:Mod K mg base
 bs:∀b o,base.get? b=some o->s.heap.get? b=some o/\H b=none
 bsz:base.objs.size<=s.heap.objs.size
 Li:s.heap.FunFrames base outer
 frf:∀b∈frs outer,H b=none
 hok:HOk P w H s.heap
 bare:AllBare s.gens
 sy:H sysModules=none
def CE(outer:List Env)(P:Program)(w:World)(H:Hp)(s:Shared)(Q:VK)(u:Value)(s':Shared):Prop :=
 ∃v H',s'.os=s.os/\AllBare s'.gens/\Un (frs outer) [] H H' s.heap s'.heap/\HOk P w H' s'.heap/\RelV v u/\Q v H'
def CR(CX:CXT)(outer:List Env)(P:Program)(w:World)(H:Hp)(s:Shared)(Q:VK)(E:XK)(r:Result)(s':Shared):Prop :=
 match r with
 |.ok (.ret u)=>CE outer P w H s Q u s'
 |.ok _=>False
 |.error e=>CX outer H s E e s'
structure DG(P:Program)(w:World)(K:U0a)(mg:Str->Option Value)(base:Heap)(CX:CXT)(k:Nat)(f:Addr)(fd:FuncData)(ps:List Str)(sp:Sp):Prop where
 len:∀vs H Q E,sp vs H Q E->vs.length=ps.length
 run:∀(A:Around)(outer:List Env)(s:Shared)(H:Hp)(args:Args)(us:List Value)(vs:List V)(Q:VK)(E:XK),Ed k A->Z2 P w K mg base A outer s H->BindsTo s fd args (ps.zip us)->Vals vs us->sp vs H Q E ->
  codeAny (model P w) A (.call (.ref f) args) (CR CX outer P w H s Q E) s
theorem DG.mono{P:Program}{w:World}{K:U0a}{mg:Str->Option Value}{base:Heap}{CX:CXT}{j k:Nat}{f:Addr}{fd:FuncData}{ps:List Str}{sp:Sp}(F:DG P w K mg base CX j f fd ps sp)(h:j<=k) :
  DG P w K mg base CX k f fd ps sp:=⟨F.len,fun A outer s H args us vs Q E hr=>F.run A outer s H args us vs Q E (hr.mono h)⟩
theorem DG.imp{P:Program}{w:World}{K:U0a}{mg:Str->Option Value}{base:Heap}{CX:CXT}{k:Nat}{f:Addr}{fd:FuncData}{ps:List Str}{sp sp':Sp}(F:DG P w K mg base CX k f fd ps sp)
  (h:∀vs H Q E,sp' vs H Q E->sp vs H Q E):DG P w K mg base CX k f fd ps sp' :=
 ⟨fun vs H Q E q=>F.len vs H Q E (h _ _ _ _ q),fun A outer s H args us vs Q E hr he hb hv hs=>F.run A outer s H args us vs Q E hr he hb hv (h _ _ _ _ hs)⟩
section
variable{X:Cx}{pins:List (Addr×Obj)}{σ:St}{H:Hp}{s s':Shared}
theorem Inv.env0(I:Inv X pins σ H s):Z2 X.prog X.w X.K X.mg X.base X.A X.stack s H :=
 ⟨I.ok.frames,I.ok.mod,I.bs,U07 I.ok.bsz I.sz,I.stack,I.YL,I.hok,I.bare,I.Qz⟩
theorem Inv.after{Q:VK}{u:Value}(I:Inv X pins σ H s)(h:CE X.stack X.prog X.w H s Q u s'):EP X pins σ Q u s':=by
 obtain⟨v,H',os,bare,un,hok,r,q⟩:=h
 obtain⟨hh,g,d,t,os'⟩:=s'
 obtain rfl:os'=s.os:=os
 exact⟨v,H',I.call (h':=hh) (g':=g) (d':=d) (t':=t) (ch:=[]) un hok bare (fun b z=>absurd z (by simp)),r,q⟩
end
def j6(sp:Sp)(dvs:List V)(E:XK)(t:TA):TE:=fun σ H Q=>t σ H fun vs H1=>sp (vs++dvs) H1 Q E
def Binds(K:U0a)(fd:FuncData)(ps:List Str)(ds:List Value):Prop :=
 ∀(s:Shared)(us:List Value),K.In s.heap->(us++ds).length=ps.length->BindsTo s fd ⟨us,[]⟩ (ps.zip (us++ds))
theorem Binds.all{K:U0a}{fd:FuncData}{ps:List Str}(h:∀us:List Value,us.length=ps.length->bindArgs fd ⟨us,[]⟩=pure (ps.zip us)):Binds K fd ps []:=fun s us _ hl=>by
 rw[U3f] at hl ⊢
 exact .of_eq (h us hl)
def Passes(CX:CXT)(X:Cx)(E:XK):Prop:=∀(pins:List (Addr×Obj))(σ:St)(H:Hp)(s:Shared)(e:Value)(s':Shared),Inv X pins σ H s->CX X.stack H s E e s'->X.xe e s'
section
variable{X:Cx}{CX:CXT}{k:Nat}{f C:Addr}{fd:FuncData}{ps:List Str}{sp:Sp}{dvs:List V}{ds:List Value}{E:XK}{x m:Str}{p pos apos:Pos}{e o:Expr}{es:List Expr}{ta:TE}{t:TA}
theorem pZ{pins:List (Addr×Obj)}{σ:St}{H:Hp}{s:Shared}{Q:VK}{us:List Value}{vs:List V}(F:DG X.prog X.w X.K X.mg X.base CX k f fd ps sp)(hr:Ed k X.A)(hb:Binds X.K fd ps ds)(hd:Vals dvs ds)(hx:Passes CX X E)
  (I:Inv X pins σ H s) (r:Vals vs us) (h:sp (vs++dvs) H Q E):wpAny (model X.prog X.w) X.A (call (.ref f) us) (EP X pins σ Q) X.xe s:=by
 have r2:Vals (vs++dvs) (us++ds):=r.append hd
 have hl:(us++ds).length=ps.length:=by rw[←r2.length];exact F.len _ _ _ _ h
 refine wpAny_call (codeAny_mono (F.run X.A X.stack s H ⟨us,[]⟩ (us++ds) (vs++dvs) Q E hr I.env0 (hb s us I.kIn hl) r2 h) fun r s' hq=>?_)
 cases r with
 |error e=>exact hx pins σ H s e s' I hq
 |ok fl =>
  cases fl with
  |ret u=>exact I.after hq
  |next=>exact U4f hq
  |brk=>exact U4f hq
  |cont=>exact U4f hq
theorem lC(F:DG X.prog X.w X.K X.mg X.base CX k f fd ps sp)(hr:Ed k X.A)(hg:Gl X x)(hm:X.mg x=some (.ref f))(hk:U08 X.K (.ref f)=true)(hb:Binds X.K fd ps ds)(hd:Vals dvs ds)(hx:Passes CX X E)
  (ha:PA X (e::es) t) (hdb:(x==("__debug__":Str))=false:=by decide) (he:starEach (e::es) X.env=(false,eval e X.env)::starEach es X.env:=by rfl) (hpl:(backTo pos (starEach es X.env)).any (·.1)=false:=by rfl) :
  PE X (.Call (.Name x p) (e::es) [] pos) (j6 sp dvs E t):=by
 intro pins s σ H Q I h
 refine U34 (Ye I hg hm ?_ hdb)
 refine PySem.W.callWith_K (h₀:=X.base) I.ok.mod.kin hk (thn (ha pos pins s σ H _ I h) fun us s1 ⟨vs,H1,I1,r,q⟩=>⟨I1.kIn,?_⟩) he hpl
 exact pZ F hr hb hd hx I1 r q
structure Mk(K:U0a)(C f:Addr):Prop where
 makes:PySem.W.makesIn K C=true
 init:U5r K (.ref C) "__init__"=some (some (.ref f))
 fn:PySem.W.isFn K (.ref f)=true
 kp:U08 K (.ref C)=true
end
section
variable{X:Cx}{CX:CXT}{k:Nat}{f C:Addr}{fd:FuncData}{ps ks:List Str}{sp:Sp}{E:XK}{x m:Str}{p pos apos kpos:Pos}{e o:Expr}{es:List Expr}{kws:List Keyword}{te ta:TE}{t tk:TA}{nm:Option Str}
structure wj(K:U0a)(fd:FuncData)(ps ks:List Str)(g:List Value->List Value->List Value)(gV:List V->List V->List V):Prop where
 to:∀(s:Shared)(us ws:List Value),K.In s.heap->(g us ws).length=ps.length->BindsTo s fd ⟨us,ks.zip ws⟩ (ps.zip (g us ws))
 rel:∀{vs:List V} {us:List Value} {zs:List V} {ws:List Value},Vals vs us->Vals zs ws->Vals (gV vs zs) (g us ws)
variable{g:List Value->List Value->List Value}{gV:List V->List V->List V}
end
structure CV(N P:List Str)(sc:Scope):Prop where
 kind:sc.kind=.function
 co:sc.isCoroutine=false
 gen:sc.isGenerator=false
 nd:N.Nodup
 pre:N.take P.length=P
 par:∀x∈P,sc.names.lookup x=some .local∨sc.names.lookup x=some .cell
 nofree:∀y∈sc.names,y.2≠.free
theorem V5{kindOf:Str->Option NameKind}{x:Str}:∀{binds:List (Str×Value)} {m:Str->Option Value},(∀v,(x,v) ∉ binds)->bindL kindOf binds m x=m x
 |[],_,_=>rfl
 |(n,v)::r,m,h=>by
  unfold bindL
  rw[V5 fun w hw=>h w (U0y _ hw)]
  split
  .have:x≠n:=by rintro rfl;exact h v U0i
   simp[this]
  .rfl
theorem V7{kindOf:Str->Option NameKind}{x:Str}:∀{binds:List (Str×Value)} {m:Str->Option Value},(∀v,(x,v) ∉ binds)->bindC kindOf binds m x=m x
 |[],_,_=>rfl
 |(n,v)::r,m,h=>by
  unfold bindC
  rw[V7 fun w hw=>h w (U0y _ hw)]
  split
  .rfl
  .have:x≠n:=by rintro rfl;exact h v U0i
   simp[this]
theorem V6{kindOf:Str->Option NameKind}{x:Str}{v:Value}:∀{P:List Str} {vs:List Value} {i:Nat} {m:Str->Option Value},P.Nodup->P[i]?=some x->vs[i]?=some v->kindOf x=some .local ->
  bindL kindOf (P.zip vs) m x=some v
 |[],_,_,_,_,h,_,_=>by simp at h
 |_::_,[],_,_,_,_,h,_=>by simp at h
 |p::P,w::vs,0,m,nd,h1,h2,hk=>by
  simp at h1 h2;subst h1;subst h2
  show bindL kindOf ((p,w)::P.zip vs) m p=_
  unfold bindL
  rw[V5 fun v hv=>(U5j.mp nd).1 (U68 hv).1,if_pos hk]
  simp
 |p::P,w::vs,i+1,m,nd,h1,h2,hk=>by
  show bindL kindOf ((p,w)::P.zip vs) m x=_
  unfold bindL
  exact V6 (i:=i) (U5j.mp nd).2 (by simpa using h1) (by simpa using h2) hk
theorem V8{kindOf:Str->Option NameKind}{x:Str}{v:Value}:∀{P:List Str} {vs:List Value} {i:Nat} {m:Str->Option Value},P.Nodup->P[i]?=some x->vs[i]?=some v->kindOf x≠some .local ->
  bindC kindOf (P.zip vs) m x=some v
 |[],_,_,_,_,h,_,_=>by simp at h
 |_::_,[],_,_,_,_,h,_=>by simp at h
 |p::P,w::vs,0,m,nd,h1,h2,hk=>by
  simp at h1 h2;subst h1;subst h2
  show bindC kindOf ((p,w)::P.zip vs) m p=_
  unfold bindC
  rw[V7 fun v hv=>(U5j.mp nd).1 (U68 hv).1,if_neg hk]
  simp
 |p::P,w::vs,i+1,m,nd,h1,h2,hk=>by
  show bindC kindOf ((p,w)::P.zip vs) m x=_
  unfold bindC
  exact V8 (i:=i) (U5j.mp nd).2 (by simpa using h1) (by simpa using h2) hk
def start(N:List Str)(vs:List V):St:=vs.map some++U0m (N.length-vs.length) none
def Oi(CX:CXT)(P:Program)(w:World)(K:U0a)(mg:Str->Option Value)(base:Heap)(N:List Str)(qual:Str)(scope:Scope)(f:Addr)(cd:Value)(A:Around)(outer:List Env)(s:Shared)(H:Hp)(E:XK):Cx where
 prog:=P
 w:=w
 K:=K
 mg:=mg
 base:=base
 A:=A.deeper (envOfC qual scope s.heap.objs.size f cd)
 N:=N
 s₀:=s
 H₀:=H
 env:=envOfC qual scope s.heap.objs.size f cd
 outer:=outer
 stack:=envOfC qual scope s.heap.objs.size f cd::outer
 ex:=[]
 calm:=true
 fn:=fun _=>true
 pn:=[]
 xe:=fun e s'=>wpAny (model P w) (A.deeper (envOfC qual scope s.heap.objs.size f cd)) (leaving (envOfC qual scope s.heap.objs.size f cd) e) (fun _ s''=>CX outer H s E e s'') (fun e' s''=>CX outer H s E e' s'') s'
theorem Wx{sc:Scope}{n:Nat}{x:Str}(h:sc.names.lookup x=some .cell):∃c,(cellsFrom n sc.names []).lookup x=some c:=by
 have q:=U51 sc.names n [] (.inl h)
 exact U5o.mp q
theorem cD{CX:CXT}{P:Program}{w:World}{K:U0a}{mg:Str->Option Value}{base:Heap}{N ps:List Str}{qual:Str}{scope:Scope}{f:Addr}{cd:Value}{A:Around}{outer:List Env}{s s1:Shared}{H:Hp}{E:XK}{us:List Value}{vs:List V}
  (S:CV N ps scope) (hd:A.handled=none) (e0:Z2 P w K mg base A outer s H) (hl:vs.length=ps.length) (r:Vals vs us)
  (x:InCallC s s.heap.objs.size (bindL (envOfC qual scope s.heap.objs.size f cd).kindOf (ps.zip us) fun _=>none) (cellsFrom (s.heap.objs.size+1) scope.names []) (bindC (envOfC qual scope s.heap.objs.size f cd).kindOf (ps.zip us) fun _=>none) s1) :
  Inv (Oi CX P w K mg base N qual scope f cd A outer s H E) [] (start N vs) H s1:=by
 have hpl:ps.length<=N.length:=by have:=congrArg U5d S.pre;rw[U24] at this;omega
 obtain⟨h1,tk,rfl,hk⟩:=x.done
 have noA:∀b:Addr,b ∉ (Oi CX P w K mg base N qual scope f cd A outer s H E).ex:=fun b z=>absurd (show b∈([]:List Addr) from z) (by simp)
 refine⟨⟨e0.mod,S.kind,rfl,rfl,U0s _,fun y z c h1 h2=>?_,fun y hy=>?_,fun y c _ h=>?_,fun _=>hd,Around.frames_deeper e0.frames,.inr ⟨rfl,rfl⟩,fun b z=>absurd z (noA b),e0.bs,e0.bsz,fun b _ _=>noA b,fun b z=>absurd z (noA b),e0.Li,e0.frf,e0.sy⟩,
  rfl,e0.bare,Un.kept hk,⟨_,x.toInCall.ns,fun i y v h1 h2 h3=>?_⟩,fun y c h=>⟨_,x.cell y c h⟩,e0.hok.fresh (U0s _),fun y c h=>?_,fun p hp=>absurd (show p∈([]:List (Addr×Obj)) from hp) (by simp),e0.hok.kept hk,?_⟩
 .exact name_of_addr x.apart (U2u h1) (U2u h2)
 .have hy:scope.names.lookup y=some .cell∨scope.names.lookup y=some .free:=hy
  rcases hy with hy|hy
  .exact Wx hy
  .exact absurd rfl (S.nofree _ (U2u hy))
 .exact U2c (x.above y c (U2u h))
 .have hi:i<vs.length:=by
   unfold start at h2
   by_cases hi:i<vs.length
   .exact hi
   .rw[U2a (by simpa using hi)] at h2
    rw[U30] at h2
    split at h2<;>cases h2
  have ha:vs[i]?=some v:=by
   unfold start at h2
   rw[U1d (by simpa using hi),U04] at h2
   cases e:vs[i]? with
   |none=>rw[e] at h2;cases h2
   |some a=>rw[e] at h2;cases h2;rfl
  obtain⟨u,hu,rv⟩:=r.get ha
  have hp:ps[i]?=some y:=by
   rw[←S.pre,List.getElem?_take_of_lt (by omega)];exact h1
  have ndP:ps.Nodup:=by rw[←S.pre];exact S.nd.sublist (List.take_sublist _ _)
  refine⟨u,rv,?_⟩
  rcases S.par y (U1j hp) with k|k
  .exact .inl ⟨k,V6 ndP hp hu k⟩
  .obtain⟨c,e⟩:=Wx (n:=s.heap.objs.size+1) k
   refine .inr ⟨.inl k,c,e,?_⟩
   have q:=x.cell y c e
   rw[V8 ndP hp hu (by show scope.names.lookup y≠_;rw[k];decide)] at q
   exact q
 .exact e0.hok.fresh (U2c (x.above y c (U2u h)))
 .unfold start
  show _=N.length
  rw[U0q,U0l,U1e]
  omega
theorem uw{CX:CXT}{P:Program}{w:World}{K:U0a}{mg:Str->Option Value}{base:Heap}{k:Nat}{f:Addr}{name qual:Str}{params:Arguments}{body:List Stmt}{scope:Scope}{dV kV doc pm cdv ct oc:Value}{an od:Option Addr}
  {osl:Array (Option Value)} {N ps:List Str} {sp:Sp} (lk:K.lookup f=some ⟨oc,od,.func (U1b name qual params body scope dV kV doc pm an cdv ct),osl⟩) (hcd:U09 K cdv qual=true) (S:CV N ps scope)
  (len:∀vs H Q E,sp vs H Q E->vs.length=ps.length)
  (hbody:∀(A:Around)(outer:List Env)(s:Shared)(H:Hp)(vs:List V)(Q:VK)(E:XK),Ed k (A.deeper (envOfC qual scope s.heap.objs.size f cdv))->sp vs H Q E ->
   ∃t,PSs (Oi CX P w K mg base N qual scope f cdv A outer s H E) body t/\t { nx:=fun _ H'=>Q .non H',rt:=Q } (start N vs) H) :
  DG P w K mg base CX (k+1) f (U1b name qual params body scope dV kV doc pm an cdv ct) ps sp:=by
 refine⟨len,fun A outer s H args us vs Q E hr e0 hb r hsp=>?_⟩
 have hl:=len _ _ _ _ hsp
 have KX:K.In s.heap:=e0.mod.kin.keeps fun b o e=>(e0.bs b o e).1
 have lim:s.heap.NoLimit:=e0.mod.nolimit.keeps fun b o e=>(e0.bs b o e).1
 have hkind:∀y∈ps.zip us,scope.names.lookup y.1=some .local∨(scope.names.lookup y.1=some .cell/\((cellsFrom (s.heap.objs.size+1) scope.names []).lookup y.1).isSome=true):=fun⟨n,v⟩ hy=>by
  rcases S.par n (U68 hy).1 with q|q
  .exact .inl q
  .exact .inr ⟨q,U51 _ _ _ (.inl q)⟩
 refine codeAny_call_function hr.depth (KX _ _ lk) rfl S.co S.gen rfl (PySem.W.codeRec_of KX hcd) (hb _ _ _ _ ?_)
 refine wpAny_newFunctionEnv_cells S.kind hkind fun env he s1 x=>?_
 subst he
 refine⟨lim.keeps x.toInCall.keep,codeAny_func ?_⟩
 obtain⟨t,ht,hq⟩:=hbody A outer s H vs Q E (hr.deeper _) hsp
 have I:Inv (Oi CX P w K mg base N qual scope f cdv A outer s H E) [] (start N vs) H s1:=cD S hr.hd e0 hl r x
 refine U4e (ht [] s1 (start N vs) H _ I hq) (fun fl s' hs=>?_) fun e s' hs=>hs
 have fin:∀{σ':St} {H':Hp} {v:V} {u:Value},Inv (Oi CX P w K mg base N qual scope f cdv A outer s H E) [] σ' H' s'->RelV v u->Q v H'->CE outer P w H s Q u s' :=
  fun {σ' H' v u} J rv q=>⟨v,H',J.os,J.bare,J.base,J.hok,rv,q⟩
 cases fl with
 |ret u =>
  obtain⟨v,σ',H',J,rv,q⟩:=hs
  exact fin J rv q
 |next =>
  obtain⟨σ',H',J,q⟩:=hs
  exact fin (v:=V.non) (u:=U13) J rfl q
 |brk =>
  obtain⟨_,_,_,q⟩:=hs
  exact U4f q
 |cont =>
  obtain⟨_,_,_,q⟩:=hs
  exact U4f q
end L2
namespace L2
open PySem PySem.Spec PyProof.Rows
section
variable{X:Cx}{x:Str}{p pos:Pos}{e:Expr}{es:List Expr}{t:TA}{id T:String}{r:List V->Hp->VK->Prop}
def tCB(r:List V->Hp->VK->Prop)(t:TA):TE:=fun σ H Q=>t σ H fun vs H1=>r vs H1 Q
theorem WT(hc:DN X (.builtin id) r)(hg:Gl X x)(hm:X.mg x=none)(hv:bootBuiltins x=some (.builtin id))(ha:PA X (e::es) t)(hn:x≠"__name__":=by decide)(hdb:(x==("__debug__":Str))=false:=by decide)
  (he:starEach (e::es) X.env=(false,eval e X.env)::starEach es X.env:=by rfl) (hpl:(backTo pos (starEach es X.env)).any (·.1)=false:=by rfl):PE X (.Call (.Name x p) (e::es) [] pos) (tCB r t):=by
 intro pins s σ H Q I h
 refine U34 (Je I hg hm hv ?_ hn hdb)
 exact PyProof.Rows.callWith_builtin1 (thn (ha pos pins s σ H _ I h) fun us s1 ⟨vs,H1,I1,r1,q1⟩=>hc pins s1 σ H1 vs us Q I1 r1 q1) he hpl
theorem KQ(hc:DN X (.type T) r)(hg:Gl X x)(hm:X.mg x=none)(hv:bootBuiltins x=some (.type T))(ha:PA X (e::es) t)(hn:x≠"__name__":=by decide)(hdb:(x==("__debug__":Str))=false:=by decide)
  (he:starEach (e::es) X.env=(false,eval e X.env)::starEach es X.env:=by rfl) (hpl:(backTo pos (starEach es X.env)).any (·.1)=false:=by rfl):PE X (.Call (.Name x p) (e::es) [] pos) (tCB r t):=by
 intro pins s σ H Q I h
 refine U34 (Je I hg hm hv ?_ hn hdb)
 exact U21 (thn (ha pos pins s σ H _ I h) fun us s1 ⟨vs,H1,I1,r1,q1⟩=>hc pins s1 σ H1 vs us Q I1 r1 q1) he hpl
end
end L2
namespace HT
open PySem PyProof.Rows
section
open PySem.SeqAt
open PySem.AutoSeq1 (wpAny_loadPart')
open PySem.MeetsSeq PySem.MeetsSeq2 PySem.MeetsSeq3
end
section
variable{prog:Program}{w:World}{A:Around}{E:Value->Shared->Prop}{s:Shared}
theorem nG{t b:Addr}{vs ws:List Value}{Q:Value->Shared->Prop}(ht:IsTup s.heap t vs.toArray)(hb:IsTup s.heap b ws.toArray)(hv:vs≠[])
  (h1:ws=[]->Q (.ref t) s) (h2:ws≠[]->Q (.ref s.heap.objs.size) { s with heap:=s.heap.push { cls:=.type "tuple",data:=.seq (vs++ws).toArray } })
  (hsz:vs.length+ws.length<=sizeLine):wpAny (model prog w) A (binaryOp .Add (.ref t) (.ref b)) Q E s:=by
 obtain⟨⟨cls,dd,data,sl⟩,ho,hc,n,hd⟩:=id ht
 obtain⟨⟨cls2,dd2,data2,sl2⟩,ho2,hc2,n2,hd2⟩:=id hb
 simp only at hc hd hc2 hd2
 subst hc hd hc2 hd2
 have e:vs.toArray++ws.toArray=(vs++ws).toArray:=by simp
 by_cases hw:ws=[]
 .exact concat_meets ⟨_,ho,rfl⟩ ⟨_,ho2,rfl⟩ noFill_tuple_add seq_tuple_add U52 U5v (U5p _ _)
   (tuple_addW1 t b vs.toArray ws.toArray n n2 dd dd2 sl sl2 (by simpa using hv) (by simp[hw])) ⟨ho,ho2,h1 hw⟩
 .refine concat_meets ⟨_,ho,rfl⟩ ⟨_,ho2,rfl⟩ noFill_tuple_add seq_tuple_add U52 U5v (U5p _ _)
   (tuple_addW2 t b vs.toArray ws.toArray n n2 dd dd2 sl sl2 (by simpa using hv) (by simpa using hw) (by rw[U0v,U0v];exact hsz)) ⟨ho,ho2,?_⟩
  rw[e]
  exact h2 hw
def sIx(n d:Nat):Option Int->Nat
 |none=>d
 |some v=>if v<0 then (v+(n:Int)).toNat else min v.toNat n
theorem pY(n d:Nat)(hd:d<=n)(o:Option Int):sIx n d o<=n:=by
 cases o with
 |none=>exact hd
 |some v =>
  show(if v<0 then (v+(n:Int)).toNat else min v.toNat n)<=n
  by_cases hv:v<0
  .rw[if_pos hv];omega
  .rw[if_neg hv];exact Nat.min_le_right _ _
theorem Yo(v:Int)(n d:Nat):(if v<0 then max (v+(n:Int)) 0 else min v (n:Int))=((sIx n d (some v):Nat):Int):=by
 show(if v<0 then max (v+(n:Int)) 0 else min v (n:Int))=(((if v<0 then (v+(n:Int)).toNat else min v.toNat n):Nat):Int)
 by_cases hv:v<0
 .simp only[if_pos hv];omega
 .simp only[if_neg hv];omega
theorem Zt(lo hi:Option Int)(n:Nat):U5k lo hi 1 (n:Int)=(((sIx n 0 lo:Nat):Int),((sIx n n hi:Nat):Int)):=by
 have h1:¬((1:Int)<0):=by omega
 unfold U5k
 simp only[h1,if_false]
 refine Prod.ext ?_ ?_
 .cases lo with
  |none=>rfl
  |some v=>exact Yo v n 0
 .cases hi with
  |none=>rfl
  |some v=>exact Yo v n n
theorem ZR(i j:Nat):U4g (i:Int) (j:Int) 1=j-i:=by
 unfold U4g
 have h1:(1:Int)>0:=by omega
 simp only[h1,if_true,Int.ediv_one]
 split<;>omega
theorem SN{v:Value}{o:Option Int}{Q:Option Int->Shared->Prop}(p:IsPart v o)(h:Q o s):wpAny (model prog w) A (Builtin.Slice.slicePartIndex v) Q E s:=by
 cases p with
 |none=>exact slicePart_none h
 |int i t=>exact slicePart_int h
theorem MF{sl:Addr}{vl vu:Value}{lo hi:Option Int}{n:Nat}{Q:Int×Int×Nat->Shared->Prop}(hs:s.heap.IsSliceOf sl vl vu .none)(pl:IsPart vl lo)(pu:IsPart vu hi)
  (h:Q (((sIx n 0 lo:Nat):Int),1,sIx n n hi-sIx n 0 lo) s):wpAny (model prog w) A (Builtin.Slice.sliceApplied (.ref sl) (pure (n:Int))) Q E s:=by
 obtain⟨os,hos,hcs,hds⟩:=id hs
 unfold Builtin.Slice.sliceApplied Builtin.Slice.sliceFields
 refine U0 (U0 (U2b hos hds (x:=vl) rfl (U0 (U2b hos hds (x:=vu) rfl (U0 (U2b hos hds (x:=.none) rfl (U0d ?_)))))))
 refine U0 (slicePart_none ?_)
 show wpAny _ _ (if ((1:Int)==0)=true then _ else _) _ _ s
 rw[if_neg (by decide)]
 refine U0 (SN pl (U0 (SN pu (U0 (U0d ?_)))))
 show wpAny _ _ (match U5k lo hi 1 (n:Int) with|(lo,hi)=>pure (lo,(1:Int),U4g lo hi 1)) _ _ s
 rw[Zt lo hi n]
 show wpAny _ _ (pure (((sIx n 0 lo:Nat):Int),(1:Int),U4g ((sIx n 0 lo:Nat):Int) ((sIx n n hi:Nat):Int) 1)) _ _ s
 rw[ZR]
 exact U0d h
theorem fU(xs:Array Value)(i k:Nat):((U0j k).filterMap fun(m:Nat)=>xs[((i:Int)+(m:Int)*1).toNat]?).toArray=((xs.toList.drop i).take k).toArray:=by
 have e:(fun(m:Nat)=>xs[((i:Int)+(m:Int)*1).toNat]?)=fun m=>xs[i+m]?:=by
  funext m
  have:((i:Int)+(m:Int)*1).toNat=i+m:=by omega
  rw[this]
 rw[e]
 have:=pick_run xs i k
 rw[List.filterMap_map] at this
 have e2:((fun x=>xs[x]?)∘fun x=>i+x)=fun m=>xs[i+m]?:=rfl
 rw[e2] at this
 rw[this]
theorem Qg{t sl:Addr}{items:Array Value}{vl vu:Value}{lo hi:Option Int}{Q:Value->Shared->Prop}(ht:IsTup s.heap t items)(hs:s.heap.IsSliceOf sl vl vu .none)(pl:IsPart vl lo)(pu:IsPart vu hi)
  (hw:¬(sIx items.size 0 lo=0/\sIx items.size items.size hi=items.size))
  (h:Q (.ref s.heap.objs.size) { s with heap:=s.heap.push { cls:=.type "tuple",data:=.seq ((items.toList.drop (sIx items.size 0 lo)).take (sIx items.size items.size hi-sIx items.size 0 lo)).toArray } })
  (hsz:items.size<=sizeLine):wpAny (model prog w) A (getItem (.ref t) (.ref sl)) Q E s:=by
 have htake:sizeOk (.seq ((items.toList.drop (sIx items.size 0 lo)).take (sIx items.size items.size hi-sIx items.size 0 lo)).toArray):=by
  show((items.toList.drop (sIx items.size 0 lo)).take (sIx items.size items.size hi-sIx items.size 0 lo)).toArray.size<=sizeLine
  rw[U0v,U24,U6y,U1z]
  omega
 have hj:sIx items.size items.size hi<=items.size:=pY _ _ (U0s _) hi
 obtain⟨os,hos,hcs,hds⟩:=id hs
 have hTs:s.TypeIs (.ref sl) "slice":=⟨os,hos,hcs⟩
 unfold getItem
 try with_reducible refine U15 ?_
 first|refine U0 (U0d ?_)|skip
 refine U0 (wpAny_sequenceKey ht.typeIs (by decide) ?_)
 refine U0 (wpAny_callSpecial?_slot (name:=U3 "__getitem__") ht.typeIs U2p
  (U2d U2p ht.typeIs entry_tuple_getitem ?_ (args_tuple_getitem _ _)))
 show wpAny _ _ (Builtin.Tuple.tupleItemsOf (.ref t) >>= _) _ _ s
 refine U0 (tupleItemsOf_ ht ?_)
 refine U0 (U4n hTs ?_)
 rw[if_pos (by decide)]
 refine U0 (MF hs pl pu ?_)
 have hno:¬((((sIx items.size 0 lo:Nat):Int)==0&&(1:Int)==1&&(sIx items.size items.size hi-sIx items.size 0 lo)==items.size)=true):=by
  intro q
  rw[U00,U00] at q
  have q1:((sIx items.size 0 lo:Nat):Int)=0:=eq_of_beq q.1.1
  have q2:sIx items.size items.size hi-sIx items.size 0 lo=items.size:=eq_of_beq q.2
  exact hw ⟨by omega,by omega⟩
 show wpAny _ _ (if (((sIx items.size 0 lo:Nat):Int)==0&&(1:Int)==1&&(sIx items.size items.size hi-sIx items.size 0 lo)==items.size)=true then _ else _) _ _ s
 rw[if_neg hno,fU]
 first
  |exact U0 (m:=U4o _) (U17 (U0d ⟨_,rfl,U0d h⟩) htake)
  |exact U0 (m:=U4o _) (U17 (U0 (U0d (U0d ⟨_,rfl,U0d h⟩))) htake)
  |exact U0 (U0 (m:=U4o _) (U17 (U0d (U0d ⟨_,rfl,U0d h⟩)) htake))
  |exact U0 (U0 (m:=U4o _) (U17 (U0d ⟨_,rfl,U0d h⟩) htake))
end
end HT
namespace L2
open PySem PySem.Spec PyProof.Rows
abbrev TO:=St->Hp->(Option Int->Hp->Prop)->Prop
def PO(X:Cx)(e:Option Expr)(t:TO):Prop :=
 ∀(pins:List (Addr×Obj))(s:Shared)(σ:St)(H:Hp)(Q:Option Int->Hp->Prop),Inv X pins σ H s->t σ H Q ->
  wpAny (model X.prog X.w) X.A (evalPart e X.env) (fun u s'=>∃o H',Inv X pins σ H' s'/\IsPart u o/\Q o H') X.xe s
def je:TO:=fun _ H Q=>Q none H
def u6(t:TE):TO:=fun σ H Q=>t σ H fun x H1=>∃i,x=.int i/\Q (some i) H1
theorem intsAre_of{ns:List Int}:∀{us:List Value},Vals (ns.map V.int) us->IntsAre us ns:=by
 induction ns with
 |nil=>intro us r;rw[U1w] at r;cases r;exact .nil
 |cons n ns ih =>
  intro us r
  rw[U0t] at r
  cases r with
  |cons r1 r2 =>
   obtain⟨t,e⟩:=r1
   subst e
   exact .cons n t (ih r2)
section
variable{X:Cx}{e:Expr}{te:TE}{lo hi:Option Expr}{tl th:TO}{pos p2:Pos}
theorem kY:PO X none je:=by
 intro pins s σ H Q I h
 rw[evalPart_none]
 exact U0d ⟨none,H,I,.none,h⟩
theorem kW(h:PE X e te):PO X (some e) (u6 te):=by
 intro pins s σ H Q I hw
 rw[evalPart_some]
 refine thn (h pins s σ H _ I hw) fun u s1 ⟨x,H1,I1,r1,q1⟩=>?_
 obtain⟨i,rfl,q⟩:=q1
 obtain⟨t,rfl⟩:=r1
 exact⟨some i,H1,I1,.int i t,q⟩
def SlR(X:Cx)(r:V->Option Int->Option Int->Hp->VK->Prop):Prop :=
 ∀(pins:List (Addr×Obj))(s:Shared)(σ:St)(H:Hp)(x:V)(v vl vu:Value)(lo hi:Option Int)(sl:Addr)(Q:VK),Inv X pins σ H s->RelV x v->s.heap.IsSliceOf sl vl vu .none->IsPart vl lo->IsPart vu hi->r x lo hi H Q ->
  ∃T id,typeLookup (.type T) "__getitem__"=pure (some (.builtin id))/\s.TypeIs v T/\wpAny (model X.prog X.w) X.A (getItem v (.ref sl)) (EP X pins σ Q) X.xe s
theorem SlR.or{r r':V->Option Int->Option Int->Hp->VK->Prop}(h:SlR X r)(h':SlR X r'):SlR X (fun x lo hi H Q=>r x lo hi H Q∨r' x lo hi H Q):=by
 intro pins s σ H x v vl vu lo hi sl Q I rx hs pl pu q
 rcases q with q|q
 .exact h pins s σ H x v vl vu lo hi sl Q I rx hs pl pu q
 .exact h' pins s σ H x v vl vu lo hi sl Q I rx hs pl pu q
def tSl(r:V->Option Int->Option Int->Hp->VK->Prop)(te:TE)(tl th:TO):TE:=fun σ H Q=>te σ H fun x H1=>tl σ H1 fun l H2=>th σ H2 fun u H3=>r x l u H3 Q
theorem fW{r:V->Option Int->Option Int->Hp->VK->Prop}(hr:SlR X r)(he:PE X e te)(hl:PO X lo tl)(hu:PO X hi th):PE X (.Subscript e (.Slice lo hi none p2) pos) (tSl r te tl th):=by
 intro pins s σ H Q I h
 refine Subscript_ (thn (he pins s σ H _ I h) fun v s1 ⟨x,H1,I1,r1,q1⟩=>?_)
 refine wpAny_Slice (thn (hl pins s1 σ H1 _ I1 q1) fun vl s2 ⟨l,H2,I2,pl,q2⟩=>thn (hu pins s2 σ H2 _ I2 q2) fun vu s3 ⟨u,H3,I3,pu,q3⟩=>?_)
 rw[evalPart_none]
 refine U0d ?_
 have I4:Inv X pins σ H3 { s3 with heap:=s3.heap.push { cls:=.type "slice",data:=.fields #[vl,vu,.none] } }:=I3.kept (t':=s3.toks) fun b ob q=>U0b _ q
 obtain⟨T,id,hT,ht,hg⟩:=hr pins { s3 with heap:=s3.heap.push { cls:=.type "slice",data:=.fields #[vl,vu,.none] } } σ H3 x v vl vu l u s3.heap.objs.size Q I4 r1 (Heap.IsSliceOf.new ..) pl pu q3
 show wpAny (model X.prog X.w) X.A (subscriptTail e (.Slice lo hi none p2) v (.ref s3.heap.objs.size)) (EP X pins σ Q) X.xe { s3 with heap:=s3.heap.push { cls:=.type "slice",data:=.fields #[vl,vu,.none] } }
 exact tail_any (ops:=[.ref s3.heap.objs.size,v]) ht hT hg (by with_unfolding_all rfl)
def JV(xs:List V)(lo hi:Option Int):List V:=(xs.drop (HT.sIx xs.length 0 lo)).take (HT.sIx xs.length xs.length hi-HT.sIx xs.length 0 lo)
theorem Qw(xs:List V)(lo hi:Option Int):(JV xs lo hi).length<=xs.length:=by
 unfold JV
 rw[U24,U6y]
 omega
def vW(K:U0a):V->Option Int->Option Int->Hp->VK->Prop:=fun x lo hi H Q=>∃a xs,x=.ref a/\SqT K H a xs /\
 ¬(HT.sIx xs.length 0 lo=0/\HT.sIx xs.length xs.length hi=xs.length)/\∀p,H p=none->Q (.ref p) (upd H p (.tup (JV xs lo hi)))
theorem pU:SlR X (vW X.K):=by
 intro pins s σ H x v vl vu lo hi sl Q I rx hs pl pu h
 obtain⟨a,xs,rfl,hx,hw,q⟩:=h
 cases rx
 obtain⟨its,r,ht,hz⟩:=I.tuple hx
 have hlen:its.toArray.size=xs.length:=by rw[U0v];exact r.length.symm
 refine⟨"tuple",_,U2p.lookup,ht.typeIs,?_⟩
 refine HT.Qg ht hs pl pu (by rw[hlen];exact hw) ?_ (by rw[hlen];exact hz)
 rw[hlen]
 refine⟨.ref s.heap.objs.size,_,I.laid (t':=s.toks) (o:=.tup (JV xs lo hi)) (fun b ob q=>U0b _ q) (U0s _) ?_,rfl,q _ (I.hok.fresh (U0s _))⟩
 exact⟨U07 (Qw xs lo hi) hz,_,(r.drop (HT.sIx xs.length 0 lo)).take (HT.sIx xs.length xs.length hi-HT.sIx xs.length 0 lo),IsTup.new _ _⟩
def uN(K:U0a):R2:=fun x y H Q=>∃a b xs ys,x=.ref a/\y=.ref b/\SqT K H a xs/\SqT K H b ys/\xs≠[]/\xs.length+ys.length<=sizeLine /\
 (ys=[]->Q (.ref a) H)/\(ys≠[]->∀p,H p=none->Q (.ref p) (upd H p (.tup (xs++ys))))
theorem Vals.QS{xs:List V}{us:List Value}(r:Vals xs us):us=[]↔xs=[]:=by
 cases r with
 |nil=>simp
 |cons _ _=>simp
theorem lG:OpR X (binaryOp .Add) (uN X.K):=by
 intro pins s σ H x y v u Q I rx ry h
 obtain⟨a,b,xs,ys,rfl,rfl,ha,hb,hx,hz,q1,q2⟩:=h
 cases rx
 cases ry
 obtain⟨its,r1,p1,_⟩:=I.tuple ha
 obtain⟨its2,r2,p2,_⟩:=I.tuple hb
 refine HT.nG p1 p2 (fun z=>hx (r1.QS.mp z)) (fun z=>⟨.ref a,H,I,rfl,q1 (r2.QS.mp z)⟩) (fun z=>?_) (by rw[←r1.length,←r2.length];exact hz)
 refine⟨.ref s.heap.objs.size,_,I.laid (t':=s.toks) (o:=.tup (xs++ys)) (fun b ob q=>U0b _ q) (U0s _) ?_,rfl,q2 (fun w=>z (r2.QS.mpr w)) _ (I.hok.fresh (U0s _))⟩
 exact⟨by rw[U0q];exact hz,_,r1.append r2,IsTup.new _ _⟩
end
end L2
namespace L2
open PySem PySem.Spec PyProof.Rows
def ixN(n:Nat)(i:Int):Option Nat:=if 0<=i then (if i<n then some i.toNat else none) else if -(n:Int)<=i then some (i+n).toNat else none
def atI{α:Type}(xs:List α)(i:Int):Option α:=(ixN xs.length i).bind fun j=>xs[j]?
theorem Yh{n:Nat}{i:Int}{j:Nat}(h:ixN n i=some j):seqIndex? i n=some j/\j<n/\-(n:Int)<=i/\i<n:=by
 unfold ixN at h
 by_cases h0:0<=i
 .rw[if_pos h0] at h
  by_cases h1:i<n
  .rw[if_pos h1] at h
   have e:i.toNat=j:=U05 h
   exact⟨by rw[seqIndex_of h0 h1,e],by omega,by omega,h1⟩
  .rw[if_neg h1] at h;cases h
 .rw[if_neg h0] at h
  by_cases h1:-(n:Int)<=i
  .rw[if_pos h1] at h
   have e:(i+n).toNat=j:=U05 h
   exact⟨by rw[seqIndex_neg (by omega) h1,e],by omega,h1,by omega⟩
  .rw[if_neg h1] at h;cases h
theorem U9{α:Type}{xs:List α}{i:Int}{v:α}(h:atI xs i=some v):∃j,seqIndex? i xs.length=some j/\xs[j]?=some v/\j<xs.length/\-(xs.length:Int)<=i/\i<xs.length:=by
 unfold atI at h
 cases e:ixN xs.length i with
 |none=>rw[e] at h;cases h
 |some j =>
  rw[e] at h
  obtain⟨h1,h2,h3,h4⟩:=Yh e
  exact⟨j,h1,h,h2,h3,h4⟩
theorem Lh{α:Type}{xs:List α}{j:Nat}{v:α}(h:xs[j]?=some v):atI xs (j:Int)=some v:=by
 have hj:j<xs.length:=(U0p.mp h).1
 have e:ixN xs.length (j:Int)=some j:=by
  unfold ixN
  rw[if_pos (by omega),if_pos (by omega)];simp
 unfold atI;rw[e];exact h
theorem Ra{α:Type}(xs:List α)(v:α):atI (xs++[v]) (-1)=some v:=by
 have hl:(xs++[v]).length=xs.length+1:=by simp
 have e:ixN (xs++[v]).length (-1)=some xs.length:=by
  unfold ixN
  rw[hl,if_neg (by decide),if_pos (by omega)]
  congr 1
  omega
 unfold atI
 rw[e]
 show(xs++[v])[xs.length]?=some v
 simp
def Qd(b:Expr):Prop:=∀o i,subscripted b false o i=operate [o,i] (getItem o i)
def IxR(X:Cx)(r:R2):Prop :=
 ∀(value slice:Expr)(pins:List (Addr×Obj))(s:Shared)(σ:St)(H:Hp)(x y:V)(v u:Value)(Q:VK),Inv X pins σ H s->RelV x v->RelV y u->r x y H Q ->
  subscripted slice false v u=operate [v,u] (getItem v u)->wpAny (model X.prog X.w) X.A (subscriptTail value slice v u) (EP X pins σ Q) X.xe s
def MtR(X:Cx)(id:String)(r:V->List V->Hp->VK->Prop):Prop :=
 ∀(pins:List (Addr×Obj))(s:Shared)(σ:St)(H:Hp)(x:V)(xs:List V)(v:Value)(us:List Value)(Q:VK),Inv X pins σ H s->RelV x v->Vals xs us->r x xs H Q ->
  wpAny (model X.prog X.w) X.A (call (.builtin id) (v::us)) (EP X pins σ Q) X.xe s
section
variable{X:Cx}{a b:Expr}{ta tb:TE}{pos:Pos}
theorem IxR.or{r r':R2}(h:IxR X r)(h':IxR X r'):IxR X (fun x y H Q=>r x y H Q∨r' x y H Q):=by
 intro value slice pins s σ H x y v u Q I rx ry q hs
 rcases q with q|q
 .exact h value slice pins s σ H x y v u Q I rx ry q hs
 .exact h' value slice pins s σ H x y v u Q I rx ry q hs
theorem uT{r:R2}(hr:IxR X r)(ha:PE X a ta)(hb:PE X b tb)(hs:Qd b):PE X (.Subscript a b pos) (tOp r ta tb):=by
 intro pins s σ H Q I h
 exact Subscript_ (Yx ha hb I h fun v u s2 x y H2 I2 rx ry q=>hr a b pins s2 σ H2 x y v u Q I2 rx ry q (hs _ _))
def p7(K:U0a):R2:=fun x y H Q=>∃p xs i v,x=.ref p/\y=.int i/\SqL K H p xs/\atI xs i=some v/\Q v H
def oZ(K:U0a):R2:=fun x y H Q=>∃p xs i v,x=.ref p/\y=.int i/\SqT K H p xs/\atI xs i=some v/\Q v H
def ou:R2:=fun x y H Q=>∃z i c,x=.str z/\y=.int i/\z.length<=sizeLine/\atI z.cps.toList i=some c/\Q (.str ⟨#[c]⟩) H
theorem mH:IxR X (p7 X.K):=by
 intro value slice pins s σ H x y v u Q I rx ry h hs
 obtain⟨p,xs,i,z,rfl,rfl,hq,he,q⟩:=h
 cases rx
 obtain⟨t,rfl⟩:=ry
 obtain⟨its,r,pl,hz⟩:=I.list hq
 obtain⟨j,h1,h2,h3,h4,h5⟩:=U9 he
 obtain⟨w,ew,rw'⟩:=r.get h2
 have hl:=r.length
 have hn:=Ox
 have fin:EP X pins σ Q w s:=⟨z,H,I,rw',q⟩
 by_cases h0:0<=i
 .have hj:i.toNat=j:=by
   rw[seqIndex_of h0 h5] at h1
   exact U05 h1
  exact item_listR pl.isList h0 (by omega) (by rw[hj];simpa using ew) fin hs
 .have hj:(i+(its.toArray.size:Int)).toNat=j:=by
   rw[seqIndex_neg (by omega) h4] at h1
   rw[U0v,←hl]
   exact U05 h1
  exact subscriptTail_builtinR (x:=w) pl.isList.typeIs slot_list_getitem.lookup
   (wpAny_getItem_list_neg (Q:=fun r s'=>r=w/\EP X pins σ Q r s') pl.isList (by omega) (by rw[U0v]<;>omega) (by omega) (by rw[hj];simpa using ew) ⟨rfl,fin⟩) hs
theorem rJ:IxR X (oZ X.K):=by
 intro value slice pins s σ H x y v u Q I rx ry h hs
 obtain⟨p,xs,i,z,rfl,rfl,hq,he,q⟩:=h
 cases rx
 obtain⟨t,rfl⟩:=ry
 obtain⟨its,r,pl,hz⟩:=I.tuple hq
 obtain⟨j,h1,h2,h3,h4,h5⟩:=U9 he
 obtain⟨w,ew,rw'⟩:=r.get h2
 have hl:=r.length
 have hn:=Ox
 have fin:EP X pins σ Q w s:=⟨z,H,I,rw',q⟩
 exact subscriptTail_builtinR (x:=w) pl.typeIs slot_tuple_getitem.lookup
  (getItem_tuple (j:=j) (Q:=fun r s'=>r=w/\EP X pins σ Q r s') pl (by omega) (by omega) (by rw[U0v,←hl];exact h1) (by simpa using ew) ⟨rfl,fin⟩) hs
theorem rK:IxR X ou:=by
 intro value slice pins s σ H x y v u Q I rx ry h hs
 obtain⟨z,i,c,rfl,rfl,hz,he,q⟩:=h
 obtain⟨t,rfl⟩:=rx
 obtain⟨t',rfl⟩:=ry
 obtain⟨j,h1,h2,h3,h4,h5⟩:=U9 he
 have hl:z.cps.toList.length=z.length:=by simp[Str.length]
 rw[hl] at h1 h4 h5
 have hn:=Ox
 exact tail_any (typeIs_str s z t) slot_str_getitem.lookup (getItem_str (c:=c) (by
  have e1:decide (i < -(2^63:Int))=false:=decide_eq_false (by omega)
  have e2:decide (i≥2^63)=false:=decide_eq_false (by omega)
  rw[e1,e2,U4v]) (by rw[h1];simpa using h2) ⟨.str ⟨#[c]⟩,H,I.tok _,⟨_,rfl⟩,q⟩) hs
def rIx(K:U0a):R2:=fun x y H Q=>p7 K x y H Q∨oZ K x y H Q∨ou x y H Q
theorem BR:IxR X (rIx X.K):=mH.or (rJ.or rK)
theorem Zc(its:List Value)(n j:Nat)(u:Value):U1f (·.setIfInBounds j u) { cls:=.type "list",data:=.seq its.toArray n }={ cls:=.type "list",data:=.seq (its.set j u).toArray n }:=by
 simp[U1f]
theorem Inv.lst{pins:List (Addr×Obj)}{σ:St}{H:Hp}{s:Shared}{p:Addr}{xs:List V}(I:Inv X pins σ H s)(h:H p=some (.lst xs)) :
  ∃(its:List Value)(n:Nat),Vals xs its/\s.heap.get? p=some { cls:=.type "list",data:=.seq its.toArray n }/\xs.length<=sizeLine:=by
 obtain⟨z,its,n,r,e⟩:=I.hok p _ h
 exact⟨its,n,r,e,z⟩
theorem Inv.qy{pins:List (Addr×Obj)}{σ:St}{H:Hp}{s:Shared}{p:Addr}{xs ys:List V}{its its':List Value}{n n':Nat}{f:Obj->Obj}(I:Inv X pins σ H s)(h:H p=some (.lst xs))
  (ho:s.heap.get? p=some { cls:=.type "list",data:=.seq its.toArray n }) (hf:f { cls:=.type "list",data:=.seq its.toArray n }={ cls:=.type "list",data:=.seq its'.toArray n' }) (r:Vals ys its') (hz:ys.length<=sizeLine) (t:Nat) :
  Inv X pins σ (upd H p (.lst ys)) { s with heap:=s.heap.update p f,toks:=t }:=by
 have e:(s.heap.update p f).get? p=some { cls:=.type "list",data:=.seq its'.toArray n' }:=by
  rw[U1k f ho (by rw[hf]<;>rfl),hf]
 refine I.write (x:=p) (e:=p) (by rw[h];trivial) (.inl rfl) (fun b u hb q=>(U02 _ _ (U1p hb)).trans q) ⟨_,e⟩ ?_
 exact⟨hz,its',n',r,e⟩
def uK:V->V->V->Hp->(Hp->Prop)->Prop:=fun o i v H Q=>∃p xs k j,o=.ref p/\i=.int k/\H p=some (.lst xs)/\ixN xs.length k=some j/\Q (upd H p (.lst (xs.set j v)))
theorem set_list:pJ X uK:=by
 intro pins s σ H o i v ov iv u Q I ro ri rv h
 obtain⟨p,xs,k,j,rfl,rfl,hp,hj,q⟩:=h
 cases ro
 obtain⟨t,rfl⟩:=ri
 obtain⟨its,n,r,ho,hz⟩:=I.lst hp
 obtain⟨h1,h2,h3,h4⟩:=Yh hj
 have hl:=r.length
 have hn:=Ox
 have I':Inv X pins σ (upd H p (.lst (xs.set j v))) { s with heap:=s.heap.update p (U1f (·.setIfInBounds j u)) } :=
  I.qy hp ho (Zc its n j u) (r.set rv j) (by rw[U40];exact hz) s.toks
 by_cases h0:0<=k
 .have hk:k.toNat=j:=by
   rw[seqIndex_of h0 h4] at h1
   exact U05 h1
  exact PySem.W.ki_setAt ho h0 (by omega) (by rw[U0v,←hl];exact h4) (by rw[hk];exact⟨_,I',q⟩)
 .have hk:(k+(its.toArray.size:Int)).toNat=j:=by
   rw[seqIndex_neg (by omega) h3] at h1
   rw[U0v,←hl]
   exact U05 h1
  exact PySem.W.ki_setBack ho (by omega) (by rw[U0v,←hl];exact h3) (by omega) (by rw[hk];exact⟨_,I',q⟩)
theorem X4(lo hi:Option Int)(n:Nat):(sliceBounds lo hi none n).1=((HT.sIx n 0 lo:Nat):Int)/\(sliceBounds lo hi none n).2.1=((HT.sIx n n hi:Nat):Int)/\(sliceBounds lo hi none n).2.2=1:=by
 refine⟨?_,?_,rfl⟩
 .cases lo with
  |none=>simp[sliceBounds,HT.sIx]
  |some i =>
   simp only[sliceBounds,HT.sIx,Option.getD_none,show(1:Int)>0 by decide,if_true]
   by_cases h:i<0
   .simp only[h,if_true]<;>omega
   .simp only[h,if_false]<;>omega
 .cases hi with
  |none=>simp[sliceBounds,HT.sIx]
  |some i =>
   simp only[sliceBounds,HT.sIx,Option.getD_none,show(1:Int)>0 by decide,if_true]
   by_cases h:i<0
   .simp only[h,if_true]<;>omega
   .simp only[h,if_false]<;>omega
theorem VF(its:List Value)(lo hi:Option Int):slicePick its.toArray lo hi none=((its.drop (HT.sIx its.length 0 lo)).take (HT.sIx its.length its.length hi-HT.sIx its.length 0 lo)).toArray:=by
 obtain⟨h1,h2,h3⟩:=X4 lo hi its.toArray.size
 unfold slicePick
 rw[h1,h2,h3]
 simp only[sliceRange_one,pick_run,U0v]<;>rfl
def oV(K:U0a):V->Option Int->Option Int->Hp->VK->Prop:=fun x lo hi H Q=>∃a xs,x=.ref a/\SqL K H a xs/\∀p,H p=none->Q (.ref p) (upd H p (.lst (JV xs lo hi)))
theorem jh:SlR X (oV X.K):=by
 intro pins s σ H x v vl vu lo hi sl Q I rx hs pl pu h
 obtain⟨a,xs,rfl,hx,q⟩:=h
 cases rx
 obtain⟨its,r,ht,hz⟩:=I.list hx
 have hlen:=r.length
 refine⟨"list",_,slot_list_getitem.lookup,ht.isList.typeIs,?_⟩
 refine wpAny_getItem_list_slice ht.isList hs pl pu .none (by simp) ?_ (by rw[U0v]<;>omega)
 rw[VF,←hlen]
 refine⟨.ref s.heap.objs.size,_,I.laid (t':=s.toks) (o:=.lst (JV xs lo hi)) (fun b ob q=>U0b _ q) (U0s _) ?_,rfl,q _ (I.hok.fresh (U0s _))⟩
 exact⟨U07 (Qw xs lo hi) hz,_,0,(r.drop (HT.sIx xs.length 0 lo)).take (HT.sIx xs.length xs.length hi-HT.sIx xs.length 0 lo),U0n _ rfl⟩
theorem Dk:DN X (.builtin "len") (fun xs H Q=>∃p ys,xs=[.ref p]/\(SqL X.K H p ys∨SqT X.K H p ys)/\Q (.int ys.length) H):=by
 intro pins s σ H xs us Q I r h
 obtain⟨p,ys,rfl,hq,q⟩:=h
 obtain⟨u,rfl,rx⟩:=vals1 r
 cases rx
 have hn:=Ox
 rcases hq with hq|hq
 .obtain⟨its,r',pl,hz⟩:=I.list hq
  have hlen:=r'.length
  exact Calls.call_len_list pl.isList (by simp only[U0v]<;>omega) ⟨.int ys.length,H,I.tok _,⟨s.toks+1,by rw[U0v,hlen]⟩,q⟩
 .obtain⟨its,r',pl,hz⟩:=I.tuple hq
  have hlen:=r'.length
  exact len_tuple pl (by simp only[U0v]<;>omega) ⟨.int ys.length,H,I.tok _,⟨s.toks+1,by rw[U0v,hlen]⟩,q⟩
theorem DN.or{f:Value}{r r':List V->Hp->VK->Prop}(h:DN X f r)(h':DN X f r'):DN X f (fun xs H Q=>r xs H Q∨r' xs H Q):=by
 intro pins s σ H xs us Q I rs q
 rcases q with q|q
 .exact h pins s σ H xs us Q I rs q
 .exact h' pins s σ H xs us Q I rs q
theorem Xc:DN X (.type "list") (fun xs H Q=>∃p ys,xs=[.ref p]/\(SqL X.K H p ys∨SqT X.K H p ys)/\∀l,H l=none->Q (.ref l) (upd H l (.lst ys))):=by
 intro pins s σ H xs us Q I r h
 obtain⟨p,ys,rfl,hq,q⟩:=h
 obtain⟨u,rfl,rx⟩:=vals1 r
 cases rx
 have fin:∀(its:List Value),Vals ys its->ys.length<=sizeLine->∀(h':Heap)(c':Nat),(∀b o',s.heap.get? b=some o'->h'.get? b=some o') ->
   h'.get? s.heap.objs.size=some { cls:=.type "list",dict:=none,data:=.seq its.toArray c',slots:=#[] }->EP X pins σ Q (.ref s.heap.objs.size) { s with heap:=h' }:=fun its r' hz h' c' kp e =>
  ⟨.ref s.heap.objs.size,_,I.laid (t':=s.toks) kp (U0s _) (show Cp X.prog X.w _ h' _ (.lst ys) from ⟨hz,its,c',r',e⟩),rfl,q _ (I.hok.fresh (U0s _))⟩
 rcases hq with hq|hq
 .obtain⟨its,r',pl,hz⟩:=I.list hq
  have hlen:=r'.length
  obtain⟨o,ho,hc,n,hd⟩:=pl.isList
  exact call_list_seq p (.inl rfl) ho hc hd (fun h' c' kp e=>fin its r' hz h' c' kp e) (by simp only[U0v]<;>omega)
 .obtain⟨its,r',pl,hz⟩:=I.tuple hq
  have hlen:=r'.length
  obtain⟨o,ho,hc,n,hd⟩:=pl
  exact call_list_seq p (.inr rfl) ho hc hd (fun h' c' kp e=>fin its r' hz h' c' kp e) (by simp only[U0v]<;>omega)
theorem Va:DN X (.type "tuple") (fun xs H Q=>∃p ys,xs=[.ref p]/\((SqL X.K H p ys/\∀l,H l=none->Q (.ref l) (upd H l (.tup ys)))∨(SqT X.K H p ys/\Q (.ref p) H))):=by
 intro pins s σ H xs us Q I r h
 obtain⟨p,ys,rfl,h⟩:=h
 obtain⟨u,rfl,rx⟩:=vals1 r
 cases rx
 rcases h with ⟨hq,q⟩|⟨hq,q⟩
 .obtain⟨its,r',pl,hz⟩:=I.list hq
  have hlen:=r'.length
  refine call_tuple_list pl.isList (fun h' kp=>?_) (by simp only[U0v]<;>omega)
  have I1:Inv X pins σ H { s with heap:=h' }:=I.kept (t':=s.toks) kp
  have I2:Inv X pins σ (upd H h'.objs.size (.tup ys)) { s with heap:=h'.push { cls:=.type "tuple",data:=.seq its.toArray } } :=
   I1.laid (t':=s.toks) (fun b o e=>U0b _ e) (U0s _) (show Cp X.prog X.w _ _ _ (.tup ys) from ⟨hz,its,r',IsTup.new _ _⟩)
  exact⟨.ref h'.objs.size,_,I2,rfl,q _ (I1.hok.fresh (U0s _))⟩
 .obtain⟨its,r',pl,hz⟩:=I.tuple hq
  exact call_tuple_same pl ⟨.ref p,H,I,rfl,q⟩
def tyV(K:U0a)(T:String)(x:V)(H:Hp):Prop:=match x with
 |.str _=>T="str"
 |.int _=>T="int"
 |.ref p=>(T="list"/\∃xs,SqL K H p xs)∨(T="tuple"/\∃o,K.lookup p=some o/\o.cls=.type "tuple"/\o.dict=none) ∨
   (T="dict"/\((∃kvs,H p=some (.dK kvs))∨∃kvs,H p=some (.dT kvs)))∨(T="set"/\∃S n,H p=some (.set S n))
 |_=>False
theorem pP{pins:List (Addr×Obj)}{σ:St}{H:Hp}{s:Shared}{T:String}{x:V}{v:Value}(I:Inv X pins σ H s)(r:RelV x v)(ty:tyV X.K T x H) :
  s.TypeIs v T/\∀a,v=.ref a->∃ob,s.heap.get? a=some ob/\ob.dict=none:=by
 cases x with
 |str z =>
  obtain⟨t,rfl⟩:=r
  cases (show T="str" from ty)
  exact⟨typeIs_str s z t,fun _ e=>nomatch e⟩
 |int i =>
  obtain⟨t,rfl⟩:=r
  cases (show T="int" from ty)
  exact⟨typeIs_int s i t,fun _ e=>nomatch e⟩
 |ref p =>
  cases r
  rcases ty with ⟨rfl,xs,hq⟩|⟨rfl,o,hk,hc,hd⟩|⟨rfl,hk⟩|⟨rfl,S,n,hk⟩
  .obtain⟨its,_,pl,_⟩:=I.list hq
   refine⟨pl.isList.typeIs,fun a e=>?_⟩
   cases e
   obtain⟨o,n,e,c,hd,_⟩:=pl
   exact⟨o,e,hd⟩
  .refine⟨⟨o,I.kIn p o hk,hc⟩,fun a e=>?_⟩
   cases e
   exact⟨o,I.kIn _ o hk,hd⟩
  .have z:∃o,s.heap.get? p=some o/\o.ExactDict:=by
    rcases hk with ⟨kvs,hk⟩|⟨kvs,hk⟩
    .obtain⟨_,_,_,_,o,_,_,e,ex,_⟩:=I.hok p _ hk
     exact⟨o,e,ex⟩
    .obtain⟨_,_,_,_,o,_,_,e,ex,_⟩:=I.hok p _ hk
     exact⟨o,e,ex⟩
   obtain⟨o,e,ex⟩:=z
   refine⟨⟨o,e,ex.1⟩,fun a e2=>?_⟩
   cases e2
   exact⟨o,e,ex.2.1⟩
  .obtain⟨o,_,_,_,e,ex,_⟩:=I.hok p _ hk
   refine⟨⟨o,e,ex.1⟩,fun a e2=>?_⟩
   cases e2
   exact⟨o,e,ex.2.1⟩
 |_=>exact U4f ty
def tBM(K:U0a)(T:String)(r:V->List V->Hp->VK->Prop)(to:TE)(t:TA):TE:=fun σ H Q=>to σ H fun x H1=>tyV K T x H1/\t σ H1 fun xs H2=>r x xs H2 Q
variable{o e:Expr}{es:List Expr}{to:TE}{t:TA}{name:Str}{apos cpos:Pos}{T id:String}{r:V->List V->Hp->VK->Prop}
theorem uU(pa:PlainAttrs T)(slot:Slot T name id)(hty:typeOf (.builtin id)=pure (.type "method_descriptor"))(hm:MtR X id r)(ho:PE X o to)(ha:PA X (e::es) t)
  (hbase:attributeBase o name X.env (eval o X.env)=eval o X.env:=by rfl)
  (hfew:((backTo cpos (starEach (e::es) X.env)).all (fun x=>!x.1)&&(backToKw cpos (keywordEach [] X.env)).all (fun x=>x.1.isSome)
   && decide ((e::es).length+([]:List Keyword).length+(if ([]:List Keyword).isEmpty then 0 else 1)<30))=true:=by rfl)
  (hline:(apos.endLine==cpos.line)=true:=by rfl) (hs:starEach (e::es) X.env=(false,eval e X.env)::starEach es X.env:=by rfl) (hplain:(backTo cpos (starEach es X.env)).any (·.1)=false:=by rfl) :
  PE X (.Call (.Attribute o name apos) (e::es) [] cpos) (tBM X.K T r to t):=by
 intro pins s σ H Q I h
 refine wpAny_Call_method_late hbase hfew hline rfl (thn (ho pins s σ H _ I h) fun v s1 ⟨x,H1,I1,r1,ty,q1⟩=>?_)
 obtain⟨h1,h2⟩:=pP I1 r1 ty
 refine⟨T,id,pa,slot,hty,h1,h2,?_⟩
 have hA:=ha cpos pins s1 σ H1 _ I1 q1
 rw[hs] at hA ⊢
 refine Calls.callWith_builtin (by show(false||(backTo cpos (starEach es X.env)).any (·.1))=false;rw[hplain]<;>rfl) (Calls.evalArgs_plain ?_)
 exact thn hA fun us s2 ⟨vs,H2,I2,r2,q2⟩=>hm pins s2 σ H2 x vs v us Q I2 r1 r2 q2
/- xs.append(e), list.index on a module's tuple .. are MtR facts of 06m -/
end
end L2
namespace L2
open PySem PySem.Spec PyProof.Rows
def MtM(X:Cx)(id:String)(r:V->List V->Hp->VK->Prop):Prop :=
 ∀(pins:List (Addr×Obj))(s:Shared)(σ:St)(H:Hp)(x:V)(xs:List V)(v:Value)(us:List Value)(Q:VK),Inv X pins σ H s->RelV x v->Vals xs us->r x xs H Q ->
  wpAny (model X.prog X.w) X.A (call (.builtin id) (v::us)) (EP X pins σ Q) X.xe s
theorem Vals.one:∀{x:V} {us:List Value},Vals [x] us->∃u,us=[u]/\RelV x u
 |_,_,.cons r .nil=>⟨_,rfl,r⟩
theorem Vals.rep{xs:List V}{us:List Value}(h:Vals xs us):∀k:Nat,Vals (U0m k xs).flatten (U0m k us).flatten
 |0=>.nil
 |k+1=>by
  rw[U0x,U0x,U3x,U3x]
  exact Vals.append h (Vals.rep h k)
theorem foldl_rep(its:List Value):∀(k:Nat)(acc:List Value),
  U6 (fun x1 x2=>x1++x2) acc.toArray (U0m k its.toArray)=(acc++(U0m k its).flatten).toArray
 |0,acc=>by simp
 |k+1,acc=>by
  have e:acc.toArray++its.toArray=(acc++its).toArray:=by simp
  have e2:(acc++its)++(U0m k its).flatten=acc++(U0m (k+1) its).flatten:=by
   rw[U0x,U3x,U5x]
  rw[←e2,←foldl_rep its k (acc++its),←e,U0x,U2z]
section
variable{X:Cx}{pins:List (Addr×Obj)}{σ:St}{H:Hp}{s:Shared}{l b:Addr}{xs ys zs:List V}
theorem Inv.vh{its its':List Value}{n:Nat}{f:Array Value->Array Value}{t':Nat}(I:Inv X pins σ H s)(hH:H l=some (.lst xs))
  (e:s.heap.get? l=some { cls:=.type "list",data:=.seq its.toArray n }) (hf:f its.toArray=its'.toArray) (hv:Vals ys its') (hz:ys.length<=sizeLine) :
  Inv X pins σ (upd H l (.lst ys)) { s with heap:=s.heap.update l (U1f f),toks:=t' }:=by
 have q:=PySem.IsL.update e f
 rw[hf] at q
 refine I.write (x:=l) (e:=l) (by rw[hH];exact trivial) (.inl rfl) (fun b' u hb hu=>(U02 s.heap (U1f f) (U1p hb)).trans hu) ⟨_,q⟩ ?_
 exact⟨hz,its',_,hv,q⟩
theorem Inv.pG{its:List Value}{t':Nat}(I:Inv X pins σ H s)(hv:Vals ys its)(hz:ys.length<=sizeLine) :
  Inv X pins σ (upd H s.heap.objs.size (.lst ys)) { s with heap:=s.heap.push { cls:=.type "list",data:=.seq its.toArray },toks:=t' } :=
 I.laid (fun _ _ q=>U0b _ q) (U0s _) ⟨hz,its,0,hv,U0n _ rfl⟩
theorem Inv.fresh(I:Inv X pins σ H s):H s.heap.objs.size=none:=I.hok.fresh (U0s _)
theorem Inv.Yv(I:Inv X pins σ H s)(hH:H l=some (.lst xs)):xs.length<=sizeLine/\∃(its:List Value)(n:Nat),Vals xs its/\xs.length=its.length/\s.heap.get? l=some { cls:=.type "list",data:=.seq its.toArray n }:=by
 obtain⟨z,its,n,r,e⟩:=I.hok l _ hH
 exact⟨z,its,n,r,r.length,e⟩
theorem gC{n:Nat}(h:n<=sizeLine):U5q n=false:=by
 unfold U5q
 exact decide_eq_false (by omega)
end
section
variable{X:Cx}
def YX:V->List V->Hp->VK->Prop:=fun x vs H Q=>∃l xs y,x=.ref l/\vs=[y]/\H l=some (.lst xs)/\xs.length<sizeLine/\Q .non (upd H l (.lst (xs++[y])))
theorem KR:MtM X "list.append" YX:=by
 intro pins s σ H x vs v us Q I rx rv h
 obtain⟨l,xs,y,rfl,rfl,hH,hz,q⟩:=h
 cases rx
 obtain⟨u,rfl,ru⟩:=rv.one
 obtain⟨z,its,n,r,hl,e⟩:=I.Yv hH
 refine call_meets F.slot_list_append ⟨_,e,rfl⟩ F.entry_list_append (F.args_list_append_2 _ _) (PySem.list_append l its.toArray n u (by rw[U0v];omega)) ⟨e,?_⟩
 refine⟨.non,_,I.vh (its':=its++[u]) hH e (by simp) (r.append (.cons ru .nil)) ?_,rfl,q⟩
 rw[U0q,U3n]
 omega
def pC:R2:=fun x y H Q=>∃l b xs zs,x=.ref l/\y=.ref b/\H l=some (.lst xs)/\H b=some (.lst zs)/\xs.length+zs.length<=sizeLine/\∀p,H p=none->Q (.ref p) (upd H p (.lst (xs++zs)))
theorem qj:OpR X (binaryOp .Add) pC:=by
 intro pins s σ H x y v u Q I rx ry h
 obtain⟨l,b,xs,zs,rfl,rfl,hH,hB,hz,q⟩:=h
 cases rx
 cases ry
 obtain⟨z,its,n,r,hl,e⟩:=I.Yv hH
 obtain⟨z2,its2,n2,r2,hl2,e2⟩:=I.Yv hB
 refine PySem.P.add_list e e2 ?_ (by rw[U0v,U0v];omega)
 have ea:its.toArray++its2.toArray=(its++its2).toArray:=by simp
 rw[ea]
 exact⟨.ref _,_,I.pG (t':=s.toks) (r.append r2) (by rw[U0q];omega),rfl,q _ I.fresh⟩
def oY:R2:=fun x y H Q=>∃l k xs,x=.ref l/\y=.int k/\H l=some (.lst xs)/\-(2^63)<=k/\k<2^63/\xs.length*k.toNat<=sizeLine /\
 ∀p,H p=none->Q (.ref p) (upd H p (.lst (U0m k.toNat xs).flatten))
theorem len_rep{α:Type}(xs:List α)(k:Nat):(U0m k xs).flatten.length=k*xs.length:=by
 induction k with
 |zero=>simp
 |succ k ih=>rw[U0x,U3x,U0q,ih,Nat.succ_mul,Nat.add_comm]
theorem aD:OpR X (binaryOp .Mult) oY:=by
 intro pins s σ H x y v u Q I rx ry h
 obtain⟨l,k,xs,rfl,rfl,hH,h1,h2,hz,q⟩:=h
 cases rx
 obtain⟨t,rfl⟩:=ry
 obtain⟨z,its,n,r,hl,e⟩:=I.Yv hH
 have hlen:its.toArray.size*k.toNat<=sizeLine:=by rw[U0v,←hl];exact hz
 have hcap:¬its.toArray.size*k.toNat>(2^63-1)/8:=by
  have:(sizeLine:Nat)<=(2^63-1)/8:=by decide
  omega
 have hfit:¬(!Builtin.List.listFitsIndex k)=true:=by
  rw[fitsIndex_both h1 h2]
  exact U1c
 have hlong:¬U5q (its.toArray.size*k.toNat)=true:=by
  rw[gC hlen]
  exact U1c
 have hnew:U6 (fun x1 x2=>x1++x2) #[] (U0m (if its.toArray.isEmpty=true then 0 else k.toNat) its.toArray)=(U0m k.toNat its).flatten.toArray:=by
  have f0:∀m:Nat,U6 (fun x1 x2=>x1++x2) #[] (U0m m its.toArray)=(U0m m its).flatten.toArray:=fun m=>by
   have:=foldl_rep its m []
   rw[U16] at this
   exact this
  rw[f0]
  cases its with
  |nil=>simp
  |cons a r'=>rw[if_neg (by simp)]
 refine wpAny_binaryOp_repeat_ref (T:="list") (U:="int") (by decide) ⟨_,e,rfl⟩ (fun s'=>typeIs_int s' k t) noFill_list_mul F.fills_int_mul F.slot_int_rmul repeat_list F.slot_int_index.lookup
  (call_meets F.slot_int_rmul (typeIs_int s k t) F.entry_int_rmul (F.args_int_rmul_2 _ _) (int___rmul___int_list k t l its.toArray n)
   ⟨e,rfl,⟨_,e,rfl⟩,call_meets F.slot_list_mul ⟨_,e,rfl⟩ F.entry_list_mul (F.args_list_mul_2 _ _) (AutoListH.list___mul___list_int_3 l its.toArray n k t hfit hcap hlong) ⟨e,?_⟩⟩)
 rw[hnew]
 exact⟨.ref _,_,I.pG (t':=s.toks) (r.rep k.toNat) (by rw[len_rep,U6z];exact hz),rfl,q _ I.fresh⟩
end
section
variable{prog:Program}{w:World}{A:Around}{E:Value->Shared->Prop}{s:Shared}
set_option maxRecDepth 100000 in
end
section
variable{X:Cx}
end
end L2
namespace Att
open PySem PySem.W PySem.Calls PyProof.Rows
theorem TF{P:Params}{h:Heap}:∀(ns:List Int)(vs:List Value),WellAll P h vs (ns.map WData.int)->IntsAre vs ns:=by
 intro ns
 induction ns with
 |nil =>
  intro vs w
  rw[U1w] at w
  cases w
  exact .nil
 |cons n ns ih =>
  intro vs w
  rw[U0t] at w
  cases w with
  |cons a b =>
   cases a
   exact .cons _ _ (ih _ b)
theorem bC{l:OpenLaw}{n:Nat}(hn:l.most=some n){P:Params}{h:Heap}{args:List WData}{vals:List Value}
  (hpre:l.row.toRowW.claim.pre args=true) (hwl:WellAll P h vals args) :
  ∃a vs ns,vals=[U1y a]/\args=[WData.list (ns.map WData.int)]/\h.get? a=some { cls:=.type "list",data:=.seq vs.toArray }/\IntsAre vs ns/\ns.length<=n:=by
 have hsh:WShape.hasAll [] args [.list .int]=true:=(pre_splitW hpre).1
 have hc:l.pre.holds [] { args:=args }=true:=(pre_splitW hpre).2
 obtain⟨d,r,rfl,h1,h2⟩:=hasAllW_cons hsh
 obtain rfl:=hasAllW_nil h2
 obtain⟨xs,rfl,h3⟩:=hasW_list h1
 obtain⟨ns,rfl⟩:=items_int h3
 have hlen:ns.length<=n:=by
  unfold OpenLaw.pre at hc
  have h4:(WTm.not (.lt (.lit (.int (n:Int))) (.len (.arg 0)))).holds [] { args:=[.list (ns.map .int)] }=true:=by
   have h4:=(holds_andW hc).1
   rw[hn] at h4
   exact h4
  have h5:=condW_of h4 (w_not (w_lt w_lit (w_len_list (w_arg rfl))))
  rw[U0l] at h5
  refine Nat.le_of_not_lt fun q=>?_
  have q':(n:Int)<((ns.length:Nat):Int):=by omega
  first
   |(rw[decide_eq_true q'] at h5;exact absurd h5 (by decide))
   |(simp at h5;omega)
 cases hwl with
 |cons w1 w2 =>
  cases w2
  cases w1 with
  |list ho hall=>exact⟨_,_,ns,rfl,rfl,ho,TF ns _ hall,hlen⟩
theorem bJ(l:OpenLaw)(args:List WData):l.row.toRowW.claim.post args (.bool true) args=true :=
 postW_of (r:=l.row.toRowW) (X:=(true==true))
  (show WShape.has [] (.bool true) .bool=true by first|rfl|decide|simp[WShape.has,WShape.arms,WShape.armsAll])
  (show(WTm.eq .res (.lit (.bool true))).value [] { args:=args,res:=some (.bool true),after:=args }=some (.bool (true==true)) from w_eq_bool (w_res rfl) w_lit) rfl
theorem Zd{R:WRecords}{cl:Str->Option Addr}{h:Heap}{a:Addr}{ds:List WData}{as:List Addr}(r:ReadsAllW R cl h [.ref a] [.list ds] as)(lo:∀b∈as,(b==sysModules)=false):a≠sysModules:=by
 cases r with
 |cons r1 _ =>
  cases r1 with
  |list _ _ _ _=>exact fun z=>by have:=lo a (by simp);rw[z] at this;simp at this
theorem YC{l:OpenLaw}{n:Nat}{q:Program}{loose:List Str}{XP:(Str->Option Value)->Heap->Prop}{YP:World->Heap->Prop}{d:DefRec}
  (hn:l.most=some n) (hdf:d.params.defaults=[])
  (call:∀(w:World)(s₀ s₁:Shared)(mg mb:Str->Option Value)(fa:Addr)(o:Obj)(pm cd doc:Value)(a:Addr)(vs:List Value)(ns:List Int),
   Ground q loose [] XP w s₀ mg mb s₁.heap->YP w s₁.heap ->
   s₁.heap.get? fa=some o->o.data=.func (docDef d.name d.params d.body d.scope pm cd doc)->s₁.heap.CodeRec cd d.name->mg d.name=some (.ref fa) ->
   s₁.heap.get? a=some { cls:=.type "list",data:=.seq vs.toArray }->IntsAre vs ns->ns.length<=n->a≠sysModules->s₁.gens=#[] ->
   codeAny (model l.prog w) callerA (.call (.ref fa) ⟨[.ref a],[]⟩) (fun r s'=>r=.ok (.ret (.bool true))/\OldK s₁.heap s'.heap/\s'.os=s₁.os/\AllBare s'.gens) s₁) :
  WalkO q loose XP YP l.row.toRowW d [] (fun f vs=>U7l f vs):=by
 intro w s₀ s₁ mg mb G Y fa o pm cd doc dV kV ho hd hcd hD hmg hg args vals as hpre hlay hrd hwl hlo
 obtain rfl:dV=.none:=Dflts.none hD hdf
 obtain rfl:kV=.none:=Dflts.noKw hD
 obtain⟨a,vs,ns,rfl,rfl,hobj,hints,hlen⟩:=bC hn hpre hwl
 refine enter_call (codeAny_mono (call w s₀ s₁ mg mb fa o pm cd doc a vs ns G Y ho (fd_plain hd) hcd hmg hobj hints hlen (Zd hrd hlo) hg) fun r s' hq=>?_)
 obtain⟨rfl,h2,h3,h4⟩:=hq
 exact⟨.inl ⟨.bool true,.bool true,[],rfl,fun _=>rfl,.bool true,bJ l _,fun _=>⟨U6u,fun _ hm=>(nomatch hm)⟩⟩,h2,h3,h4⟩
section
variable{prog:Program}{w:World}{A:Around}{E:Value->Shared->Prop}{s:Shared}{K:Frag}
end
end Att
namespace L2
open PySem PySem.Spec PyProof.Rows
theorem PJ:∀{vs:List Value} {ns:List Int},IntsAre vs ns->Vals (ns.map V.int) vs
 |_,_,.nil=>.nil
 |_,_,.cons n t h=>.cons ⟨t,rfl⟩ (PJ h)
def Only(H:Hp):Prop:=∀b,H b=none∨∃o xs,H b=some (.frz o (.lst xs))
theorem gU{P:Program}{w:World}{K:U0a}{mg mb:Str->Option Value}{CX:CXT}{k:Nat}{fa a:Addr}{fd:FuncData}{x:Str}{sp:Sp}{s₁:Shared}{vs:List Value}{ns:List Int}
  (KX:K.In s₁.heap) (hns:s₁.heap.Ns mainGlobals mg) (hb:s₁.heap.Ns builtinsNs mb) (hbb:∀x:Str,x≠"__name__"->mb x=bootBuiltins x) (hlim:s₁.heap.NoLimit) (hg:s₁.gens=#[])
  (ha:s₁.heap.get? a=some { cls:=.type "list",data:=.seq vs.toArray }) (hi:IntsAre vs ns) (hl:ns.length<=sizeLine) (hasy:a≠sysModules) (hr:Ed k callerA)
  (F:∀base:Heap,K.In base->base.Ns mainGlobals mg->DG P w K mg base CX k fa fd [x] sp) (hbind:∀(s:Shared)(u:Value),BindsTo s fd ⟨[u],[]⟩ [(x,u)])
  (hsp:∀H:Hp,Only H->SqL K H a (ns.map V.int)->sp [.ref a] H (fun v _=>v=.bl true) fun _ _ _=>False)
  (hCX:∀H e s',CX [] H s₁ (fun _ _ _=>False) e s'->False) :
  codeAny (model P w) callerA (.call (.ref fa) ⟨[.ref a],[]⟩) (fun r s'=>r=.ok (.ret (.bool true))/\OldK s₁.heap s'.heap/\s'.os=s₁.os/\AllBare s'.gens) s₁:=by
 have rv:=PJ hi
 have lenV:=hi.length
 -- from an abstract heap in which nothing but the script may be tracked
 have core:∀H:Hp,Only H->SqL K H a (ns.map V.int)->HOk P w H s₁.heap->(∀b,H b≠none->b=a)->(H a≠none->K.lookup a=none) ->
   codeAny (model P w) callerA (.call (.ref fa) ⟨[.ref a],[]⟩) (fun r s'=>r=.ok (.ret (.bool true))/\OldK s₁.heap s'.heap/\s'.os=s₁.os/\AllBare s'.gens) s₁:=by
  intro H hO hS hok hA hK
  have base_of:∀{b:Addr} {o:Obj},s₁.heap.get? b=some o->H b=none->(Nk s₁.heap H).get? b=some o:=fun e n=>iB e n
  have noA:∀{b:Addr} {o:Obj} {es:Array DictEntry} {ep:Nat},s₁.heap.get? b=some o->o.data=.dict es ep->H b=none:=fun {b o es ep} e d=>by
   cases q:H b with
   |none=>rfl
   |some u =>
    have e':b=a:=hA b (by rw[q];simp)
    subst e'
    rw[ha] at e;cases e
    have d':Data.seq vs.toArray _=Data.dict es ep:=d
    cases d'
  have nsK:∀{b:Addr} {m:Str->Option Value},s₁.heap.Ns b m->(Nk s₁.heap H).Ns b m:=fun {b m} ⟨o,es,ep,e,d,r⟩=>⟨o,es,ep,base_of e (noA e d),d,r⟩
  have hKb:K.In (Nk s₁.heap H):=fun b o e=>base_of (KX b o e) (by
   cases q:H b with
   |none=>rfl
   |some u =>
    have e':b=a:=hA b (by rw[q];simp)
    subst e'
    rw[hK (by rw[q];simp)] at e;cases e)
  have hM:Mod K mg (Nk s₁.heap H):=⟨hKb,nsK hns,⟨mb,nsK hb,hbb⟩,let ⟨mc,h1,h2⟩:=hlim;⟨mc,nsK h1,h2⟩⟩
  have e0:Z2 P w K mg (Nk s₁.heap H) callerA [] s₁ H:=⟨rfl,hM,fun b o e=>lJ e,U7r (cF _ _),trivial,fun b hb=>absurd (show b∈([]:List Addr) from hb) (by simp),hok,.of_eq hg,Classical.byContradiction fun z=>hasy (hA _ z).symm⟩
  refine codeAny_mono ((F _ hKb (nsK hns)).run callerA [] s₁ H ⟨[.ref a],[]⟩ [.ref a] [.ref a] _ _ hr e0 (hbind s₁ (.ref a)) (.cons rfl .nil) (hsp H hO hS)) fun r s' h=>?_
  cases r with
  |error e=>exact(hCX H e s' h).elim
  |ok fl =>
   cases fl with
   |next=>exact U4f h
   |brk=>exact U4f h
   |cont=>exact U4f h
   |ret u =>
    obtain⟨v,H',os,bare,un,hok',r',q⟩:=h
    have q':v=.bl true:=q
    subst q'
    obtain rfl:u=U4y true:=r'
    refine⟨rfl,OldK.of_keep fun b o e=>?_,os,bare⟩
    cases q:H b with
    |none=>exact un.keep b o e q (by intro z;exact absurd (show b∈([]:List Addr) from z) (by simp)) (by simp)
    |some u =>
     rcases hO b with z|⟨ob,xs,z⟩
     .rw[q] at z;cases z
     .have z2:=un.frzs b ob _ z
      obtain⟨e1,_⟩:=hok b _ z
      obtain⟨e2,_⟩:=hok' b _ z2
      rw[e] at e1;cases e1
      exact e2
 cases hk:K.lookup a with
 |some o =>
  -- the script is one of the module's own objects
  have e:=KX a o hk
  rw[ha] at e
  cases e
  refine core (fun _=>none) (fun _=>.inl rfl) (.inr ⟨_,vs.toArray,_,hk,rfl,rfl,rfl,by rw[U0v,lenV];exact hl,by simpa using rv⟩) (fun b u z=>by have z':(none:Option HO)=some u:=z;cases z') (fun b z=>absurd rfl z) fun z=>absurd rfl z
 |none =>
  refine core (fun b=>if b=a then some (.frz { cls:=.type "list",data:=.seq vs.toArray } (.lst (ns.map V.int))) else none) (fun b=>?_) (.inl (.inr ⟨{ cls:=.type "list",data:=.seq vs.toArray },if_pos rfl⟩)) (fun b u z=>?_) (fun b z=>?_) fun _=>hk
  .by_cases hb:b=a
   .exact .inr ⟨_,_,if_pos hb⟩
   .exact .inl (if_neg hb)
  .by_cases hb:b=a
   .have z':=(if_pos hb).symm.trans z
    cases z'
    subst hb
    exact⟨ha,by rw[U0l];exact hl,vs,_,rv,ha⟩
   .have z':=(if_neg hb).symm.trans z
    cases z'
  .by_cases hb:b=a
   .exact hb
   .exact absurd (if_neg hb) z
end L2
namespace L2
open PySem PySem.Spec PyProof.Rows
abbrev KOf{K:U0a}{h:Heap}(_:K.In h):U0a:=K
theorem walk_of{l:U6a}{n k:Nat}{q:Program}{loose:List Str}{XP:(Str->Option Value)->Heap->Prop}{YP:World->Heap->Prop}{d:DefRec}{K:Params->U0a}{CX:World->CXT}{sp:World->Sp}{x:Str}
  (hn:l.most=some n) (hn2:n<=sizeLine) (hdf:d.params.defaults=[]) (hr:Ed k callerA)
  (hY:∀(w:World)(h:Heap),YP w h->(K w.params).In h)
  (F:∀(w:World)(mg:Str->Option Value)(fa:Addr)(h:Heap),(K w.params).In h->h.Ns mainGlobals mg->mg d.name=some (.ref fa) ->
   ∃fd:FuncData,(∀(s:Shared)(u:Value),BindsTo s fd ⟨[u],[]⟩ [(x,u)]) /\
    ∀base:Heap,(K w.params).In base->base.Ns mainGlobals mg->DG l.prog w (K w.params) mg base (CX w) k fa fd [x] (sp w))
  (hsp:∀(w:World)(H:Hp)(a:Addr)(ns:List Int),ns.length<=n->Only H->SqL (K w.params) H a (ns.map V.int)->sp w [.ref a] H (fun v _=>v=.bl true) fun _ _ _=>False)
  (hCX:∀(w:World)(H:Hp)(s:Shared)(e:Value)(s':Shared),CX w [] H s (fun _ _ _=>False) e s'->False) :
  U7o q loose XP YP l.row.toRowW d [] (fun f vs=>U7l f vs):=by
 refine Att.YC hn hdf fun w s₀ s₁ mg mb fa o pm cd doc a vs ns G Y ho hd hcd hmg hobj hints hlen hasy hg=>?_
 have KX:=hY w _ Y
 obtain⟨fd,hb,hF⟩:=F w mg fa _ KX G.T.g hmg
 exact gU KX G.T.g G.T.b G.T.builtins G.T.nolimit hg hobj hints (U07 hlen hn2) hasy hr hF hb (fun H hO hS=>hsp w H a ns hlen hO hS) fun H e s'=>hCX w H s₁ e s'
theorem dX{l:U6a}{n k:Nat}{q:Program}{loose:List Str}{XP:(Str->Option Value)->Heap->Prop}{YP:World->Heap->Prop}{d:DefRec}{K:Params->U0a}{CX:CXT}{sp:U0a->Sp}{x:Str}
  (hn:l.most=some n) (hn2:n<=sizeLine) (hdf:d.params.defaults=[]) (hr:Ed k callerA)
  (hY:∀(w:World)(h:Heap),YP w h->(K w.params).In h)
  (F:∀(w:World)(mg:Str->Option Value)(fa:Addr)(h:Heap),(K w.params).In h->h.Ns mainGlobals mg->mg d.name=some (.ref fa) ->
   ∃fd:FuncData,(∀(s:Shared)(u:Value),BindsTo s fd ⟨[u],[]⟩ [(x,u)]) /\
    ∀base:Heap,(K w.params).In base->base.Ns mainGlobals mg->DG l.prog w (K w.params) mg base CX k fa fd [x] (sp (K w.params)))
  (hsp:∀(K:U0a)(H:Hp)(a:Addr)(ns:List Int),ns.length<=n->Only H->SqL K H a (ns.map V.int)->sp K [.ref a] H (fun v _=>v=.bl true) fun _ _ _=>False)
  (hCX:∀(H:Hp)(s:Shared)(e:Value)(s':Shared),CX [] H s (fun _ _ _=>False) e s'->False) :
  U7o q loose XP YP l.row.toRowW d [] (fun f vs=>U7l f vs) :=
 walk_of (K:=K) (CX:=fun _=>CX) (sp:=fun w=>sp (K w.params)) hn hn2 hdf hr hY F (fun w H a ns h1 h2 h3=>hsp (K w.params) H a ns h1 h2 h3) fun _ H s e s'=>hCX H s e s'
end L2
/- THE LAST THEOREM (shape; LID, My.* are yours):
   My.Adr: a structure of the addresses that your layer names (classes, functions); My.Txt K t: a structure (Prop) of the equations over K;
   My.txt_mk : {K} {implicit addresses ..} (e1 : nsIn K mainGlobals "law" = some (some (.ref f))) (e2 : K.lookup f = some ⟨oc, od, .func (fnOf "law" "law" params body scope dV kV doc pm an cdv ct), sl⟩) (e3 : codeIn K cdv "law" = true) .. : ∃ t, My.Txt K t

set_option maxRecDepth 100000 in
set_option maxHeartbeats 0 in
theorem PySem.Challenge.cw_LID_holds : PySem.Challenge.rw_LID.Holds := by
  w_on; o_law; k_head; (case hw => w_witness2)
  k_fill
  refine L2.walk_of (l := PySem.Challenge.rw_LID) (n := 63) (k := 40) (x := "script") (CX := fun w => ..) (sp := fun _ => My.sp_law) rfl (by decide) rfl ⟨rfl, by decide, by decide⟩ (fun w h Y => PySem.W.kIn_of Y) ?F ?S ?C
  case F =>
    intro w mg fa h KX G hmg
    have T : ∃ t, My.Txt (L2.KOf KX) t := by
      dsimp only [L2.KOf]                          -- K must stand as «<heap const> w.params» for k_is
      refine' My.txt_mk ?e1 ?e2 ?e3 ..
      (case e1 => PySem.W.k_is)                    -- in the order: a name -> its address -> its object -> its parts
      (case e2 => PySem.W.k_is)
      ..
    obtain ⟨t, T⟩ := T
    have e0 := hmg.symm.trans (PySem.W.mg_of KX G T.law)
    cases e0                                       -- fa is the law's own address
    exact ⟨_, fun s u => .of_eq rfl, fun base kb nb => My.law_fn T kb nb⟩     -- if «.of_eq rfl» comes too early: refine' ⟨_, ?b, fun base kb nb => My.law_fn T kb nb⟩; exact fun s u => .of_eq rfl
  case S => exact fun w H a ns hl hO hS => ..
  case C => exact ..
(the tactic k_is has no namespace: write k_is) -/
namespace L2
open PySem PySem.Spec PyProof.Rows
def CQ(s:Stmt):Arguments:=match s with
 |.FunctionDef _ a _ _ _ _ _ _ _ _=>a
 |_=>{ posonlyargs:=[],args:=[],vararg:=none,kwonlyargs:=[],kw_defaults:=[],kwarg:=none,defaults:=[] }
def Bv(s:Stmt):List Stmt:=match s with
 |.FunctionDef _ _ b _ _ _ _ _ _ _=>b
 |_=>[]
def Ak(s:Stmt):Scope:=match s with
 |.FunctionDef _ _ _ _ _ _ sc _ _ _=>sc
 |_=>{ kind:=.function,names:=[],isGenerator:=false,isCoroutine:=false }
abbrev CX0:CXT:=fun _ _ _ _ _ _=>False
abbrev E0:XK:=fun _ _ _=>False
theorem uW{X:Cx}:Passes CX0 X E0:=fun _ _ _ _ _ _ _ h=>h.elim
structure Fun(K:U0a)(x qual:Str)(st:Stmt)(f:Addr)(fd:FuncData):Prop where
 ex:∃(oc:Value)(od:Option Addr)(kV doc pm:Value)(an:Option Addr)(cdv ct:Value)(osl:Array (Option Value)),
  fd=U1b x qual (CQ st) (Bv st) (Ak st) .none kV doc pm an cdv ct/\K.lookup f=some ⟨oc,od,.func fd,osl⟩/\U09 K cdv qual=true
 kp:U08 K (.ref f)=true
section
variable{P:Program}{w:World}{K:U0a}{mg:Str->Option Value}{base:Heap}
theorem Fun.ok{x qual:Str}{st:Stmt}{f:Addr}{fd:FuncData}{N ps:List Str}{k:Nat}{sp:Sp}(F:Fun K x qual st f fd)(S:CV N ps (Ak st))(len:∀vs H Q E,sp vs H Q E->vs.length=ps.length)
  (hbody:∀(cdv:Value)(A:Around)(outer:List Env)(s:Shared)(H:Hp)(vs:List V)(Q:VK)(E:XK),Ed k (A.deeper (envOfC qual (Ak st) s.heap.objs.size f cdv))->sp vs H Q E ->
   ∃t,PSs (Oi CX0 P w K mg base N qual (Ak st) f cdv A outer s H E).nox (Bv st) t/\t { nx:=fun _ H'=>Q .non H',rt:=Q } (start N vs) H):DG P w K mg base CX0 (k+1) f fd ps sp:=by
 obtain⟨oc,od,kV,doc,pm,an,cdv,ct,osl,rfl,lk,hcd⟩:=F.ex
 refine uw lk hcd S len fun A outer s H vs Q E hr hsp=>?_
 obtain⟨t,h,q⟩:=hbody cdv A outer s H vs Q E hr hsp
 exact⟨t,h.nox,q⟩
theorem Fun.binds{x qual:Str}{st:Stmt}{f:Addr}{fd:FuncData}{ps:List Str}(F:Fun K x qual st f fd)
  (h:∀(kV doc pm:Value)(an:Option Addr)(cdv ct:Value)(us:List Value),us.length=ps.length->bindArgs (U1b x qual (CQ st) (Bv st) (Ak st) .none kV doc pm an cdv ct) ⟨us,[]⟩=pure (ps.zip us)):Binds K fd ps []:=by
 obtain⟨oc,od,kV,doc,pm,an,cdv,ct,osl,rfl,lk,hcd⟩:=F.ex
 exact .all (h kV doc pm an cdv ct)
theorem Di{x qual:Str}{st:Stmt}{f:Addr}{oc:Value}{od an:Option Addr}{osl:Array (Option Value)}{kV doc pm cdv ct:Value}(l:K.lookup f=some ⟨oc,od,.func (U1b x qual (CQ st) (Bv st) (Ak st) .none kV doc pm an cdv ct),osl⟩)
  (c:U09 K cdv qual=true) (k:U08 K (.ref f)=true):Fun K x qual st f (U1b x qual (CQ st) (Bv st) (Ak st) .none kV doc pm an cdv ct):=⟨⟨oc,od,kV,doc,pm,an,cdv,ct,osl,rfl,l,c⟩,k⟩
end
theorem Vf{A:Around}{k:Nat}(hr:Ed k A):A.units+1<cLine:=U3o (Nat.add_le_add_left (by decide:1<=64) _) hr.units
theorem Um{n:Nat}(h:n<=1000):n<sizeLine:=U3o h (by decide)
section
variable{X:Cx}
theorem pv(i:Nat){x:Str}{pos:Pos}(hN:X.N[i]?=some x:=by rfl)(hv:Vis X.env.scope x:=by first|exact U7s rfl|exact U60 (U7s rfl)|exact U60 (U60 rfl))(hd:(x==("__debug__":Str))=false:=by decide)
  (hcd:(x==("__classdict__":Str))=false:=by decide):PE X (.Name x pos) (oJ i):=Zz hN hv hd hcd
end
def Same(H H':Hp):Prop:=∀b o,H b=some o->H' b=some o
theorem Same.refl(H:Hp):Same H H:=fun _ _ h=>h
theorem Same.free{H H':Hp}(e:Same H H'){l:Addr}(h:H' l=Option.none):H l=Option.none:=by
 cases q:H l with
 |none=>rfl
 |some o =>
  rw[e l o q] at h
  cases h
end L2
end
section
namespace SetP
open PySem
def JF(xs:Array Nat):Prop:=xs.toList.Pairwise (·<·)
theorem fD:JF #[]:=U6u
theorem ZQ(n:Nat):JF (Array.range n):=by
 unfold JF
 rw[Array.toList_range]
 exact List.pairwise_lt_range
theorem JF.lt{xs:Array Nat}(h:JF xs){i k:Nat}(hik:i<k)(hk:k<xs.size):xs.getD i 0<xs.getD k 0:=by
 have q:=List.pairwise_iff_getElem.mp h i k (by rw[U1z];omega) (by rw[U1z];exact hk) hik
 rw[U22,U22,U14 (by omega),U14 hk]
 simpa using q
theorem JF.le{xs:Array Nat}(h:JF xs){i k:Nat}(hik:i<=k)(hk:k<xs.size):xs.getD i 0<=xs.getD k 0:=by
 rcases Nat.lt_or_eq_of_le hik with z|z
 .exact U2c (h.lt z hk)
 .rw[z];exact U0s _
theorem Tn{xs:Array Nat}{j:Nat}(h:JF xs):∀(fuel lo hi:Nat),lo<=hi->hi<=xs.size->hi-lo<=fuel->(∀i,i<lo->xs.getD i 0<j)->(∀i,hi<=i->i<xs.size->j<=xs.getD i 0) ->
  U47 xs j fuel lo hi<=xs.size/\(∀i,i<U47 xs j fuel lo hi->xs.getD i 0<j)/\∀i,U47 xs j fuel lo hi<=i->i<xs.size->j<=xs.getD i 0
 |0,lo,hi,h1,h2,h3,h4,h5=>by
  have e:lo=hi:=by omega
  subst e
  unfold U47
  exact⟨h2,h4,h5⟩
 |fuel+1,lo,hi,h1,h2,h3,h4,h5=>by
  unfold U47
  by_cases hlt:lo<hi
  .rw[if_pos hlt]
   have hm:(lo+hi)/2<hi:=by omega
   have hl:lo<=(lo+hi)/2:=by omega
   have e:xs.getD ((lo+hi)/2) j=xs.getD ((lo+hi)/2) 0:=by
    rw[U22,U22,U14 (by omega)]
    rfl
   dsimp only
   rw[e]
   by_cases hc:xs.getD ((lo+hi)/2) 0<j
   .rw[if_pos hc]
    exact Tn h fuel _ hi (by omega) h2 (by omega) (fun i hi'=>U3o (h.le (by omega) (by omega)) hc) h5
   .rw[if_neg hc]
    exact Tn h fuel lo _ (by omega) (by omega) (by omega) h4 (fun i hi' hs=>U07 (Nat.le_of_not_lt hc) (h.le hi' hs))
  .rw[if_neg hlt]
   have e:lo=hi:=by omega
   subst e
   exact⟨h2,h4,h5⟩
theorem OJ{xs:Array Nat}{j:Nat}(h:JF xs):U1q xs j<=xs.size/\(∀i,i<U1q xs j->xs.getD i 0<j)/\∀i,U1q xs j<=i->i<xs.size->j<=xs.getD i 0:=by
 unfold U1q
 exact Tn h xs.size 0 xs.size (U3h _) (U0s _) (by omega) (fun i hi=>absurd hi (U69 _)) fun i h1 h2=>absurd h2 (by omega)
theorem T8{xs:Array Nat}(h:JF xs){i:Nat}(hi:i<xs.size):U1q xs (xs.getD i 0+1)=i+1:=by
 obtain⟨a,b,c⟩:=OJ (j:=xs.getD i 0+1) h
 generalize U1q xs (xs.getD i 0+1)=r at a b c
 rcases Nat.lt_trichotomy r (i+1) with z|z|z
 .have:=c i (by omega) hi;omega
 .exact z
 .have h1:=b (i+1) z
  have h2:xs.getD i 0<xs.getD (i+1) 0:=h.lt (U3k i) (by omega)
  omega
theorem T7{xs:Array Nat}(h:JF xs):U1q xs 0=0:=by
 obtain⟨a,b,c⟩:=OJ (j:=0) h
 generalize U1q xs 0=r at a b c
 cases r with
 |zero=>rfl
 |succ r=>exact absurd (b 0 (by omega)) (U69 _)
theorem Xk{xs:Array Nat}{j:Nat}(h:JF xs)(hn:xs[U1q xs j]?≠some j):JF (SetTable.insertAt xs (U1q xs j) j):=by
 obtain⟨a,b,c⟩:=OJ (j:=j) h
 unfold JF
 rw[SetTable.toList_insertAt]
 generalize U1q xs j=p at a b c hn
 have getT:∀i,i<xs.size->xs.toList[i]?=some (xs.getD i 0):=fun i hi=>by
  rw[U36,U22,U14 hi];rfl
 refine U3s.mpr ⟨h.sublist (List.take_sublist _ _),U1m.mpr ⟨fun y hy=>?_,h.sublist (List.drop_sublist _ _)⟩,fun x hx y hy=>?_⟩
 .obtain⟨i,hi⟩:=U37.mp hy
  rw[List.getElem?_drop] at hi
  have hlt:p+i<xs.size:=by
   have:=(U0p.mp hi).1
   rwa [U1z] at this
  rw[getT _ hlt] at hi
  have e:=U05 hi
  have h1:=c (p+i) (U1o _ _) hlt
  rw[←e]
  rcases Nat.lt_or_eq_of_le h1 with z|z
  .exact z
  .exfalso
   have hp:p<xs.size:=by omega
   have h2:=c p (U0s _) hp
   have h3:=h.le (U1o p i) hlt
   have h4:xs.getD p 0=j:=by omega
   apply hn
   have:=getT p hp
   rw[U36] at this
   rw[this,h4]
 .have hxj:x<j:=by
   obtain⟨i,hi⟩:=U37.mp hx
   have hip:i<p:=by
    have:=(U0p.mp hi).1
    rw[U24] at this;omega
   rw[List.getElem?_take_of_lt hip] at hi
   have hlt:i<xs.size:=by
    have:=(U0p.mp hi).1
    rwa [U1z] at this
   rw[getT _ hlt] at hi
   rw[←U05 hi]
   exact b i hip
  rcases U0w.mp hy with z|z
  .rw[z];exact hxj
  .obtain⟨i,hi⟩:=U37.mp z
   rw[List.getElem?_drop] at hi
   have hlt:p+i<xs.size:=by
    have:=(U0p.mp hi).1
    rwa [U1z] at this
   rw[getT _ hlt] at hi
   rw[←U05 hi]
   exact U0r hxj (c (p+i) (U1o _ _) hlt)
def Off(t:SetTable)(j:Nat):Prop:=t.place[U1q t.place j]?≠some j
theorem Qk{t:SetTable}{j:Nat}(h:∀i,t.slot j≠.live i):Off t j:=fun e=>by
 apply h (U1q t.place j)
 unfold SetTable.slot
 dsimp only
 rw[e]
 simp
theorem Pa{t:SetTable}{f:Nat->Int}{h:Int}{j:Nat}{d:Option Nat}:∀(fuel:Nat)(p:SetTable.Probe),(∀d,p.dummy=some d->Off t d)->U6v t f h fuel p=some (.empty j d)->Off t j/\∀d',d=some d'->Off t d'
 |0,_,_,e=>by unfold U6v at e;cases e
 |fuel+1,p,hp,e=>by
  unfold U6v at e
  cases hs:t.slot p.j with
  |empty =>
   rw[hs] at e
   have e':=U05 e
   cases e'
   exact⟨Qk (fun i z=>by rw[hs] at z;exact SetTable.Slot.noConfusion z),hp⟩
  |dummy =>
   rw[hs] at e
   refine Pa fuel _ (fun d' hd=>?_) e
   have hd':(t.advance { p with dummy:=some p.j }).dummy=some p.j:=by
    unfold SetTable.advance;dsimp only;split<;>rfl
   rw[hd'] at hd
   cases hd
   exact Qk fun i z=>by rw[hs] at z;cases z
  |live i =>
   rw[hs] at e
   dsimp only at e
   split at e
   .cases e
   .refine Pa fuel _ (fun d' hd=>hp d' ?_) e
    rw[←hd]
    unfold SetTable.advance
    split<;>rfl
theorem XS{t:SetTable}{h:Int}{j:Nat}{b:Bool}(e:t.freeSlot h=some (j,b)):Off t j:=by
 unfold SetTable.freeSlot at e
 split at e
 .rename_i j' d q
  unfold U6j at q
  obtain⟨o1,o2⟩:=Pa _ _ (fun d hd=>by unfold SetTable.probeStart at hd;cases hd) q
  have e':=U05 e
  cases d with
  |none=>cases e';exact o1
  |some d=>cases e';exact o2 _ rfl
 .cases e
def TabOk(L:Bool)(t:SetTable):Prop:=JF t.place/\t.led=L
theorem TabOk.fresh(L:Bool)(f m:Nat):TabOk L (.fresh f m L):=⟨fD,rfl⟩
theorem TabOk.standIn{L:Bool}{t:SetTable}(h:TabOk L t)(n:Nat):TabOk L (t.standIn n):=⟨ZQ n,h.2⟩
theorem TabOk.orStandIn{L:Bool}{t:SetTable}(h:TabOk L t)(n:Nat):TabOk L (t.orStandIn n):=by
 unfold SetTable.orStandIn
 split
 .exact h
 .exact h.standIn n
theorem TabOk.jX{L:Bool}{t:SetTable}(h:TabOk L t)(b:Bool):TabOk L { t with plain:=b }:=h
theorem Zh{L:Bool}{t:SetTable}(h:TabOk L t)(es:Array (Int×Value))(k:Int)(x:Value):TabOk L (layNew t es k x).2.1:=by
 unfold layNew
 split
 .rename_i slot wasDummy q
  exact TabOk.orStandIn (t:=(t.put slot).1) ⟨Xk h.1 (XS q),h.2⟩ _
 .exact h.standIn _
theorem RL{α:Type}(g:Nat->Option α):∀l:List Nat,List.Sublist ((l.filterMap fun j=>(g j).map (j,·)).map (·.1)) l
 |[]=>List.Sublist.slnil
 |j::r=>by
  rw[U5f]
  cases hg:g j with
  |none=>exact(RL g r).cons j
  |some a=>exact(RL g r).cons_cons j
theorem X7{L:Bool}{t:SetTable}(h:TabOk L t)(es:Array (Int×Value))(n:Nat):TabOk L (relayAll t es n).2.1:=by
 unfold relayAll
 split
 .rename_i t' order q
  dsimp only
  split
  .unfold SetTable.relaid SetTable.laid at q
   cases ho:SetTable.layClean (SetTable.sizeAbove n-1) (es.map (·.1)) with
   |none=>rw[ho] at q;cases q
   |some owner =>
    rw[ho] at q
    have q':=U05 q
    cases q'
    refine⟨?_,h.2⟩
    show U6p (·<·) (List.toArray _).toList
    exact List.pairwise_lt_range.sublist (RL (fun j=>owner.getD j none) _)
  .exact h.standIn _
 .exact h.standIn _
end SetP
end
section
set_option maxRecDepth 100000
namespace SetP
open PySem PyProof.Rows
abbrev MN(w:World):Bool:=!(w.params.followText "set-order")
structure SetT(prog:Program)(w:World)(h:Heap)(a:Addr)(ds:List Int):Prop where
 nd:ds.Nodup
 ex:∃o es ep t,h.get? a=some o/\o.ExactSet/\o.data=.set es ep t/\ElemsOf (intKind prog w) es.toList/\(∀k,decide (k∈ds)=true↔∃e∈es.toList,(intKind prog w).is k e.2=true) /\
  es.size<scanBound/\t.fits es.size=true/\es.size=ds.length/\TabOk (MN w) t
def Fj(ds:List Int)(k:Int):List Int:=if k∈ds then ds else ds++[k]
theorem Rc{ds:List Int}(h:ds.Nodup)(k:Int):(Fj ds k).Nodup:=by
 unfold Fj
 split
 .exact h
 .rename_i hk
  exact List.nodup_append.mpr ⟨h,by simp,fun a ha b hb=>by rw[U0z] at hb;subst hb;rintro rfl;exact hk ha⟩
theorem Ut{ds:List Int}{k j:Int}:j∈Fj ds k↔j∈ds∨j=k:=by
 unfold Fj
 split
 .rename_i hk
  exact⟨.inl,fun z=>z.elim id fun e=>e ▸ hk⟩
 .rw[U10,U0z]
theorem cZ(ds:List Int)(k:Int):(Fj ds k).length<=ds.length+1:=by
 unfold Fj
 split
 .omega
 .rw[U0q,U3n];omega
section
variable{prog:Program}{w:World}{A:Around}{E:Value->Shared->Prop}{s:Shared}
theorem SetT.sameBut{h h':Heap}{a:Addr}{ds:List Int}(x:SetT prog w h a ds)(hs:∀o,h.get? a=some o->h'.get? a=some o):SetT prog w h' a ds:=by
 obtain⟨nd,o,es,ep,t,e,r⟩:=x
 exact⟨nd,o,es,ep,t,hs o e,r⟩
theorem SetT.stored{h:Heap}{a:Addr}{o:Obj}{es es':Array (Int×Value)}{ep:Nat}{t t':SetTable}{ds:List Int}(ho:h.get? a=some o)(hex:o.ExactSet)(hd:o.data=.set es ep t)(nd:ds.Nodup)
  (hel:ElemsOf (intKind prog w) es'.toList) (hm:∀k,decide (k∈ds)=true↔∃e∈es'.toList,(intKind prog w).is k e.2=true) (hb:es'.size<scanBound) (hf:t'.fits es'.size=true) (hn:es'.size=ds.length) (ht:TabOk (MN w) t') :
  (h.update a (Obj.putSet es' t')).get? a=some { o with data:=.set es' (ep+1) t' }/\SetT prog w (h.update a (Obj.putSet es' t')) a ds:=by
 obtain⟨g,_⟩:=SetOf_store (knd:=intKind prog w) ho hex hd hel hm hb hf
 exact⟨g,nd,_,es',ep+1,t',g,hex,rfl,hel,hm,hb,hf,hn,ht⟩
theorem VB{g:Bool->Sem Unit}(hg:∀(b:Bool)(s₁:Shared)(Q':Unit->Shared->Prop),Q' () s₁->wpAny (model prog w) A (g b) Q' E s₁)
  {a:Addr} {o:Obj} {es es1:Array (Int×Value)} {ep:Nat} {t t2:SetTable} {ds:List Int} (ho:s.heap.get? a=some o) (hex:o.ExactSet) (hd:o.data=.set es ep t) (nd:ds.Nodup)
  (hel:ElemsOf (intKind prog w) es1.toList) (hm:∀k,decide (k∈ds)=true↔∃e∈es1.toList,(intKind prog w).is k e.2=true) (hb:es1.size<scanBound) (hf:t2.fits es1.size=true) (hn:es1.size=ds.length) (ht:TabOk (MN w) t2)
  {dummy:Bool} {R:Option Bool->Shared->Prop} (h:∀h',U03 a s.heap h'->SetT prog w h' a ds->R (some true) { s with heap:=h' }) :
  wpAny (model prog w) A (do
    storeSet a es1 t2
    if (!dummy&&t2.tooFull)=true then do
      g (relayAll t2 es1 (U4l es1.size)).2.2
      storeSet a (relayAll t2 es1 (U4l es1.size)).1 (relayAll t2 es1 (U4l es1.size)).2.1
      pure (some true)
     else pure (some true)) R E s:=by
 obtain⟨g1,T1⟩:=SetT.stored (prog:=prog) (w:=w) ho hex hd nd hel hm hb hf hn ht
 have sb1:=U1r s.heap a (Obj.putSet es1 t2)
 refine U0 (wpAny_storeSet_of ho hd ?_ (fits_of_scanBound hb))
 split
 .have p:=relayAll_perm t2 es1 (U4l es1.size)
  have f:=relayAll_fits t2 es1 (U4l es1.size)
  have tb:=X7 ht es1 (U4l es1.size)
  generalize relayAll t2 es1 (U4l es1.size)=RR at p f tb
  obtain⟨es2,t3,gave⟩:=RR
  have sz:es2.size=es1.size:=by simpa using p.length_eq
  have T2:=SetT.stored (prog:=prog) (w:=w) (es':=es2) (t':=t3) g1 hex rfl nd (hel.perm p) (fun k=>(hm k).trans ⟨fun⟨e,he,q⟩=>⟨e,p.mem_iff.mpr he,q⟩,fun⟨e,he,q⟩=>⟨e,p.mem_iff.mp he,q⟩⟩)
   (by rw[sz];exact hb) f (by rw[sz];exact hn) tb
  refine U0 (hg _ _ _ (U0 (wpAny_storeSet_of g1 rfl ?_ (fits_of_scanBound (by show es2.size<_;rw[sz];exact hb)))))
  exact U0d (h _ (sb1.trans (U1r _ a _)) T2.2)
 .exact U0d (h _ sb1 T1)
theorem YD{a:Addr}{ds:List Int}{k:Int}{t0:Tok}{Q:Bool->Shared->Prop}(hS:SetT prog w s.heap a ds)(room:ds.length+1<scanBound)
  (h:∀b h',U03 a s.heap h'->SetT prog w h' a (Fj ds k)->Q b { s with heap:=h' }):wpAny (model prog w) A (setAddHashed a (.int k t0) ((intKind prog w).hash k)) Q E s:=by
 obtain⟨nd,o,es,ep,t,ho,hex,hd,hel,hm,hb,hf,hn,ht⟩:=hS
 have hkey:(intKind prog w).is k (.int k t0)=true:=intKind_is prog w k t0
 have hsc:(U27 k t0).scannable=true:=rfl
 unfold setAddHashed setAddHashedIn
 refine U15 (U0 (U4c ho hd hf ?_))
 dsimp only
 rw[byScan_of hsc hb hel,if_pos rfl]
 unfold setAddByScan
 refine U0 (U0 (U4h (U0 (wpAny_setScan_of hkey ho hd hf hel ?_))))
 cases hr:List.findIdx? (fun e=>(intKind prog w).is k e.2) es.toList with
 |some j =>
  obtain⟨hj,hpj,_⟩:=List.findIdx?_eq_some_iff_getElem.mp hr
  have hk:k∈ds:=of_decide_eq_true ((hm k).mpr ⟨es.toList[j],U3a hj,hpj⟩)
  refine U0d (U0d ?_)
  have q:=h false s.heap (U03.refl a s.heap) (by
   have e:Fj ds k=ds:=by unfold Fj;rw[if_pos hk]
   rw[e];exact⟨nd,o,es,ep,t,ho,hex,hd,hel,hm,hb,hf,hn,ht⟩)
  cases s;exact q
 |none =>
  have hk:k ∉ ds:=fun z=>by
   obtain⟨e,he,hp⟩:=(hm k).mp (decide_eq_true z)
   have q:=List.findIdx?_eq_none_iff.mp hr e he
   rw[hp] at q;cases q
  have eA:Fj ds k=ds++[k]:=by unfold Fj;rw[if_neg hk]
  have p:=layNew_perm t es ((intKind prog w).hash k) (.int k t0)
  have f:=layNew_fits t es ((intKind prog w).hash k) (.int k t0)
  have tb:=Zh ht es ((intKind prog w).hash k) (.int k t0)
  generalize layNew t es ((intKind prog w).hash k) (.int k t0)=LL at p f tb
  obtain⟨es1,t1,dummy,gave⟩:=LL
  dsimp only at p f tb ⊢
  rw[Array.toList_push] at p
  have hel1:ElemsOf (intKind prog w) es1.toList:=(hel.push hkey hsc).perm p
  have sz:es1.size=(Fj ds k).length:=by
   have q:=p.length_eq
   rw[U1z,U0q,U3n,U1z] at q
   rw[q,eA,U0q,U3n,hn]
  have hm1:∀j,decide (j∈Fj ds k)=true↔∃e∈es1.toList,(intKind prog w).is j e.2=true:=fun j=>by
   rw[←mem_push_iff (S:=fun k'=>decide (k'∈ds)) hkey hm p j]
   simp only[decide_eq_true_eq,U5l,Ut]
  have hb1:es1.size<scanBound:=by rw[sz,eA,U0q,U3n];exact room
  refine U0 ?_
  have gw:∀(b:Bool)(s₁:Shared)(Q':Unit->Shared->Prop),Q' () s₁->wpAny (model prog w) A (match b with|true=>rule "set.scan.the-table-gave-way"|false=>pure ()) Q' E s₁:=fun b s₁ Q' q=>by
   cases b
   .exact U0d q
   .exact U4h q
  refine gw _ _ _ ?_
  split
  .refine U0 ?_
   rw[hashByValue_scannable 8 hsc]
   refine U0d (VB gw ho hex hd (Rc nd k) hel1 hm1 hb1 ?_ sz ?_ fun h' sb T=>U0d (h true h' sb T))
   .split
    .exact f
    .exact SetTable.fits_plain_off f
   .split
    .exact tb
    .exact tb.jX false
  .refine U0 (U0d ?_)
   rw[if_pos rfl]
   exact VB gw ho hex hd (Rc nd k) hel1 hm1 hb1 f sz tb fun h' sb T=>U0d (h true h' sb T)
end
end SetP
end
section
set_option maxRecDepth 100000
namespace SetP
open PySem PyProof.Rows
theorem Uz:entryFor table "set.update.loop"=some Builtin.«set.update.loop»:=entryFor_of_tree (by kernel_rfl)
theorem Pb:plainId "set.update.loop"=true:=by decide +kernel
def once(ns:List Int):List Int:=ns.foldl Fj []
theorem bN(ns:List Int)(k:Int):once (ns++[k])=Fj (once ns) k:=by unfold once;rw[U4d];rfl
theorem Lx:∀(ns:List Int),(once ns).Nodup/\(once ns).length<=ns.length/\∀j,j∈once ns↔j∈ns:=by
 intro ns
 have all:∀(ns ds:List Int),ds.Nodup->(ns.foldl Fj ds).Nodup/\(ns.foldl Fj ds).length<=ds.length+ns.length/\∀j,j∈ns.foldl Fj ds↔j∈ds∨j∈ns:=by
  intro ns
  induction ns with
  |nil=>intro ds h;exact⟨h,by simp,fun j=>by simp⟩
  |cons n r ih =>
   intro ds h
   obtain⟨a,b,c⟩:=ih (Fj ds n) (Rc h n)
   refine⟨a,?_,fun j=>?_⟩
   .have:=cZ ds n
    rw[U2z,U0g];omega
   .rw[U2z,c j,Ut,U0w]
    constructor
    .rintro((z|z)|z)
     .exact .inl z
     .exact .inr (.inl z)
     .exact .inr (.inr z)
    .rintro(z|z|z)
     .exact .inl (.inl z)
     .exact .inl (.inr z)
     .exact .inr z
 obtain⟨a,b,c⟩:=all ns [] List.nodup_nil
 exact⟨a,by rw[U1h,Nat.zero_add] at b;exact b,fun j=>by rw[show once ns=ns.foldl Fj [] from rfl,c j];simp⟩
section
variable{prog:Program}{w:World}{A:Around}{E:Value->Shared->Prop}{s:Shared}
theorem dZ{R:Result->Shared->Prop}{S I l:Addr}{items:Array Value}{ns:List Int}(hh:A.handled=none)(hi:IntsAre items.toList ns)(hb:items.size+1<scanBound)(hSI:S≠I)(hSl:S≠l)(hIl:I≠l) :
  ∀(k i:Nat)(s:Shared),items.size-i=k->i<=items.size->s.heap.IsListIter I l i->s.heap.IsList l items->SetT prog w s.heap S (once (ns.take i)) ->
   (∀h' tk,(∀b o,b≠S->b≠I->s.heap.get? b=some o->h'.get? b=some o)->SetT prog w h' S (once ns)->R (.ok (.ret .none)) { s with heap:=h',toks:=tk }) ->
   codeAny (model prog w) A (.builtin "set.update.loop" ⟨[.ref S,.ref I],[]⟩) R s:=by
 have hlen:items.size=ns.length:=by have:=hi.length;simpa using this
 intro k
 induction k with
 |zero =>
  intro i s hk hi' it il T hR
  have e:i=items.size:=by omega
  subst e
  refine codeAny_builtin Uz ?_
  rw[U2g Pb _]
  show wpAny _ A.in1 (pyNext (.ref I) >>= _) _ _ s
  refine U0 (wpAny_pyNext_list_end hh it il (by simp) fun h' eb=>?_)
  show wpAny _ A.in1 (ret U13) _ _ _
  refine U0d (hR h' s.toks (fun b o _ hbI q=>eb b o hbI q) ?_)
  rw[List.take_of_length_le (by omega)] at T
  exact T.sameBut fun o q=>eb S o hSI q
 |succ k ih =>
  intro i s hk hi' it il T hR
  have hlt:i<items.size:=by omega
  refine codeAny_builtin Uz ?_
  rw[U2g Pb _]
  show wpAny _ A.in1 (pyNext (.ref I) >>= _) _ _ s
  refine U0 (wpAny_pyNext_list_item it il (x:=items[i]) (by simp[hlt]) fun h1 it1 sb1=>?_)
  have hn:i<ns.length:=by omega
  obtain⟨t0,hv⟩:∃t0,items[i]=.int ns[i] t0:=by
   have all:∀{vs:List Value} {ms:List Int},IntsAre vs ms->∀(j:Nat)(h1:j<vs.length)(h2:j<ms.length),∃t0,vs[j]=.int ms[j] t0:=by
    intro vs ms r
    induction r with
    |nil=>intro j h1;simp at h1
    |cons n t _ ih=>intro j h1 h2;cases j with
     |zero=>exact⟨t,rfl⟩
     |succ j=>exact ih j (by simpa using h1) (by simpa using h2)
   have q:=all hi i (by simpa using hlt) hn
   simpa using q
  rw[hv]
  show wpAny _ A.in1 (holding [U27 ns[i] t0] (setAdd S (.int ns[i] t0)) >>= _) _ _ _
  have T1:SetT prog w h1 S (once (ns.take i)):=T.sameBut fun o q=>(sb1.2 S hSI).trans q
  have il1:h1.IsList l items:=by
   obtain⟨o,ho,r⟩:=il
   exact⟨o,(sb1.2 l hIl.symm).trans ho,r⟩
  refine U0 (U15 ?_)
  unfold setAdd
  refine U15 (U0 ((intKind prog w).pyHash (k:=ns[i]) (intKind_is _ _ _ _) ?_))
  have room:(once (ns.take i)).length+1<scanBound:=by
   have q:=(Lx (ns.take i)).2.1
   rw[U24] at q
   omega
  refine YD (s:={ s with heap:=h1,toks:=s.toks+1 }) T1 room fun b h2 sb2 T2=>?_
  have T2':SetT prog w h2 S (once (ns.take (i+1))):=by
   rw[List.take_succ_eq_append_getElem hn,bN];exact T2
  refine U0d ⟨plainId_quiet Pb _,ih (i+1) _ (by omega) hlt ?_ ?_ T2' fun h' tk hk' T'=>?_⟩
  .obtain⟨o,ho,r⟩:=it1
   exact⟨o,(sb2.2 I hSI.symm).trans ho,r⟩
  .obtain⟨o,ho,r⟩:=il1
   exact⟨o,(sb2.2 l hSl.symm).trans ho,r⟩
  .exact hR h' tk (fun c o hcS hcI q=>hk' c o hcS hcI ((sb2.2 c hcS).trans ((sb1.2 c hcI).trans q))) T'
theorem uZ(a:Value){Q₁:Value->Shared->Prop}
  (h:Q₁ (.ref s.heap.objs.size) { s with heap:=s.heap.push { cls:=.type "set",dict:=none,data:=.set #[] 0 (.fresh 0 0 (MN w)) } }) :
  codeAny (model prog w) A (.call (.builtin "set.__new__") ⟨[.type "set",a],[]⟩) (wants Q₁ E) s:=by
 refine codeAny_of_tree ?_
 have hck:checkBuiltinCall "set.__new__" ⟨[.type "set",a],[]⟩=pure ():=by kernel_rfl
 show wpAny _ A.in1 (checkBuiltinCall "set.__new__" ⟨[.type "set",a],[]⟩ >>= fun _=>again (.builtin "set.__new__" ⟨[.type "set",a],[]⟩)) _ _ s
 rw[hck]
 refine U0 (U0d (U0d ⟨plainId_quiet F.plain_set_new _,codeAny_builtin F.entry_set_new ?_⟩))
 rw[U2g F.plain_set_new _]
 have hsub:=sub_set_self
 unfold Builtin.«set.__new__» Builtin.Frozenset.newClass
 obtain⟨hp,g,d,tk,os⟩:=s
 dsimp only
 wp_walk
 refine U4p (U0d ?_)
 simp only[newObj]
 exact U0 (wpAny_alloc (U0d (U0d h)))
theorem gq{M:Model}{self a:Value}{Q:Unit->Shared->Prop}(hT:s.TypeIs self "set")(hQ:Q () s):wpAny M A (checkBuiltinCall "set.__init__" ⟨[self,a],[]⟩) Q E s:=by
 simp only[checkBuiltinCall,kind_set_init,split_set_init,sig_set_init]
 refine U0 (U4q hT sub_set_self ?_)
 simp only[U4w,U1n,if_false]
 unfold Bind.checkArgs
 dsimp only
 refine U0 (m:=Bind.printed "set" true _ _) (printed_name (by decide) ?_)
 refine U0 (m:=Bind.printed "*" false _ _) (printed_star (self:=self) rfl hT fun short=>?_)
 have one:(if (U5y.self==U5y.none)=true then [self,a].length else [self,a].length-1)=1:=by
  have z:(U5y.self==U5y.none)=false:=by decide
  simp[z]
 rw[one]
 simp only[U1w]
 have z1:(U4b==U4b)=true:=by decide
 have z2:(U4b==U35.posOrKw)=false:=by decide
 have z3:(U4b==U35.varPos)=false:=by decide
 have fine:Bind.check ⟨.positional,"set","*",.self,[⟨"iterable",.posOnly,false⟩]⟩ "set" short 1 []=pure ():=by
  simp[Bind.check,Bind.checkCount,Bind.isPositional,z1,z2,z3]
 rw[fine]
 exact U0d hQ
set_option maxHeartbeats 3200000 in
theorem jj{l:Addr}{items:Array Value}{ns:List Int}{Q:Value->Shared->Prop}(hh:A.handled=none)(hl:s.heap.IsList l items)(hi:IntsAre items.toList ns)(hb:items.size+1<scanBound)
  (h:∀h' tk,(∀b o,s.heap.get? b=some o->h'.get? b=some o)->SetT prog w h' s.heap.objs.size (once ns)->Q (.ref s.heap.objs.size) { s with heap:=h',toks:=tk }) :
  wpAny (model prog w) A (call (.type "set") [.ref l]) Q E s:=by
 have hmade:=U4r.made
 have hsub:=U4r.sub
 have h1:=U4r.notType
 have h2:=U4r.canCreate
 have hct:checkTypeCall "set" ⟨[.ref l],[]⟩=pure ():=by kernel_rfl
 obtain⟨c,tl,hmro⟩:=U4r.mro
 refine wpAny_call (codeAny_of_tree ?_)
 show wpAny _ _ (callAny (.type "set") ⟨[.ref l],[]⟩) _ _ s
 refine U0d ⟨Code.quiet_builtin _ (by decide +kernel),codeAny_builtin F.entry_type_call ?_⟩
 rw[Around.under_plain (weight_type_call_type "set" [.ref l] []) rfl]
 repeat (any_goals (first|assumption|wp_step))
 refine codeAny_mono (uZ (.ref l) (E:=E) (Q₁:=fun obj s₁=>obj=.ref s.heap.objs.size/\s₁={ s with heap:=s.heap.push { cls:=.type "set",dict:=none,data:=.set #[] 0 (.fresh 0 0 (MN w)) } }) ⟨rfl,rfl⟩) fun r s₁ hr=>?_
 cases r with
 |error e=>exact hr
 |ok fl =>
  cases fl with
  |ret obj =>
   obtain⟨rfl,rfl⟩:=hr
   generalize hg1:s.heap.push { cls:=.type "set",dict:=none,data:=.set #[] 0 (.fresh 0 0 (MN w)) }=g1
   have e1:g1.get? s.heap.objs.size=some { cls:=.type "set",dict:=none,data:=.set #[] 0 (.fresh 0 0 (MN w)) }:=hg1 ▸ U0n _ rfl
   have k1:∀b o,s.heap.get? b=some o->g1.get? b=some o:=fun b o q=>hg1 ▸ U0b _ q
   have z1:g1.objs.size=s.heap.objs.size+1:=by rw[←hg1,U1s]
   have hT:U4x { s with heap:=g1 } (.ref s.heap.objs.size) "set":=⟨_,e1,rfl⟩
   have hli:=U4r.init.lookup
   have hbi:=U4r.init.bind (.ref s.heap.objs.size)
   repeat (any_goals (first|assumption|wp_step))
   refine codeAny_mono (codeAny_call_builtin (R:=wants (fun r s₂=>r=.none/\∃h' tk,s₂={ s with heap:=h',toks:=tk }/\(∀b o,s.heap.get? b=some o->h'.get? b=some o)/\SetT prog w h' s.heap.objs.size (once ns)) E)
    U4r.init.plain F.entry_set_init (gq hT ?_)) fun r₂ s₂ hr₂=>?_
   .obtain⟨ol,hol,hcl,nl,hdl⟩:=hl
    obtain⟨ocls,odict,odata,oslots⟩:=ol
    simp only at hcl hdl
    subst hcl hdl
    have q1:g1.get? l=some { cls:=.type "list",dict:=odict,data:=.seq items nl,slots:=oslots }:=k1 _ _ hol
    have il:g1.IsList l items:=⟨_,q1,rfl,nl,rfl⟩
    have hlS:l<s.heap.objs.size:=U0k hol
    have hs1:isSubtype (.type "list") (.type "set")=pure false:=by rw[isSubtype_type];kernel_rfl
    have hs2:isSubtype (.type "list") (.type "frozenset")=pure false:=by rw[isSubtype_type];kernel_rfl
    have hs3:(U2v "list"==U2v "dict")=false:=by decide
    unfold Builtin.«set.__init__» noKeywords Builtin.Frozenset.updateFrom
    generalize hPI:pyIter=PI
    wp_walk
    subst hPI
    refine U48 il (U0 (wpAny_runValue ?_))
    have n1:s.heap.objs.size≠g1.objs.size:=by rw[z1];exact U0u (U3k _)
    have n2:s.heap.objs.size≠l:=U1l hlS
    have n3:g1.objs.size≠l:=by rw[z1];exact U1l (U18 hlS)
    refine dZ (l:=l) (items:=items) (by simpa using hh) hi hb n1 n2 n3 (items.size-0) 0 _ (by omega) (U3h _) ⟨_,U0n _ rfl,rfl,rfl⟩ ?_ ?_ ?_
    .obtain⟨o,ho,r⟩:=il
     exact⟨o,U0b _ ho,r⟩
    .refine⟨List.nodup_nil,_,#[],0,_,U0b _ e1,⟨rfl,rfl,rfl⟩,rfl,fun e he=>by simp at he,fun k=>by simp[once],by decide,by rfl,rfl,TabOk.fresh _ _ _⟩
    .intro h' tk hk T
     show wpAny _ _ _ _ _ _
     refine U0d ?_
     show wpAny _ _ (ret U13) _ _ _
     refine U0d ⟨rfl,h',tk,rfl,fun b o q=>?_,T⟩
     have hb':=U0k q
     exact hk b o (U0u hb') (by rw[z1];exact U0u (U18 hb')) (U0b _ (k1 b o q))
   .cases r₂ with
    |error e=>exact hr₂
    |ok fl₂ =>
     cases fl₂ with
     |ret r =>
      obtain⟨rfl,h',tk,rfl,hk,T⟩:=hr₂
      repeat (any_goals (first|assumption|wp_step))
      exact h h' tk hk T
     |_=>exact hr₂.elim
  |_=>exact hr.elim
end
end SetP
end
section
set_option maxRecDepth 100000
namespace SetP
open PySem PyProof.Rows
theorem O9{α:Type}:∀(l:List α)(i:Nat)(h:i<l.length),(l[i]::l.eraseIdx i).Perm l
 |[],i,h=>absurd h (by simp)
 |x::r,0,_=>U6k _
 |x::r,i+1,h=>(U41.swap x _ _).trans (U7j x (O9 r i (by simpa using h)))
theorem Qj:∀{ds ns:List Int},ds.Nodup->(∀k,k∈ds->k∈ns)->ns.length<=ds.length->ns.Perm ds
 |[],ns,_,_,h=>by
  have e:ns=[]:=U31.mp (by simpa using h)
  rw[e]
 |d::r,ns,nd,sub,h=>by
  have hd:d∈ns:=sub d U0i
  have p:=List.perm_cons_erase hd
  obtain⟨h1,h2⟩:=U5j.mp nd
  refine p.trans (U7j d (Qj h2 (fun k hk=>?_) ?_))
  .have hne:k≠d:=fun e=>h1 (e ▸ hk)
   exact(List.mem_erase_of_ne hne).mpr (sub k (U0y _ hk))
  .rw[List.length_erase_of_mem hd]
   rw[U0g] at h
   omega
theorem YZ{α:Type}(next:Nat->Nat):∀(fuel k:Nat)(left:List α)(out:Array α),left.length=fuel->(pickOrder.go next fuel k left out).toList.Perm (out.toList++left)
 |0,_,left,out,h=>by
  have e:left=[]:=U31.mp h
  subst e
  unfold pickOrder.go
  simp
 |fuel+1,k,left,out,h=>by
  unfold pickOrder.go
  have hi:next k%left.length<left.length:=Nat.mod_lt _ (by omega)
  rw[U0h hi]
  dsimp only
  refine(YZ next fuel (k+1) _ _ (by rw[List.length_eraseIdx_of_lt hi];omega)).trans ?_
  rw[Array.toList_push,U5x]
  exact U41.append_left _ (O9 _ _ hi)
theorem bK{α:Type}(next:Nat->Nat)(xs:Array α):(pickOrder next xs).toList.Perm xs.toList:=by
 unfold pickOrder
 simpa using YZ next xs.size 0 xs.toList #[] (by simp)
section
variable{M:Model}{A:Around}{E:Value->Shared->Prop}
theorem Zo{src:Source}{n:Nat}{s:Shared}{Q:Nat->Shared->Prop}(hn:n≠0)(h:∀i d',i<n->Q i { s with drawn:=d' }):wpAny M A (choose src n) Q E s :=
 fun _ _ _=>⟨hn,h _ _ (Nat.mod_lt _ (Nat.pos_of_ne_zero hn))⟩
theorem Og{α:Type}:∀(n:Nat)(xs:List α)(s:Shared)(Q:List α->Shared->Prop),xs.length<=n->(∀ys d',ys.Perm xs->Q ys { s with drawn:=d' })->wpAny M A (drawOrder n xs) Q E s
 |0,xs,s,Q,h,q=>by
  have e:xs=[]:=U31.mp (by omega)
  subst e
  unfold drawOrder
  exact U0d (q [] s.drawn (U6k _))
 |n+1,[],s,Q,h,q=>by
  unfold drawOrder
  exact U0d (q [] s.drawn (U6k _))
 |n+1,x::xs,s,Q,h,q=>by
  unfold drawOrder
  refine U0 (Zo (by simp) fun i d' hi=>?_)
  rw[U0h hi]
  dsimp only
  refine U0 (Og n _ _ _ (by rw[List.length_eraseIdx_of_lt hi];simp at h ⊢;omega) fun ys d'' p=>U0d (q _ d'' ?_))
  exact(U7j _ p).trans (O9 _ _ hi)
end
theorem Eo:Slot "set_iterator" "__next__" "set_iterator.__next__" :=
 .of (owner:="set_iterator") (n:="__next__") (by rw[typeLookup_type,builtinLookup_eq_fast];kernel_rfl) (by decide +kernel) (by decide +kernel) (by decide +kernel)
  (by first|exact .inl (by decide +kernel)|exact .inr (by decide +kernel)) (by rw[isSubtype_type];kernel_rfl)
theorem MK:entryFor table "set_iterator.__next__"=some Builtin.«set_iterator.__next__»:=entryFor_of_tree (by kernel_rfl)
theorem Mt(a:Value):argsOk "set_iterator.__next__" ⟨[a],[]⟩:=by unfold argsOk;kernel_rfl
theorem Ub:entryFor table "set.__iter__"=some Builtin.«frozenset.__iter__» :=
 entryFor_alias (id':="frozenset.__iter__") (by kernel_rfl) rfl (by decide +kernel) (by kernel_rfl)
def Iv(first:Value)(i:Nat)(S:Addr)(n ep:Nat):Obj:={ cls:=.type "set_iterator",data:=.fields #[first,.int i 0,.ref S,.int n 0,.int ep 0] }
inductive Road (w:World) (h:Heap) (es:Array (Int×Value)) (ep:Nat) (t:SetTable) (S it T:Addr) (vs:List Value) (i:Nat):Value->Prop
 |text (k:Int):w.params.followText "set-order"=true->(∀(j:Nat),vs[j]?=((pickOrder (w.params.setOrder S ep) es)[j]?).map fun(e:Int×Value)=>e.2)->Road w h es ep t S it T vs i (.int k 0)
 |plain:w.params.followText "set-order"=false->(!t.plain&&decide (es.size>1))=false->TabOk true t->(∀(j:Nat),vs[j]?=(es[j]?).map fun(e:Int×Value)=>e.2)->Road w h es ep t S it T vs i (.int ((if i=0 then 0 else t.place.getD (i-1) 0+1:Nat):Int) 0)
 |drawn (ps:List Nat):T≠it->h.get? T=some { cls:=.type "tuple",data:=.seq (ps.map fun(p:Nat)=>rawInt p).toArray 0 }->(∀p∈ps,p<es.size)->(∀(j:Nat),vs[j]?=(ps[j]?).bind fun p=>(es[p]?).map fun(e:Int×Value)=>e.2)->Road w h es ep t S it T vs i (.ref T)
structure Ks(w:World)(h:Heap)(it S T:Addr)(vs:List Value)(i:Nat):Prop where
 ne:it≠S
 ex:∃o es ep t first,h.get? S=some o/\o.data=.set es ep t/\t.fits es.size=true/\vs.length=es.size/\h.get? it=some (Iv first i S es.size ep)/\Road w h es ep t S it T vs i first
section
variable{prog:Program}{w:World}{A:Around}{E:Value->Shared->Prop}{s:Shared}
theorem Ks.keep{h h':Heap}{it S T:Addr}{vs:List Value}{i:Nat}(x:Ks w h it S T vs i)(k:∀b∈[it,S,T],∀o,h.get? b=some o->h'.get? b=some o):Ks w h' it S T vs i:=by
 obtain⟨ne,o,es,ep,t,first,a,b,c,d,e,r⟩:=x
 refine⟨ne,o,es,ep,t,first,k S (by simp) _ a,b,c,d,k it (by simp) _ e,?_⟩
 cases r with
 |text k1 z1 z2=>exact .text k1 z1 z2
 |plain z1 z2 z3 z4=>exact .plain z1 z2 z3 z4
 |drawn ps z1 z2 z3 z4=>exact .drawn ps z1 (k T (by simp) _ z2) z3 z4
theorem rM{S:Addr}{ds:List Int}{Q:Value->Shared->Prop}(hS:SetT prog w s.heap S ds)
  (h:∀h' d' it T vs,(∀b o,s.heap.get? b=some o->h'.get? b=some o)->s.heap.objs.size<=it->(T=S∨s.heap.objs.size<=T)->Ks w h' it S T vs 0->(∃ns,IntsAre vs ns/\ns.Perm ds)->Q (.ref it) { s with heap:=h',drawn:=d' }) :
  wpAny (model prog w) A (pyIter (.ref S)) Q E s:=by
 obtain⟨nd,o,es,ep,t,ho,hex,hd,hel,hm,hb,hf,hn,ht⟩:=hS
 have hT:s.TypeIs (.ref S) "set":=⟨o,ho,hex.1⟩
 have hlt:=U0k ho
 -- the members as ints
 have intsV:∀(l:List (Int×Value)),ElemsOf (intKind prog w) l->∃ns,IntsAre (l.map (·.2)) ns/\∀k,k∈ns↔∃e∈l,(intKind prog w).is k e.2=true:=by
  intro l
  induction l with
  |nil=>intro _;exact⟨[],.nil,fun k=>by simp⟩
  |cons e r ih =>
   intro he
   obtain⟨ns,a,b⟩:=ih he.tail
   obtain⟨⟨k0,hk0,_⟩,_⟩:=he.head
   obtain⟨t0,e0⟩:=Value.isInt_shape (show Value.isInt k0 e.2=true from hk0)
   refine⟨k0::ns,by rw[U0t,e0];exact .cons k0 t0 a,fun k=>?_⟩
   rw[U0w,b k]
   constructor
   .rintro(z|⟨e',he',q⟩)
    .exact⟨e,U0i,by rw[z];exact hk0⟩
    .exact⟨e',U0y _ he',q⟩
   .rintro⟨e',he',q⟩
    rcases U0w.mp he' with z|z
    .subst z;exact .inl ((intKind prog w).inj _ _ _ q hk0)
    .exact .inr ⟨e',z,q⟩
 -- any order of the members is the ints in some order
 have fin:∀(l:List (Int×Value)),l.Perm es.toList->∃ns,IntsAre (l.map (·.2)) ns/\ns.Perm ds:=fun l p=>by
  obtain⟨ns,a,b⟩:=intsV l (hel.perm p)
  refine⟨ns,a,?_⟩
  have hsub:ds ⊆ ns:=fun k hk=>(b k).mpr (by
   obtain⟨e,he,q⟩:=(hm k).mp (decide_eq_true hk)
   exact⟨e,p.mem_iff.mpr he,q⟩)
  have hle:ns.length<=ds.length:=by
   have q1:(l.map (·.2)).length=ns.length:=IntsAre.length a
   rw[U0l] at q1
   exact U7r (by rw[←q1,p.length_eq,U1z,hn])
  exact Qj nd (fun k hk=>hsub hk) hle
 refine U6w hT F.slot_set_iter (U2d F.slot_set_iter hT Ub ?_ (F.args_set_iter_1 _))
 unfold Builtin.«frozenset.__iter__» Builtin.Frozenset.slot0 slotArgs
 simp only[U61,U4w,U1n,↓reduceIte,bind_assoc,U1h,bne_self_eq_false]
 unfold Builtin.Frozenset.addrOf Builtin.Frozenset.sizeOf
 refine U0 (U0d ?_)
 try dsimp only
 refine U0 (U0d ?_)
 refine U0 (U0 (U6e ho hd hf (U0d ?_)))
 unfold setDrawn setsByText
 simp only[bind_assoc]
 refine U0 (U4c ho hd hf ?_)
 refine U0 (U4p ?_)
 refine U0 (U0d (U0 (U0d ?_)))
 show wpAny (model prog w) A.in1 (if (!(w.params.followText "set-order")&&(!t.plain&&decide (es.size>1)))=true then _ else _) _ _ s
 have len2:∀(ps:List Nat),ps.Perm (U0j es.size)->((ps.filterMap fun p=>es[p]?)).Perm es.toList/\∀(j:Nat),((ps.filterMap fun p=>es[p]?).map (·.2))[j]?=(ps[j]?).bind fun p=>(es[p]?).map fun(e:Int×Value)=>e.2:=fun ps p=>by
  refine⟨(p.filterMap _).trans (by rw[filterMap_getElem?_range]),?_⟩
  have all:∀(ps:List Nat),(∀p∈ps,p<es.size)->∀(j:Nat),((ps.filterMap fun p=>es[p]?).map (·.2))[j]?=(ps[j]?).bind fun p=>(es[p]?).map fun(e:Int×Value)=>e.2:=by
   intro ps
   induction ps with
   |nil=>intro _ j;simp
   |cons q r ih =>
    intro hq j
    have hq':q<es.size:=hq q U0i
    rw[List.filterMap_cons_some (b:=es[q]) (by simp[hq'])]
    cases j with
    |zero=>simp[hq']
    |succ j=>simpa using ih (fun p hp=>hq p (U0y _ hp)) j
  exact all ps fun q hq=>U2x.mp (p.mem_iff.mp hq)
 split
 .rename_i hc
  refine U0 (Og es.size (U0j es.size) s _ (by simp) fun ps d' p=>?_)
  obtain⟨p1,p2⟩:=len2 ps p
  refine U0 (U17 ?_ ?_)
  .refine U0 (wpAny_setEpoch_of (U0b _ ho) hd hf ?_)
   refine U0 (U17 (U0d ⟨_,rfl,"set_iterator",_,⟨_,U0n _ rfl,rfl⟩,Eo.lookup,?_⟩))
   refine h _ d' _ s.heap.objs.size ((ps.filterMap fun p=>es[p]?).map (·.2)) (fun b o' e=>U0b _ (U0b _ e)) ?_ (.inr (U0s _)) ?_ (fin _ p1)
   .show s.heap.objs.size<=(s.heap.push _).objs.size
    rw[U1s];exact U4i _
   .refine⟨?_,o,es,ep,t,_,U0b _ (U0b _ ho),hd,hf,?_,U0n _ rfl,.drawn ps ?_ (U0b _ (U0n _ rfl)) (fun q hq=>U2x.mp (p.mem_iff.mp hq)) p2⟩
    .show(s.heap.push _).objs.size≠S
     rw[U1s];exact U1l (U18 hlt)
    .rw[U0l,p1.length_eq,U1z]
    .show s.heap.objs.size≠(s.heap.push _).objs.size
     rw[U1s];exact U0u (U3k _)
  .show _<=sizeLine
   rw[U0v,U0l,p.length_eq,U49]
   exact fits_of_scanBound hb
 .rename_i hc
  refine U0 (U0d (U0 (wpAny_setEpoch_of ho hd hf ?_)))
  refine U0 (U17 (U0d ⟨_,rfl,"set_iterator",_,⟨_,U0n _ rfl,rfl⟩,Eo.lookup,?_⟩))
  by_cases ht':w.params.followText "set-order"=true
  .have pp:=bK (w.params.setOrder S ep) es
   have q:=h (s.heap.push (Iv (rawInt 0) 0 S es.size ep)) s.drawn s.heap.objs.size S ((pickOrder (w.params.setOrder S ep) es).toList.map (·.2)) (fun b o' e=>U0b _ e) (U0s _) (.inl rfl)
    ⟨U1l hlt,o,es,ep,t,_,U0b _ ho,hd,hf,by rw[U0l,pp.length_eq,U1z],U0n _ rfl,.text 0 ht' fun j=>by rw[U04,U36]⟩ (fin _ pp)
   exact q
  .have hf':w.params.followText "set-order"=false:=by simpa using ht'
   have hL:MN w=true:=by show(!_)=true;rw[hf'];rfl
   rw[hL] at ht
   have hdr:(!t.plain&&decide (es.size>1))=false:=by
    rw[hf'] at hc
    simpa using hc
   have q:=h (s.heap.push (Iv (rawInt 0) 0 S es.size ep)) s.drawn s.heap.objs.size S (es.toList.map (·.2)) (fun b o' e=>U0b _ e) (U0s _) (.inl rfl)
    ⟨U1l hlt,o,es,ep,t,_,U0b _ ho,hd,hf,by rw[U0l,U1z],U0n _ rfl,.plain hf' hdr ht fun j=>by rw[U04,U36]⟩ (fin _ (U6k _))
   exact q
end
end SetP
end
section
set_option maxRecDepth 100000
namespace SetP
open PySem PyProof.Rows
section
variable{prog:Program}{w:World}{A:Around}{E:Value->Shared->Prop}{s:Shared}
theorem Sd(first x:Value)(i:Nat)(S:Addr)(n ep:Nat):U3z (·.setIfInBounds 0 x) (Iv first i S n ep)=Iv x i S n ep:=rfl
theorem Zk(first:Value)(i:Nat)(S:Addr)(n ep:Nat):U3z (·.setIfInBounds 1 (rawInt ((i:Int)+1))) (Iv first i S n ep)=Iv first (i+1) S n ep:=rfl
theorem Py{S:Addr}{o:Obj}{es:Array (Int×Value)}{ep slot given:Nat}{t:SetTable}{Q:Option (Value×Nat)->Shared->Prop}(ho:s.heap.get? S=some o)(hd:o.data=.set es ep t)(hf:t.fits es.size=true)
  (z:w.params.followText "set-order"=true) (h:Q (((pickOrder (w.params.setOrder S ep) es)[given]?).map fun e=>(e.2,slot)) s):wpAny (model prog w) A (setNext S slot given ep) Q E s:=by
 unfold setNext
 refine U0 (U4c ho hd hf ?_)
 unfold setsByText
 refine U0 (U0 (U4p (U0d ?_)))
 show wpAny _ _ (if (w.params.followText "set-order")=true then _ else _) _ _ s
 rw[if_pos z]
 show wpAny _ _ (if (ep != ep)=true then _ else _) _ _ s
 rw[if_neg (by simp)]
 unfold setWalk
 refine U0 (U0 (U4c ho hd hf ?_))
 unfold setsByText
 refine U0 (U0 (U4p (U0d ?_)))
 show wpAny _ _ (if (w.params.followText "set-order")=true then _ else _) _ _ s
 rw[if_pos z]
 exact U0 (U4p (U0d (U0d h)))
theorem Ob{S:Addr}{o:Obj}{es:Array (Int×Value)}{ep slot given:Nat}{t:SetTable}{Q:Option (Value×Nat)->Shared->Prop}(ho:s.heap.get? S=some o)(hd:o.data=.set es ep t)(hf:t.fits es.size=true)
  (z:w.params.followText "set-order"=false) (z2:(!t.plain&&decide (es.size>1))=false) (z3:t.led=true)
  (h:Q (match es[U1q t.place slot]?,t.place[U1q t.place slot]? with|some (_,x),some j=>some (x,j+1)|_,_=>none) s):wpAny (model prog w) A (setNext S slot given ep) Q E s:=by
 unfold setNext
 refine U0 (U4c ho hd hf ?_)
 unfold setsByText
 refine U0 (U0 (U4p (U0d ?_)))
 show wpAny _ _ (if (w.params.followText "set-order")=true then _ else _) _ _ s
 rw[if_neg (by rw[z];simp)]
 show wpAny _ _ (if (!t.plain&&decide (es.size>1))=true then _ else _) _ _ s
 rw[if_neg (by rw[z2];simp)]
 refine U0 ?_
 show wpAny _ _ (if (!t.led&&!es.isEmpty)=true then _ else _) _ _ s
 rw[if_neg (by rw[z3];simp)]
 exact U0d (U0d h)
theorem Zb{it S T:Addr}{vs:List Value}{i:Nat}{v:Value}{Q:Option Value->Shared->Prop}(x:Ks w s.heap it S T vs i)(hv:vs[i]?=some v)
  (h:∀h',U03 it s.heap h'->Ks w h' it S T vs (i+1)->Q (some v) { s with heap:=h' }):wpAny (model prog w) A (pyNext (.ref it)) Q E s:=by
 obtain⟨ne,o,es,ep,t,first,ho,hd,hf,hl,hi,r⟩:=x
 have hT:s.TypeIs (.ref it) "set_iterator":=⟨_,hi,rfl⟩
 unfold pyNext
 refine U0 (U5c (wpAny_callSpecial?_slot (name:=U3 "__next__") hT Eo (U2d Eo hT MK ?_ (Mt _))))
 unfold Builtin.«set_iterator.__next__» slotArgs
 simp only[U61,U4w,U1n,↓reduceIte,U1h,bne_self_eq_false]
 refine U0 (U0d ?_)
 refine U0 (wpAny_fieldsOf hi rfl ?_)
 show wpAny _ _ (setEntries S >>= _) _ _ s
 refine U0 (U6e ho hd hf ?_)
 show wpAny _ _ (if ((es.size:Int) != (es.size:Int))=true then _ else _) _ _ s
 rw[if_neg (by simp)]
 have lt:i<vs.length:=(U0p.mp hv).1
 have upd1:∀{h1:Heap} {f1:Value},h1.get? it=some (Iv f1 i S es.size ep)->(h1.update it (U3z (·.setIfInBounds 1 (rawInt ((i:Int)+1))))).get? it=some (Iv f1 (i+1) S es.size ep):=fun {h1 f1} e=>by
  rw[←Zk f1 i S es.size ep];exact U1k _ e rfl
 have upd0:∀{h1:Heap} {f1 y:Value},h1.get? it=some (Iv f1 i S es.size ep)->(h1.update it (U3z (·.setIfInBounds 0 y))).get? it=some (Iv y i S es.size ep):=fun {h1 f1 y} e=>by
  rw[←Sd f1 y i S es.size ep];exact U1k _ e rfl
 cases r with
 |text k z1 z2 =>
  show wpAny _ _ (setNext S k.toNat i ep >>= _) _ _ s
  refine U0 (Py ho hd hf z1 ?_)
  have q:=z2 i
  rw[hv] at q
  cases hp:(pickOrder (w.params.setOrder S ep) es)[i]? with
  |none=>rw[hp] at q;cases q
  |some e =>
   rw[hp] at q
   have q':v=e.2:=U05 q
   subst q'
   refine U0 (U25 hi rfl (by simp) (U0 (U25 (upd0 hi) rfl (by simp) (U0d ⟨_,rfl,U0d (h _ ((U1r ..).trans (U1r ..)) ⟨ne,o,es,ep,t,_,?_,hd,hf,hl,upd1 (upd0 hi),.text _ z1 z2⟩)⟩))))
   rw[U02 _ _ ne,U02 _ _ ne];exact ho
 |plain z1 z2 z3 z4 =>
  show wpAny _ _ (setNext S (Int.toNat ((if i=0 then 0 else t.place.getD (i-1) 0+1:Nat):Int)) i ep >>= _) _ _ s
  rw[U2w]
  refine U0 (Ob ho hd hf z1 z2 z3.2 ?_)
  have psz:t.place.size=es.size:=by
   have q:=hf
   simp only[SetTable.fits,U00,beq_iff_eq] at q
   exact q.1
  have hb:U1q t.place (if i=0 then 0 else t.place.getD (i-1) 0+1)=i:=by
   cases i with
   |zero=>rw[if_pos rfl];exact T7 z3.1
   |succ i=>rw[if_neg (by omega)];exact T8 z3.1 (by omega)
  rw[hb]
  have q:=z4 i
  rw[hv] at q
  have hie:i<es.size:=by omega
  have hip:i<t.place.size:=by omega
  rw[U14 hie] at q ⊢
  rw[U14 hip]
  have q':v=es[i].2:=U05 q
  subst q'
  show wpAny _ _ (setField (.ref it) 0 (rawInt ((t.place[i]+1:Nat):Int)) >>= _) _ _ s
  refine U0 (U25 hi rfl (by simp) (U0 (U25 (upd0 hi) rfl (by simp) (U0d ⟨_,rfl,U0d (h _ ((U1r ..).trans (U1r ..)) ⟨ne,o,es,ep,t,_,?_,hd,hf,hl,upd1 (upd0 hi),?_⟩)⟩))))
  .rw[U02 _ _ ne,U02 _ _ ne];exact ho
  .have e:t.place[i]=t.place.getD (i+1-1) 0:=by
    rw[U22,Nat.add_sub_cancel,U14 hip];rfl
   have rr:∀hp:Heap,Road w hp es ep t S it T vs (i+1) (.int ((t.place[i]+1:Nat):Int) 0):=fun hp=>by
    have r1:Road w hp es ep t S it T vs (i+1) (.int ((if i+1=0 then 0 else t.place.getD (i+1-1) 0+1:Nat):Int) 0):=.plain z1 z2 z3 z4
    rw[if_neg (by omega),←e] at r1
    exact r1
   exact rr _
 |drawn ps z1 z2 z3 z4 =>
  show wpAny _ _ (seqItems? (.ref T) >>= _) _ _ s
  refine U0 (U19 z2 rfl ?_)
  have q:=z4 i
  rw[hv] at q
  cases hp:ps[i]? with
  |none=>rw[hp] at q;cases q
  |some p =>
   rw[hp] at q
   have hlt:p<es.size:=z3 p (U1j hp)
   have q2:some v=(es[p]?).map fun(e:Int×Value)=>e.2:=q
   rw[U14 hlt] at q2
   have q':v=es[p].2:=U05 q2
   subst q'
   have hg:((ps.map fun(p:Nat)=>rawInt p).toArray)[i]?=some (rawInt p):=by
    rw[U38,U04,hp];rfl
   show wpAny _ _ (match ((ps.map fun(p:Nat)=>rawInt p).toArray)[(i:Int).toNat]? with|some (.int place _)=>_|some _=>_|none=>_) _ _ s
   rw[U2w,hg]
   show wpAny _ _ (setNextDrawn S p ep >>= _) _ _ s
   unfold setNextDrawn
   refine U0 (U0 (U4c ho hd hf ?_))
   show wpAny _ _ (if (ep != ep)=true then _ else _) _ _ s
   rw[if_neg (by simp)]
   dsimp only
   rw[U14 hlt]
   refine U0d ?_
   refine U0 (U25 hi rfl (by simp) (U0d ⟨_,rfl,U0d (h _ (U1r ..) ⟨ne,o,es,ep,t,_,?_,hd,hf,hl,upd1 hi,.drawn ps z1 ?_ z3 z4⟩)⟩))
   .rw[U02 _ _ ne];exact ho
   .rw[U02 _ _ z1.symm];exact z2
theorem bT{it S T:Addr}{vs:List Value}{Q:Option Value->Shared->Prop}(hh:A.handled=none)(x:Ks w s.heap it S T vs vs.length)
  (h:∀h',U5e it s.heap h'->Q none { s with heap:=h' }):wpAny (model prog w) A (pyNext (.ref it)) Q E s:=by
 obtain⟨ne,o,es,ep,t,first,ho,hd,hf,hl,hi,r⟩:=x
 have hT:s.TypeIs (.ref it) "set_iterator":=⟨_,hi,rfl⟩
 unfold pyNext
 refine U0 (U5c (wpAny_callSpecial?_slot (name:=U3 "__next__") hT Eo (U2d Eo hT MK ?_ (Mt _))))
 unfold Builtin.«set_iterator.__next__» slotArgs
 simp only[U61,U4w,U1n,↓reduceIte,U1h,bne_self_eq_false]
 refine U0 (U0d ?_)
 refine U0 (wpAny_fieldsOf hi rfl ?_)
 show wpAny _ _ (setEntries S >>= _) _ _ s
 refine U0 (U6e ho hd hf ?_)
 show wpAny _ _ (if ((es.size:Int) != (es.size:Int))=true then _ else _) _ _ s
 rw[if_neg (by simp)]
 have stop:∀{s1:Shared},U5e it s.heap s1.heap->s1={ s with heap:=s1.heap }->wpAny (model prog w) A.in1 (newExc (.type "StopIteration") [] >>= fun e=>(raiseNew e:Sem Fin)) (fun fin s'=>∃v,fin=.done (.ret v)/\wpAny (model prog w) A (pure (some v)) Q E s')
   (fun e s'=>wpAny (model prog w) A (do if ←isInstance e (.type "StopIteration") then pure none else throw e) Q E s') s1:=fun {s1} eb es1=>by
  refine U0 ?_
  simp only[newExc,newTuple]
  refine U0 (U17 ?_ (by size_fits))
  refine U0 (m:=firstArgMember _ _) (wpAny_of_eq (a:=U13) (by first|rfl|(simp only[firstArgMember];rfl)) ?_)
  refine U17 ?_ (by size_fits)
  simp only[raiseNew]
  refine U0 (wpAny_handled ?_)
  rw[show A.in1.handled=none from hh]
  refine U0 (U0d (wpAny_throw ?_))
  refine U0 (U4q (T:="StopIteration") (b:=true) ⟨_,U0n _ rfl,rfl⟩ isSubtype_stop ?_)
  rw[if_pos rfl,es1]
  exact U0d (h _ ((eb.push _).push _))
 cases r with
 |text k z1 z2 =>
  show wpAny _ _ (setNext S k.toNat vs.length ep >>= _) _ _ s
  refine U0 (Py ho hd hf z1 ?_)
  have q:=z2 vs.length
  rw[U57 (U0s _)] at q
  cases hp:(pickOrder (w.params.setOrder S ep) es)[vs.length]? with
  |some e=>rw[hp] at q;cases q
  |none =>
   refine U0 (U25 hi rfl (by simp) ?_)
   exact stop (s1:={ s with heap:=s.heap.update it (U3z (·.setIfInBounds 2 U13)) }) (U1r ..).extBut rfl
 |plain z1 z2 z3 z4 =>
  generalize hsl:(if vs.length=0 then 0 else t.place.getD (vs.length-1) 0+1:Nat)=sl
  show wpAny _ _ (setNext S (Int.toNat (sl:Int)) vs.length ep >>= _) _ _ s
  rw[U2w]
  refine U0 (Ob ho hd hf z1 z2 z3.2 ?_)
  have psz:t.place.size=es.size:=by
   have q:=hf
   simp only[SetTable.fits,U00,beq_iff_eq] at q
   exact q.1
  have hb:U1q t.place sl=vs.length:=by
   rw[←hsl]
   generalize vs.length=n at hl
   cases n with
   |zero=>rw[if_pos rfl];exact T7 z3.1
   |succ i=>rw[if_neg (by omega)];exact T8 z3.1 (by omega)
  rw[hb,hl,Array.getElem?_eq_none (U0s _)]
  refine U0 (U25 hi rfl (by simp) ?_)
  exact stop (s1:={ s with heap:=s.heap.update it (U3z (·.setIfInBounds 2 U13)) }) (U1r ..).extBut rfl
 |drawn ps z1 z2 z3 z4 =>
  show wpAny _ _ (seqItems? (.ref T) >>= _) _ _ s
  refine U0 (U19 z2 rfl ?_)
  have q:=z4 vs.length
  rw[U57 (U0s _)] at q
  have hg:((ps.map fun(p:Nat)=>rawInt p).toArray)[vs.length]?=none:=by
   rw[U38,U04]
   cases hp:ps[vs.length]? with
   |none=>rfl
   |some p =>
    rw[hp] at q
    have hlt:p<es.size:=z3 p (U1j hp)
    have q2:none=(es[p]?).map fun(e:Int×Value)=>e.2:=q
    rw[U14 hlt] at q2
    cases q2
  show wpAny _ _ (match ((ps.map fun(p:Nat)=>rawInt p).toArray)[(vs.length:Int).toNat]? with|some (.int place _)=>_|some _=>_|none=>_) _ _ s
  rw[U2w,hg]
  refine U0 (U25 hi rfl (by simp) ?_)
  have e0:(s.heap.update it (U3z (·.setIfInBounds 0 (rawInt 0)))).get? it=some (Iv (rawInt 0) vs.length S es.size ep):=by
   rw[←Sd (.ref T) (rawInt 0) vs.length S es.size ep];exact U1k _ hi rfl
  refine U0 (U25 e0 rfl (by simp) ?_)
  exact stop (s1:={ s with heap:=(s.heap.update it (U3z (·.setIfInBounds 0 (rawInt 0)))).update it (U3z (·.setIfInBounds 2 U13)) }) ((U1r ..).trans (U1r ..)).extBut rfl
end
end SetP
end
section
set_option maxRecDepth 100000
namespace SetP
open PySem PyProof.Rows
theorem Mr:Slot "set_iterator" "__iter__" "set_iterator.__iter__" :=
 .of (owner:="set_iterator") (n:="__iter__") (by rw[typeLookup_type,builtinLookup_eq_fast];kernel_rfl) (by decide +kernel) (by decide +kernel) (by decide +kernel)
  (by first|exact .inl (by decide +kernel)|exact .inr (by decide +kernel)) (by rw[isSubtype_type];kernel_rfl)
theorem Rj:entryFor table "set_iterator.__iter__"=some Builtin.«dict_keyiterator.__iter__» :=
 entryFor_alias (id':="dict_keyiterator.__iter__") (by kernel_rfl) rfl (by decide +kernel) (by kernel_rfl)
theorem TJ(a:Value):argsOk "set_iterator.__iter__" ⟨[a],[]⟩:=by unfold argsOk;kernel_rfl
theorem Zg:typeLookup (.type "set") "__len__"=pure (some (.builtin "set.__len__")):=F.slot_set_len.lookup
section
variable{prog:Program}{w:World}{A:Around}{E:Value->Shared->Prop}{s:Shared}
theorem jV(hh:A.handled=none)(it S T:Addr)(vs:List Value):Walks prog w A it [it,S,T] [it] vs.length (fun i v=>vs[i]?=some v) (fun i h=>Ks w h it S T vs i) where
 sub:=fun b hb=>by simp at hb;subst hb;simp
 frame:=fun i h h' x k=>x.keep fun b hb o e=>k b hb o e
 item:=fun i s Q E hi x hQ=>by
  have hv:vs[i]?=some vs[i]:=U0h hi
  exact Zb x hv fun h' sb x'=>hQ _ h' s.toks hv x' fun b o hb e=>(sb.2 b (by simpa using hb)).trans e
 done:=fun s Q E x hQ=>bT hh x fun h' eb=>hQ h' s.toks fun b o hb e=>eb b o (by simpa using hb) e
 self:=fun i s Q E x hQ=>by
  obtain⟨_,o,es,ep,t,first,_,_,_,_,hi,_⟩:=x
  have hT:s.TypeIs (.ref it) "set_iterator":=⟨_,hi,rfl⟩
  refine U6w hT Mr (U2d Mr hT Rj ?_ (TJ _))
  show wpAny _ _ (ret (.ref it)) _ _ s
  exact U0d ⟨_,rfl,"set_iterator",_,hT,Eo.lookup,hQ⟩
theorem rP{S:Addr}{Q:Bool->Shared->Prop}(hT:s.TypeIs (.ref S) "set")(h:Q false s):wpAny (model prog w) A (U3g (.ref S)) Q E s:=by
 unfold U3g
 refine U0 (U5m hT Zg ?_)
 have hs:splitId "set.__len__"=some ("set","__len__"):=by decide +kernel
 dsimp only
 rw[hs]
 dsimp only
 refine U0 (U4q hT sub_set_self ?_)
 simp only[U4w,U1n,if_false]
 refine U0 (U4n hT ?_)
 exact U0d h
theorem cO{S:Addr}{ds:List Int}{Q:List Value->Shared->Prop}(hh:A.handled=none)(hS:SetT prog w s.heap S ds)(h64:ds.length<64)
  (h:∀h' d' tk vs ns,(∀b o,s.heap.get? b=some o->h'.get? b=some o)->IntsAre vs ns->ns.Perm ds->Q vs { s with heap:=h',drawn:=d',toks:=tk }):wpAny (model prog w) A (collect (.ref S)) Q E s:=by
 obtain⟨o,ho,hex⟩:∃o,s.heap.get? S=some o/\o.ExactSet:=by
  obtain⟨_,o,es,ep,t,ho,hex,_⟩:=hS
  exact⟨o,ho,hex⟩
 have hlt:=U0k ho
 unfold collect
 refine U0 (wpAny_runValue (codeAny_builtin F.entry_proto_collect ?_))
 rw[U2g F.plain_proto_collect _]
 show wpAny _ A.in1 (newList [] >>= fun l=>again (.builtin "list.__iadd__" ⟨[l,.ref S],[]⟩)) _ _ s
 refine U0 (U17 (U0d ⟨plainId_quiet F.plain_list_iadd _,codeAny_builtin F.entry_list_iadd ?_⟩))
 rw[U2g F.plain_list_iadd _]
 generalize hL:s.heap.objs.size=L
 generalize hg:s.heap.push { cls:=.type "list",dict:=none,data:=.seq ([]:List Value).toArray }=g
 have k1:∀b o,s.heap.get? b=some o->g.get? b=some o:=fun b o e=>hg ▸ U0b _ e
 have hLg:g.get? L=some { cls:=.type "list",data:=.seq ([]:List Value).toArray }:=hg ▸ hL ▸ U0n _ rfl
 have hsz:g.objs.size=L+1:=by rw[←hg,U1s,hL]
 have hLS:L≠S:=by rw[←hL];exact U1l hlt
 have hT:U4x { s with heap:=g } (.ref S) "set":=⟨o,k1 _ _ ho,hex.1⟩
 show wpAny _ A.in1 (U2f (.ref L) (.ref S) (.ref L)) _ _ _
 unfold U2f
 refine U0 (U4n hT ?_)
 have h1:U3b (.ref L) (.ref S)=false:=by simp[U3b,hLS]
 have h2:(U2v "set"==U2v "list")=false:=by decide
 have h3:(U2v "set"==U2v "tuple")=false:=by decide
 simp only[h1,h2,h3,U4v,U1n,if_false]
 refine U0 (rM (s:={ s with heap:=g }) (hS.sameBut fun o e=>k1 _ _ e) fun g2 d2 it T vs k2 hit hTT x ⟨ns,hi,hp⟩=>?_)
 have hT2:U4x { s with heap:=g2,drawn:=d2 } (.ref S) "set":=⟨o,k2 _ _ (k1 _ _ ho),hex.1⟩
 refine U0 (U15 (rP hT2 ?_))
 have hit':L<it:=by
  have hit2:g.objs.size<=it:=hit
  omega
 show wpAny _ A.in1 (rule "list.extend.makes-room" >>= fun _=>U53 (.ref L) >>= fun _=>again (.builtin "list.extend.loop" ⟨[.ref L,.ref it,.ref L],[]⟩)) _ _ _
 refine U0 (U4h (U0 ?_))
 have e1:=k2 _ _ hLg
 show wpAny _ A.in1 (updateSeq L (·.push .none) >>= fun _=>updateSeq L (·.pop)) _ _ _
 refine U0 (U2r e1 rfl ?_)
 have e2:=U1k (U1f (·.push U13)) e1 rfl
 refine U2r e2 rfl ?_
 have e3:=U1k (U1f (·.pop)) e2 rfl
 have oth:∀b o,b≠L->g2.get? b=some o->((g2.update L (U1f (·.push U13))).update L (U1f (·.pop))).get? b=some o:=fun b o hb e=>(U02 _ _ (U1p hb)).trans ((U02 _ _ (U1p hb)).trans e)
 have hvn:vs.length=ns.length:=IntsAre.length hi
 have hv64:vs.length<64:=by rw[hvn,hp.length_eq];exact h64
 have hz:vs.length<=sizeLine:=by rw[sizeLine_eq];omega
 have nin:L ∉ [it,S,T]:=fun z=>by
  simp only[U0w,U2t,or_false] at z
  rcases z with z|z|z
  .omega
  .exact hLS z
  .rcases hTT with q|q
   .exact hLS (z.trans q)
   .have q':g.objs.size<=T:=q
    omega
 have W:=(jV (prog:=prog) (w:=w) (A:=A.in1) (by simpa using hh) it S T vs).toS
 have x3:Ks w ((g2.update L (U1f (·.push U13))).update L (U1f (·.pop))) it S T vs 0:=x.keep fun b hb o e=>oth b o (fun z=>nin (z ▸ hb)) e
 refine U0d ⟨plainId_quiet F.plain_extend_loop _,codeAny_extend_loopS W hz L nin _ vs.length 0 _ _ _ (by omega) (U3h _) x3 e3 (ItemsOf.nil _) fun s' acc c hm hS' hacc=>?_⟩
 show wpAny _ A (load L >>= _) _ _ s'
 refine U0 (wpAny_load hS' ?_)
 have eacc:acc.toList=vs:=by
  apply List.ext_getElem?
  intro j
  rw[U36]
  cases hj:acc[j]? with
  |some v=>exact(hacc.2 j v hj).symm
  |none =>
   have:acc.size<=j:=by simpa using hj
   rw[hacc.1] at this
   exact(U57 this).symm
 obtain⟨h',g',d',tk,os'⟩:=s'
 have q1:g'=s.gens:=hm.gens
 have q2:os'=s.os:=hm.os
 subst q1 q2
 refine U0d ?_
 show Q acc.toList _
 rw[eacc]
 refine h h' d' tk vs ns (fun b o e=>hm.heap b o ?_ (oth b o ?_ (k2 _ _ (k1 _ _ e)))) hi hp
 .have hb:b<L:=by rw[←hL];exact U0k e
  intro z
  rcases U0w.mp z with z|z
  .exact absurd z (U0u hb)
  .exact absurd (U0z.mp z) (U0u (U2q hb hit'))
 .exact U0u (by rw[←hL];exact U0k e)
theorem T9{h:Heap}{a:Addr}{vs:List Value}{n:Nat}{out:Array Value}(ho:h.get? a=some (seqObj "list" vs.toArray n)):∃n',(sortedHeap h a vs out).get? a=some (seqObj "list" out n'):=by
 unfold sortedHeap
 have q1:=get?_update_seq ho (fun _=>#[])
 exact⟨_,get?_update_seq (U0b _ (U0b _ q1)) (fun _=>out)⟩
theorem Rf{h:Heap}{a b:Addr}{vs:List Value}{out:Array Value}{o:Obj}(hb:b≠a)(ho:h.get? b=some o):(sortedHeap h a vs out).get? b=some o:=by
 unfold sortedHeap
 rw[U02 _ _ (U1p hb)]
 exact U0b _ (U0b _ ((U02 _ _ (U1p hb)).trans ho))
theorem eO{S:Addr}{ds:List Int}{Q:Value->Shared->Prop}(hh:A.handled=none)(hS:SetT prog w s.heap S ds)(h64:ds.length<64)
  (h:∀h' d' tk l vs ns n,(∀b o,s.heap.get? b=some o->h'.get? b=some o)->(∀b o,s.heap.get? b=some o->b<l)->h'.get? l=some { cls:=.type "list",data:=.seq vs n }->IntsAre vs.toList ns->ns.Perm ds->ns.Pairwise (·<=·)->Q (.ref l) { s with heap:=h',drawn:=d',toks:=tk }) :
  wpAny (model prog w) A (call (.builtin "sorted") [.ref S]) Q E s:=by
 refine Calls.call_function_entry kind_sorted plain_sorted entry_sorted (args_sorted1 _) ?_
 unfold Builtin.«sorted»
 refine U0 (m:=checkCount "sorted" 1 1 _) (U0d ?_)
 refine U0 (cO (A:=A.in1) (by simpa using hh) hS h64 fun h1 d1 t1 vs ns k1 hi hp=>?_)
 have hv64:vs.length<64:=by rw[show vs.length=ns.length from IntsAre.length hi,hp.length_eq];exact h64
 refine U0 (wpAny_newList ?_)
 have hoL:(h1.push (seqObj "list" vs.toArray 0)).get? h1.objs.size=some (seqObj "list" vs.toArray 0):=U0n _ rfl
 show wpAny _ _ _ _ _ { s with heap:=h1.push (seqObj "list" vs.toArray 0),drawn:=d1,toks:=t1 }
 refine U0 (U15 (U2d slot_list_sort ⟨_,hoL,rfl⟩ entry_list_sort (list_sort_tree hoL hi hv64 fun out ns' a1 a2 a3=>⟨_,rfl,?_⟩) (args_list_sort _)))
 refine U0d ⟨_,rfl,?_⟩
 have old:∀b o,s.heap.get? b=some o->b≠h1.objs.size:=fun b o e=>U0u (U0k (k1 b o e))
 obtain⟨n',e'⟩:=T9 (out:=out) hoL
 refine h _ d1 t1 h1.objs.size out ns' n' (fun b o e=>Rf (old b o e) (U0b _ (k1 b o e))) (fun b o e=>U0k (k1 b o e)) e' a1 (a2.trans hp) a3
end
end SetP
end
section
namespace L2
open PySem PySem.Spec PyProof.Rows
def PTs(X:Cx)(ifs:List Expr)(t:TT):Prop :=
 ∀(pins:List (Addr×Obj))(s:Shared)(σ:St)(H:Hp)(Q:Bool->Hp->Prop),Inv X pins σ H s->t σ H Q ->
  wpAny (model X.prog X.w) X.A (forIn ifs true fun c r=>if r=true then do let ok ←isTrue c X.env (eval c X.env);pure (U6b ok) else pure (U6b r)) (TP X pins σ Q) X.xe s
def Gh:TT:=fun _ H Q=>Q true H
theorem jx{X:Cx}:PTs X [] Gh:=fun _ _ _ H _ I h=>U0d ⟨H,I,h⟩
theorem jw{X:Cx}{c:Expr}{t:TT}(h:PT X c t):PTs X [c] t:=by
 intro pins s σ H Q I hw
 rw[U39]
 simp only[if_true]
 refine U0 (U0 (thn (h pins s σ H Q I hw) fun b s1 hb=>U0d ?_))
 show wpAny _ _ (pure b) _ _ _
 exact U0d hb
def Low(k:Nat)(g:TG):Prop:=∀x σ H Q,g x σ H Q->g x σ H fun σ' H'=>Q σ' H'/\σ'.length=σ.length/\∀j,k<=j->σ'[j]?=σ[j]?
def Vr(k:Nat)(g:TGs):Prop:=∀x σ H Q,g x σ H Q->g x σ H fun σ' H'=>Q σ' H'/\σ'.length=σ.length/\∀j,k<=j->σ'[j]?=σ[j]?
theorem gJ{k i:Nat}(h:i<k):Low k (Vg i):=fun x σ H Q q =>
 ⟨q,U40 ..,fun j hj=>U23 (by omega)⟩
theorem lV{k:Nat}:Vr k dF:=fun _ _ _ _ ⟨e,q⟩=>⟨e,q,rfl,fun _ _=>rfl⟩
theorem gM{k:Nat}{t:TG}{u:TGs}(ht:Low k t)(hu:Vr k u)(mono:∀x σ H Q Q',(∀σ' H',Q σ' H'->Q' σ' H')->t x σ H Q->t x σ H Q')
  (monoU:∀x σ H Q Q',(∀σ' H',Q σ' H'->Q' σ' H')->u x σ H Q->u x σ H Q'):Vr k (ZF t u):=fun x σ H Q ⟨v,r,e,q⟩=>by
 refine⟨v,r,e,mono v σ H _ _ (fun σ1 H1 z=>?_) (ht v σ H _ q)⟩
 obtain⟨z1,z2,z3⟩:=z
 exact monoU r σ1 H1 _ _ (fun σ2 H2 y=>⟨y.1,y.2.1.trans z2,fun j hj=>(y.2.2 j hj).trans (z3 j hj)⟩) (hu r σ1 H1 _ z1)
theorem lU{K:U0a}{n k:Nat}{t:TGs}(h:Vr k t):Low k (dD K n t):=fun x σ H Q ⟨a,xs,e,hs,hl,q⟩=>⟨a,xs,e,hs,hl,h xs σ H Q q⟩
def compLook(sc:Scope)(N N2:List Str)(k:Nat)(caps:List Nat)(scope:Scope):Bool :=
 decide (scope.kind=.function)&&scope.names.all (fun y=>decide (y.2≠.cell)||decide (scope.names.lookup y.1=some .cell))&&scope.names.all (fun y=>decide (y.2≠.local)||decide (scope.names.lookup y.1=some .local)) &&
 scope.names.all (fun y=>decide (y.2≠.free)||decide (sc.names.lookup y.1=some .cell)||decide (sc.names.lookup y.1=some .free))&&decide N2.Nodup&&decide (N2.length=k+caps.length) &&
 (U0j caps.length).all fun j=>match caps[j]?,N2[k+j]? with
  |some i,some y=>decide (N[i]?=some y)&&decide (scope.names.lookup y=some .free)
  |_,_=>false
structure Ez(sc:Scope)(N N2:List Str)(k:Nat)(caps:List Nat)(scope:Scope):Prop where
 kind:scope.kind=.function
 one:∀y∈scope.names,y.2=.cell->scope.names.lookup y.1=some .cell
 loc:∀y∈scope.names,y.2=.local->scope.names.lookup y.1=some .local
 free:∀y∈scope.names,y.2=.free->sc.names.lookup y.1=some .cell∨sc.names.lookup y.1=some .free
 nd:N2.Nodup
 len:N2.length=k+caps.length
 cap:∀j i,caps[j]?=some i->∃y,N2[k+j]?=some y/\N[i]?=some y/\scope.names.lookup y=some .free
theorem Ez.of{sc:Scope}{N N2:List Str}{k:Nat}{caps:List Nat}{scope:Scope}(h:compLook sc N N2 k caps scope=true):Ez sc N N2 k caps scope:=by
 unfold compLook at h
 simp only[U00,U3l,U5l,decide_eq_true_eq] at h
 obtain⟨⟨⟨⟨⟨⟨h1,h2⟩,h3⟩,h4⟩,h5⟩,h6⟩,h7⟩:=h
 refine⟨h1,fun y hy e=>?_,fun y hy e=>?_,fun y hy e=>?_,h5,h6,fun j i e=>?_⟩
 .rcases h2 y hy with z|z
  .exact absurd e z
  .exact z
 .rcases h3 y hy with z|z
  .exact absurd e z
  .exact z
 .rcases h4 y hy with (z|z)|z
  .exact absurd e z
  .exact .inl z
  .exact .inr z
 .have hj:j∈U0j caps.length:=U2x.mpr (U0p.mp e).1
  have q:=h7 j hj
  rw[e] at q
  cases hy:N2[k+j]? with
  |none=>rw[hy] at q;exact absurd q (by simp)
  |some y =>
   rw[hy] at q
   simp only[U00,decide_eq_true_eq] at q
   exact⟨y,rfl,q.1,q.2⟩
theorem Pz{env:Env}:∀{names:List (Str×NameKind)} {x:Str},names.lookup x=some .free ->
  (names.map fun(n,k)=>if (k==U2e&&env.scope.kind==.function&&env.kindOf n==some .cell) then (n,U3i) else (n,k)).lookup x=some .cell ∨
  (names.map fun(n,k)=>if (k==U2e&&env.scope.kind==.function&&env.kindOf n==some .cell) then (n,U3i) else (n,k)).lookup x=some .free
 |[],_,h=>by simp at h
 |(n,k)::r,x,h=>by
  have ih:=@Pz env r x
  show U7f x ((if (k==U2e&&env.scope.kind==.function&&env.kindOf n==some .cell)=true then (n,U3i) else (n,k))::_)=_∨U7f x ((if (k==U2e&&env.scope.kind==.function&&env.kindOf n==some .cell)=true then (n,U3i) else (n,k))::_)=_
  cases hx:x==n with
  |true =>
   simp only[U1x,hx] at h
   cases h
   by_cases hc:(U2e==U2e&&env.scope.kind==.function&&env.kindOf n==some .cell)=true
   .rw[if_pos hc];left;simp only[U1x,hx]
   .rw[if_neg hc];right;simp only[U1x,hx]
  |false =>
   simp only[U1x,hx] at h
   by_cases hc:(k==U2e&&env.scope.kind==.function&&env.kindOf n==some .cell)=true
   .rw[if_pos hc];simp only[U1x,hx];exact ih h
   .rw[if_neg hc];simp only[U1x,hx];exact ih h
theorem Q0{env:Env}:∀{names:List (Str×NameKind)} {x:Str},
  ((names.map fun(n,k)=>if (k==U2e&&env.scope.kind==.function&&env.kindOf n==some .cell) then (n,U3i) else (n,k)).lookup x=some .cell ∨
   (names.map fun(n,k)=>if (k==U2e&&env.scope.kind==.function&&env.kindOf n==some .cell) then (n,U3i) else (n,k)).lookup x=some .free)->names.lookup x=some .free∨names.lookup x=some .cell
 |[],_,h=>by simp at h
 |(n,k)::r,x,h=>by
  have ih:=@Q0 env r x
  cases hx:x==n with
  |true =>
   simp only[U1x,hx]
   by_cases hf:k=.free
   .rw[hf];exact .inl rfl
   .have hkf:(k==U2e)=false:=by
     cases k<;>first|rfl|exact absurd rfl hf
    simp only[U0t,hkf,U7h,U1n,if_false,U1x,hx] at h
    rcases h with z|z
    .exact .inr z
    .exact absurd (U05 z) hf
  |false =>
   simp only[U1x,hx]
   refine ih ?_
   have h':U7f x ((if (k==U2e&&env.scope.kind==.function&&env.kindOf n==some .cell)=true then (n,U3i) else (n,k))::List.map _ r)=some .cell∨U7f x ((if (k==U2e&&env.scope.kind==.function&&env.kindOf n==some .cell)=true then (n,U3i) else (n,k))::List.map _ r)=some .free:=h
   by_cases hcc:(k==U2e&&env.scope.kind==.function&&env.kindOf n==some .cell)=true
   .rw[if_pos hcc] at h';simp only[U1x,hx] at h';exact h'
   .rw[if_neg hcc] at h';simp only[U1x,hx] at h';exact h'
theorem Gy:∀(names:List (Str×NameKind))(n:Nat)(acc:List (Str×Addr)),cellsFrom n names acc=cellsFrom n names []++acc
 |[],_,_=>rfl
 |(x,k)::r,n,acc=>by
  unfold cellsFrom
  split
  .rw[Gy r (n+1) ((x,n)::acc),Gy r (n+1) [(x,n)],U5x];rfl
  .exact Gy r n acc
theorem Kl:∀(names:List (Str×NameKind))(n:Nat){x:Str}{c:Addr},(x,c)∈cellsFrom n names []->(x,U3i)∈names
 |[],_,_,_,h=>by simp[cellsFrom] at h
 |(y,k)::r,n,x,c,h=>by
  unfold cellsFrom at h
  split at h
  .rename_i hk
   rw[Gy] at h
   rcases U10.mp h with z|z
   .exact U0y _ (Kl r (n+1) z)
   .have z':(x,c)=(y,n):=by simpa using z
    have hk':k=.cell:=by simpa using hk
    cases z'
    rw[hk'];exact U0i
  .exact U0y _ (Kl r n h)
theorem Ze{cs ds:List (Str×Addr)}{x:Str}{c:Addr}(h:(cs++ds).lookup x=some c):cs.lookup x=some c∨(cs.lookup x=none/\ds.lookup x=some c):=by
 rw[U42] at h
 cases e:cs.lookup x with
 |none=>rw[e] at h;exact .inr ⟨rfl,h⟩
 |some d=>rw[e] at h;exact .inl h
theorem Xv{M:Model}{A:Around}{E:Value->Shared->Prop}{s:Shared}{scope:Scope}{globals:Addr}{cl:List (Str×Addr)}{qual:Str}{env:Env}{Q:Env->Shared->Prop}
  (hQ:∀h':Heap,h'.Ns s.heap.objs.size (fun _=>none)->(∀b o,s.heap.get? b=some o->h'.get? b=some o)->CellsOk h' (s.heap.objs.size+1) (cellsFrom (s.heap.objs.size+1) scope.names []) ->
   Q { scope,locals:=s.heap.objs.size,globals,cells:=cellsFrom (s.heap.objs.size+1) scope.names []++cl,qual,func:=none,code:=env.code,frame:=env.frame,builtins:=env.builtins } { s with heap:=h' }) :
  wpAny M A (newFunctionEnv scope globals cl [] qual none .none (some env)) Q E s:=by
 simp only[newFunctionEnv,Option.isSome_some,if_true]
 refine U0 (wpAny_alloc ?_)
 refine U0 (wpAny_layCells _ (fun name kind cells=>by cases hkc:kind==U3i<;>simp[hkc]) _ _ _ _ ?_)
 rw[show({ s with heap:=s.heap.push { cls:=.type "dict",data:=.dict #[] } }:Shared).heap.objs.size=s.heap.objs.size+1 from U1s ..]
 have ok:=cellsFrom_ok scope.names (s.heap.push { cls:=.type "dict",data:=.dict #[] }) (s.heap.objs.size+1) [] ⟨fun _ _ hm=>(nomatch hm),U6u⟩ (by rw[U1s];exact U0s _)
 rw[U1s] at ok
 rw[Gy]
 refine U0 ?_
 rw[U5s]
 refine U0d (U0d (hQ _ ?_ ?_ ok))
 .exact(Heap.Ns.new s.heap (.type "dict")).keeps (pushCells_keeps _ _)
 .exact fun b o e=>pushCells_keeps _ _ b o (U0b _ e)
theorem T4{scope:Scope}{env:Env}(h:∀y∈scope.names,y.2=.free->∃c,env.cells.lookup y.1=some c) :
  ∃cl,closureFor scope env=pure cl/\(∀x c,cl.lookup x=some c->env.cells.lookup x=some c)/\∀x,scope.names.lookup x=some .free->∃c,cl.lookup x=some c:=by
 have all:∀(names:List (Str×NameKind))(cs:List (Str×Addr)),(∀y∈names,y.2=.free->∃c,env.cells.lookup y.1=some c)->(∀x c,cs.lookup x=some c->env.cells.lookup x=some c) ->
   ∃cl,(forIn names cs (fun(x:Str×NameKind) (cs:List (Str×Addr))=>(match x with
     |(name,kind)=>if (kind==U2e)=true then (cellOf env name >>= fun a=>pure (U6b ((name,a)::cs))) else pure (U6b cs):Sem (ForInStep (List (Str×Addr)))) ):Sem (List (Str×Addr)))=pure cl /\
    (∀x c,cl.lookup x=some c->env.cells.lookup x=some c)/\(∀x c,cs.lookup x=some c->∃c',cl.lookup x=some c')/\∀x,names.lookup x=some .free->∃c,cl.lookup x=some c:=by
  intro names
  induction names with
  |nil=>intro cs _ hc;exact⟨cs,rfl,hc,fun x c e=>⟨c,e⟩,fun x e=>by simp at e⟩
  |cons y r ih =>
   intro cs hy hc
   obtain⟨n,kd⟩:=y
   by_cases hk:kd=.free
   .subst hk
    obtain⟨c,hcn⟩:=hy (n,.free) U0i rfl
    have hc':∀x c',((n,c)::cs).lookup x=some c'->env.cells.lookup x=some c':=fun x c' e=>by
     rw[U1x] at e
     cases hx:x==n with
     |true =>
      rw[hx] at e
      have hxn:x=n:=by simpa using hx
      rw[hxn,hcn];exact e
     |false=>rw[hx] at e;exact hc x c' e
    obtain⟨cl,e1,e2,e3,e4⟩:=ih ((n,c)::cs) (fun z hz=>hy z (U0y _ hz)) hc'
    refine⟨cl,?_,e2,fun x c' e=>?_,fun x e=>?_⟩
    .rw[U39]
     have hb:(U2e==U2e)=true:=rfl
     simp only[hb,if_true,cellOf,hcn,pure_bind]
     exact e1
    .by_cases hx:(x==n)=true
     .exact e3 x c (by rw[U1x,hx])
     .have hx':(x==n)=false:=by simpa using hx
      exact e3 x c' (by rw[U1x,hx'];exact e)
    .rw[U1x] at e
     cases hx:x==n with
     |true=>exact e3 x c (by rw[U1x,hx])
     |false=>rw[hx] at e;exact e4 x e
   .have hb:(kd==U2e)=false:=by
     cases kd<;>first|rfl|exact absurd rfl hk
    obtain⟨cl,e1,e2,e3,e4⟩:=ih cs (fun z hz=>hy z (U0y _ hz)) hc
    refine⟨cl,?_,e2,e3,fun x e=>?_⟩
    .rw[U39]
     simp only[hb,U1n,if_false,pure_bind]
     exact e1
    .rw[U1x] at e
     cases hx:x==n with
     |true=>rw[hx] at e;exact absurd (U05 e) hk
     |false=>rw[hx] at e;exact e4 x e
 obtain⟨cl,e1,e2,_,e4⟩:=all scope.names [] h (fun x c e=>by simp at e)
 refine⟨cl,?_,e2,e4⟩
 unfold closureFor
 rw[←bind_pure (pure cl:Sem _),←e1]
abbrev Df(X:Cx)(N2:List Str)(scope:Scope)(cl:List (Str×Addr))(C:Addr)(s:Shared)(H:Hp)(ex:List Addr):Cx :=
 { X with N:=N2,s₀:=s,H₀:=H,env:=compEnvC scope cl C X.env,outer:=X.stack,ex:=ex,fn:=fun x=>decide (scope.names.lookup x=some .cell),pn:=[],xe:=fun _ _=>False }
def Io(k:Nat)(caps:List Nat)(σ:St):St:=U0m k none++caps.map fun j=>(σ[j]?).join
def v7(J:It)(k:Nat)(caps:List Nat)(σ:St)(g:TG)(tt:TT)(te:TE)(Q:VK)(H1:Hp):Prop:=∃W:Nat->Nat->List V->Hp->Prop,(∃m,W 0 m [] H1)/\∀i m ys H,W i m ys H ->
 (J.stop i H/\∀p,H p=none->Q (.ref p) (upd H p (.lst ys))) ∨
 (J.go i H/\ys.length<sizeLine/\∀x H',J.yld i H x H'->g x (Io k caps σ) H' fun σ2 H2=>tt σ2 H2 fun b H3 =>
  if b=true then te σ2 H3 fun v H4=>∃m',m'<m/\W (i+1) m' (ys++[v]) H4 else ∃m',m'<m/\W (i+1) m' ys H3)
def Z5(k:Nat)(caps:List Nat)(wi:TI)(g:TG)(tt:TT)(te:TE):TE:=fun σ H Q=>wi σ H fun J H1=>v7 J k caps σ g tt te Q H1
theorem Yp{k:Nat}{caps:List Nat}{σ:St}{i:Nat}{v:V}(h:(Io k caps σ)[i]?=some (some v)):∃j a,i=k+j/\caps[j]?=some a/\σ[a]?=some (some v):=by
 unfold Io at h
 by_cases hi:i<k
 .rw[U1d (by simpa using hi),U30,if_pos hi] at h
  cases h
 .rw[U2a (by simpa using hi),U1e,U04] at h
  cases e:caps[i-k]? with
  |none=>rw[e] at h;cases h
  |some a =>
   rw[e] at h
   have h':(σ[a]?).join=some v:=U05 h
   refine⟨i-k,a,by omega,e,?_⟩
   cases e2:σ[a]? with
   |none=>rw[e2] at h';cases h'
   |some o =>
    rw[e2] at h'
    cases o with
    |none=>cases h'
    |some v' =>
     have h'':some v'=some v:=h'
     rw[h'']
theorem K6{a b n:Nat}(h1:a<n)(h2:n<=b):a≠b:=by omega
section
variable{X:Cx}{pins:List (Addr×Obj)}{σ:St}
theorem Inv.but{H:Hp}{s:Shared}{C:Addr}{h':Heap}(I:Inv X pins σ H s)(hb:U03 C s.heap h')(hn:H C=none)(hL:C≠X.env.locals)(h1:X.s₀.heap.objs.size<=C)(h2:∀x c,X.env.cells.lookup x=some c->c≠C)(h3:∀p∈X.pn++pins,p.1≠C) :
  Inv X pins σ H { s with heap:=h' }:=I.turned (t':=s.toks) (fun b o hne e=>(hb.2 b hne).trans e) hn hL (.inr h1) h2 h3
theorem Sy{s2:Shared}{H2:Hp}{elt tg iter:Expr}{ifs:List Expr}{scope:Scope}{pos:Pos}{N2:List Str}{k:Nat}{caps:List Nat}{cl:List (Str×Addr)}{g:TG}{tt:TT}{te:TE}{E:Value->Shared->Prop}
  {it:Addr} {fp:List Addr} {tn:Nat->Heap->Prop} {J:It} {RR:Value->Addr->Result->Shared->Prop} {Qe:List V->Hp->Prop} {W:Nat->Nat->List V->Hp->Prop} {m0:Nat}
  (hc:X.calm=true) (hS:Ez X.env.scope X.N N2 k caps scope) (hlow:Low k g)
  (hcl:∀x c,cl.lookup x=some c->X.env.cells.lookup x=some c) (hcf:∀x,scope.names.lookup x=some .free->∃c,cl.lookup x=some c)
  (hb:∀(cl:List (Str×Addr))(C:Addr)(s:Shared)(H:Hp)(ex:List Addr),PG (Df X N2 scope cl C s H ex) tg g/\PTs (Df X N2 scope cl C s H ex) ifs tt/\PE (Df X N2 scope cl C s H ex) elt te)
  (I2:Inv X pins σ H2 s2) (T:Turn X.prog X.w X.K tg J fp it tn) (st2:tn 0 s2.heap) (f2:∀b∈fp,Oj X pins H2 b) (w0:W 0 m0 [] H2)
  (turn:∀i m ys H,W i m ys H->(J.stop i H/\Qe ys H) ∨
   (J.go i H/\ys.length<sizeLine/\∀x H',J.yld i H x H'->g x (Io k caps σ) H' fun σ2 H2=>tt σ2 H2 fun b H3 =>
    if b=true then te σ2 H3 fun v H4=>∃m',m'<m/\W (i+1) m' (ys++[v]) H4 else ∃m',m'<m/\W (i+1) m' ys H3))
  (hRR:∀D C s' H' ys,s2.heap.objs.size<=D->s2.heap.objs.size<=C->C≠D->H' D=none->H' C=none->Inv X pins σ (upd H' D (.lst ys)) s'->(∃m,s'.heap.Ns C m)->Qe ys H'->RR (.ref D) C (.ok .next) s') :
  wpAny (model X.prog X.w) X.A (newList []) (fun acc s₃=>wpAny (model X.prog X.w) X.A (newFunctionEnv scope X.env.globals cl [] X.env.qual none .none (some X.env)) (fun cenv s₄ =>
   codeAny (model X.prog X.w) X.A (.compStart (.ListComp elt [⟨tg,iter,ifs,0⟩] scope pos) 0 (.ref it) acc { cenv with scope:=relabel scope X.env }) (RR acc cenv.locals) s₄) E s₃) E s2:=by
 refine U17 (Xv fun h₁ hns₁ kp cok=>?_)
 dsimp only at hns₁ kp cok ⊢
 generalize hH3:s2.heap.push { cls:=.type "list",dict:=none,data:=.seq ([]:List Value).toArray }=H3 at hns₁ kp cok ⊢
 have hC:H3.objs.size=s2.heap.objs.size+1:=by rw[←hH3,U1s]
 generalize hDD:s2.heap.objs.size=D at hC
 generalize hCC:H3.objs.size=C at hns₁ cok hC ⊢
 have hDC:D≠C:=by omega
 have szD:s2.heap.objs.size<=D:=U7r hDD
 have szC:s2.heap.objs.size<=C:=by rw[hDD,hC];exact U4i _
 have below:∀b o,s2.heap.get? b=some o->b≠C/\b≠D:=fun b o e=>⟨K6 (U0k e) szC,K6 (U0k e) szD⟩
 have old:∀b o,s2.heap.get? b=some o->h₁.get? b=some o:=fun b o e=>kp b o (hH3 ▸ U0b _ e)
 have hacc:h₁.get? D=some { cls:=.type "list",data:=.seq ([]:List Value).toArray 0 }:=kp _ _ (hH3 ▸ hDD ▸ U0n _ rfl)
 have f2h:∀b∈fp,∃o,s2.heap.get? b=some o:=fun b hbf=>let ⟨o,e,_⟩:=T.obj 0 _ st2 b hbf;⟨o,e⟩
 -- the block's context
 have okc:∀x c,X.env.cells.lookup x=some c->∃o,s2.heap.get? c=some o:=fun x c e=>let ⟨_,o,ho,_⟩:=I2.cell x c e;⟨o,ho⟩
 have oMem:∀x c,(cellsFrom (C+1) scope.names []).lookup x=some c->C+1<=c/\h₁.IsCell c none/\scope.names.lookup x=some .cell:=fun x c e=>by
  have m:=U2u e
  exact⟨(cok.empty x c m).2,(cok.empty x c m).1,hS.one _ (Kl _ _ m) rfl⟩
 have oHas:∀x,scope.names.lookup x=some .cell->∃c,(cellsFrom (C+1) scope.names []).lookup x=some c:=fun x e=>U5o.mp (U51 scope.names (C+1) [] (.inl e))
 have oApart:=cok.apart
 generalize cellsFrom (C+1) scope.names []=own at oMem oHas oApart ⊢
 have hcs:∀x c,(own++cl).lookup x=some c->(C+1<=c/\h₁.IsCell c none/\own.lookup x=some c)∨X.env.cells.lookup x=some c:=fun x c e=>by
  rcases Ze e with z|z
  .exact .inl ⟨(oMem x c z).1,(oMem x c z).2.1,z⟩
  .exact .inr (hcl x c z.2)
 have hlt:∀x c,X.env.cells.lookup x=some c->c<s2.heap.objs.size:=fun x c e=>let ⟨o,ho⟩:=okc x c e;U0k ho
 have OK:(Df X N2 scope (own++cl) C s2 H2 fp).Ok:=by
  refine⟨I2.ok.mod,hS.kind,I2.ok.glob,I2.ok.blt,?_,fun x y c h1 h2=>?_,fun x hx=>?_,fun x c hf h1=>?_,I2.ok.hd,I2.ok.frames,.inl rfl,fun b hbf=>?_,I2.bs,
   U07 I2.ok.bsz I2.sz,fun b o e hbf=>?_,fun b hbf hb'=>?_,I2.stack,I2.YL,I2.Qz⟩
  .exact szC
  .rcases hcs x c h1 with z|z
   .rcases hcs y c h2 with z'|z'
    .exact name_of_addr oApart (U2u z.2.2) (U2u z'.2.2)
    .exact absurd (hlt y c z') (U7m.mpr (U07 szC (U07 (U4i _) z.1)))
   .rcases hcs y c h2 with z'|z'
    .exact absurd (hlt x c z) (U7m.mpr (U07 szC (U07 (U4i _) z'.1)))
    .exact I2.ok.inj x y c z z'
  .rcases Q0 (env:=X.env) hx with z|z
   .obtain⟨c,e⟩:=hcf x z
    show ∃c,(own++cl).lookup x=some c
    rw[U42]
    cases q:own.lookup x with
    |none=>exact⟨c,e⟩
    |some d=>exact⟨d,rfl⟩
   .obtain⟨c,e⟩:=oHas x z
    exact⟨c,by show(own++cl).lookup x=some c;rw[U42,e];rfl⟩
  .obtain⟨d,e⟩:=oHas x (of_decide_eq_true hf)
   have h1':(own++cl).lookup x=some c:=h1
   rw[U42,e] at h1'
   have e2:d=c:=U05 h1'
   rw[←e2]
   exact U07 szC (U07 (U4i _) (oMem x d e).1)
  .obtain⟨o,e⟩:=f2h b hbf
   refine⟨(below b o e).1,fun x c h1=>?_⟩
   rcases hcs x c h1 with z|z
   .exact fun w=>absurd (U0k e) (by rw[←w];exact U7m.mpr (U07 szC (U07 (U4i _) z.1)))
   .exact(f2 b hbf).2.2.2.2.1 x c z
  .rcases(f2 b hbf).2.2.2.1 with z|z
   .exact I2.ok.noex b o e z
   .exact absurd (U0r (U0k (I2.ok.bs b o e).1) z) (U3y _)
  .rcases U0w.mp (I2.Ol b hb') with z|z
   .exact(f2 b hbf).2.1 z
   .exact(f2 b hbf).2.2.1 z
 have fresh:∀a,s2.heap.objs.size<=a->H2 a=none:=fun a ha=>I2.hok.fresh ha
 have I4:∀tk,Inv (Df X N2 scope (own++cl) C s2 H2 fp) [(D,{ cls:=.type "list",data:=.seq ([]:List Value).toArray 0 })] (Io k caps σ) H2 { s2 with heap:=h₁,toks:=tk }:=fun tk=>by
  refine⟨OK,rfl,I2.bare,Un.kept old,⟨_,hns₁,fun i x v e1 e2 e3=>?_⟩,fun x c e=>?_,fresh C szC,fun x c e=>?_,fun p hp=>?_,I2.hok.kept old,?_⟩
  .obtain⟨j,a,rfl,ha,hv⟩:=Yp e2
   obtain⟨y,y1,y2,y3⟩:=hS.cap j a ha
   have e1':N2[k+j]?=some x:=e1
   rw[y1] at e1';cases e1'
   have hk:X.env.scope.names.lookup x=some .cell∨X.env.scope.names.lookup x=some .free:=hS.free (x,.free) (U2u y3) rfl
   obtain⟨m',_,hl⟩:=id I2.loc
   obtain⟨u,ru,lk⟩:=hl a x v y2 hv (hk.elim (fun z=>.inr (.inl z)) fun z=>.inr (.inr z))
   refine⟨u,ru,.inr ⟨Pz y3,?_⟩⟩
   rcases lk with ⟨kk,_⟩|⟨_,c,e,z⟩
   .have kk':X.env.scope.names.lookup x=some .local:=kk
    rw[kk'] at hk
    rcases hk with z|z<;>cases z
   .obtain⟨c',e'⟩:=hcf x y3
    have e'':=hcl x c' e'
    rw[e] at e'';cases e''
    obtain⟨o,ho,hd⟩:=z
    refine⟨c,?_,o,old c o ho,hd⟩
    show(own++cl).lookup x=some c
    rw[U42]
    cases q:own.lookup x with
    |none=>exact e'
    |some d=>have:=(oMem x d q).2.2;rw[y3] at this;cases this
  .rcases hcs x c e with z|z
   .exact⟨none,z.2.1⟩
   .obtain⟨v,o,ho,hd⟩:=I2.cell x c z
    exact⟨v,o,old c o ho,hd⟩
  .rcases hcs x c e with z|z
   .exact fresh c (U07 szC (U07 (U4i _) z.1))
   .exact I2.freeC x c z
  .have hp':p∈[(D,({ cls:=.type "list",data:=.seq ([]:List Value).toArray 0 }:Obj))]:=hp
   have e:p=(D,({ cls:=.type "list",data:=.seq ([]:List Value).toArray 0 }:Obj)):=by simpa using hp'
   subst e
   exact⟨hacc,fresh D szD,hDC,fun z=>by
    rcases U0w.mp (I2.Ol D z) with z|z
    .exact K6 I2.lt szD z.symm
    .exact I2.d9 szD z,fun v z=>by cases z⟩
  .show(Io k caps σ).length=N2.length
   unfold Io
   rw[U0q,U1e,U0l,hS.len]
 -- the loop
 obtain⟨hg,ht,he⟩:=hb (own++cl) C s2 H2 fp
 have loop:∀s₃:Shared,Inv (Df X N2 scope (own++cl) C s2 H2 fp) [(D,{ cls:=.type "list",data:=.seq ([]:List Value).toArray 0 })] (Io k caps σ) H2 s₃->tn 0 s₃.heap ->
   codeAny (model X.prog X.w) X.A (.compLoop (.ListComp elt [⟨tg,iter,ifs,0⟩] scope pos) 0 (.ref it) (.ref D) (compEnvC scope (own++cl) C X.env)) (RR (.ref D) C) s₃:=by
  intro s₃ I₃ st₃
  refine codeAny_loop rfl (fun n s'=>∃i ys its nn H',Inv (Df X N2 scope (own++cl) C s2 H2 fp) [(D,{ cls:=.type "list",data:=.seq (its:List Value).toArray nn })] (Io k caps σ) H' s'/\Vals ys its/\tn i s'.heap/\(∀b∈fp,H' b=none)/\ys.length<=sizeLine/\W i n ys H') ?_ m0
   ⟨0,[],[],0,H2,I₃,.nil,st₃,fun b hbf=>(f2 b hbf).1,U3h _,w0⟩
  rintro n s5 ⟨i,ys,its,nn,H5,I5,rv,st5,fr5,hz,w5⟩
  show wpAny _ X.A ((compTurn (.ListComp elt [⟨tg,iter,ifs,0⟩] scope pos) 0 (.ref it) (.ref D) (compEnvC scope (own++cl) C X.env)).onRaise (fun x=>do noteFrame x (compEnvC scope (own++cl) C X.env);theTreesLotGoes x)) _ _ s5
  refine wpAny_noted ?_
  rw[compTurn_list]
  refine U0 (wpAny_standAt (U0 ?_))
  have fpok:∀{H':Hp} {o:Obj},(∀b∈fp,H' b=none)->∀b∈fp,Oj (Df X N2 scope (own++cl) C s2 H2 fp) [(D,o)] H' b:=fun {H' o} hn b hbf=>by
   obtain⟨ob,e⟩:=f2h b hbf
   refine⟨hn b hbf,(below b ob e).1,OK.exfs b hbf,.inl hbf,(OK.exf b hbf).2,fun p hp z=>?_⟩
   have hp':p∈[(D,o)]:=hp
   have e':p=(D,o):=by simpa using hp'
   subst e'
   exact(below b ob e).2 z.symm
  rcases turn i n ys H5 w5 with ⟨stop,qn⟩|⟨go,hz2,step⟩
  .refine thn (T.done (Df X N2 scope (own++cl) C s2 H2 fp) rfl rfl rfl hc i _ s5 _ H5 _ I5 (fpok fr5) st5 stop) fun r s6 ⟨hr,I6⟩=>?_
   subst hr
   refine U0d ?_
   obtain⟨pe,pn,pne,pnf,_⟩:=I6.pin (D,{ cls:=.type "list",data:=.seq its.toArray nn }) (U06 _ (U0z.mpr rfl))
   have hD:H5 D=none:=pn
   have hCn:H5 C=none:=I6.free
   refine hRR D C s6 H5 ys szD szC (U1p hDC) hD hCn ?_ ?_ qn
   .have un:Un (frs X.stack) fp H2 (upd H5 D (.lst ys)) s2.heap s6.heap:=by
     have u:=I6.base
     refine⟨u.keep,u.slot,fun b o e n1 n2=>?_,u.there,fun b xs e=>?_,fun b o u' e=>?_,fun b ps e=>?_,fun n=>by rw[BZ (U0u (U0r I2.Vq szD))];exact u.sy n⟩
     .rw[BZ (below b o e).2];exact u.free b o e n1 n2
     .rw[BZ (DR (u.tups b xs e) hD)];exact u.tups b xs e
     .rw[BZ (DR (u.frzs b o u' e) hD)];exact u.frzs b o u' e
     .obtain⟨more,q⟩:=u.tbls b ps e
      exact⟨more,by rw[BZ (DR q hD)];exact q⟩
    refine I2.call' I6.os un (fun b u e=>?_) I6.bare (fun b hbf=>⟨(f2 b hbf).2.2.2.1,(f2 b hbf).2.1,(f2 b hbf).2.2.2.2.1,(f2 b hbf).2.2.2.2.2⟩)
    by_cases hbd:b=D
    .subst hbd
     rw[Bo] at e;cases e
     exact⟨hz,its,nn,rv,pe⟩
    .rw[BZ hbd] at e
     exact(I6.hok b u e).stay (fun _ _ _ q=>q) (fun c q=>by rw[BZ (DR q hD)];exact q) fun c xs q=>by rw[BZ (DR q hD)];exact q
   .obtain⟨m,hn,_⟩:=I6.loc
    exact⟨m,hn⟩
  .refine thn (T.item (Df X N2 scope (own++cl) C s2 H2 fp) rfl rfl rfl hc i _ s5 _ H5 _ I5 (fpok fr5) st5 go) fun r s6 ⟨u,hr,h6⟩=>?_
   subst hr
   refine U0 (thn h6 fun _ s7 ⟨x,H7,I7,r7,y7,st7,fr7⟩=>?_)
   have I7':=I7.pinned (fpok fr7) (T.obj _ _ st7)
   refine U0 (U4e (hg _ s7 _ H7 x u _ I7' r7 (hlow _ _ _ _ (step x H7 y7))) (fun _ s8 ⟨σ8,H8,I8,q8,ql,qk⟩=>?_) fun _ _ z=>z.elim)
   have wk:∀{pl:List (Addr×Obj)} {H9:Hp} {s9:Shared},Inv (Df X N2 scope (own++cl) C s2 H2 fp) pl σ8 H9 s9->Inv (Df X N2 scope (own++cl) C s2 H2 fp) pl (Io k caps σ) H9 s9:=fun {pl H9 s9} I9 =>
    I9.weak ql.symm fun i v e=>by
     obtain⟨j,a,rfl,_,_⟩:=Yp e
     rw[qk (k+j) (U1o _ _)];exact e
   have pinD:∀{pl:List (Addr×Obj)} {σ9:St} {H9:Hp} {s9:Shared},Inv (Df X N2 scope (own++cl) C s2 H2 fp) (((D,({ cls:=.type "list",data:=.seq its.toArray nn }:Obj))::[])++pl) σ9 H9 s9->s9.heap.get? D=some { cls:=.type "list",data:=.seq its.toArray nn }/\H9 D=none:=fun {pl σ9 H9 s9} I9=>by
    obtain⟨e1,e2,_⟩:=I9.pin (D,_) (U06 _ (U3r _ (U0z.mpr rfl)))
    exact⟨e1,e2⟩
   have stn:∀{pl:List (Addr×Obj)} {σ9:St} {H9:Hp} {s9:Shared},Inv (Df X N2 scope (own++cl) C s2 H2 fp) (pl++K8 fp s7.heap) σ9 H9 s9->tn (i+1) s9.heap/\∀b∈fp,H9 b=none:=fun {pl σ9 H9 s9} I9=>by
    refine⟨T.keep _ _ _ st7 fun b hbf o e=>(I9.pin (b,o) (U06 _ (U06 _ (Kv hbf e)))).1,fun b hbf=>?_⟩
    obtain⟨o,e,d⟩:=T.obj _ _ st7 b hbf
    exact(I9.pin (b,o) (U06 _ (U06 _ (Kv hbf e)))).2.1
   refine U0 (U4e (ht _ s8 σ8 H8 _ I8 q8) (fun ok s9 ⟨H9,I9,q9⟩=>?_) fun _ _ z=>z.elim)
   cases ok with
   |false =>
    obtain⟨m',hm,w9⟩:=(by simpa using q9:∃m',m'<n/\W (i+1) m' ys H9)
    refine U0d ⟨rfl,m',hm,i+1,ys,its,nn,H9,wk I9.Nr,rv,(stn I9).1,(stn I9).2,hz,w9⟩
   |true =>
    have q9':te σ8 H9 fun v H4=>∃m',m'<n/\W (i+1) m' (ys++[v]) H4:=by simpa using q9
    refine U0 (U0 (U4e (he _ s9 σ8 H9 _ I9 q9') (fun y s10 ⟨v,H10,I10,r10,q10⟩=>U0 ?_) fun _ _ z=>z.elim))
    obtain⟨m',hm,w10⟩:=q10
    obtain⟨eD,nD⟩:=pinD I10
    have hl:=rv.length
    refine call_meets F.slot_list_append ⟨_,eD,rfl⟩ F.entry_list_append (F.args_list_append_2 _ _) (PySem.list_append D its.toArray nn y (by rw[U0v];omega)) ⟨eD,?_⟩
    refine U0d (U0d ⟨rfl,m',hm,?_⟩)
    obtain⟨n2,qD⟩:∃n2,(s10.heap.update D (U1f fun z=>z.push y)).get? D=some { cls:=.type "list",data:=.seq (its++[y]).toArray n2 }:=by
     have q0:=PySem.IsL.update eD (fun z=>z.push y)
     have hf:its.toArray.push y=(its++[y]).toArray:=by simp
     rw[hf] at q0
     exact⟨_,q0⟩
    have J0:Inv (Df X N2 scope (own++cl) C s2 H2 fp) (K8 fp s7.heap) (Io k caps σ) H10 s10:=wk (I10.QM fun p hp=>I10.pin p (U06 _ (U06 _ hp)))
    have J1:Inv (Df X N2 scope (own++cl) C s2 H2 fp) (K8 fp s7.heap) (Io k caps σ) H10 { s10 with heap:=s10.heap.update D (U1f fun z=>z.push y),toks:=s10.toks }:=by
     refine J0.turned (fun b o hne e=>(U02 s10.heap _ (U1p hne)).trans e) nD hDC (.inr szD) (fun x c e z=>?_) fun p hp z=>?_
     .rcases hcs x c e with y|y
      .have:=y.1
       rw[z] at this
       omega
      .obtain⟨o,ho⟩:=okc x c y
       exact(below c o ho).2 z
     .have hp':p∈K8 fp s7.heap:=hp
      obtain⟨ob,e⟩:=f2h p.1 (Ur hp').1
      exact(below p.1 ob e).2 z
    have J2:Inv (Df X N2 scope (own++cl) C s2 H2 fp) [(D,{ cls:=.type "list",data:=.seq (its++[y]).toArray n2 })] (Io k caps σ) H10 { s10 with heap:=s10.heap.update D (U1f fun z=>z.push y),toks:=s10.toks }:=by
     refine J1.QM fun p hp=>?_
     have e:p=(D,{ cls:=.type "list",data:=.seq (its++[y]).toArray n2 }):=U0z.mp hp
     subst e
     exact⟨qD,nD,hDC,fun z=>by
      rcases U0w.mp (I2.Ol D z) with z|z
      .exact K6 I2.lt szD z.symm
      .exact I2.d9 szD z,fun v z=>by cases z⟩
    refine⟨i+1,ys++[v],its++[y],_,H10,J2,rv.append (.cons r10 .nil),?_,(stn I10).2,?_,w10⟩
    .refine T.keep _ _ _ (stn I10).1 fun b hbf o e=>?_
     obtain⟨ob,e'⟩:=f2h b hbf
     exact(U02 s10.heap _ (U1p (below b ob e').2)).trans e
    .rw[U0q,U3n];omega
 have st1:tn 0 h₁:=T.keep _ _ _ st2 fun b hbf o e=>old b o e
 exact codeAny_compStart_list (loop _ (I4 _) st1) (T.self X.A 0 _ _ _ st1 (loop _ (I4 _) st1))
theorem lB{elt tg iter:Expr}{ifs:List Expr}{scope:Scope}{pos:Pos}{N2:List Str}{k:Nat}{caps:List Nat}{wi:TI}{g:TG}{tt:TT}{te:TE}
  (hc:X.calm=true) (hS:Ez X.env.scope X.N N2 k caps scope) (hlow:Low k g) (hi:PI X tg iter wi)
  (hb:∀(cl:List (Str×Addr))(C:Addr)(s:Shared)(H:Hp)(ex:List Addr),PG (Df X N2 scope cl C s H ex) tg g/\PTs (Df X N2 scope cl C s H ex) ifs tt/\PE (Df X N2 scope cl C s H ex) elt te)
  (hs:∀x,foldedSetIterable iter X.env x=pure x:=by intro _;rfl):PE X (.ListComp elt [⟨tg,iter,ifs,0⟩] scope pos) (Z5 k caps wi g tt te):=by
 intro pins s σ H Q I h
 rw[eval_ListComp]
 obtain⟨cl,hcl0,hcl,hcf⟩:=T4 (scope:=scope) (env:=X.env) fun y hy e=>I.ok.has y.1 (hS.free y hy e)
 refine wpAny_comprehension_free (use:=none) rfl hs hcl0 hS.kind hS.loc ?_
 refine thn (hi pins s σ H _ I h) fun v s1 h1=>thn h1 fun itv s2 h2=>?_
 obtain⟨it,fp,tn,J,H2,e,I2,T,st2,f2,W,⟨m0,w0⟩,turn⟩:=h2
 subst e
 refine Sy (RR:=fun acc C=>compPost (model X.prog X.w) X.A X.xe none (EP X pins σ Q) acc C) (Qe:=fun ys H=>∀p,H p=none->Q (.ref p) (upd H p (.lst ys))) hc hS hlow hcl hcf hb I2 T st2 f2 w0 turn ?_
 intro D C s' H' ys hD hC hDC nD nC I' hn q
 obtain⟨m,hn⟩:=hn
 refine⟨m,hn,fun h' hsb=>⟨.ref D,_,?_,rfl,q D nD⟩⟩
 refine I'.but hsb (by rw[BZ hDC];exact nC) (fun z=>?_) (U07 I2.sz hC) (fun x c e z=>?_) fun p hp z=>?_
 .exact K6 I2.lt hC z.symm
 .obtain⟨v,o,ho,_⟩:=I2.cell x c e
  exact K6 (U0k ho) hC z
 .exact K6 (U0k (I2.pin p hp).1) hC z
def tu(i:Nat)(t:TE):TS:=fun D σ H=>t σ H fun v H1=>D.nx (σ.set i (some v)) H1
theorem kI{elt tg iter:Expr}{ifs:List Expr}{scope:Scope}{pos py spos:Pos}{N2:List Str}{k i:Nat}{y:Str}{caps:List Nat}{wi:TI}{g:TG}{tt:TT}{te:TE}
  (hc:X.calm=true) (hN:X.N.Nodup) (hi':X.N[i]?=some y) (hS:Ez X.env.scope X.N N2 k caps scope) (hlow:Low k g) (hi:PI X tg iter wi)
  (hb:∀(cl:List (Str×Addr))(C:Addr)(s:Shared)(H:Hp)(ex:List Addr),PG (Df X N2 scope cl C s H ex) tg g/\PTs (Df X N2 scope cl C s H ex) ifs tt/\PE (Df X N2 scope cl C s H ex) elt te)
  (hx:X.env.scope.names.lookup y=some .local:=by rfl) (hsw:swapsWith (.ListComp elt [⟨tg,iter,ifs,0⟩] scope pos) (some (.Name y py)) spos.line X.env=pure true:=by rfl)
  (hs:∀x,foldedSetIterable iter X.env x=pure x:=by intro _;rfl):PS X (.Assign [.Name y py] (.ListComp elt [⟨tg,iter,ifs,0⟩] scope pos) spos) (tu i (Z5 k caps wi g tt te)):=by
 intro pins s σ H D0 I h
 obtain⟨cl,hcl0,hcl,hcf⟩:=T4 (scope:=scope) (env:=X.env) fun y hy e=>I.ok.has y.1 (hS.free y hy e)
 rw[exec_Assign_Name_used _ _ _ _ hsw]
 refine U0 (wpAny_standAt (U0 ?_))
 show wpAny _ X.A (do let _ ←comprehension (.ListComp elt [⟨tg,iter,ifs,0⟩] scope pos) scope X.env _ (newList []) false (eval iter X.env) (some (assign (.Name y py) X.env))) _ _ s
 refine U0 (U4e (wpAny_comprehension_free (use:=some (assign (.Name y py) X.env)) (Q:=fun _ s'=>SP X pins D0 .next s') rfl hs hcl0 hS.kind hS.loc ?_) (fun _ s' hq=>U0d (U0d hq)) fun _ _ e=>e)
 refine thn (hi pins s σ H _ I h) fun v s1 h1=>thn h1 fun itv s2 h2=>?_
 obtain⟨it,fp,tn,J,H2,e,I2,T,st2,f2,W,⟨m0,w0⟩,turn⟩:=h2
 subst e
 refine Sy (RR:=fun acc C=>compPost (model X.prog X.w) X.A X.xe (some (assign (.Name y py) X.env)) (fun _ s'=>SP X pins D0 .next s') acc C)
  (Qe:=fun ys H=>∀p,H p=none->D0.nx (σ.set i (some (.ref p))) (upd H p (.lst ys))) hc hS hlow hcl hcf hb I2 T st2 f2 w0 turn ?_
 intro D C s' H' ys hD hC hDC nD nC I' hn q
 obtain⟨m,hn⟩:=hn
 show wpAny _ X.A (assign (.Name y py) X.env (.ref D)) _ _ _
 refine wpAny_assign_Name (Uh (v:=.ref D) I' hN hi' (.inl hx) rfl (fun s'' I'' ⟨a,hsb,ha⟩=>?_) (.inr hx))
 have hLC:C≠X.env.locals:=fun z=>K6 I2.lt hC z.symm
 have hcC:∀x c,X.env.cells.lookup x=some c->c≠C:=fun x c e z=>by
  obtain⟨v,o,ho,_⟩:=I2.cell x c e
  exact K6 (U0k ho) hC z
 have haC:C≠a:=by
  rcases ha with z|z
  .rw[z];exact hLC
  .exact fun e=>hcC y a z e.symm
 refine⟨m,hn.sameBut hsb haC,fun h' hsb'=>?_⟩
 refine⟨_,_,I''.but hsb' (by rw[BZ hDC];exact nC) hLC (U07 I2.sz hC) hcC fun p hp z=>?_,q D nD⟩
 exact K6 (U0k (I2.pin p hp).1) hC z
end
end L2
end
section
namespace L2
open PySem PySem.Spec PyProof.Rows
theorem Cp.obj{P:Program}{w:World}{H:Hp}{h:Heap}{a:Addr}{o:HO}(x:Cp P w H h a o):∃ob,h.get? a=some ob:=by
 cases o with
 |lst xs=>obtain⟨_,_,_,_,e⟩:=x;exact⟨_,e⟩
 |tup xs=>obtain⟨_,_,_,ob,e,_⟩:=x;exact⟨ob,e⟩
 |dK kvs=>obtain⟨_,_,_,_,o,_,_,e,_⟩:=x;exact⟨o,e⟩
 |dT kvs=>obtain⟨_,_,_,_,o,_,_,e,_⟩:=x;exact⟨o,e⟩
 |set S n=>obtain⟨o,_,_,_,e,_⟩:=x;exact⟨o,e⟩
 |ins C dx fs=>obtain⟨_,_,_,e,_⟩:=x;exact⟨_,e⟩
 |own y=>exact x
 |xd fs=>obtain⟨_,⟨o,_,_,e,_⟩,_⟩:=x;exact⟨o,e⟩
 |rng lo hi=>obtain⟨_,_,_,e⟩:=x;exact⟨_,e⟩
 |frz ob u=>obtain⟨e,_⟩:=x;exact⟨_,e⟩
 |tbl ps=>exact⟨_,x⟩
 |met f y=>exact⟨_,x⟩
 |ext φ=>obtain⟨_,e,_⟩:=x;exact e
section
variable{X:Cx}{pins:List (Addr×Obj)}{σ:St}{H:Hp}{s:Shared}
theorem Inv.Tf(I:Inv X pins σ H s){a:Addr}(h:s.heap.get? a=none):H a=none:=by
 cases q:H a with
 |none=>rfl
 |some o =>
  obtain⟨ob,e⟩:=(I.hok a o q).obj
  rw[h] at e;cases e
theorem Inv.laidN{a:Addr}{o:HO}{h':Heap}{d':Drawn}{t':Nat}(I:Inv X pins σ H s)(k:∀b u,s.heap.get? b=some u->h'.get? b=some u)(hn:s.heap.get? a=none)(hsy:sysModules≠a)(new:Cp X.prog X.w (upd H a o) h' a o) :
  Inv X pins σ (upd H a o) { s with heap:=h',drawn:=d',toks:=t' }:=by
 have hH:=I.Tf hn
 have ne:∀b u,s.heap.get? b=some u->b≠a:=fun b u e z=>by rw[z,hn] at e;cases e
 refine I.step (g':=s.gens) (ch:=[]) (fun _ z=>nomatch z) (fun b u _ _ _ e _=>k b u e) (fun b u _ _ _ e _=>⟨u.slots,k b u e⟩) (fun b u _ e n=>by rw[BZ (ne b u e)];exact n) (fun b u _ e=>⟨u,k b u e⟩)
  (fun b xs e=>by rw[BZ (DR e hH)];exact e) (fun b u xs e=>by rw[BZ (DR e hH)];exact e) (fun b ps e=>⟨#[],by rw[BZ (DR e hH),e];simp⟩) (fun m hm=>?_) (fun b u e=>?_) I.bare (fun n=>by rw[BZ hsy];exact n)
 .obtain⟨ob,es,ep,e,r⟩:=hm
  exact⟨ob,es,ep,k _ _ e,r⟩
 .by_cases hb:b=a
  .subst hb;rw[Bo] at e;cases e;exact new
  .rw[BZ hb] at e
   exact(I.hok b u e).stay (fun c v _ q=>k c v q) (fun c q=>by rw[BZ (DR q hH)];exact q) fun c xs q=>by rw[BZ (DR q hH)];exact q
end
def Vl(P:Program)(w:World)(a:Addr)(ds:List Int):HO:=.ext fun h=>SetP.SetT P w h a ds
theorem jk{P:Program}{w:World}{H:Hp}{h:Heap}{a:Addr}{ds:List Int}(x:SetP.SetT P w h a ds):Cp P w H h a (Vl P w a ds) :=
 ⟨x,(by obtain⟨_,o,_,_,_,e,_⟩:=x;exact⟨o,e⟩),fun h1 h2 y k=>y.sameBut k⟩
section
variable{X:Cx}
theorem iU(hc:X.calm=true):DN X (.type "set") (fun xs H Q=>∃p ns,xs=[.ref p]/\SqL X.K H p (ns.map V.int)/\ns.length<1000/\∀a,H a=none->Q (.ref a) (upd H a (Vl X.prog X.w a (SetP.once ns)))):=by
 intro pins s σ H xs us Q I r h
 obtain⟨p,ns,rfl,hq,hl,q⟩:=h
 obtain⟨u,rfl,rx⟩:=vals1 r
 cases rx
 obtain⟨its,rv,pl,hz⟩:=I.list hq
 have hlen:=rv.length
 rw[U0l] at hlen
 refine SetP.jj (I.ok.hd hc) pl.isList (by simpa using intsAre_of rv) (by rw[U0v,←hlen];unfold scanBound;omega) fun h' tk k T=>?_
 have hn:s.heap.get? s.heap.objs.size=none:=U59 (U0s _)
 exact⟨.ref s.heap.objs.size,_,I.laidN (d':=s.drawn) (t':=tk) k hn (U0u I.Vq) (jk T),rfl,q _ (I.hok.fresh (U0s _))⟩
theorem Uc(hc:X.calm=true):DN X (.builtin "sorted") (fun xs H Q=>∃(a:Addr)(ds:List Int),xs=[.ref a]/\H a=some (Vl X.prog X.w a ds)/\ds.length<64 /\
  ∀(l:Addr)(ns:List Int),H l=none->ns.Perm ds->ns.Pairwise (·<=·)->Q (.ref l) (upd H l (.lst (ns.map V.int)))):=by
 intro pins s σ H xs us Q I r h
 obtain⟨a,ds,rfl,hH,hl,q⟩:=h
 obtain⟨u,rfl,rx⟩:=vals1 r
 cases rx
 obtain⟨T,_,_⟩:=(show Cp X.prog X.w H s.heap a (Vl X.prog X.w a ds) from I.hok a _ hH)
 refine SetP.eO (I.ok.hd hc) T hl fun h' d' tk l vs ns n k hb e hi hp hs=>?_
 have hn:s.heap.get? l=none:=by
  cases q:s.heap.get? l with
  |none=>rfl
  |some o=>exact absurd (hb l o q) (U3y _)
 have hsy:sysModules≠l:=by
  obtain⟨o,_,_,e,_⟩:=I.ok.mod.glob
  exact U0u (U2q (by decide:(1:Nat)<3) (hb _ _ (I.bk _ _ e)))
 have hlen:ns.length<64:=by rw[hp.length_eq];exact hl
 refine⟨.ref l,_,I.laidN (d':=d') (t':=tk) (o:=.lst (ns.map V.int)) k hn hsy ⟨?_,vs.toList,n,PJ hi,by simpa using e⟩,rfl,q l ns (I.Tf hn) hp hs⟩
 rw[U0l]
 exact U2c (Um (by omega))
theorem Xe{prog:Program}{w:World}{A:Around}{bs:List Bool}{its:List Value}(r:Vals (bs.map V.bl) its):TruthOf prog w A (fun i v=>its.toArray[i]?=some v) (fun i=>bs.getD i false):=by
 intro i v s Q E hP h
 rw[U38] at hP
 have hlen:=r.length
 rw[U0l] at hlen
 have hi:i<bs.length:=by rw[hlen];exact(U0p.mp hP).1
 obtain⟨u,e,ru⟩:=r.get (i:=i) (x:=.bl bs[i]) (by rw[U04,U0h hi];rfl)
 rw[e] at hP;cases hP
 have ru':v=U4y bs[i]:=ru
 subst ru'
 have e2:bs.getD i false=bs[i]:=by rw[U0o,U0h hi];rfl
 have h:Q (bs.getD i false) s:=h
 rw[e2] at h
 exact U28 h
theorem all_range(bs:List Bool):(U0j bs.length).all (fun i=>bs.getD i false)=bs.all id:=by
 rw[U2i,U3l,U3l]
 constructor
 .intro h b hb
  obtain⟨i,hi⟩:=U37.mp hb
  have q:=h i (U2x.mpr (U0p.mp hi).1)
  rw[U0o,hi] at q
  exact q
 .intro h i hi
  have hi':=U2x.mp hi
  rw[U0o,U0h hi']
  exact h _ (U3a hi')
theorem Wy(hc:X.calm=true):DN X (.builtin "all") (fun xs H Q=>∃(p:Addr)(bs:List Bool),xs=[.ref p]/\SqL X.K H p (bs.map V.bl)/\Q (.bl (bs.all id)) H):=by
 intro pins s σ H xs us Q I r h
 obtain⟨p,bs,rfl,hq,q⟩:=h
 obtain⟨u,rfl,rx⟩:=vals1 r
 cases rx
 obtain⟨its,rv,pl,hz⟩:=I.list hq
 have hlen:=rv.length
 rw[U0l] at hlen
 have hl:=pl.isList
 have hlt:p<s.heap.objs.size:=by obtain⟨o,ho,_⟩:=hl;exact U0k ho
 refine call_all_walk (U48 hl ?_)
 refine⟨s.heap.objs.size,[s.heap.objs.size,p],[s.heap.objs.size],its.toArray.size,_,_,fun i=>bs.getD i false,rfl,Walks.list (by simpa using I.ok.hd hc) s.heap.objs.size p (U0u hlt) its.toArray,⟨⟨_,U0n _ rfl,rfl,rfl⟩,hl.push _⟩,Xe rv,fun h' tk k=>?_⟩
 refine⟨.bl (bs.all id),H,I.kept (h':=h') (t':=tk) fun b o e=>k b o (fun z=>?_) (U0b _ e),?_,q⟩
 .exact absurd (U0z.mp z) (U0u (U0k e))
 .show U4y _=U4y _
  rw[U0v,←hlen,all_range]
theorem Ca{K:U0a}{a b:String}{r:Bool}(h:(if (U2v a==U2v b)=true then some true else if PySem.W.kitMeta b=true then (PySem.fastBuiltinMro a).map (·.contains (.type b)) else none)=some r):U3d K (.type a) (.type b)=some r:=h
theorem Y8:DN X (.builtin "isinstance") (fun xs H Q=>∃(x:V)(T:String)(t:Value)(b:Bool),xs=[x,.ty T]/\JD X.K H x t/\U3d X.K t (.type T)=some b/\Q (.bl b) H):=by
 intro pins s σ H xs us Q I r h
 obtain⟨x,T,t,b,rfl,ty,e,q⟩:=h
 obtain⟨u,w',rfl,rx,rt⟩:=vals2 r
 cases (show w'=U2v T from rt)
 exact bh I rx ty e fun tk=>⟨.bl b,H,I.tok tk,rfl,q⟩
theorem Y7:DN X (.type "range") (fun xs H Q=>∃(n:Int),xs=[.int n]/\∀p,H p=none->Q (.ref p) (upd H p (.rng 0 n))):=by
 intro pins s σ H xs us Q I r h
 obtain⟨n,rfl,q⟩:=h
 obtain⟨u,rfl,rx⟩:=vals1 r
 obtain⟨t,rfl⟩:=(show ∃t,u=U27 n t from rx)
 exact call_range_1 ⟨.ref s.heap.objs.size,_,I.laid (o:=.rng 0 n) (fun _ _ e=>U0b _ e) (U0s _) ⟨_,_,_,U0n _ rfl⟩,rfl,q _ (I.hok.fresh (U0s _))⟩
theorem Y6:DN X (.type "range") (fun xs H Q=>∃(a b:Int),xs=[.int a,.int b]/\∀p,H p=none->Q (.ref p) (upd H p (.rng a b))):=by
 intro pins s σ H xs us Q I r h
 obtain⟨a,b,rfl,q⟩:=h
 obtain⟨u,w',rfl,rx,ry⟩:=vals2 r
 obtain⟨t,rfl⟩:=(show ∃t,u=U27 a t from rx)
 obtain⟨t',rfl⟩:=(show ∃t,w'=U27 b t from ry)
 exact call_range_2 ⟨.ref s.heap.objs.size,_,I.laid (o:=.rng a b) (fun _ _ e=>U0b _ e) (U0s _) ⟨_,_,_,U0n _ rfl⟩,rfl,q _ (I.hok.fresh (U0s _))⟩
def upTo(lo:Int)(n:Nat):List Int:=(U0j n).map fun(i:Nat)=>lo+i
theorem Ud(hc:X.calm=true):DN X (.type "list") (fun xs H Q=>∃(r:Addr)(lo hi:Int),xs=[.ref r]/\H r=some (.rng lo hi)/\-(2^62)<=lo/\lo<2^62/\-(2^62)<=hi/\hi<2^62/\(hi-lo).toNat<=1000 /\
  ∀l,H l=none->Q (.ref l) (upd H l (.lst ((upTo lo (hi-lo).toNat).map V.int)))):=by
 intro pins s σ H xs us Q I rr h
 obtain⟨r,lo,hi,rfl,hH,h1,h2,h3,h4,h5,q⟩:=h
 obtain⟨u,rfl,rx⟩:=vals1 rr
 cases rx
 obtain⟨t,u,v,e⟩:=(show Cp X.prog X.w H s.heap r (.rng lo hi) from I.hok r _ hH)
 have hsz:Builtin.Range.rangeSize lo hi 1=(((hi-lo).toNat:Nat):Int):=by rw[rangeSize_one];split<;>omega
 refine call_list_range (a:=lo) (b:=hi) (c:=1) (I.ok.hd hc) e (small_one h1 h2 h3 h4) hsz (by omega) fun h' tk acc c k eS hacc=>?_
 refine⟨.ref s.heap.objs.size,_,I.laid (o:=.lst ((upTo lo (hi-lo).toNat).map V.int)) (t':=tk) k (U0s _) ⟨?_,acc.toList,c,?_,by simpa using eS⟩,rfl,q _ (I.hok.fresh (U0s _))⟩
 .unfold upTo
  rw[U0l,U0l,U49]
  exact U2c (Um h5)
 .have gen:∀(l:List Value)(j:Nat),(∀(i:Nat)(v:Value),l[i]?=some v->∃t,v=U27 (lo+((i+j:Nat):Int)) t)->Vals (((U7x j l.length).map fun(i:Nat)=>lo+i).map V.int) l:=by
   intro l
   induction l with
   |nil=>intro j _;exact .nil
   |cons x r ih =>
    intro j hx
    obtain⟨t,e⟩:=hx 0 x rfl
    subst e
    rw[U0g,List.range'_succ]
    refine .cons ⟨t,by simp⟩ (ih (j+1) fun i v hv=>?_)
    obtain⟨t',e'⟩:=hx (i+1) v (by simpa using hv)
    exact⟨t',by rw[e',show i+1+j=i+(j+1) by omega]⟩
  have q2:=gen acc.toList 0 fun i v hv=>by
   obtain⟨t',e'⟩:=hacc.2 i v (by simpa using hv)
   exact⟨t',by rw[e'];simp⟩
  have el:acc.toList.length=(hi-lo).toNat:=by simpa using hacc.1
  rw[el,←List.range_eq_range'] at q2
  exact q2
theorem Inv.big{pins:List (Addr×Obj)}{σ:St}{H:Hp}{s:Shared}(I:Inv X pins σ H s):sysModules<s.heap.objs.size:=by
 obtain⟨o,_,_,e,_⟩:=I.ok.mod.glob
 exact U2q (by decide:(1:Nat)<3) (U0k (I.bk _ _ e))
end
end L2
end
section
namespace L2
open PySem PySem.Spec PyProof.Rows
mutual
inductive Tr (N:Addr->Prop) (H:Hp):V->PyData->Prop
 |non:Tr N H .non .none
 |bl (b:Bool):Tr N H (.bl b) (.bool b)
 |int (i:Int):Tr N H (.int i) (.int i)
 |str (x:Str):Tr N H (.str x) (.str x)
 |lst {a:Addr} {xs:List V} {ds:List PyData}:N a->H a=some (.lst xs)->Ja N H xs ds->Tr N H (.ref a) (.list ds)
 |tup {a:Addr} {xs:List V} {ds:List PyData}:N a->H a=some (.tup xs)->Ja N H xs ds->Tr N H (.ref a) (.tuple ds)
 |dct {a:Addr}:N a->H a=some (.dK [])->Tr N H (.ref a) (.dict [])
inductive Ja (N:Addr->Prop) (H:Hp):List V->List PyData->Prop
 |nil:Ja N H [] []
 |cons {x:V} {d:PyData} {xs:List V} {ds:List PyData}:Tr N H x d->Ja N H xs ds->Ja N H (x::xs) (d::ds)
end
section
variable{N N':Addr->Prop}{H H':Hp}
end
section
variable{N:Addr->Prop}{P:Program}{w:World}{H:Hp}{h:Heap}
mutual
theorem Tr.reads(ok:HOk P w H h)(hs:H sysModules=none):∀{v:V} {d:PyData},Tr N H v d->∀u,RelV v u->∃as,Reads h u d as/\sysModules ∉ as
 |_,_,.non,u,r=>⟨[],by cases (show u=U13 from r);exact .none,by simp⟩
 |_,_,.bl b,u,r=>⟨[],by cases (show u=U4y b from r);exact .bool b,by simp⟩
 |_,_,.int i,u,r=>by obtain⟨t,rfl⟩:=(show ∃t,u=U27 i t from r);exact⟨[],.int i t,by simp⟩
 |_,_,.str x,u,r=>by obtain⟨t,rfl⟩:=(show ∃t,u=U65 x t from r);exact⟨[],.str x t,by simp⟩
 |_,_,.lst (a:=a) (xs:=xs) (ds:=ds) _ hH t,u,r=>by
  cases (show u=U1y a from r)
  obtain⟨_,its,n,rv,e⟩:=(show Cp P w H h a (.lst xs) from ok a _ hH)
  obtain⟨as,ra,na⟩:=Ja.reads ok hs t its rv
  refine⟨a::as,.list e rfl rfl (by simpa using ra),fun z=>?_⟩
  rcases U0w.mp z with z|z
  .rw[z] at hs;rw[hs] at hH;cases hH
  .exact na z
 |_,_,.tup (a:=a) (xs:=xs) (ds:=ds) _ hH t,u,r=>by
  cases (show u=U1y a from r)
  obtain⟨_,its,rv,ob,e,c,n,d⟩:=(show Cp P w H h a (.tup xs) from ok a _ hH)
  obtain⟨as,ra,na⟩:=Ja.reads ok hs t its rv
  exact⟨as,.tuple e c d (by simpa using ra),na⟩
 |_,_,.dct (a:=a) _ hH,u,r=>by
  cases (show u=U1y a from r)
  obtain⟨_,y,vs,kv,o,es,ep,e,ex,d,el⟩:=(show Cp P w H h a (.dK []) from ok a _ hH)
  cases kv
  have e0:es.toList=[]:=by
   have q:Pairs (Ei P w) es.toList []:=el.2.1
   generalize es.toList=l at q
   cases q
   rfl
  refine⟨[a],.dict (as:=[]) (bs:=[]) e ex.1 d (by rw[e0];exact .nil) (by rw[e0];exact .nil),fun z=>?_⟩
  have z':=U0z.mp z
  rw[←z'] at y
  simp at y
theorem Ja.reads(ok:HOk P w H h)(hs:H sysModules=none):∀{xs:List V} {ds:List PyData},Ja N H xs ds->∀us,Vals xs us->∃as,ReadsAll h us ds as/\sysModules ∉ as
 |_,_,.nil,us,r=>by cases r;exact⟨[],.nil,by simp⟩
 |_,_,.cons t ts,us,r=>by
  cases r with
  |cons rx rr =>
   obtain⟨as,ra,na⟩:=Tr.reads ok hs t _ rx
   obtain⟨bs,rb,nb⟩:=Ja.reads ok hs ts _ rr
   exact⟨as++bs,.cons ra rb,fun z=>(U10.mp z).elim na nb⟩
end
end
section
variable{X:Cx}
theorem cP{k:Nat}(hr:Ed k X.A):DN X (.builtin "repr") (fun xs H Q=>∃(N:Addr->Prop)(a:Addr)(d:PyData),xs=[.ref a]/\Tr N H (.ref a) d/\d.showable=true/\d.depth<=60/\d.shown.length<=sizeLine/\Q (.str d.shown) H):=by
 intro pins s σ H xs us Q I r h
 obtain⟨N,a,d,rfl,t,h1,h2,h3,q⟩:=h
 obtain⟨u,rfl,rx⟩:=vals1 r
 cases rx
 obtain⟨as,ra,na⟩:=t.reads I.hok I.Qz (.ref a) rfl
 have hu:=hr.un
 exact repr_of_reads' ra h1 (fun _=>na) hr.gd (by omega) (fun _ _ e=>e) (fun h' u tk k=>⟨.str d.shown,H,I.kept (h':=h') (t':=tk) k,⟨u,rfl⟩,q⟩) h3
theorem qg{k:Nat}(hr:Ed k X.A):OpR X (compareOp .Eq) (fun x y H Q=>∃(N N':Addr->Prop)(d e:PyData),Tr N H x d/\Tr N' H y e/\U2l d=true/\U2l e=true/\Q (.bl (U7n d e)) H):=by
 intro pins s σ H x y v u Q I rx ry h
 obtain⟨N,N',d,e,t1,t2,s1,s2,q⟩:=h
 obtain⟨as,ra,_⟩:=t1.reads I.hok I.Qz v rx
 obtain⟨bs,rb,_⟩:=t2.reads I.hok I.Qz u ry
 exact SeqAt.compareEq_shaped ra rb s1 s2 hr.units ⟨.bl _,H,I,rfl,q⟩
theorem qd{k:Nat}(hr:Ed k X.A):OpR X (compareOp .NotEq) (fun x y H Q=>∃(N N':Addr->Prop)(d e:PyData),Tr N H x d/\Tr N' H y e/\U2l d=true/\U2l e=true/\Q (.bl (!PyData.eqv d e)) H):=by
 intro pins s σ H x y v u Q I rx ry h
 obtain⟨N,N',d,e,t1,t2,s1,s2,q⟩:=h
 obtain⟨as,ra,_⟩:=t1.reads I.hok I.Qz v rx
 obtain⟨bs,rb,_⟩:=t2.reads I.hok I.Qz u ry
 exact SeqAt.compareNe_shaped ra rb s1 s2 hr.units ⟨.bl _,H,I,rfl,q⟩
end
end L2
end
section
namespace HT
open PySem PySem.Spec PyProof.Rows
section
variable{prog:Program}{w:World}{A:Around}{E:Value->Shared->Prop}{s:Shared}
theorem iT{t b:Addr}{ws:List Value}{Q:Value->Shared->Prop}(ht:IsTup s.heap t ([]:List Value).toArray)(hb:IsTup s.heap b ws.toArray)(h:Q (.ref b) s):wpAny (model prog w) A (binaryOp .Add (.ref t) (.ref b)) Q E s:=by
 obtain⟨⟨c1,d1,x1,sl1⟩,ho,hc,n,hd⟩:=id ht
 obtain⟨⟨c2,d2,x2,sl2⟩,ho2,hc2,n2,hd2⟩:=id hb
 simp only at hc hd hc2 hd2
 subst hc hd hc2 hd2
 exact concat_meets ⟨_,ho,rfl⟩ ⟨_,ho2,rfl⟩ noFill_tuple_add seq_tuple_add U52 U5v (U5p _ _) (tuple_addW0 t b _ ws.toArray n n2 d1 d2 sl1 sl2 (by simp)) ⟨ho,ho2,h⟩
theorem Xf{t sl:Addr}{items:Array Value}{vl vu:Value}{lo hi:Option Int}{Q:Value->Shared->Prop}(ht:IsTup s.heap t items)(hs:s.heap.IsSliceOf sl vl vu .none)(pl:IsPart vl lo)(pu:IsPart vu hi)
  (hw:sIx items.size 0 lo=0/\sIx items.size items.size hi=items.size) (h:Q (.ref t) s):wpAny (model prog w) A (getItem (.ref t) (.ref sl)) Q E s:=by
 obtain⟨os,hos,hcs,hds⟩:=id hs
 have hTs:s.TypeIs (.ref sl) "slice":=⟨os,hos,hcs⟩
 unfold getItem
 try with_reducible refine U15 ?_
 first|refine U0 (U0d ?_)|skip
 refine U0 (wpAny_sequenceKey ht.typeIs (by decide) ?_)
 refine U0 (wpAny_callSpecial?_slot (name:=U3 "__getitem__") ht.typeIs U2p (U2d U2p ht.typeIs entry_tuple_getitem ?_ (args_tuple_getitem _ _)))
 show wpAny _ _ (Builtin.Tuple.tupleItemsOf (.ref t) >>= _) _ _ s
 refine U0 (tupleItemsOf_ ht (U0 (U4n hTs ?_)))
 rw[if_pos (by decide)]
 refine U0 (MF hs pl pu ?_)
 have yes:(((sIx items.size 0 lo:Nat):Int)==0&&(1:Int)==1&&(sIx items.size items.size hi-sIx items.size 0 lo)==items.size)=true:=by
  rw[hw.1,hw.2];simp
 show wpAny _ _ (if (((sIx items.size 0 lo:Nat):Int)==0&&(1:Int)==1&&(sIx items.size items.size hi-sIx items.size 0 lo)==items.size)=true then _ else _) _ _ s
 rw[if_pos yes]
 unfold Builtin.Tuple.tupleIsExact
 refine U0 (U0 (U4n ht.typeIs (U0d ?_)))
 rw[if_pos (by decide)]
 exact U0 (U4h (U0d ⟨_,rfl,U0d h⟩))
end
end HT
namespace L2
open PySem PySem.Spec PyProof.Rows
theorem Cz{H:Hp}{p:Addr}(h:H p=none)(o:HO):Same H (upd H p o):=fun b u q=>by rw[BZ (DR q h)];exact q
theorem Zn(xs:List V)(lo hi:Option Int)(h:HT.sIx xs.length 0 lo=0/\HT.sIx xs.length xs.length hi=xs.length):JV xs lo hi=xs:=by
 unfold JV
 rw[h.1,h.2,U7k,Nat.sub_zero,U4s]
section
variable{X:Cx}
theorem lH:OpR X (binaryOp .Add) (fun x y H Q=>∃(a b:Addr)(xs ys:List V),x=.ref a/\y=.ref b/\H a=some (.tup xs)/\H b=some (.tup ys)/\xs.length+ys.length<=sizeLine/\∀p H',Same H H'->H' p=some (.tup (xs++ys))->Q (.ref p) H'):=by
 intro pins s σ H x y v u Q I rx ry h
 obtain⟨a,b,xs,ys,rfl,rfl,ha,hb,hz,q⟩:=h
 by_cases hx:xs=[]
 .subst hx
  cases rx
  cases ry
  obtain⟨its,r1,p1,_⟩:=I.tuple (SqT.of ha)
  obtain⟨its2,r2,p2,_⟩:=I.tuple (SqT.of hb)
  cases r1
  exact HT.iT p1 p2 ⟨.ref b,H,I,rfl,q b H (Same.refl H) hb⟩
 .refine lG pins s σ H _ _ v u Q I rx ry ⟨a,b,xs,ys,rfl,rfl,SqT.of ha,SqT.of hb,hx,hz,fun z=>?_,fun _ p hp=>q p _ (Cz hp _) Bo⟩
  subst z
  exact q a H (Same.refl H) (by rw[U3f];exact ha)
theorem jg:SlR X (fun x lo hi H Q=>∃(a:Addr)(xs:List V),x=.ref a/\H a=some (.tup xs)/\∀p H',Same H H'->H' p=some (.tup (JV xs lo hi))->Q (.ref p) H'):=by
 intro pins s σ H x v vl vu lo hi sl Q I rx hs pl pu h
 obtain⟨a,xs,rfl,ha,q⟩:=h
 by_cases hw:HT.sIx xs.length 0 lo=0/\HT.sIx xs.length xs.length hi=xs.length
 .cases rx
  obtain⟨its,r,ht,hz⟩:=I.tuple (SqT.of ha)
  have hlen:its.toArray.size=xs.length:=by rw[U0v];exact r.length.symm
  refine⟨"tuple",_,U2p.lookup,ht.typeIs,?_⟩
  exact HT.Xf ht hs pl pu (by rw[hlen];exact hw) ⟨.ref a,H,I,rfl,q a H (Same.refl H) (by rw[Zn xs lo hi hw];exact ha)⟩
 .exact pU pins s σ H _ v vl vu lo hi sl Q I rx hs pl pu ⟨a,xs,rfl,SqT.of ha,hw,fun p hp=>q p _ (Cz hp _) Bo⟩
theorem fj{d:Addr}{D:List (PyData×PyData)}(hT:∀h,X.K.In h->IntTab X.prog X.w h d D):OpR X (compareOp .In) (fun x y H Q=>∃(i:Int),x=.int i/\y=.ref d/\Q (.bl (lookup (.int i) D).isSome) H):=by
 intro pins s σ H x y v u Q I rx ry h
 obtain⟨i,rfl,rfl,q⟩:=h
 obtain⟨t,rfl⟩:=(show ∃t,v=U27 i t from rx)
 cases ry
 exact in_intTab (hT _ I.kIn) ⟨.bl _,H,I.tok _,rfl,q⟩
theorem oH{P:Program}{w:World}{K:U0a}{d:Addr}{ep:Nat}{h1 h2 h3 k1 k2 k3 v1 v2 v3:Int}{t1 t2 t3 u1 u2 u3:Tok}(hd:(d==sysModules)=false)
  (l:K.lookup d=some { cls:=.type "dict",data:=.dict #[⟨h1,.int k1 t1,.int v1 u1⟩,⟨h2,.int k2 t2,.int v2 u2⟩,⟨h3,.int k3 t3,.int v3 u3⟩] ep })
  (e1:h1=hashInt k1) (e2:h2=hashInt k2) (e3:h3=hashInt k3) (nd:[k1,k2,k3].Nodup):∀h,K.In h->IntTab P w h d [(.int k1,.int v1),(.int k2,.int v2),(.int k3,.int v3)]:=by
 intro h kin
 refine⟨hd,[(k1,.int v1 u1),(k2,.int v2 u2),(k3,.int v3 u3)],⟨_,_,ep,kin _ _ l,⟨rfl,rfl,rfl⟩,rfl,?_,?_,nd⟩,?_⟩
 .intro e he
  simp only[List.mem_toArray,U0w,U2t,or_false] at he
  rcases he with z|z|z
  .subst z;exact⟨k1,intKind_is P w k1 t1,e1⟩
  .subst z;exact⟨k2,intKind_is P w k2 t2,e2⟩
  .subst z;exact⟨k3,intKind_is P w k3 t3,e3⟩
 .exact .cons (intKind_is P w k1 t1) rfl (.cons (intKind_is P w k2 t2) rfl (.cons (intKind_is P w k3 t3) rfl .nil))
 .exact .cons (.int v1 u1) (.cons (.int v2 u2) (.cons (.int v3 u3) .nil))
end
end L2
end
section
namespace L2
open PySem PySem.Spec PyProof.Rows
def Cal(P:Program)(w:World)(K:U0a)(mg:Str->Option Value)(base:Heap)(x:Str)(k:Nat)(ps:List Str)(sp:Sp):Prop :=
 ∃f fd,DG P w K mg base CX0 k f fd ps sp/\Binds K fd ps []/\U08 K (.ref f)=true/\mg x=some (.ref f)
section
variable{X:Cx}
theorem RK{x:Str}{k k':Nat}{ps:List Str}{sp:Sp}{e:Expr}{es:List Expr}{t:TA}{p pos:Pos}(c:Cal X.prog X.w X.K X.mg X.base x k ps sp)(hr:Ed k' X.A)(hk:k<=k')(hg:Gl X x)(ha:PA X (e::es) t)
  (hdb:(x==("__debug__":Str))=false:=by decide) (he:starEach (e::es) X.env=(false,eval e X.env)::starEach es X.env:=by rfl) (hpl:(backTo pos (starEach es X.env)).any (·.1)=false:=by rfl) :
  PE X (.Call (.Name x p) (e::es) [] pos) (j6 sp [] E0 t):=by
 obtain⟨f,fd,F,b,kp,m⟩:=c
 exact lC (F.mono hk) hr hg m kp b .nil uW ha hdb he hpl
theorem WW:OpR X (binaryOp .FloorDiv) (rI (fun _ j=>0<j/\j<2^64) fun i j=>.int (i/j)):=opI fun i j _ _ _ _ _ hc q=>by
 rw[←Int.fdiv_eq_ediv_of_nonneg _ (U7t hc.1)] at q
 refine floordiv_int (Int.ne_of_gt hc.1) q (.inl (PyProof.noPylong_of_log2 ?_))
 have h1:j.natAbs<2^64:=by omega
 have h2:j.natAbs≠0:=by omega
 exact U2q ((Nat.log2_lt h2).mpr h1) (by decide)
end
theorem Gx:bootBuiltins "len"=some (.builtin "len"):=by decide +kernel
theorem Gb:bootBuiltins "isinstance"=some (.builtin "isinstance"):=by decide +kernel
theorem aR:bootBuiltins "all"=some (.builtin "all"):=by decide +kernel
theorem cW:bootBuiltins "sorted"=some (.builtin "sorted"):=by decide +kernel
theorem sJ:bootBuiltins "min"=some (.builtin "min"):=by decide +kernel
theorem aQ:bootBuiltins "max"=some (.builtin "max"):=by decide +kernel
theorem Qc:bootBuiltins "repr"=some (.builtin "repr"):=by decide +kernel
theorem sI:bootBuiltins "set"=some (.type "set"):=by decide +kernel
theorem Tz:bootBuiltins "list"=some (.type "list"):=by decide +kernel
theorem O4:bootBuiltins "tuple"=some (.type "tuple"):=by decide +kernel
theorem iY:bootBuiltins "range"=some (.type "range"):=by decide +kernel
theorem W0:bootBuiltins "int"=some (.type "int"):=by decide +kernel
theorem nH:bootBuiltins "bool"=some (.type "bool"):=by decide +kernel
def RZ:List Str:=["len","isinstance","all","sorted","min","max","abs","repr","set","list","tuple","range","int","bool","str"]
def Blt(mg:Str->Option Value):Prop:=∀x∈RZ,mg x=none
theorem Blt.is{mg:Str->Option Value}(b:Blt mg)(x:Str)(h:RZ.contains x=true:=by decide +kernel):mg x=none:=b x (List.contains_iff_mem.mp h)
def tyName:PyData->String
 |.none=>"NoneType"
 |.bool _=>"bool"
 |.int _=>"int"
 |.str _=>"str"
 |.list _=>"list"
 |.tuple _=>"tuple"
 |.dict _=>"dict"
theorem Tr.ty{N:Addr->Prop}{K:U0a}{H:Hp}{v:V}{d:PyData}(t:Tr N H v d):JD K H v (.type (tyName d)):=by
 cases t with
 |non=>exact .non
 |bl b=>exact .bl b
 |int i=>exact .int i
 |str x=>exact .str x
 |lst _ h _=>exact .lst h
 |tup _ h _=>exact .tup h
 |dct _ h=>exact .dK h
def Vo(T:String)(d:PyData):Bool:=match T with
 |"int"=>(match d with|.int _=>true|.bool _=>true|_=>false)
 |"bool"=>(match d with|.bool _=>true|_=>false)
 |"tuple"=>(match d with|.tuple _=>true|_=>false)
 |"list"=>(match d with|.list _=>true|_=>false)
 |_=>false
theorem lu{K:U0a}(d:PyData):U3d K (.type (tyName d)) (.type "int")=some (Vo "int" d):=by
 cases d with
 |none=>exact Ca (a:="NoneType") (r:=false) (by decide +kernel)
 |bool _=>exact Ca (a:="bool") (r:=true) (by decide +kernel)
 |int _=>exact Ca (a:="int") (r:=true) (by decide +kernel)
 |str _=>exact Ca (a:="str") (r:=false) (by decide +kernel)
 |list _=>exact Ca (a:="list") (r:=false) (by decide +kernel)
 |tuple _=>exact Ca (a:="tuple") (r:=false) (by decide +kernel)
 |dict _=>exact Ca (a:="dict") (r:=false) (by decide +kernel)
theorem gb{K:U0a}(d:PyData):U3d K (.type (tyName d)) (.type "bool")=some (Vo "bool" d):=by
 cases d with
 |none=>exact Ca (a:="NoneType") (r:=false) (by decide +kernel)
 |bool _=>exact Ca (a:="bool") (r:=true) (by decide +kernel)
 |int _=>exact Ca (a:="int") (r:=false) (by decide +kernel)
 |str _=>exact Ca (a:="str") (r:=false) (by decide +kernel)
 |list _=>exact Ca (a:="list") (r:=false) (by decide +kernel)
 |tuple _=>exact Ca (a:="tuple") (r:=false) (by decide +kernel)
 |dict _=>exact Ca (a:="dict") (r:=false) (by decide +kernel)
theorem kit_tuple{K:U0a}(d:PyData):U3d K (.type (tyName d)) (.type "tuple")=some (Vo "tuple" d):=by
 cases d with
 |none=>exact Ca (a:="NoneType") (r:=false) (by decide +kernel)
 |bool _=>exact Ca (a:="bool") (r:=false) (by decide +kernel)
 |int _=>exact Ca (a:="int") (r:=false) (by decide +kernel)
 |str _=>exact Ca (a:="str") (r:=false) (by decide +kernel)
 |list _=>exact Ca (a:="list") (r:=false) (by decide +kernel)
 |tuple _=>exact Ca (a:="tuple") (r:=true) (by decide +kernel)
 |dict _=>exact Ca (a:="dict") (r:=false) (by decide +kernel)
theorem gZ{K:U0a}(d:PyData):U3d K (.type (tyName d)) (.type "list")=some (Vo "list" d):=by
 cases d with
 |none=>exact Ca (a:="NoneType") (r:=false) (by decide +kernel)
 |bool _=>exact Ca (a:="bool") (r:=false) (by decide +kernel)
 |int _=>exact Ca (a:="int") (r:=false) (by decide +kernel)
 |str _=>exact Ca (a:="str") (r:=false) (by decide +kernel)
 |list _=>exact Ca (a:="list") (r:=true) (by decide +kernel)
 |tuple _=>exact Ca (a:="tuple") (r:=false) (by decide +kernel)
 |dict _=>exact Ca (a:="dict") (r:=false) (by decide +kernel)
end L2
end
section
namespace L2
open PySem PySem.Spec PyProof.Rows
def Le:PyData->Bool
 |.none=>true
 |.bool _=>true
 |.int i=>decide (i.natAbs<10^41)
 |.str x=>decide (x.length<=30)&&x.cps.toList.all fun c=>decide (c<16^8)
 |.dict kvs=>kvs.isEmpty
 |_=>false
def fit:List Nat->PyData->Bool
 |w::ws,.list xs=>decide (xs.length<=w)&&xs.all (fit ws)
 |w::ws,.tuple xs=>decide (xs.length<=w)&&xs.all (fit ws)
 |_,d=>Le d
def bnd:List Nat->Nat
 |[]=>400
 |w::ws=>w*(bnd ws+2)+400
theorem Yd{d:PyData}(h:Le d=true):d.showable=true/\d.depth<=1/\d.shown.length<=400:=by
 cases d with
 |none=>exact⟨rfl,by simp[U3c],by decide⟩
 |bool b=>exact⟨rfl,by simp[U3c],by cases b<;>decide⟩
 |int i =>
  have hi:i.natAbs<10^41:=of_decide_eq_true h
  refine⟨?_,by simp[U3c],?_⟩
  .simp only[U6c,decide_eq_true_eq]
   by_cases h0:i.natAbs=0
   .rw[h0];decide
   .exact U2q ((Nat.log2_lt h0).mpr (U2q hi (by decide:10^41<2^137))) (by decide)
  .have q:=int_text_length_le10 (k:=41) (by decide) hi
   have e:(U4t (.int i)).length=(toString i).length:=by
    show(U3 (toString i)).length=_
    exact PySem.ofString_length _
   rw[e];omega
 |str x =>
  simp only[Le,U00,decide_eq_true_eq,U3l] at h
  refine⟨rfl,by simp[U3c],?_⟩
  have q:=StrLaws.reprText_len x h.2
  simp only[U4t]
  have:=h.1
  omega
 |list xs=>cases h
 |tuple xs=>cases h
 |dict kvs =>
  cases kvs with
  |nil=>exact⟨rfl,by simp[U3c,PyData.depthKv],by decide⟩
  |cons a r=>cases h
theorem Tq{ws:List Nat}(ih:∀d,fit ws d=true->d.showable=true/\d.depth<=ws.length+1/\d.shown.length<=bnd ws):∀xs:List PyData,xs.all (fit ws)=true ->
  PyData.showableAll xs=true/\U4 xs<=ws.length+1/\((U43 xs).map (·.length)).sum+2*(U43 xs).length<=xs.length*(bnd ws+2)
 |[],_=>⟨rfl,by simp[U4],by simp[U43]⟩
 |x::r,h=>by
  rw[U6q,U00] at h
  obtain⟨a1,a2,a3⟩:=ih x h.1
  obtain⟨b1,b2,b3⟩:=Tq ih r h.2
  refine⟨by simp[PyData.showableAll,a1,b1],by simp only[U4];omega,?_⟩
  simp only[U43,U0t,U55,U0g]
  rw[show(r.length+1)*(bnd ws+2)=r.length*(bnd ws+2)+(bnd ws+2) from Nat.succ_mul _ _]
  omega
theorem aN:∀(ws:List Nat)(d:PyData),fit ws d=true->d.showable=true/\d.depth<=ws.length+1/\d.shown.length<=bnd ws
 |[],d,h=>by
  have h':Le d=true:=by
   cases d<;>exact h
  obtain⟨a,b,c⟩:=Yd h'
  exact⟨a,b,c⟩
 |w::ws,d,h=>by
  have ih:=aN ws
  have leaf:Le d=true->d.showable=true/\d.depth<=(w::ws).length+1/\d.shown.length<=bnd (w::ws):=fun h'=>by
   obtain⟨a,b,c⟩:=Yd h'
   refine⟨a,by rw[U0g];omega,U07 c ?_⟩
   unfold bnd;omega
  cases d with
  |list xs =>
   simp only[fit,U00,decide_eq_true_eq] at h
   obtain⟨a,b,c⟩:=Tq ih xs h.2
   refine⟨by simpa [U6c] using a,by simp only[U3c,U0g];omega,?_⟩
   have q:=listText_len_le (U43 xs)
   have m:=U5b (bnd ws+2) h.1
   simp only[U4t,bnd]
   omega
  |tuple xs =>
   simp only[fit,U00,decide_eq_true_eq] at h
   obtain⟨a,b,c⟩:=Tq ih xs h.2
   refine⟨by simpa [U6c] using a,by simp only[U3c,U0g];omega,?_⟩
   have q:=tupleText_len_le (U43 xs)
   have m:=U5b (bnd ws+2) h.1
   simp only[U4t,bnd]
   omega
  |none=>exact leaf h
  |bool b=>exact leaf h
  |int i=>exact leaf h
  |str x=>exact leaf h
  |dict kvs=>exact leaf h
def Nx(n:Nat)(Pv:Nat->List V->Hp->Prop)(i:Nat)(ys:List V)(H:Hp):Prop:=∃m',m'<n-i/\(m'=n-(i+1)/\i+1<=n/\Pv (i+1) ys H)
theorem nx{n:Nat}{Pv:Nat->List V->Hp->Prop}{i:Nat}{ys:List V}{H:Hp}(hi:i<n)(p:Pv (i+1) ys H):Nx n Pv i ys H:=⟨n-(i+1),by omega,rfl,hi,p⟩
section
variable{k:Nat}{caps:List Nat}{σ:St}{g:TG}{tt:TT}{te:TE}{Q:VK}{H:Hp}
end
def Well(H:Hp)(a:Addr):Prop:=∃x y:Int,H a=some (.lst [.int x,.int y])
end L2
end
section
namespace L2
open PySem PySem.Spec PyProof.Rows
section
variable{a:Addr}{H0:Hp}{σ:St}{te t1 t2:TE}{ta:TA}{d:PyData}{ds d1 d2:List PyData}{i j:Int}
end
end L2
end
section
namespace L2
open PySem PySem.Spec PyProof.Rows
section
variable{X:Cx}{K:U0a}
abbrev vY(K:U0a):List V->Hp->VK->Prop:=fun xs H Q=>∃p ys,xs=[.ref p]/\(SqL K H p ys∨SqT K H p ys)/\Q (.int ys.length) H
abbrev jr(K:U0a):List V->Hp->VK->Prop:=fun xs H Q=>∃p ys,xs=[.ref p]/\(SqL K H p ys∨SqT K H p ys)/\∀l,H l=none->Q (.ref l) (upd H l (.lst ys))
abbrev fL(K:U0a):List V->Hp->VK->Prop:=fun xs H Q=>∃p ys,xs=[.ref p]/\((SqL K H p ys/\∀l,H l=none->Q (.ref l) (upd H l (.tup ys)))∨(SqT K H p ys/\Q (.ref p) H))
theorem fX{d:Addr}{D:List (PyData×PyData)}{x:Str}{p pos:Pos}{b:Expr}{ta tb:TE}(hT:∀h,X.K.In h->IntTab X.prog X.w h d D)(ha:PE X (.Name x p) ta)(hb:PE X b tb)(hs:Qd b)
  (hg:∀r,letTemporaryGo (.Name x p) (.ref d) r=pure ():=by intro _;with_unfolding_all rfl) :
  PE X (.Subscript (.Name x p) b pos) (tOp (fun x y H Q=>∃(i j:Int),x=.ref d/\y=.int i/\lookup (.int i) D=some (.int j)/\Q (.int j) H) ta tb):=by
 intro pins s σ H Q I h
 refine Subscript_ (Yx ha hb I h fun v u s2 x y H2 I2 rx ry q=>?_)
 obtain⟨i,j,rfl,rfl,hl,q⟩:=q
 cases rx
 obtain⟨t,rfl⟩:=ry
 refine item_intTab (hT _ I2.kIn) hl (fun v fl=>?_) (hs _ _) hg
 cases fl s2.heap with
 |int _ t'=>exact⟨.int j,H2,I2.tok _,⟨t',rfl⟩,q⟩
theorem cR(hc:X.calm=true)(hK:X.K=K):DN X (.builtin "max") (fun xs H Q=>∃(p:Addr)(ns:List Int),xs=[.ref p]/\SqL K H p (ns.map V.int)/\ns≠[]/\∀m,m∈ns->(∀n∈ns,n<=m)->Q (.int m) H):=by
 subst hK
 intro pins s σ H xs us Q I r h
 obtain⟨p,ns,rfl,hq,hne,q⟩:=h
 obtain⟨u,rfl,rx⟩:=vals1 r
 cases rx
 obtain⟨its,rv,pl,hz⟩:=I.list hq
 have hlen:=rv.length
 rw[U0l] at hlen
 have hl:=pl.isList
 have hlt:p<s.heap.objs.size:=by obtain⟨o,ho,_⟩:=hl;exact U0k ho
 have hval:∀i v,its.toArray[i]?=some v->∃t,v=U27 (ns.getD i 0) t:=fun i v e=>by
  rw[U38] at e
  have hi:i<ns.length:=by rw[hlen];exact(U0p.mp e).1
  obtain⟨u,e1,ru⟩:=rv.get (i:=i) (x:=.int ns[i]) (by rw[U04,U0h hi];rfl)
  rw[e] at e1;cases e1
  have e2:ns.getD i 0=ns[i]:=by rw[U0o,U0h hi];rfl
  rw[e2]
  exact ru
 have hpos:0<ns.length:=U32.mpr hne
 refine call_max_walk (U48 hl ?_)
 refine⟨s.heap.objs.size,[s.heap.objs.size,p],[s.heap.objs.size],its.toArray.size,fun i v=>its.toArray[i]?=some v,_,_,rfl,Walks.list (by simpa using I.ok.hd hc) s.heap.objs.size p (U0u hlt) its.toArray,⟨⟨_,U0n _ rfl,rfl,rfl⟩,hl.push _⟩,?_,?_,CmpOf.ints_gt (fun i=>ns.getD i 0) hval,fun v h' tk hP hk=>?_⟩
 .intro b hb
  show b<(s.heap.push _).objs.size
  rw[U1s]
  rcases U0w.mp hb with z|hb
  .rw[z];exact U3k _
  .rw[U0z.mp hb];exact U18 hlt
 .rw[U0v,←hlen];exact hpos
 .obtain⟨g1,g2⟩:=argBest_gt (fun i=>ns.getD i 0) (its.toArray.size-1)
  obtain⟨t,rfl⟩:=hval _ _ hP
  rw[U0v,←hlen] at g1 g2
  have hb:argBest (fun i j=>decide (ns.getD i 0>ns.getD j 0)) (ns.length-1)<ns.length:=by omega
  rw[U0v,←hlen]
  refine⟨.int _,H,I.kept (h':=h') (t':=tk) fun b o e=>hk b o (fun z=>?_) (U0b _ e),⟨t,rfl⟩,q _ ?_ fun n hn=>?_⟩
  .exact absurd (U0z.mp z) (U0u (U0k e))
  .rw[U0o,U0h hb]
   exact U3a hb
  .obtain⟨j,hj,rfl⟩:=List.getElem_of_mem hn
   have:=g2 j (by omega)
   rw[U0o,U0h hj] at this
   exact this
end
end L2
end
section
namespace Bc
open PySem PySem.Spec PyProof.Rows L2
abbrev D3:List (PyData×PyData):=[(.int 1,.int 20),(.int 2,.int 10),(.int 3,.int 6)]
theorem uo(i:Int):(lookup (.int i) D3).isSome=decide (i=1∨i=2∨i=3):=by
 have same_i:∀a b:Int,same (.int a) (.int b)=decide (a=b):=fun a b=>by by_cases h:a=b<;>simp[same,h]
 simp only[lookup,same_i]
 by_cases h1:(1:Int)=i
 .subst h1;rfl
 by_cases h2:(2:Int)=i
 .subst h2;rfl
 by_cases h3:(3:Int)=i
 .subst h3;rfl
 rw[decide_eq_false h1,decide_eq_false h2,decide_eq_false h3]
 have h:¬(i=1∨i=2∨i=3):=by omega
 rw[decide_eq_false h]
 rfl
def pH:PyData->Bool
 |.tuple es=>U5z es&&decide (U4 es<=60)
 |_=>true
def lay:PyData->Bool
 |.tuple ds=>ds.all pH
 |_=>true
abbrev F3:List Nat:=[9,9,9]
def nr(a:Int):Bool:=decide (-(10^9)<=a)&&decide (a<=10^9)
def bx:PyData->Bool
 |.tuple [.int a,.int b]=>nr a&&nr b&&decide (a<b)
 |_=>false
def part(d:PyData):Bool:=fit [9,9] d&&pH d
def good(d:PyData):Bool:=fit F3 d&&lay d
end Bc
end
section
set_option maxRecDepth 100000
namespace HT
open PySem PySem.Spec PyProof.Rows
open AutoSeq1 (wpAny_loadPart')
theorem Ri:fillsNumberSlot (.type "tuple") "mul"=pure false :=
 PySem.fillsNumberSlot_seq (id:="tuple.__mul__") (r:=some (.builtin "tuple.__rmul__")) U44.lookup (by decide +kernel) PySem.F.slot_tuple_rmul.lookup (by decide +kernel)
theorem bG:seqRepeat? (.type "tuple")=pure (some (.builtin "tuple.__mul__")):=by
 unfold seqRepeat?
 rw[PySem.seqSlot_of (T:="tuple") (name:="__mul__") (id:="tuple.__mul__") U44.lookup (by decide +kernel),PySem.seqSlot_of (T:="tuple") (name:="__rmul__") (id:="tuple.__rmul__") PySem.F.slot_tuple_rmul.lookup (by decide +kernel)]
 rfl
theorem XR(a:Int)(t:Tok)(l:Addr)(items:Array Value)(n:Nat)(dd:Option Addr)(sl:Array (Option Value)) :
  Meets (Builtin.«int.__rmul__» ⟨[.int a t,.ref l],[]⟩) (fun _ R s=>s.heap.get? l=some { cls:=.type "tuple",dict:=dd,data:=.seq items n,slots:=sl }/\R (.ok (.ret Value.notImplemented)) s) :=
 .of_wp fun prog w A R s h=>by obtain⟨hp,g,d,tk,os⟩:=s;obtain⟨hl,h⟩:=h;wp_walk using wpAny_loadPart' hl;exact⟨_,rfl,h⟩
theorem dh(l:Addr)(items:Array Value)(n:Nat)(dd:Option Addr)(sl:Array (Option Value))(x:Int)(u:Tok)(hc0:¬(decide (x < -(2^63))||decide (x≥2^63))=true)(hc1:(items.isEmpty||x==1)=true) :
  Meets (Builtin.«tuple.__mul__» ⟨[.ref l,.int x u],[]⟩) (fun _ R s=>s.heap.get? l=some { cls:=.type "tuple",dict:=dd,data:=.seq items n,slots:=sl }/\R (.ok (.ret (U1y l))) { s with heap:=s.heap,toks:=s.toks }) :=
 .of_wp fun prog w A R s h=>by obtain⟨hp,g,d,tk,os⟩:=s;obtain⟨hl,h⟩:=h;have f1:=AutoSeq1.idx_int;wp_walk;refine U7 (decide_eq_false hc0) ?_;wp_walk using wpAny_loadPart' hl;exact⟨_,rfl,h⟩
theorem dg(l:Addr)(items:Array Value)(n:Nat)(dd:Option Addr)(sl:Array (Option Value))(x:Int)(u:Tok)(hc0:¬(decide (x < -(2^63))||decide (x≥2^63))=true)(hc1:¬(items.isEmpty||x==1)=true)
  (hc2:¬(decide (x<=0)||items.isEmpty)=true) (hc3:¬(items.size:Int)*x>(2^63-1)/8) (hc4:¬Builtin.Tuple.tupleTooMany ((items.size:Int)*x)=true) (hsz:(U6 (fun x1 x2=>x1++x2) #[] (U0m x.toNat items)).size<=sizeLine) :
  Meets (Builtin.«tuple.__mul__» ⟨[.ref l,.int x u],[]⟩) (fun _ R s=>s.heap.get? l=some { cls:=.type "tuple",dict:=dd,data:=.seq items n,slots:=sl }/\R (.ok (.ret (U1y s.heap.objs.size))) { s with heap:=s.heap.push { cls:=U2v "tuple",data:=Data.seq (U6 (fun x1 x2=>x1++x2) #[] (U0m x.toNat items)) },toks:=s.toks }) :=
 .of_wp fun prog w A R s h=>by obtain⟨hp,g,d,tk,os⟩:=s;obtain⟨hl,h⟩:=h;have f1:=AutoSeq1.idx_int;wp_walk;refine U7 (decide_eq_false hc0) ?_;wp_walk using wpAny_loadPart' hl;refine U7 (decide_eq_false hc3) ?_;wp_walk;exact⟨_,rfl,h⟩
section
variable{prog:Program}{w:World}{A:Around}{E:Value->Shared->Prop}{s:Shared}
theorem lN{t:Addr}{its:List Value}{k:Int}{u:Tok}{Q:Value->Shared->Prop}(ht:IsTup s.heap t its.toArray)(hne:its≠[])(h1:1<=k)(h2:k<2^60)(hz:its.length*k.toNat<=sizeLine)
  (q1:k=1->Q (.ref t) s) (q2:k≠1->Q (.ref s.heap.objs.size) { s with heap:=s.heap.push { cls:=.type "tuple",data:=.seq (U0m k.toNat its).flatten.toArray } }) :
  wpAny (model prog w) A (binaryOp .Mult (.ref t) (.int k u)) Q E s:=by
 obtain⟨⟨c1,d1,x1,sl1⟩,ho,hc,n,hd⟩:=id ht
 simp only at hc hd
 subst hc hd
 have c0:¬(decide (k < -(2^63))||decide (k≥2^63))=true:=by
  rw[decide_eq_false (by omega),decide_eq_false (by omega)];exact U1c
 have ne:its.toArray.isEmpty=false:=by cases its with|nil=>exact absurd rfl hne|cons _ _=>rfl
 have hnew:U6 (fun x1 x2=>x1++x2) #[] (U0m k.toNat its.toArray)=(U0m k.toNat its).flatten.toArray:=by
  have:=L2.foldl_rep its k.toNat []
  rw[U16] at this
  exact this
 refine wpAny_binaryOp_repeat_ref (T:="tuple") (U:="int") (by decide) ⟨_,ho,rfl⟩ (fun s'=>typeIs_int s' k u) Ri PySem.F.fills_int_mul PySem.F.slot_int_rmul bG PySem.F.slot_int_index.lookup
  (call_meets PySem.F.slot_int_rmul (typeIs_int s k u) PySem.F.entry_int_rmul (PySem.F.args_int_rmul_2 _ _) (XR k u t its.toArray n d1 sl1) ⟨ho,rfl,⟨_,ho,rfl⟩,?_⟩)
 by_cases k1:k=1
 .exact call_meets U44 ⟨_,ho,rfl⟩ PySem.F.entry_tuple_mul (PySem.F.args_tuple_mul_2 _ _) (dh t its.toArray n d1 sl1 k u c0 (by rw[k1];simp)) ⟨ho,q1 k1⟩
 .have e:((its.toArray.size:Nat):Int)*k=((its.length*k.toNat:Nat):Int):=by
   rw[U0v,Int.natCast_mul,Int.toNat_of_nonneg (by omega)]
  have hs:(sizeLine:Nat)=16777216:=by decide
  refine call_meets U44 ⟨_,ho,rfl⟩ PySem.F.entry_tuple_mul (PySem.F.args_tuple_mul_2 _ _) (dg t its.toArray n d1 sl1 k u c0 ?_ ?_ ?_ ?_ ?_) ⟨ho,?_⟩
  .rw[ne];simp[k1]
  .rw[ne,decide_eq_false (by omega)];exact U1c
  .rw[e];omega
  .rw[e]
   unfold Builtin.Tuple.tupleTooMany
   rw[decide_eq_true_eq]
   omega
  .rw[hnew,U0v,L2.len_rep,U6z];exact hz
  .rw[hnew];exact q2 k1
end
end HT
namespace L2
open PySem PySem.Spec PyProof.Rows
abbrev j8:R2:=fun x y H Q=>∃(a:Addr)(k:Int)(xs:List V),x=.ref a/\y=.int k/\H a=some (.tup xs)/\xs≠[]/\1<=k/\k<2^60/\xs.length*k.toNat<=sizeLine/\∀p H',Same H H'->H' p=some (.tup (U0m k.toNat xs).flatten)->Q (.ref p) H'
section
variable{X:Cx}
theorem lF:OpR X (binaryOp .Mult) j8:=by
 intro pins s σ H x y v u Q I rx ry h
 obtain⟨a,k,xs,rfl,rfl,ha,hne,k1,k2,hz,q⟩:=h
 cases rx
 obtain⟨t,rfl⟩:=ry
 obtain⟨its,r1,p1,_⟩:=I.tuple (SqT.of ha)
 refine HT.lN p1 (fun z=>hne (r1.QS.mp z)) k1 k2 (by rw[←r1.length];exact hz) (fun e=>?_) (fun e=>?_)
 .refine⟨.ref a,H,I,rfl,q a H (Same.refl H) ?_⟩
  rw[e]
  simpa using ha
 .refine⟨.ref s.heap.objs.size,_,I.laid (t':=s.toks) (o:=.tup (U0m k.toNat xs).flatten) (fun b ob q=>U0b _ q) (U0s _) ?_,rfl,q _ _ (Cz (I.hok.fresh (U0s _)) _) Bo⟩
  exact⟨by rw[len_rep,U6z];exact hz,_,r1.rep k.toNat,IsTup.new _ _⟩
end
section
variable{X:Cx}
theorem LQ{k:Nat}(hr:Ed k X.A):DN X (.builtin "repr") (fun xs H Q=>∃(N:Addr->Prop)(v:V)(d:PyData),xs=[v]/\Tr N H v d/\d.showable=true/\d.depth<=60/\d.shown.length<=sizeLine/\Q (.str d.shown) H):=by
 intro pins s σ H xs us Q I r h
 obtain⟨N,v,d,rfl,t,h1,h2,h3,q⟩:=h
 have onRef:∀b,v=.ref b->wpAny (model X.prog X.w) X.A (call (.builtin "repr") us) (EP X pins σ Q) X.xe s:=fun b e=>by
  subst e
  exact cP hr pins s σ H _ us Q I r ⟨N,b,d,rfl,t,h1,h2,h3,q⟩
 cases t with
 |lst _ _ _=>exact onRef _ rfl
 |tup _ _ _=>exact onRef _ rfl
 |dct _ _=>exact onRef _ rfl
 |non =>
  obtain⟨u,rfl,rx⟩:=vals1 r
  cases (show u=U13 from rx)
  exact PySem.P.repr_of_none ⟨.str "None",H,I.tok _,⟨_,rfl⟩,q⟩
 |bl b =>
  obtain⟨u,rfl,rx⟩:=vals1 r
  cases (show u=U4y b from rx)
  exact PySem.P.repr_of_bool ⟨.str (if b then "True" else "False"),H,I.tok _,⟨_,rfl⟩,q⟩
 |int i =>
  obtain⟨u,rfl,rx⟩:=vals1 r
  obtain⟨t,rfl⟩:=rx
  exact PySem.P.repr_of_int (by simpa [U6c] using h1) ⟨.str (toString i),H,I.tok _,⟨_,rfl⟩,q⟩
 |str x =>
  obtain⟨u,rfl,rx⟩:=vals1 r
  obtain⟨t,rfl⟩:=rx
  exact PySem.P.repr_of_str ⟨.str (reprText x),H,I.tok _,⟨_,rfl⟩,q⟩ h3
end
section
variable{a:Addr}{H0:Hp}{σ:St}{te t1 t2:TE}{ta:TA}{d:PyData}{ds d1 d2:List PyData}{i j:Int}{K:U0a}
end
structure Wq(a q:Addr)(bs:List V)(H:Hp):Prop where
 w:Well H a
 at_:H q=some (.lst bs)
 ne:q≠a
section
variable{a q p:Addr}{bs:List V}{H H':Hp}
abbrev jA:R2:=fun x y H Q=>∃(a b:Addr)(xs ys:List V),x=.ref a/\y=.ref b/\H a=some (.tup xs)/\H b=some (.tup ys)/\xs.length+ys.length<=sizeLine/\∀p H',Same H H'->H' p=some (.tup (xs++ys))->Q (.ref p) H'
abbrev oW:V->Option Int->Option Int->Hp->VK->Prop:=fun x lo hi H Q=>∃(a:Addr)(xs:List V),x=.ref a/\H a=some (.tup xs)/\∀p H',Same H H'->H' p=some (.tup (JV xs lo hi))->Q (.ref p) H'
end
end L2
end
section
namespace L2
open PySem PySem.Spec PyProof.Rows
end L2
namespace Bc
open PySem PySem.Spec PyProof.Rows L2
def qw:PyData->Nat
 |.int 1=>20
 |.int 2=>10
 |.int 3=>6
 |_=>0
def vq(n:Nat):PyData->Bool
 |.tuple es=>decide (es.length=n)&&es.all bx
 |_=>false
end Bc
end
section
namespace L2
open PySem PySem.Spec PyProof.Rows
section
variable{X:Cx}
end
end L2
end
section
set_option maxRecDepth 100000
namespace HT
open PySem PySem.Spec PyProof.Rows
section
variable{prog:Program}{w:World}{A:Around}{E:Value->Shared->Prop}{s:Shared}
theorem nextT{it t:Addr}{i:Nat}{ws:Array Value}{x:Value}{Q:Value->Shared->Prop}(c:s.heap.IsTupleIter it t i)(ct:s.heap.IsTuple t ws)(ex:ws[i]?=some x)
  (q:∀h',h'.IsTupleIter it t (i+1)->U03 it s.heap h'->Q x { s with heap:=h' }):wpAny (model prog w) A (U1g (.ref it)) Q E s:=by
 obtain⟨o,e0,e1,e2⟩:=id c
 obtain⟨ot,f0,_,nt,f1⟩:=ct
 unfold U1g
 refine U0 (wpAny_callSpecial?_slot (name:=U3 "__next__") c.typeIs U3m (U2d U3m c.typeIs PySem.F.entry_tuple_iterator_next ?_ (PySem.F.args_tuple_iterator_next_1 _)))
 refine(show wpAny _ _ (field (.ref it) 0 >>= _) _ _ s from U0 (U2b e0 e2 (x:=.ref t) rfl ?_))
 show wpAny _ _ (ite ((U1y t==U13)=true) _ _) _ _ s
 rw[if_neg (by exact U1c)]
 refine(show wpAny _ _ (field (.ref it) 1 >>= _) _ _ s from U0 (U2b e0 e2 (x:=.int i 0) rfl ?_))
 refine(show wpAny _ _ (seqItems? (.ref t) >>= _) _ _ s from U0 (U19 f0 f1 ?_))
 simp only[ex,U2w]
 refine U0 (U25 e0 e2 (by simp) (U0d ⟨x,rfl,U0d (q _ ⟨_,U1k _ e0 (Obj.isFreed_of_fields (Obj.data_mapFields e2 _)),(Obj.cls_mapFields ..).trans e1,?_⟩ (U1r ..))⟩))
 rw[Obj.data_mapFields e2]
 simp[rawInt]
theorem qu{it t:Addr}{i:Nat}{ws:Array Value}{Q:Value->Shared->Prop}(ha:A.handled=none)(c:s.heap.IsTupleIter it t i)(ct:s.heap.IsTuple t ws)(ex:ws[i]?=none)
  (q:∀h' e,U5e it s.heap h'->(∃o,h'.get? e=some o/\o.cls=.type "StopIteration")->E (.ref e) { s with heap:=h' }):wpAny (model prog w) A (U1g (.ref it)) Q E s:=by
 obtain⟨o,e0,e1,e2⟩:=id c
 obtain⟨ot,f0,_,nt,f1⟩:=ct
 unfold U1g
 refine U0 (wpAny_callSpecial?_slot (name:=U3 "__next__") c.typeIs U3m (U2d U3m c.typeIs PySem.F.entry_tuple_iterator_next ?_ (PySem.F.args_tuple_iterator_next_1 _)))
 refine(show wpAny _ _ (field (.ref it) 0 >>= _) _ _ s from U0 (U2b e0 e2 (x:=.ref t) rfl ?_))
 show wpAny _ _ (ite ((U1y t==U13)=true) _ _) _ _ s
 rw[if_neg (by exact U1c)]
 refine(show wpAny _ _ (field (.ref it) 1 >>= _) _ _ s from U0 (U2b e0 e2 (x:=.int i 0) rfl ?_))
 refine(show wpAny _ _ (seqItems? (.ref t) >>= _) _ _ s from U0 (U19 f0 f1 ?_))
 simp only[ex,U2w]
 refine U0 (U4h (U0 (U25 e0 e2 (by simp) (show wpAny _ _ (newExc (.type "StopIteration") [] >>= _) _ _ _ from U0 ?_))))
 simp only[newTuple,newExc]
 refine U0 (U17 (U0 (m:=firstArgMember _ _) (wpAny_of_eq (a:=U13) (by first|rfl|(simp only[firstArgMember];rfl)) (U17 ?_ (by size_fits)))) (by size_fits))
 simp only[raiseNew]
 refine U0 (wpAny_handled ?_)
 rw[show A.in1.handled=none from ha]
 exact U0 (U0d (wpAny_throw (q _ _ (((U1r ..).extBut.push _).push _) ⟨_,U0n _ rfl,rfl⟩)))
theorem rm(ha:A.handled=none)(it t:Addr)(ne:t≠it)(ws:Array Value):Draws prog w A it [it,t] ws.size (fun i v=>ws[i]?=some v) (fun i h=>h.IsTupleIter it t i/\h.IsTuple t ws) where
 live:=fun _ _ st=>let ⟨o,e,_⟩:=st.1;⟨o,e⟩
 frame:=fun _ _ _ st k=>⟨st.1.at fun o e=>k it (by simp) o e,st.2.at fun o e=>k t (by simp) o e⟩
 item:=fun i s Q E hi st q=>nextT st.1 st.2 (x:=ws[i]) (by simp[hi]) fun h' c' sb=>q _ h' s.toks (by simp[hi]) ⟨c',st.2.extBut sb.extBut ne⟩ sb
 done:=fun s Q E st q=>qu ha st.1 st.2 (by simp) q
structure Apart(z TI TO i1 i2:Addr)(fp1 fp2:List Addr):Prop where
 a1:TI≠z
 a2:TO≠z
 a3:TI≠TO
 b1:∀b∈fp1,b≠z/\b≠TO/\b≠i2
 b2:∀b∈fp2,b≠z/\b≠TO/\b≠i1
 c1:i1≠z/\i1≠TO/\i1≠TI
 c2:i2≠z/\i2≠TO/\i2≠TI
 c3:i1≠i2
section
variable{z TI TO i1 i2:Addr}{fp1 fp2:List Addr}{n1 n2 k:Nat}{P1 P2:Nat->Value->Prop}{S1 S2:Nat->Heap->Prop}{a b:Value}
theorem vN{Q:Value->Shared->Prop}(D1:Draws prog w A i1 fp1 n1 P1 S1)(D2:Draws prog w A i2 fp2 n2 P2 S2)(D:Apart z TI TO i1 i2 fp1 fp2)(hZ:IsZip s.heap z TI TO .none)(hI:IsPair s.heap TI (.ref i1) (.ref i2))(hO:IsPair s.heap TO a b)
  (s1:S1 k s.heap) (s2:S2 k s.heap) (k1:k<n1) (k2:k<n2)
  (q:∀x y h' tk,P1 k x->P2 k y->IsZip h' z TI TO (rawInt s.heap.objs.size)->IsPair h' TO x y->S1 (k+1) h'->S2 (k+1) h'->IsPair h' s.heap.objs.size x y->h'.objs.size=s.heap.objs.size+1 ->
   (∀c o,c≠z->c≠TO->c≠i1->c≠i2->s.heap.get? c=some o->h'.get? c=some o)->Q (.ref s.heap.objs.size) { s with heap:=h',toks:=tk }) :
  wpAny (model prog w) A (Builtin.«zip.__next__» ⟨[.ref z],[]⟩) (fun fin s'=>∃v,fin=.done (.ret v)/\Q v s') E s:=by
 obtain⟨hp,g,d,tk0,os⟩:=s
 refine(show wpAny _ _ (field (.ref z) 2 >>= _) _ _ _ from U0 (U2b hZ rfl (x:=.bool false) rfl ?_))
 refine(show wpAny _ _ (field (.ref z) 3 >>= _) _ _ _ from U0 (U2b hZ rfl (x:=.ref TI) rfl (U0 (U19 hI rfl ?_))))
 refine(show wpAny _ _ (U1v (.ref z) >>= _) _ _ _ from U0 ?_)
 unfold U1v
 refine U0 (U2b hZ rfl (x:=.none) rfl (U0d ?_))
 simp only[if_true]
 refine U0 (U4h (U0 (U2b hZ rfl (x:=.ref TO) rfl (U0 (U3p hZ (by simp) fun g1 z1 m1=>?_)))))
 replace z1:IsZip g1 z TI TO .ellipsis:=z1
 replace m1:U03 z hp g1:=m1
 refine U0 ?_
 simp only[List.zipIdx_cons,List.zipIdx_nil,U39,U5s]
 have t1:S1 k g1:=D1.frame _ _ _ s1 fun c hc o e=>m1.extBut _ _ (D.b1 c hc).1 e
 have u1:S2 k g1:=D2.frame _ _ _ s2 fun c hc o e=>m1.extBut _ _ (D.b2 c hc).1 e
 refine U0 (U0 (U56 (show wpAny _ _ (U1g (.ref i1) >>= _) _ _ _ from U0 (D1.item k ⟨g1,g,d,tk0,os⟩ _ _ k1 t1 fun x g2 tk1 px t2 m2=>U0d ?_))))
 replace m2:U03 i1 g1 g2:=m2
 have o2:IsPair g2 TO a b:=m2.extBut _ _ (U1p D.c1.2.1) (m1.extBut _ _ D.a2 hO)
 refine U0 (U19 o2 rfl (U0 (U6d o2 fun g3 o3 m3=>?_)))
 replace o3:IsPair g3 TO x b:=o3
 replace m3:U03 TO g2 g3:=m3
 have u3:S2 k g3:=D2.frame _ _ _ u1 fun c hc o e=>m3.extBut _ _ (D.b2 c hc).2.1 (m2.extBut _ _ (D.b2 c hc).2.2 e)
 refine U0 (U4j (U0d ?_))
 refine U0 (U0 (U56 (show wpAny _ _ (U1g (.ref i2) >>= _) _ _ _ from U0 (D2.item k ⟨g3,g,d,tk1,os⟩ _ _ k2 u3 fun y g4 tk2 py u4 m4=>U0d ?_))))
 replace m4:U03 i2 g3 g4:=m4
 have o4:IsPair g4 TO x b:=m4.extBut _ _ (U1p D.c2.2.1) o3
 refine U0 (U19 o4 rfl (U0 (U6d o4 fun g5 o5 m5=>?_)))
 replace o5:IsPair g5 TO x y:=o5
 replace m5:U03 TO g4 g5:=m5
 refine U0 (U4j (U0d (U0d (U0 (U19 o5 rfl (U0 (wpAny_newTuple ?_)))))))
 have sz:g5.objs.size=hp.objs.size:=by rw[m5.1,m4.1,m3.1,m2.1,m1.1]
 have z5:IsZip g5 z TI TO .ellipsis:=m5.extBut _ _ (U1p D.a2) (m4.extBut _ _ (U1p D.c2.1) (m3.extBut _ _ (U1p D.a2) (m2.extBut _ _ (U1p D.c1.1) z1)))
 have kk:∀c o,c≠z->c≠TO->c≠i1->c≠i2->hp.get? c=some o->g5.get? c=some o:=fun c o n1 n2 n3 n4 e=>m5.extBut _ _ n2 (m4.extBut _ _ n4 (m3.extBut _ _ n2 (m2.extBut _ _ n3 (m1.extBut _ _ n1 e))))
 have lz:z<g5.objs.size:=U0k z5
 refine(show wpAny _ _ (Builtin.SmallTypes.ownedTupleHandOut (.ref z) (.ref g5.objs.size) >>= _) _ _ _ from U0 ?_)
 unfold Builtin.SmallTypes.ownedTupleHandOut
 have z6:IsZip (g5.push { cls:=.type "tuple",data:=.seq #[x,y] }) z TI TO .ellipsis:=U0b _ z5
 refine U0 (U3p z6 (by simp) fun g7 z7 m7=>?_)
 replace z7:IsZip g7 z TI TO (rawInt g5.objs.size):=z7
 refine U3p z7 (by simp) fun g8 z8 m8=>?_
 replace z8:IsZip g8 z TI TO (rawInt g5.objs.size):=z8
 have up:∀c o,c≠z->g5.get? c=some o->g8.get? c=some o:=fun c o n e=>m8.extBut _ _ n (m7.extBut _ _ n (U0b _ e))
 have p8:IsPair g8 g5.objs.size x y:=m8.extBut _ _ (U1l lz) (m7.extBut _ _ (U1l lz) (U0n _ rfl))
 have w8:g8.objs.size=g5.objs.size+1:=by rw[m8.1,m7.1,U1s]
 rw[sz] at z8 p8 w8
 refine U0d ⟨_,rfl,?_⟩
 show Q (.ref g5.objs.size) _
 rw[sz]
 refine q x y g8 tk2 px py z8 (up _ _ D.a2 o5) ?_ ?_ p8 w8 fun c o n1 n2 n3 n4 e=>up c o n1 (kk c o n1 n2 n3 n4 e)
 .exact D1.frame _ _ _ t2 fun c hc o e=>up _ _ (D.b1 c hc).1 (m5.extBut _ _ (D.b1 c hc).2.1 (m4.extBut _ _ (D.b1 c hc).2.2 (m3.extBut _ _ (D.b1 c hc).2.1 e)))
 .exact D2.frame _ _ _ u4 fun c hc o e=>up _ _ (D.b2 c hc).1 (m5.extBut _ _ (D.b2 c hc).2.1 e)
theorem vO{Q:PySem.Fin->Shared->Prop}(D1:Draws prog w A i1 fp1 n1 P1 S1)(D2:Draws prog w A i2 fp2 n2 P2 S2)(D:Apart z TI TO i1 i2 fp1 fp2)(hZ:IsZip s.heap z TI TO .none)(hI:IsPair s.heap TI (.ref i1) (.ref i2))(hO:IsPair s.heap TO a b)
  (s1:S1 k s.heap) (s2:S2 k s.heap) (ke:k=n1∨(k<n1/\k=n2))
  (q:∀h' e tk,(∀c o,c≠z->c≠TO->c≠i1->c≠i2->s.heap.get? c=some o->h'.get? c=some o)->(∃o,h'.get? e=some o/\o.cls=.type "StopIteration")->E (.ref e) { s with heap:=h',toks:=tk }) :
  wpAny (model prog w) A (Builtin.«zip.__next__» ⟨[.ref z],[]⟩) Q E s:=by
 obtain⟨hp,g,d,tk0,os⟩:=s
 refine(show wpAny _ _ (field (.ref z) 2 >>= _) _ _ _ from U0 (U2b hZ rfl (x:=.bool false) rfl ?_))
 refine(show wpAny _ _ (field (.ref z) 3 >>= _) _ _ _ from U0 (U2b hZ rfl (x:=.ref TI) rfl (U0 (U19 hI rfl ?_))))
 refine(show wpAny _ _ (U1v (.ref z) >>= _) _ _ _ from U0 ?_)
 unfold U1v
 refine U0 (U2b hZ rfl (x:=.none) rfl (U0d ?_))
 simp only[if_true]
 refine U0 (U4h (U0 (U2b hZ rfl (x:=.ref TO) rfl (U0 (U3p hZ (by simp) fun g1 z1 m1=>?_)))))
 replace z1:IsZip g1 z TI TO .ellipsis:=z1
 replace m1:U03 z hp g1:=m1
 refine U0 ?_
 simp only[List.zipIdx_cons,List.zipIdx_nil,U39,U5s]
 have t1:S1 k g1:=D1.frame _ _ _ s1 fun c hc o e=>m1.extBut _ _ (D.b1 c hc).1 e
 have u1:S2 k g1:=D2.frame _ _ _ s2 fun c hc o e=>m1.extBut _ _ (D.b2 c hc).1 e
 rcases ke with ke|⟨k1,ke⟩
 .subst ke
  refine U0 (U0 (U56 (show wpAny _ _ (U1g (.ref i1) >>= _) _ _ _ from U0 (D1.done ⟨g1,g,d,tk0,os⟩ _ _ t1 fun g2 e m2 he=>?_))))
  obtain⟨oe,he1,he2⟩:=he
  replace m2:U5e i1 g1 g2:=m2
  have z2:IsZip g2 z TI TO .ellipsis:=m2 _ _ (U1p D.c1.1) z1
  have ez:e≠z:=fun x=>by subst x;rw[z2] at he1;cases he1;simp at he2
  exact U3p z2 (by simp) fun g3 _ m3=>q g3 e _ (fun c o n1 _ n3 _ x=>m3.extBut _ _ n1 (m2 _ _ n3 (m1.extBut _ _ n1 x))) ⟨oe,m3.extBut _ _ ez he1,he2⟩
 .refine U0 (U0 (U56 (show wpAny _ _ (U1g (.ref i1) >>= _) _ _ _ from U0 (D1.item k ⟨g1,g,d,tk0,os⟩ _ _ k1 t1 fun x g2 tk1 px t2 m2=>U0d ?_))))
  replace m2:U03 i1 g1 g2:=m2
  have o2:IsPair g2 TO a b:=m2.extBut _ _ (U1p D.c1.2.1) (m1.extBut _ _ D.a2 hO)
  refine U0 (U19 o2 rfl (U0 (U6d o2 fun g3 o3 m3=>?_)))
  replace m3:U03 TO g2 g3:=m3
  have u3:S2 k g3:=D2.frame _ _ _ u1 fun c hc o e=>m3.extBut _ _ (D.b2 c hc).2.1 (m2.extBut _ _ (D.b2 c hc).2.2 e)
  rw[ke] at u3
  refine U0 (U4j (U0d ?_))
  refine U0 (U0 (U56 (show wpAny _ _ (U1g (.ref i2) >>= _) _ _ _ from U0 (D2.done ⟨g3,g,d,tk1,os⟩ _ _ u3 fun g4 e m4 he=>?_))))
  obtain⟨oe,he1,he2⟩:=he
  replace m4:U5e i2 g3 g4:=m4
  have z4:IsZip g4 z TI TO .ellipsis:=m4 _ _ (U1p D.c2.1) (m3.extBut _ _ (U1p D.a2) (m2.extBut _ _ (U1p D.c1.1) z1))
  have ez:e≠z:=fun x=>by subst x;rw[z4] at he1;cases he1;simp at he2
  exact U3p z4 (by simp) fun g5 _ m5=>q g5 e _ (fun c o n1 n2 n3 n4 x=>m5.extBut _ _ n1 (m4 _ _ n4 (m3.extBut _ _ n2 (m2.extBut _ _ n3 (m1.extBut _ _ n1 x))))) ⟨oe,m5.extBut _ _ ez he1,he2⟩
theorem jO{Q:Option Value->Shared->Prop}(D1:Draws prog w A.in1 i1 fp1 n1 P1 S1)(D2:Draws prog w A.in1 i2 fp2 n2 P2 S2)(D:Apart z TI TO i1 i2 fp1 fp2)(hZ:IsZip s.heap z TI TO .none)(hI:IsPair s.heap TI (.ref i1) (.ref i2))(hO:IsPair s.heap TO a b)
  (s1:S1 k s.heap) (s2:S2 k s.heap) (k1:k<n1) (k2:k<n2)
  (q:∀x y h' tk,P1 k x->P2 k y->IsZip h' z TI TO (rawInt s.heap.objs.size)->IsPair h' TO x y->S1 (k+1) h'->S2 (k+1) h'->IsPair h' s.heap.objs.size x y->h'.objs.size=s.heap.objs.size+1 ->
   (∀c o,c≠z->c≠TO->c≠i1->c≠i2->s.heap.get? c=some o->h'.get? c=some o)->Q (some (.ref s.heap.objs.size)) { s with heap:=h',toks:=tk }) :
  wpAny (model prog w) A (pyNext (.ref z)) Q E s:=by
 have T:s.TypeIs (.ref z) "zip":=⟨_,hZ,rfl⟩
 unfold pyNext
 exact U0 (U5c (wpAny_callSpecial?_slot (name:=U3 "__next__") T U2o (U2d U2o T U45 (vN D1 D2 D hZ hI hO s1 s2 k1 k2 fun x y h' tk c1 c2 c3 c4 c5 c6 c7 c8 c9=>U0d (q x y h' tk c1 c2 c3 c4 c5 c6 c7 c8 c9)) (U4u _))))
theorem jM{Q:Option Value->Shared->Prop}(D1:Draws prog w A.in1 i1 fp1 n1 P1 S1)(D2:Draws prog w A.in1 i2 fp2 n2 P2 S2)(D:Apart z TI TO i1 i2 fp1 fp2)(hZ:IsZip s.heap z TI TO .none)(hI:IsPair s.heap TI (.ref i1) (.ref i2))(hO:IsPair s.heap TO a b)
  (s1:S1 k s.heap) (s2:S2 k s.heap) (ke:k=n1∨(k<n1/\k=n2))
  (q:∀h' tk,(∀c o,c≠z->c≠TO->c≠i1->c≠i2->s.heap.get? c=some o->h'.get? c=some o)->Q none { s with heap:=h',toks:=tk }):wpAny (model prog w) A (pyNext (.ref z)) Q E s:=by
 have T:s.TypeIs (.ref z) "zip":=⟨_,hZ,rfl⟩
 unfold pyNext
 refine U0 (U5c (wpAny_callSpecial?_slot (name:=U3 "__next__") T U2o (U2d U2o T U45 (vO D1 D2 D hZ hI hO s1 s2 ke fun h' e tk kk he=>?_) (U4u _))))
 obtain⟨o,e1,e2⟩:=he
 exact U0 (U4q (T:="StopIteration") (b:=true) ⟨o,e1,e2⟩ isSubtype_stop (U0d (q h' tk kk)))
end
abbrev itO(c:String)(l:Addr):Obj:={ cls:=.type c,data:=.fields #[.ref l,.int 0 0] }
abbrev zt1(c1:String)(h:Heap)(l1:Addr):Heap:=h.push (itO c1 l1)
abbrev zt2(c1 c2:String)(h:Heap)(l1 l2:Addr):Heap:=(zt1 c1 h l1).push (itO c2 l2)
abbrev zt3(c1 c2:String)(h:Heap)(l1 l2:Addr):Heap:=(zt2 c1 c2 h l1 l2).push { cls:=.type "tuple",data:=.seq #[.ref h.objs.size,.ref (zt1 c1 h l1).objs.size] }
abbrev zt4(c1 c2:String)(h:Heap)(l1 l2:Addr):Heap:=(zt3 c1 c2 h l1 l2).push { cls:=.type "tuple",data:=.seq #[.none,.none] }
abbrev zt5(c1 c2:String)(h:Heap)(l1 l2:Addr):Heap:=(zt4 c1 c2 h l1 l2).push { cls:=.type "zip",data:=.fields #[.none,.bool false,.bool false,.ref (zt2 c1 c2 h l1 l2).objs.size,.ref (zt3 c1 c2 h l1 l2).objs.size] }
theorem jP(l1 l2:Addr)(xs ys:Array Value):Meets (Builtin.«zip.__new__» ⟨[.type "zip",.ref l1,.ref l2],[]⟩) (fun _ R s=>s.heap.IsTuple l1 xs/\s.heap.IsTuple l2 ys/\R (.ok (.ret (.ref (zt4 "tuple_iterator" "tuple_iterator" s.heap l1 l2).objs.size))) { s with heap:=zt5 "tuple_iterator" "tuple_iterator" s.heap l1 l2 }) :=
 .of_wp fun prog w A R s h=>by
  obtain⟨hp,g,d,tk,os⟩:=s
  obtain⟨e1,e2,h⟩:=h
  have sub:=sub_zip
  have T1:U62 (U7g ⟨hp,g,d,tk,os⟩) l1 xs:=e1
  have T2:U62 (U7g ⟨hp.push { cls:=.type "tuple_iterator",data:=.fields #[.ref l1,.int 0 0] },g,d,tk,os⟩) l2 ys:=U62.push e2 _
  wp_walk using U6m T1,U6m T2
  exact⟨_,rfl,h⟩
theorem iW{c1 c2:String}{l1 l2:Addr}{P1 P2:Heap->Prop}{Q:Value->Shared->Prop}(m:Meets (Builtin.«zip.__new__» ⟨[.type "zip",.ref l1,.ref l2],[]⟩) (fun _ R s=>P1 s.heap/\P2 s.heap/\R (.ok (.ret (.ref (zt4 c1 c2 s.heap l1 l2).objs.size))) { s with heap:=zt5 c1 c2 s.heap l1 l2 }))(e1:P1 s.heap)(e2:P2 s.heap)
  (q:∀h',IsZip h' (s.heap.objs.size+4) (s.heap.objs.size+2) (s.heap.objs.size+3) .none->IsPair h' (s.heap.objs.size+2) (.ref s.heap.objs.size) (.ref (s.heap.objs.size+1))->IsPair h' (s.heap.objs.size+3) .none .none ->
   h'.get? s.heap.objs.size=some (itO c1 l1)->h'.get? (s.heap.objs.size+1)=some (itO c2 l2)->(∀c o,s.heap.get? c=some o->h'.get? c=some o)->Q (.ref (s.heap.objs.size+4)) { s with heap:=h' }) :
  wpAny (model prog w) A (call (.type "zip") [.ref l1,.ref l2]) Q E s:=by
 refine callType_new PySem.F.called_zip (by decide) (PySem.F.typeCall_zip_2 _ _) (PySem.F.newCall_zip_2 _ _) (fun obj=>PySem.F.args_object_init_3 obj _ _) PySem.F.entry_zip_new m ⟨e1,e2,?_⟩
 have z1:(zt1 c1 s.heap l1).objs.size=s.heap.objs.size+1:=U1s ..
 have z2:(zt2 c1 c2 s.heap l1 l2).objs.size=s.heap.objs.size+2:=by rw[U1s,z1]
 have z3:(zt3 c1 c2 s.heap l1 l2).objs.size=s.heap.objs.size+3:=by rw[U1s,z2]
 have z4:(zt4 c1 c2 s.heap l1 l2).objs.size=s.heap.objs.size+4:=by rw[U1s,z3]
 have g5:(zt5 c1 c2 s.heap l1 l2).get? (zt4 c1 c2 s.heap l1 l2).objs.size=some _:=U0n _ rfl
 have g4:(zt5 c1 c2 s.heap l1 l2).get? (zt3 c1 c2 s.heap l1 l2).objs.size=some _:=U0b _ (U0n _ rfl)
 have g3:(zt5 c1 c2 s.heap l1 l2).get? (zt2 c1 c2 s.heap l1 l2).objs.size=some _:=U0b _ (U0b _ (U0n _ rfl))
 have g2:(zt5 c1 c2 s.heap l1 l2).get? (zt1 c1 s.heap l1).objs.size=some _:=U0b _ (U0b _ (U0b _ (U0n _ rfl)))
 have g1:(zt5 c1 c2 s.heap l1 l2).get? s.heap.objs.size=some _:=U0b _ (U0b _ (U0b _ (U0b _ (U0n _ rfl))))
 have kk:∀c o,s.heap.get? c=some o->(zt5 c1 c2 s.heap l1 l2).get? c=some o:=fun c o e=>U0b _ (U0b _ (U0b _ (U0b _ (U0b _ e))))
 show _/\_
 rw[z2,z3,z4] at g5
 rw[z1,z2] at g3
 rw[z3] at g4
 rw[z1] at g2
 have Z:IsZip (zt5 c1 c2 s.heap l1 l2) (s.heap.objs.size+4) (s.heap.objs.size+2) (s.heap.objs.size+3) .none:=g5
 rw[z4]
 exact⟨⟨_,Z,rfl⟩,q _ Z g3 g4 g1 g2 kk⟩
theorem iV{l1 l2:Addr}{xs ys:Array Value}{Q:Value->Shared->Prop}(e1:s.heap.IsTuple l1 xs)(e2:s.heap.IsTuple l2 ys)
  (q:∀h',IsZip h' (s.heap.objs.size+4) (s.heap.objs.size+2) (s.heap.objs.size+3) .none->IsPair h' (s.heap.objs.size+2) (.ref s.heap.objs.size) (.ref (s.heap.objs.size+1))->IsPair h' (s.heap.objs.size+3) .none .none ->
   h'.IsTupleIter s.heap.objs.size l1 0->h'.IsTupleIter (s.heap.objs.size+1) l2 0->(∀c o,s.heap.get? c=some o->h'.get? c=some o)->Q (.ref (s.heap.objs.size+4)) { s with heap:=h' }) :
  wpAny (model prog w) A (call (.type "zip") [.ref l1,.ref l2]) Q E s :=
 iW (P1:=fun h=>h.IsTuple l1 xs) (P2:=fun h=>h.IsTuple l2 ys) (jP l1 l2 xs ys) e1 e2 fun h' c1 c2 c3 c4 c5 k=>q h' c1 c2 c3 ⟨_,c4,rfl,rfl⟩ ⟨_,c5,rfl,rfl⟩ k
end
end HT
end
section
namespace L2
open PySem PySem.Spec PyProof.Rows
def HB(L:Bool)(xs:List V):HO:=if L=true then .lst xs else .tup xs
def ZJ(L:Bool)(h:Heap)(it a:Addr)(i:Nat):Prop:=if L=true then h.IsListIter it a i else h.IsTupleIter it a i
def Yz(L:Bool)(h:Heap)(a:Addr)(ws:Array Value):Prop:=if L=true then h.IsList a ws else h.IsTuple a ws
theorem aO{prog:Program}{w:World}{A:Around}(L:Bool)(ha:A.handled=none)(it t:Addr)(ne:t≠it)(ws:Array Value):Draws prog w A it [it,t] ws.size (fun i v=>ws[i]?=some v) (fun i h=>ZJ L h it t i/\Yz L h t ws):=by
 cases L with
 |true=>exact Draws.list ha it t ne ws
 |false=>exact HT.rm ha it t ne ws
theorem Inv.oO{X:Cx}{pins:List (Addr×Obj)}{σ:St}{H:Hp}{s:Shared}{L:Bool}{a:Addr}{xs:List V}(I:Inv X pins σ H s)(h:H a=some (HB L xs)):∃its:List Value,Vals xs its/\Yz L s.heap a its.toArray:=by
 cases L with
 |true=>obtain⟨its,rv,p,_⟩:=I.list (SqL.of h);exact⟨its,rv,p.isList⟩
 |false=>obtain⟨its,rv,p,_⟩:=I.tuple (SqT.of h);exact⟨its,rv,p⟩
theorem iw{z TI TO i1 i2 a b:Addr}(d1:TI≠z)(d2:TO≠z)(d3:TI≠TO)(d4:i1≠z/\i1≠TO/\i1≠TI)(d5:i2≠z/\i2≠TO/\i2≠TI)(d6:i1≠i2)(na:a ∉ [z,TI,TO,i1,i2])(nb:b ∉ [z,TI,TO,i1,i2]):HT.Apart z TI TO i1 i2 [i1,a] [i2,b] where
 a1:=d1
 a2:=d2
 a3:=d3
 b1:=fun c hc=>by
  simp only[U0w,U2t,or_false,not_or] at hc na
  rcases hc with rfl|rfl
  .exact⟨d4.1,d4.2.1,d6⟩
  .exact⟨na.1,na.2.2.1,na.2.2.2.2⟩
 b2:=fun c hc=>by
  simp only[U0w,U2t,or_false,not_or] at hc nb
  rcases hc with rfl|rfl
  .exact⟨d5.1,d5.2.1,U1p d6⟩
  .exact⟨nb.1,nb.2.2.1,nb.2.2.2.1⟩
 c1:=d4
 c2:=d5
 c3:=d6
section
variable{X:Cx}
end
end L2
end
section
namespace L2
open PySem PySem.Spec PyProof.Rows
section
variable{k:Nat}{caps:List Nat}{σ:St}{g:TG}{tt:TT}{te:TE}{Q:VK}{H:Hp}
end
end L2
end
section
set_option maxRecDepth 100000
namespace HT
open PySem PySem.Spec PyProof.Rows
section
variable{prog:Program}{w:World}{A:Around}{E:Value->Shared->Prop}{s:Shared}
theorem mL{x:Value}{Tx:String}{tp:Addr}{cs:List Value}{vs:List Bool}{dd:Option Addr}{n:Nat}{sl:Array (Option Value)}(ha:AnswersAll (fun s=>s.TypeIs x Tx) x cs vs) :
  Meets (Builtin.«isinstance» ⟨[x,.ref tp],[]⟩) (fun _ R s=>s.TypeIs x Tx/\s.heap.get? tp=some { cls:=.type "tuple",dict:=dd,data:=.seq cs.toArray n,slots:=sl }/\∀tk,R (.ok (.ret (.bool (vs.any id)))) { s with toks:=tk }) :=
 fun prog w A R s hs=>isinstance_outer (by
  obtain⟨h,g,d,t,os⟩:=s
  obtain⟨hx,htp,hq⟩:=hs
  have T2:(⟨h,g,d,t,os⟩:Shared).TypeIs (.ref tp) "tuple":=⟨_,htp,rfl⟩
  have f1:=PySem.F.isi_sub_tuple
  repeat (any_goals first|assumption|wp_step)
  refine wpAny_arrayLoop ?_
  simp only[List.toList_toArray,Option.getD_some]
  refine isinstance_items (dep:=0) (fun _ tk q=>q.toks tk) cs vs _ _ ha hx fun tk'=>?_
  cases hv:vs.any id with
  |true =>
   simp only[if_true]
   repeat (any_goals first|assumption|wp_step)
   exact hv ▸ hq tk'
  |false =>
   simp only[if_false,U1n]
   repeat (any_goals first|assumption|wp_step)
   exact hv ▸ hq tk') (U4x.not_mainsLoader hs.1)
end
end HT
namespace L2
open PySem PySem.Spec PyProof.Rows
def isSeq:PyData->Bool
 |.list _=>true
 |.tuple _=>true
 |_=>false
def noDict:PyData->Bool
 |.dict _=>false
 |_=>true
theorem j4(T:String)(h:T="tuple"∨T="list"):typeOf (.type T)=pure (.type "type"):=by rcases h with rfl|rfl<;>first|rfl|kernel_rfl
theorem Ir{a b:String}(h:(a,b)∈[("int","tuple"),("int","list"),("bool","tuple"),("bool","list"),("str","tuple"),("str","list"),("NoneType","tuple"),("NoneType","list"),("list","tuple"),("tuple","list")]):isSubtype (.type a) (.type b)=pure false:=by
 simp only[U0w,U2t,or_false,Prod.mk.injEq] at h
 rcases h with ⟨rfl,rfl⟩|⟨rfl,rfl⟩|⟨rfl,rfl⟩|⟨rfl,rfl⟩|⟨rfl,rfl⟩|⟨rfl,rfl⟩|⟨rfl,rfl⟩|⟨rfl,rfl⟩|⟨rfl,rfl⟩|⟨rfl,rfl⟩<;>(rw[isSubtype_type];kernel_rfl)
theorem YK{a:String}(h:a="tuple"∨a="list"):isSubtype (.type a) (.type a)=pure true:=by rcases h with rfl|rfl<;>(rw[isSubtype_type];kernel_rfl)
section
variable{X:Cx}
theorem Vb:DN X (.builtin "isinstance") (fun xs H Q=>∃(N:Addr->Prop)(x:V)(d:PyData)(p:Addr),xs=[x,.ref p]/\H p=some (.tup [.ty "tuple",.ty "list"])/\Tr N H x d/\noDict d=true/\Q (.bl (isSeq d)) H):=by
 intro pins s σ H xs us Q I r h
 obtain⟨N,x,d,p,rfl,hp,t,nd,q⟩:=h
 obtain⟨u,v,rfl,rx,rv⟩:=vals2 r
 cases (show v=U1y p from rv)
 obtain⟨its,rt,pt,_⟩:=I.tuple (SqT.of hp)
 have ei:its=[.type "tuple",.type "list"]:=by
  cases rt with
  |cons r1 rr =>
   cases rr with
   |cons r2 rn =>
    cases rn
    cases (show _=U2v "tuple" from r1)
    cases (show _=U2v "list" from r2)
    rfl
 subst ei
 obtain⟨⟨c1,d1,x1,sl1⟩,ho,hc,n,hd⟩:=id pt
 simp only at hc hd
 subst hc hd
 have fin:∀(Tx:String)(vs:List Bool),AnswersAll (fun s=>s.TypeIs u Tx) u [.type "tuple",.type "list"] vs->s.TypeIs u Tx->vs.any id=isSeq d->wpAny (model X.prog X.w) X.A (call (.builtin "isinstance") [u,.ref p]) (EP X pins σ Q) X.xe s:=fun Tx vs ha hx e =>
  call_isinstance (HT.mL (cs:=[.type "tuple",.type "list"]) (dd:=d1) (n:=n) (sl:=sl1) ha) ⟨hx,ho,fun tk=>⟨.bl (isSeq d),H,I.tok tk,(by rw[e];rfl),q⟩⟩
 have y1:=j4 "tuple" (.inl rfl)
 have y2:=j4 "list" (.inr rfl)
 cases t with
 |non =>
  cases (show u=U13 from rx)
  exact fin "NoneType" [false,false] (.cons (Answers.of_false_none (by decide) y1 (Ir (by decide))) (.cons (Answers.of_false_none (by decide) y2 (Ir (by decide))) .nil)) rfl rfl
 |bl b =>
  cases (show u=U4y b from rx)
  exact fin "bool" [false,false] (.cons (Answers.of_false_bool (by decide) y1 (Ir (by decide))) (.cons (Answers.of_false_bool (by decide) y2 (Ir (by decide))) .nil)) rfl rfl
 |int i =>
  obtain⟨t,rfl⟩:=rx
  exact fin "int" [false,false] (.cons (Answers.of_false_int (by decide) y1 (Ir (by decide))) (.cons (Answers.of_false_int (by decide) y2 (Ir (by decide))) .nil)) rfl rfl
 |str z =>
  obtain⟨t,rfl⟩:=rx
  exact fin "str" [false,false] (.cons (Answers.of_false_str (by decide) y1 (Ir (by decide))) (.cons (Answers.of_false_str (by decide) y2 (Ir (by decide))) .nil)) rfl rfl
 |lst n1 h1 t1 =>
  cases rx
  obtain⟨its,_,pl,_⟩:=I.list (SqL.of h1)
  exact fin "list" [false,true] (.cons (Answers.of_false_list (by decide) y1 (Ir (by decide))) (.cons (Answers.of_true y2 (YK (.inr rfl))) .nil)) pl.isList.typeIs rfl
 |tup n1 h1 t1 =>
  cases rx
  obtain⟨its,_,pl,_⟩:=I.tuple (SqT.of h1)
  exact fin "tuple" [true,false] (.cons (Answers.of_true y1 (YK (.inl rfl))) (.cons (Answers.of_false_tuple (by decide) y2 (Ir (by decide))) .nil)) pl.typeIs rfl
 |dct _ _=>cases nd
end
end L2
end
section
namespace L2
open PySem PySem.Spec PyProof.Rows
end L2
namespace Bc
open PySem PySem.Spec PyProof.Rows L2
def vm:PyData->Int
 |.tuple [.int a,.int b]=>b-a
 |_=>0
def uI(es:List PyData):Int:=es.foldl (fun acc d=>acc*vm d) 1
def K5:PyData->Int
 |.tuple es=>uI es
 |_=>0
structure Good(n:Nat)(ds:List PyData):Prop where
 n1:1<=n
 n3:n<=3
 le:ds.length<=qw (.int n)
 all:ds.all (vq n)=true
end Bc
end
section
namespace L2
open PySem PySem.Spec PyProof.Rows
section
variable{X:Cx}{K:U0a}
end
end L2
namespace Bc
open PySem PySem.Spec PyProof.Rows L2
def Fi(w:Nat):PyData->Int
 |.tuple es=>(match es[w]? with|some (.tuple [.int a,.int _])=>a|_=>0)
 |_=>0
def Em(w:Nat):PyData->Int
 |.tuple es=>(match es[w]? with|some (.tuple [.int _,.int b])=>b|_=>0)
 |_=>0
end Bc
end
section
namespace VS
open PySem PySem.Spec L2
inductive D where
 |non|bl (b:Bool)|int (i:Int)|str (x:Str)|ty (n:String)
 |tup (ds:List D)|lst (m:Bool) (ds:List D)|ref (i:Nat)|scr (ns:List Int)|emp
 |dref (i:Nat)|dcf (kvs:List (Key×V))|dcm (kvs:List (Key×V))
abbrev Mu:=List (Option Addr)
def CW(μ:Mu)(a:Addr):Prop:=some a∈μ
structure Fr where
 K:U0a
 H0:Hp
 N:Addr->Prop
 m0:List Addr
def Fr.Ok(Γ:Fr)(m:Bool)(a:Addr):Prop:=(m=true->Γ.H0 a=none)/\(Γ.N a∨Γ.H0 a=none)
def IsL(H:Hp)(a:Addr):Prop:=∃xs,H a=some (.lst xs)
def IsK(H:Hp)(a:Addr):Prop:=∃kvs,H a=some (.dK kvs)
mutual
inductive VR (Γ:Fr) (μ:Mu) (H:Hp):V->D->Prop
 |non:VR Γ μ H .non .non
 |bl (b:Bool):VR Γ μ H (.bl b) (.bl b)
 |int (i:Int):VR Γ μ H (.int i) (.int i)
 |str (x:Str):VR Γ μ H (.str x) (.str x)
 |ty (n:String):VR Γ μ H (.ty n) (.ty n)
 |tup {a:Addr} {xs:List V} {ds:List D}:H a=some (.tup xs)->VRs Γ μ H xs ds->VR Γ μ H (.ref a) (.tup ds)
 |lst {m:Bool} {a:Addr} {xs:List V} {ds:List D}:Γ.Ok m a->¬CW μ a->H a=some (.lst xs)->VRs Γ μ H xs ds->VR Γ μ H (.ref a) (.lst m ds)
 |ref {i:Nat} {v:V}:i<μ.length->(∀a,μ[i]?=some (some a)->v=.ref a/\IsL H a)->VR Γ μ H v (.ref i)
 |dref {i:Nat} {v:V}:i<μ.length->(∀a,μ[i]?=some (some a)->v=.ref a/\IsK H a)->VR Γ μ H v (.dref i)
 |dcf {a:Addr} {kvs:List (Key×V)}:Γ.Ok false a->¬CW μ a->H a=some (.dK kvs)->VR Γ μ H (.ref a) (.dcf kvs)
 |scrK {a:Addr} {ns:List Int}:(∀H',SqL Γ.K H' a (ns.map V.int))->VR Γ μ H (.ref a) (.scr ns)
 |scrR {a:Addr} {ns:List Int} {o:Obj}:¬CW μ a->H a=some (.frz o (.lst (ns.map V.int)))->VR Γ μ H (.ref a) (.scr ns)
 |emp {a:Addr}:Γ.Ok false a->¬CW μ a->H a=some (.dK [])->VR Γ μ H (.ref a) .emp
inductive VRs (Γ:Fr) (μ:Mu) (H:Hp):List V->List D->Prop
 |nil:VRs Γ μ H [] []
 |cons {x:V} {d:D} {xs:List V} {ds:List D}:VR Γ μ H x d->VRs Γ μ H xs ds->VRs Γ μ H (x::xs) (d::ds)
end
structure Ext(μ:Mu)(H:Hp)(μ':Mu)(H':Hp):Prop where
 keep:∀a o,H a=some o->¬CW μ a->H' a=some o/\¬CW μ' a
 tups:∀a xs,H a=some (.tup xs)->H' a=some (.tup xs)
 none:∀a,H' a=none->H a=none
 ids:∀(i:Nat)(a:Addr),i<μ.length->μ'[i]?=some (some a)->μ[i]?=some (some a)
 len:μ.length<=μ'.length
 isl:∀a,CW μ a->IsL H a->IsL H' a
 isk:∀a,CW μ a->IsK H a->IsK H' a
theorem Ext.refl(μ:Mu)(H:Hp):Ext μ H μ H:=⟨fun _ _ h n=>⟨h,n⟩,fun _ _ h=>h,fun _ h=>h,fun _ _ _ h=>h,U0s _,fun _ _ h=>h,fun _ _ h=>h⟩
theorem Ext.trans{μ μ1 μ2:Mu}{H H1 H2:Hp}(a:Ext μ H μ1 H1)(b:Ext μ1 H1 μ2 H2):Ext μ H μ2 H2 :=
 ⟨fun c o h n=>let ⟨x,y⟩:=a.keep c o h n;b.keep c o x y,fun c xs h=>b.tups c xs (a.tups c xs h),fun c h=>a.none c (b.none c h),fun i c hi h=>a.ids i c hi (b.ids i c (U0r hi a.len) h),U07 a.len b.len,
  fun c l h=>by
  by_cases z:CW μ1 c
  .exact b.isl c z (a.isl c l h)
  .obtain⟨xs,e⟩:=a.isl c l h
   exact⟨xs,(b.keep c _ e z).1⟩,
  fun c l h=>by
  by_cases z:CW μ1 c
  .exact b.isk c z (a.isk c l h)
  .obtain⟨xs,e⟩:=a.isk c l h
   exact⟨xs,(b.keep c _ e z).1⟩⟩
section
variable{Γ:Fr}{μ μ':Mu}{H H':Hp}
mutual
theorem VR.ext(e:Ext μ H μ' H'):∀{v:V} {d:D},VR Γ μ H v d->VR Γ μ' H' v d
 |_,_,.non=>.non
 |_,_,.bl b=>.bl b
 |_,_,.int i=>.int i
 |_,_,.str x=>.str x
 |_,_,.ty n=>.ty n
 |_,_,.tup h t=>.tup (e.tups _ _ h) (VRs.ext e t)
 |_,_,.lst o n h t=>.lst o (e.keep _ _ h n).2 (e.keep _ _ h n).1 (VRs.ext e t)
 |_,_,.ref hi f=>.ref (U0r hi e.len) fun a q=>have z:=e.ids _ _ hi q;⟨(f a z).1,e.isl a (U1j z) (f a z).2⟩
 |_,_,.dref hi f=>.dref (U0r hi e.len) fun a q=>have z:=e.ids _ _ hi q;⟨(f a z).1,e.isk a (U1j z) (f a z).2⟩
 |_,_,.dcf o n h=>.dcf o (e.keep _ _ h n).2 (e.keep _ _ h n).1
 |_,_,.scrK h=>.scrK h
 |_,_,.scrR n h=>.scrR (e.keep _ _ h n).2 (e.keep _ _ h n).1
 |_,_,.emp o n h=>.emp o (e.keep _ _ h n).2 (e.keep _ _ h n).1
theorem VRs.ext(e:Ext μ H μ' H'):∀{vs:List V} {ds:List D},VRs Γ μ H vs ds->VRs Γ μ' H' vs ds
 |_,_,.nil=>.nil
 |_,_,.cons r t=>.cons (VR.ext e r) (VRs.ext e t)
end
theorem VRs.length:∀{xs:List V} {ds:List D},VRs Γ μ H xs ds->xs.length=ds.length
 |_,_,.nil=>rfl
 |_,_,.cons _ t=>by rw[U0g,U0g,VRs.length t]
theorem VRs.append:∀{xs ys:List V} {ds es:List D},VRs Γ μ H xs ds->VRs Γ μ H ys es->VRs Γ μ H (xs++ys) (ds++es)
 |_,_,_,_,.nil,t=>t
 |_,_,_,_,.cons r s,t=>.cons r (VRs.append s t)
theorem VRs.take:∀{xs:List V} {ds:List D} (n:Nat),VRs Γ μ H xs ds->VRs Γ μ H (xs.take n) (ds.take n)
 |_,_,0,_=>.nil
 |_,_,_+1,.nil=>.nil
 |_,_,n+1,.cons r t=>.cons r (VRs.take n t)
theorem VRs.drop:∀{xs:List V} {ds:List D} (n:Nat),VRs Γ μ H xs ds->VRs Γ μ H (xs.drop n) (ds.drop n)
 |_,_,0,r=>r
 |_,_,_+1,.nil=>.nil
 |_,_,n+1,.cons _ t=>VRs.drop n t
theorem VRs.get:∀{xs:List V} {ds:List D} {i:Nat} {d:D},VRs Γ μ H xs ds->ds[i]?=some d->∃x,xs[i]?=some x/\VR Γ μ H x d
 |_,_,_,_,.nil,h=>by simp at h
 |_,_,0,_,.cons r _,h=>by simp at h;subst h;exact⟨_,rfl,r⟩
 |_,_,i+1,d,.cons _ t,h=>by
  obtain⟨x,h1,h2⟩:=VRs.get (i:=i) (d:=d) t (by simpa using h)
  exact⟨x,by simpa using h1,h2⟩
theorem VRs.set{x:V}{d:D}(r:VR Γ μ H x d):∀{xs:List V} {ds:List D} (i:Nat),VRs Γ μ H xs ds->VRs Γ μ H (xs.set i x) (ds.set i d)
 |_,_,_,.nil=>.nil
 |_,_,0,.cons _ t=>.cons r t
 |_,_,i+1,.cons q t=>.cons q (VRs.set r i t)
theorem VRs.rep{xs:List V}{ds:List D}(h:VRs Γ μ H xs ds):∀n:Nat,VRs Γ μ H (U0m n xs).flatten (U0m n ds).flatten
 |0=>.nil
 |n+1=>by rw[U0x,U0x,U3x,U3x];exact h.append (VRs.rep h n)
theorem VRs.ints:∀(ns:List Int),VRs Γ μ H (ns.map V.int) (ns.map D.int)
 |[]=>.nil
 |n::r=>.cons (.int n) (VRs.ints r)
theorem VRs.Nq:∀{xs:List V} {ns:List Int},VRs Γ μ H xs (ns.map D.int)->xs=ns.map V.int
 |_,[],.nil=>rfl
 |_,n::r,.cons q t=>by cases q;rw[U0t,VRs.Nq t]
end
abbrev Env:=List (Option D)
abbrev Store:=List (Option (List D))
def Cell(Γ:Fr)(μ:Mu)(H:Hp)(a:Addr)(ds:List D):Prop:=(∃xs,H a=some (.lst xs)/\VRs Γ μ H xs ds)∨∃kvs,ds=[.dcm kvs]/\H a=some (.dK kvs)
structure Rep(Γ:Fr)(μ:Mu)(σ:St)(H:Hp)(env:Env)(S:Store):Prop where
 vals:∀(i:Nat)(d:D),env[i]?=some (some d)->∃v,σ[i]?=some (some v)/\VR Γ μ H v d
 len:σ.length=env.length
 sto:∀(i:Nat)(ds:List D),S[i]?=some (some ds)->∃a,μ[i]?=some (some a)/\Cell Γ μ H a ds
 liv:∀(i:Nat)(a:Addr),μ[i]?=some (some a)->∃ds,S[i]?=some (some ds)
 inj:∀(i j:Nat)(a:Addr),μ[i]?=some (some a)->μ[j]?=some (some a)->i=j
 slen:S.length=μ.length
 ent:Ext (Γ.m0.map some) Γ.H0 μ H
 new:∀(i:Nat)(a:Addr),Γ.m0.length<=i->μ[i]?=some (some a)->Γ.H0 a=none
section
variable{Γ:Fr}{μ μ':Mu}{σ σ2:St}{H H':Hp}{env env2:Env}{S S':Store}
theorem Cell.kind{a:Addr}{ds:List D}(c:Cell Γ μ H a ds):IsL H a∨IsK H a:=by
 rcases c with ⟨xs,h,_⟩|⟨kvs,_,h⟩
 .exact .inl ⟨xs,h⟩
 .exact .inr ⟨kvs,h⟩
theorem Cell.list{a:Addr}{ds:List D}(c:Cell Γ μ H a ds)(l:IsL H a):∃xs,H a=some (.lst xs)/\VRs Γ μ H xs ds:=by
 rcases c with z|⟨kvs,_,h⟩
 .exact z
 .obtain⟨xs,q⟩:=l
  rw[h] at q;cases q
theorem Cell.dict{a:Addr}{ds:List D}(c:Cell Γ μ H a ds)(l:IsK H a):∃kvs,ds=[.dcm kvs]/\H a=some (.dK kvs):=by
 rcases c with ⟨xs,h,_⟩|z
 .obtain⟨xs,q⟩:=l
  rw[h] at q;cases q
 .exact z
theorem Cell.to{μ':Mu}{H':Hp}{a:Addr}{ds:List D}(c:Cell Γ μ H a ds)(x:Ext μ H μ' H')(e:∀o,H a=some o->H' a=some o):Cell Γ μ' H' a ds:=by
 rcases c with ⟨xs,h,r⟩|⟨kvs,q,h⟩
 .exact .inl ⟨xs,e _ h,r.ext x⟩
 .exact .inr ⟨kvs,q,e _ h⟩
theorem Rep.live(R:Rep Γ μ σ H env S){a:Addr}(h:CW μ a):IsL H a∨IsK H a:=by
 obtain⟨i,hi⟩:=U37.mp h
 obtain⟨ds,hs⟩:=R.liv i a hi
 obtain⟨b,h1,h2⟩:=R.sto i ds hs
 rw[hi] at h1;cases h1
 exact h2.kind
theorem Rep.dead(R:Rep Γ μ σ H env S){p:Addr}(h:H p=none):¬CW μ p:=fun z=>by
 rcases R.live z with ⟨xs,e⟩|⟨xs,e⟩<;>(rw[h] at e;cases e)
theorem Rep.fresh(R:Rep Γ μ σ H env S){p:Addr}(h:H p=none):Γ.H0 p=none:=R.ent.none p h
theorem Rep.ok(R:Rep Γ μ σ H env S){p:Addr}(h:H p=none)(m:Bool):Γ.Ok m p:=⟨fun _=>R.fresh h,.inr (R.fresh h)⟩
theorem Rep.grow(R:Rep Γ μ σ H env S)(e:Same H H'):Rep Γ μ σ H' env S/\Ext μ H μ H':=by
 have x:Ext μ H μ H':=⟨fun a o h n=>⟨e a o h,n⟩,fun a xs h=>e a _ h,fun a h=>e.free h,fun _ _ _ h=>h,U0s _,fun a _ ⟨xs,h⟩=>⟨xs,e a _ h⟩,fun a _ ⟨xs,h⟩=>⟨xs,e a _ h⟩⟩
 refine⟨⟨fun i d h=>?_,R.len,fun i ds h=>?_,R.liv,R.inj,R.slen,R.ent.trans x,R.new⟩,x⟩
 .obtain⟨v,h1,h2⟩:=R.vals i d h
  exact⟨v,h1,h2.ext x⟩
 .obtain⟨a,h1,h2⟩:=R.sto i ds h
  exact⟨a,h1,h2.to x fun o q=>e _ _ q⟩
theorem Rep.back(R:Rep Γ μ σ H env S)(x:Ext μ H μ' H')(R2:Rep Γ μ' σ2 H' env2 S'):Rep Γ μ' σ H' env S' :=
 ⟨fun i d h=>let ⟨v,h1,h2⟩:=R.vals i d h;⟨v,h1,h2.ext x⟩,R.len,R2.sto,R2.liv,R2.inj,R2.slen,R2.ent,R2.new⟩
theorem Rep.cu(R:Rep Γ μ σ H env S)(i:Nat){v:V}{d:D}(r:VR Γ μ H v d):Rep Γ μ (σ.set i (some v)) H (env.set i (some d)) S:=by
 refine⟨fun j e h=>?_,by rw[U40,U40];exact R.len,R.sto,R.liv,R.inj,R.slen,R.ent,R.new⟩
 by_cases hj:i=j
 .subst hj
  have hl:i<env.length:=by
   have:=(U0p.mp h).1
   rw[U40] at this;exact this
  rw[U2s hl] at h
  cases h
  exact⟨v,U2s (by rw[R.len];exact hl),r⟩
 .rw[U23 hj] at h ⊢
  exact R.vals j e h
theorem Rep.jE(R:Rep Γ μ σ H env S){p:Addr}{o:HO}{ds:List D}(hp:H p=none)(r:∀μ' H',Ext μ H μ' H'->H' p=some o->Cell Γ μ' H' p ds) :
  Rep Γ (μ++[some p]) σ (upd H p o) env (S++[some ds])/\Ext μ H (μ++[some p]) (upd H p o):=by
 have ne:∀a o,H a=some o->a≠p:=fun a o h z=>by rw[z,hp] at h;cases h
 have x:Ext μ H (μ++[some p]) (upd H p o):=by
  refine⟨fun a o h n=>⟨by rw[BZ (ne a o h)];exact h,fun z=>?_⟩,fun a ys h=>by rw[BZ (ne a _ h)];exact h,fun a h=>?_,fun i a hi h=>?_,by rw[U0q];omega,fun a _ ⟨ys,h⟩=>⟨ys,by rw[BZ (ne a _ h)];exact h⟩,fun a _ ⟨ys,h⟩=>⟨ys,by rw[BZ (ne a _ h)];exact h⟩⟩
  .rcases U10.mp z with z|z
   .exact n z
   .have z':a=p:=by simpa using z
    exact ne a o h z'
  .by_cases ha:a=p
   .rw[ha,Bo] at h;cases h
   .rw[BZ ha] at h;exact h
  .rw[U1d hi] at h;exact h
 have idx:∀i a,(μ++[some p])[i]?=some (some a)->(i<μ.length/\μ[i]?=some (some a))∨(i=μ.length/\a=p):=fun i a h=>by
  by_cases hi:i<μ.length
  .rw[U1d hi] at h;exact .inl ⟨hi,h⟩
  .rw[U2a (by omega)] at h
   have hl:=(U0p.mp h).1
   have hi':i=μ.length:=by simp at hl;omega
   subst hi'
   simp at h
   exact .inr ⟨rfl,h.symm⟩
 have no:∀a,μ[a]?=some (some p)->False:=fun i h=>R.dead hp (U1j h)
 refine⟨⟨fun i d h=>?_,R.len,fun i es h=>?_,fun i a h=>?_,fun i j a h1 h2=>?_,by rw[U0q,U0q,R.slen];rfl,R.ent.trans x,fun i a hi h=>?_⟩,x⟩
 .obtain⟨v,h1,h2⟩:=R.vals i d h
  exact⟨v,h1,h2.ext x⟩
 .by_cases hi:i<S.length
  .rw[U1d hi] at h
   obtain⟨a,h1,h2⟩:=R.sto i es h
   exact⟨a,by rw[U1d (by rw[←R.slen];exact hi)];exact h1,h2.to x fun o q=>by rw[BZ (ne a _ q)];exact q⟩
  .rw[U2a (by omega)] at h
   have hl:=(U0p.mp h).1
   have hi':i=S.length:=by simp at hl;omega
   subst hi'
   simp at h
   subst h
   exact⟨p,by rw[R.slen];simp,r _ _ x Bo⟩
 .rcases idx i a h with ⟨hi,h⟩|⟨rfl,rfl⟩
  .obtain⟨ds',q⟩:=R.liv i a h
   exact⟨ds',by rw[U1d (by rw[R.slen];exact hi)];exact q⟩
  .exact⟨ds,by rw[←R.slen];simp⟩
 .rcases idx i a h1 with ⟨_,g1⟩|⟨e1,e2⟩
  .rcases idx j a h2 with ⟨_,g2⟩|⟨e3,e4⟩
   .exact R.inj i j a g1 g2
   .exact(no i (e4 ▸ g1)).elim
  .rcases idx j a h2 with ⟨_,g2⟩|⟨e3,_⟩
   .exact(no j (e2 ▸ g2)).elim
   .rw[e1,e3]
 .rcases idx i a h with ⟨_,h⟩|⟨rfl,rfl⟩
  .exact R.new i a hi h
  .exact R.fresh hp
theorem Rep.laid(R:Rep Γ μ σ H env S){p:Addr}{xs:List V}{ds:List D}(hp:H p=none)(r:VRs Γ μ H xs ds) :
  Rep Γ (μ++[some p]) σ (upd H p (.lst xs)) env (S++[some ds])/\Ext μ H (μ++[some p]) (upd H p (.lst xs)):=R.jE hp fun _ _ x q=>.inl ⟨xs,q,r.ext x⟩
theorem Rep.pD(R:Rep Γ μ σ H env S){i:Nat}{a:Addr}{o:HO}{ds:List D}(hi:μ[i]?=some (some a))(k1:IsL H a->IsL (upd H a o) a)(k2:IsK H a->IsK (upd H a o) a)(r:∀H',Ext μ H μ H'->H' a=some o->Cell Γ μ H' a ds) :
  Rep Γ μ σ (upd H a o) env (S.set i (some ds))/\Ext μ H μ (upd H a o):=by
 have hl:CW μ a:=U1j hi
 have hy:=R.live hl
 have x:Ext μ H μ (upd H a o):=by
  refine⟨fun b o h n=>⟨?_,n⟩,fun b zs h=>?_,fun b h=>?_,fun _ _ _ h=>h,U0s _,fun b _ h=>?_,fun b _ h=>?_⟩
  .rw[BZ (fun z=>n (by rw[z];exact hl))];exact h
  .rw[BZ (fun z=>by
    rw[z] at h
    rcases hy with ⟨_,q⟩|⟨_,q⟩<;>(rw[q] at h;cases h))];exact h
  .by_cases hb:b=a
   .rw[hb,Bo] at h;cases h
   .rw[BZ hb] at h;exact h
  .by_cases hb:b=a
   .subst hb;exact k1 h
   .obtain⟨ys,h⟩:=h
    exact⟨ys,by rw[BZ hb];exact h⟩
  .by_cases hb:b=a
   .subst hb;exact k2 h
   .obtain⟨ys,h⟩:=h
    exact⟨ys,by rw[BZ hb];exact h⟩
 have hiS:i<S.length:=by rw[R.slen];exact(U0p.mp hi).1
 refine⟨⟨fun j d h=>?_,R.len,fun j es h=>?_,fun j b h=>?_,R.inj,by rw[U40];exact R.slen,R.ent.trans x,R.new⟩,x⟩
 .obtain⟨v,h1,h2⟩:=R.vals j d h
  exact⟨v,h1,h2.ext x⟩
 .by_cases hj:i=j
  .subst hj
   rw[U2s hiS] at h
   cases h
   exact⟨a,hi,r _ x Bo⟩
  .rw[U23 hj] at h
   obtain⟨b,h1,h2⟩:=R.sto j es h
   refine⟨b,h1,h2.to x fun o q=>?_⟩
   rw[BZ (fun z=>hj (R.inj i j a hi (by rw[←z];exact h1)))]
   exact q
 .by_cases hj:i=j
  .subst hj;exact⟨ds,U2s hiS⟩
  .rw[U23 hj];exact R.liv j b h
theorem Rep.put(R:Rep Γ μ σ H env S){i:Nat}{a:Addr}{xs:List V}{ds:List D}(hi:μ[i]?=some (some a))(hx:IsL H a)(r:VRs Γ μ H xs ds) :
  Rep Γ μ σ (upd H a (.lst xs)) env (S.set i (some ds))/\Ext μ H μ (upd H a (.lst xs)) :=
 R.pD hi (fun _=>⟨xs,Bo⟩) (fun⟨_,q⟩=>by obtain⟨_,p⟩:=hx;rw[q] at p;cases p) fun _ x q=>.inl ⟨xs,q,r.ext x⟩
end
end VS
end
section
namespace VS
open PySem PySem.Spec L2
abbrev Aw:=Env->Store->Option (D×Store)
abbrev Bg:=Env->Store->Option (List D×Store)
abbrev El:=Env->Store->Option (Bool×Store)
abbrev R7:=Env->Store->Option (Option Int×Store)
inductive Fl where|nx|brk|cnt|ret (d:D)
abbrev BL:=Env->Store->Option (Fl×Env×Store)
abbrev Jw:=Env->Store->Option ((List D×List (Nat×List D))×Store)
abbrev JZ:=D->Env->Option Env
def Ab(i:Nat):Aw:=fun env S=>(env[i]?.join).map fun d=>(d,S)
def eC(d:D):Aw:=fun _ S=>some (d,S)
def eOp(g:Store->D->D->Option D)(a b:Aw):Aw:=fun env S=>(a env S).bind fun p=>(b env p.2).bind fun q=>(g q.2 p.1 q.1).map fun d=>(d,q.2)
def eUn(g:Store->D->Option D)(a:Aw):Aw:=fun env S=>(a env S).bind fun p=>(g p.2 p.1).map fun d=>(d,p.2)
def Af:Bg:=fun _ S=>some ([],S)
def Aa(a:Aw)(r:Bg):Bg:=fun env S=>(a env S).bind fun p=>(r env p.2).bind fun q=>some (p.1::q.1,q.2)
def eCB(g:Store->List D->Option D)(a:Bg):Aw:=fun env S=>(a env S).bind fun p=>(g p.2 p.1).map fun d=>(d,p.2)
def TQ(a b:Aw):Aw:=fun env S=>(a env S).bind fun p=>match p.1 with|.bl true=>b env p.2|.bl false=>some (.bl false,p.2)|_=>none
def dH(a:Aw):Aw:=fun env S=>(a env S).bind fun p=>match p.1 with|.bl c=>some (.bl (!c),p.2)|_=>none
def PB(g g':Store->D->D->Option D)(a b c:Aw):Aw:=fun env S=>(a env S).bind fun p=>(b env p.2).bind fun q=>(g q.2 p.1 q.1).bind fun z=>match z with
 |.bl true=>(c env q.2).bind fun r=>(g' r.2 q.1 r.1).map fun d=>(d,r.2)
 |.bl false=>some (.bl false,q.2)
 |_=>none
def Bf(a:Aw):El:=fun env S=>(a env S).bind fun p=>match p.1 with|.bl c=>some (c,p.2)|_=>none
def Nh(a b:El):El:=fun env S=>(a env S).bind fun p=>if p.1=true then b env p.2 else some (false,p.2)
def tOr(a b:El):El:=fun env S=>(a env S).bind fun p=>if p.1=true then some (true,p.2) else b env p.2
def Il(a:El):El:=fun env S=>(a env S).bind fun p=>some (!p.1,p.2)
def Hs:R7:=fun _ S=>some (none,S)
def Hr(a:Aw):R7:=fun env S=>(a env S).bind fun p=>match p.1 with|.int i=>some (some i,p.2)|_=>none
def eSl(g:Store->D->Option Int->Option Int->Option D)(a:Aw)(l h:R7):Aw:=fun env S=>(a env S).bind fun p=>(l env p.2).bind fun q=>(h env q.2).bind fun r=>(g r.2 p.1 q.1 r.1).map fun d=>(d,r.2)
def Bq(a b:BL):BL:=fun env S=>(a env S).bind fun p=>match p.1 with|.nx=>b p.2.1 p.2.2|f=>some (f,p.2.1,p.2.2)
def FJ:BL:=fun env S=>some (.nx,env,S)
def Ot:BL:=fun _ _=>none
def Bu(i:Nat)(a:Aw):BL:=fun env S=>(a env S).bind fun p=>some (.nx,env.set i (some p.1),p.2)
def Yt(a:Aw)(g:JZ):BL:=fun env S=>(a env S).bind fun p=>(g p.1 env).bind fun e=>some (.nx,e,p.2)
def J8(a:Aw):BL:=fun env S=>(a env S).bind fun p=>some (.nx,env,p.2)
def Cw(a:Aw):BL:=fun env S=>(a env S).bind fun p=>some (.ret p.1,env,p.2)
def sIf(c:El)(a b:BL):BL:=fun env S=>(c env S).bind fun p=>if p.1=true then a env p.2 else b env p.2
inductive Pat where
 |nm (i:Nat)|tp (ps:List Pat)
mutual
def Pat.sem:Pat->D->Env->Option Env
 |.nm i,d,env=>some (env.set i (some d))
 |.tp ps,.tup ds,env=>Gu ps ds env
 |.tp _,_,_=>none
def Gu:List Pat->List D->Env->Option Env
 |[],[],env=>some env
 |p::ps,d::ds,env=>(Pat.sem p d env).bind fun e=>Gu ps ds e
 |_,_,_=>none
end
mutual
def Pat.raw(K:U0a):Pat->TG
 |.nm i=>Vg i
 |.tp ps=>dD K ps.length (J9 K ps)
def J9(K:U0a):List Pat->TGs
 |[]=>dF
 |p::ps=>ZF (Pat.raw K p) (J9 K ps)
end
mutual
def Pat.low(k:Nat):Pat->Bool
 |.nm i=>decide (i<k)
 |.tp ps=>Yw k ps
def Yw(k:Nat):List Pat->Bool
 |[]=>true
 |p::ps=>Pat.low k p&&Yw k ps
end
mutual
theorem Pat.mono(K:U0a):∀(p:Pat)(x:V)(σ:St)(H:Hp)(Q Q':St->Hp->Prop),(∀σ' H',Q σ' H'->Q' σ' H')->p.raw K x σ H Q->p.raw K x σ H Q'
 |.nm i,x,σ,H,Q,Q',f,h=>by rw[Pat.raw] at h ⊢;exact f _ _ h
 |.tp ps,x,σ,H,Q,Q',f,h=>by rw[Pat.raw] at h ⊢;obtain⟨a,xs,e,hs,hl,q⟩:=h;exact⟨a,xs,e,hs,hl,Z8 K ps xs σ H Q Q' f q⟩
theorem Z8(K:U0a):∀(ps:List Pat)(x:List V)(σ:St)(H:Hp)(Q Q':St->Hp->Prop),(∀σ' H',Q σ' H'->Q' σ' H')->J9 K ps x σ H Q->J9 K ps x σ H Q'
 |[],x,σ,H,Q,Q',f,h=>by rw[J9] at h ⊢;exact⟨h.1,f _ _ h.2⟩
 |p::ps,x,σ,H,Q,Q',f,h=>by rw[J9] at h ⊢;obtain⟨v,r,e,q⟩:=h;exact⟨v,r,e,Pat.mono K p v σ H _ _ (fun σ1 H1 z=>Z8 K ps r σ1 H1 Q Q' f z) q⟩
end
mutual
theorem Pat.ZC(K:U0a){k:Nat}:∀(p:Pat),p.low k=true->Low k (p.raw K)
 |.nm i,h=>by rw[Pat.raw];rw[Pat.low] at h;exact gJ (of_decide_eq_true h)
 |.tp ps,h=>by rw[Pat.raw];rw[Pat.low] at h;exact lU (aL K ps h)
theorem aL(K:U0a){k:Nat}:∀(ps:List Pat),Yw k ps=true->Vr k (J9 K ps)
 |[],_=>by rw[J9];exact lV
 |p::ps,h=>by
  rw[J9]
  rw[Yw,U00] at h
  exact gM (Pat.ZC K p h.1) (aL K ps h.2) (Pat.mono K p) (Z8 K ps)
end
theorem WL:∀{ps:List Pat} {ds:List D} {env env':Env},Gu ps ds env=some env'->ds.length=ps.length
 |[],[],_,_,_=>rfl
 |[],_::_,_,_,h=>by simp[Gu] at h
 |_::_,[],_,_,h=>by simp[Gu] at h
 |p::ps,d::ds,env,env',h=>by
  rw[Gu] at h
  cases e1:p.sem d env with
  |none=>rw[e1] at h;cases h
  |some env1 =>
   rw[e1] at h
   rw[U0g,U0g,WL (show Gu ps ds env1=some env' from h)]
mutual
theorem Pat.run{Γ:Fr}{μ:Mu}{H:Hp}{S:Store}(K:U0a):∀(p:Pat){v:V}{d:D}{σ:St}{env env':Env}{Q:St->Hp->Prop},Rep Γ μ σ H env S->VR Γ μ H v d->p.sem d env=some env'->(∀σ',Rep Γ μ σ' H env' S->Q σ' H)->p.raw K v σ H Q
 |.nm i,v,d,σ,env,env',Q,R,r,e,q=>by
  rw[Pat.raw]
  rw[Pat.sem] at e
  cases e
  exact q _ (R.cu i r)
 |.tp ps,v,d,σ,env,env',Q,R,r,e,q=>by
  rw[Pat.raw]
  cases r with
  |@tup b xs ds hb rs =>
   rw[Pat.sem] at e
   obtain⟨hl,w⟩:=oU K ps R rs e q
   exact⟨b,xs,rfl,SqT.of hb,hl,w⟩
  |_=>simp[Pat.sem] at e
theorem oU{Γ:Fr}{μ:Mu}{H:Hp}{S:Store}(K:U0a):∀(ps:List Pat){vs:List V}{ds:List D}{σ:St}{env env':Env}{Q:St->Hp->Prop},Rep Γ μ σ H env S->VRs Γ μ H vs ds->Gu ps ds env=some env'->(∀σ',Rep Γ μ σ' H env' S->Q σ' H)->vs.length=ps.length/\J9 K ps vs σ H Q
 |[],vs,ds,σ,env,env',Q,R,r,e,q=>by
  rw[J9]
  cases r with
  |nil=>rw[Gu] at e;cases e;exact⟨rfl,rfl,q σ R⟩
  |cons _ _=>simp[Gu] at e
 |p::ps,vs,ds,σ,env,env',Q,R,r,e,q=>by
  rw[J9]
  cases r with
  |nil=>simp[Gu] at e
  |@cons y d ys ds' r1 r2 =>
   rw[Gu] at e
   cases e1:p.sem d env with
   |none=>rw[e1] at e;cases e
   |some env1 =>
    rw[e1] at e
    have e':Gu ps ds' env1=some env':=e
    have hl:ys.length=ps.length:=by rw[r2.length];exact WL e'
    exact⟨by rw[U0g,U0g,hl],y,ys,rfl,Pat.run K p R r1 e1 fun σ1 R1=>(oU K ps R1 r2 e' q).2⟩
end
def calm(w:List (Nat×List D))(S:Store):Prop:=∀p∈w,S[p.1]?=some (some p.2)
open Classical in
def loop(w:List (Nat×List D))(g:JZ)(b:BL):List D->BL
 |[],env,S=>if calm w S then some (.nx,env,S) else none
 |d::r,env,S=>if calm w S then (g d env).bind fun e=>(b e S).bind fun p=>match p.1 with
   |.nx=>loop w g b r p.2.1 p.2.2
   |.cnt=>loop w g b r p.2.1 p.2.2
   |.brk=>some (.nx,p.2.1,p.2.2)
   |.ret d=>some (.ret d,p.2.1,p.2.2)
  else none
def Jv(it:Jw)(g:JZ)(b:BL):BL:=fun env S=>(it env S).bind fun p=>loop p.1.2 g b p.1.1 env p.2
def JB(k:Nat)(caps:List Nat)(env:Env):Env:=U0m k none++caps.map fun j=>(env[j]?).join
open Classical in
def FQ(w:List (Nat×List D))(e0:Env)(g:JZ)(t:El)(e:Aw):List D->List D->Store->Option (List D×Store)
 |[],ys,S=>if calm w S/\ys.length<=1000000 then some (ys,S) else none
 |d::r,ys,S=>if calm w S/\ys.length<=1000000 then (g d e0).bind fun e1=>(t e1 S).bind fun p =>
   if p.1=true then (e e1 p.2).bind fun q=>FQ w e0 g t e r (ys++[q.1]) q.2 else FQ w e0 g t e r ys p.2
  else none
def Ea(k:Nat)(caps:List Nat)(it:Jw)(g:JZ)(t:El)(e:Aw):Bg:=fun env S=>(it env S).bind fun p=>FQ p.1.2 (JB k caps env) g t e p.1.1 [] p.2
def Gh:El:=fun _ S=>some (true,S)
def Cg(a:Bg):Aw:=fun env S=>(a env S).bind fun p=>some (.lst true p.1,p.2)
def Mv(a:Bg):Aw:=fun env S=>(a env S).bind fun p=>some (.ref p.2.length,p.2++[some p.1])
def Bw(a:Bg):Aw:=fun env S=>(a env S).bind fun p=>some (.tup p.1,p.2)
def wpE(K:U0a)(f:Aw):TE:=fun σ H Q=>∃Γ μ env S d S',Γ.K=K/\Rep Γ μ σ H env S/\f env S=some (d,S')/\∀v μ' H',Ext μ H μ' H'->Rep Γ μ' σ H' env S'->VR Γ μ' H' v d->Q v H'
def wpA(K:U0a)(f:Bg):TA:=fun σ H Q=>∃Γ μ env S d S',Γ.K=K/\Rep Γ μ σ H env S/\f env S=some (d,S')/\∀v μ' H',Ext μ H μ' H'->Rep Γ μ' σ H' env S'->VRs Γ μ' H' v d->Q v H'
def wpT(K:U0a)(f:El):TT:=fun σ H Q=>∃Γ μ env S b S',Γ.K=K/\Rep Γ μ σ H env S/\f env S=some (b,S')/\∀μ' H',Ext μ H μ' H'->Rep Γ μ' σ H' env S'->Q b H'
def wpO(K:U0a)(f:R7):TO:=fun σ H Q=>∃Γ μ env S b S',Γ.K=K/\Rep Γ μ σ H env S/\f env S=some (b,S')/\∀μ' H',Ext μ H μ' H'->Rep Γ μ' σ H' env S'->Q b H'
def FlQ(Γ:Fr)(μ:Mu)(E:Ends)(σ:St)(H:Hp):Fl->Prop
 |.nx=>E.nx σ H
 |.brk=>E.bk σ H
 |.cnt=>E.ct σ H
 |.ret d=>∀v,VR Γ μ H v d->E.rt v H
def wpS(K:U0a)(f:BL):TS:=fun E σ H=>∃Γ μ env S fl env' S',Γ.K=K/\Rep Γ μ σ H env S/\f env S=some (fl,env',S')/\∀μ' σ' H',Ext μ H μ' H'->Rep Γ μ' σ' H' env' S'->FlQ Γ μ' E σ' H' fl
structure Z1(Γ:Fr)(μ:Mu)(H:Hp)(J:It)(ds:List D)(w:List (Nat×List D)):Prop where
 step:∀(i:Nat)(d:D)(μ':Mu)(H':Hp)(σ':St)(env':Env)(S':Store),ds[i]?=some d->Ext μ H μ' H'->Rep Γ μ' σ' H' env' S'->calm w S'->J.go i H'/\∀x H'',J.yld i H' x H''->Same H' H''/\VR Γ μ' H'' x d
 stop:∀(μ':Mu)(H':Hp)(σ':St)(env':Env)(S':Store),Ext μ H μ' H'->Rep Γ μ' σ' H' env' S'->calm w S'->J.stop ds.length H'
def wpI(K:U0a)(f:Jw):TI:=fun σ H R=>∃Γ μ env S ds w S',Γ.K=K/\Rep Γ μ σ H env S/\f env S=some ((ds,w),S')/\∀J μ' H',Ext μ H μ' H'->Rep Γ μ' σ H' env S'->Z1 Γ μ' H' J ds w->R J H'
structure JE(X:Cx)(e:Expr)(f:Aw):Prop where
 pe:PE X e (wpE X.K f)
structure JA(X:Cx)(es:List Expr)(f:Bg):Prop where
 pa:PA X es (wpA X.K f)
structure JT(X:Cx)(e:Expr)(f:El):Prop where
 pt:PT X e (wpT X.K f)
structure JW(X:Cx)(e:Expr)(f:El):Prop where
 pw:PW X e (wpT X.K f)
structure JO(X:Cx)(e:Option Expr)(f:R7):Prop where
 po:PO X e (wpO X.K f)
structure JS(X:Cx)(st:Stmt)(f:BL):Prop where
 ps:PS X st (wpS X.K f)
structure JSs(X:Cx)(sts:List Stmt)(f:BL):Prop where
 ps:PSs X sts (wpS X.K f)
structure JI(X:Cx)(tg e:Expr)(f:Jw):Prop where
 pi:PI X tg e (wpI X.K f)
structure JG(X:Cx)(tg:Expr)(p:Pat):Prop where
 pg:PG X tg (p.raw X.K)
structure JGs(X:Cx)(tgs:List Expr)(ps:List Pat):Prop where
 pg:PGs X tgs (J9 X.K ps)
structure JTs(X:Cx)(es:List Expr)(f:El):Prop where
 pt:PTs X es (wpT X.K f)
section
variable{X:Cx}
theorem PE.imp{e:Expr}{t t':TE}(h:PE X e t)(k:∀σ H Q,t' σ H Q->t σ H Q):PE X e t':=fun pins s σ H Q I q=>h pins s σ H Q I (k σ H Q q)
theorem PT.imp{e:Expr}{t t':TT}(h:PT X e t)(k:∀σ H Q,t' σ H Q->t σ H Q):PT X e t':=fun pins s σ H Q I q=>h pins s σ H Q I (k σ H Q q)
theorem PW.imp{e:Expr}{t t':TT}(h:PW X e t)(k:∀σ H Q,t' σ H Q->t σ H Q):PW X e t':=fun w pins s σ H Q I q=>h w pins s σ H Q I (k σ H Q q)
theorem PTs.imp{e:List Expr}{t t':TT}(h:PTs X e t)(k:∀σ H Q,t' σ H Q->t σ H Q):PTs X e t':=fun pins s σ H Q I q=>h pins s σ H Q I (k σ H Q q)
theorem PA.imp{e:List Expr}{t t':TA}(h:PA X e t)(k:∀σ H Q,t' σ H Q->t σ H Q):PA X e t':=fun p pins s σ H Q I q=>h p pins s σ H Q I (k σ H Q q)
theorem PO.imp{e:Option Expr}{t t':TO}(h:PO X e t)(k:∀σ H Q,t' σ H Q->t σ H Q):PO X e t':=fun pins s σ H Q I q=>h pins s σ H Q I (k σ H Q q)
theorem PS.imp{e:Stmt}{t t':TS}(h:PS X e t)(k:∀E σ H,t' E σ H->t E σ H):PS X e t':=fun pins s σ H E I q=>h pins s σ H E I (k E σ H q)
theorem PSs.imp{e:List Stmt}{t t':TS}(h:PSs X e t)(k:∀E σ H,t' E σ H->t E σ H):PSs X e t':=fun pins s σ H E I q=>h pins s σ H E I (k E σ H q)
theorem PI.imp{tg e:Expr}{t t':TI}(h:PI X tg e t)(k:∀σ H R,t' σ H R->t σ H R):PI X tg e t':=fun pins s σ H R I q=>h pins s σ H R I (k σ H R q)
theorem bind_some{α β:Type}{a:Option α}{f:α->Option β}{b:β}(h:a.bind f=some b):∃x,a=some x/\f x=some b:=by
 cases a with
 |none=>cases h
 |some x=>exact⟨x,rfl,h⟩
theorem map_some{α β:Type}{a:Option α}{f:α->β}{b:β}(h:a.map f=some b):∃x,a=some x/\f x=b:=by
 cases a with
 |none=>cases h
 |some x=>exact⟨x,rfl,U05 h⟩
def Fb(K:U0a)(r:R2)(g:Store->D->D->Option D):Prop:=∀(Γ:Fr)(μ:Mu)(σ:St)(H:Hp)(env:Env)(S:Store)(x y:V)(dx dy d:D),Γ.K=K->Rep Γ μ σ H env S->VR Γ μ H x dx->VR Γ μ H y dy->g S dx dy=some d ->
 ∀Q:VK,(∀v H',Same H H'->VR Γ μ H' v d->Q v H')->r x y H Q
def pI(K:U0a)(r:V->Hp->VK->Prop)(g:Store->D->Option D):Prop:=∀(Γ:Fr)(μ:Mu)(σ:St)(H:Hp)(env:Env)(S:Store)(x:V)(dx d:D),Γ.K=K->Rep Γ μ σ H env S->VR Γ μ H x dx->g S dx=some d ->
 ∀Q:VK,(∀v H',Same H H'->VR Γ μ H' v d->Q v H')->r x H Q
def Kc(K:U0a)(r:List V->Hp->VK->Prop)(g:Store->List D->Option D):Prop:=∀(Γ:Fr)(μ:Mu)(σ:St)(H:Hp)(env:Env)(S:Store)(xs:List V)(ds:List D)(d:D),Γ.K=K->Rep Γ μ σ H env S->VRs Γ μ H xs ds->g S ds=some d ->
 ∀Q:VK,(∀v H',Same H H'->VR Γ μ H' v d->Q v H')->r xs H Q
def jJ(K:U0a)(r:V->Option Int->Option Int->Hp->VK->Prop)(g:Store->D->Option Int->Option Int->Option D):Prop:=∀(Γ:Fr)(μ:Mu)(σ:St)(H:Hp)(env:Env)(S:Store)(x:V)(dx d:D)(l h:Option Int),Γ.K=K->Rep Γ μ σ H env S->VR Γ μ H x dx->g S dx l h=some d ->
 ∀Q:VK,(∀v H',Same H H'->VR Γ μ H' v d->Q v H')->r x l h H Q
theorem Vc{K:U0a}{r:R2}{g:Store->D->D->Option D}{fa fb:Aw}(hs:Fb K r g){σ:St}{H:Hp}{Q:VK}(h:wpE K (eOp g fa fb) σ H Q):tOp r (wpE K fa) (wpE K fb) σ H Q:=by
 obtain⟨Γ,μ,env,S,d,S',hK,R,e,q⟩:=h
 obtain⟨⟨x,S1⟩,e1,e⟩:=bind_some e
 obtain⟨⟨y,S2⟩,e2,e⟩:=bind_some e
 obtain⟨z,e3,e⟩:=map_some e
 cases e
 refine⟨Γ,μ,env,S,x,S1,hK,R,e1,fun v1 μ1 H1 x1 R1 r1=>?_⟩
 refine⟨Γ,μ1,env,S1,y,S2,hK,R1,e2,fun v2 μ2 H2 x2 R2 r2=>?_⟩
 refine hs Γ μ2 σ H2 env S2 v1 v2 x y _ hK R2 (r1.ext x2) r2 e3 Q fun v H' sm rv=>?_
 obtain⟨R3,x3⟩:=R2.grow sm
 exact q v μ2 H' (x1.trans (x2.trans x3)) R3 rv
theorem Bs{op:Operator}{r:R2}{g:Store->D->D->Option D}{a b:Expr}{fa fb:Aw}{pos:Pos}(ho:OpR X (binaryOp op) r)(hs:Fb X.K r g)(ha:JE X a fa)(hb:JE X b fb):JE X (.BinOp a op b pos) (eOp g fa fb) :=
 ⟨PE.imp (jC ho ha.pe hb.pe) fun _ _ _ h=>Vc hs h⟩
theorem Oz{op:CmpOp}{r:R2}{g:Store->D->D->Option D}{a b:Expr}{fa fb:Aw}{pos:Pos}(ho:OpR X (compareOp op) r)(hs:Fb X.K r g)(ha:JE X a fa)(hb:JE X b fb)(hm:behindInMarks op b=false):JE X (.Compare a [op] [b] pos) (eOp g fa fb) :=
 ⟨PE.imp (Yc ho ha.pe hb.pe hm) fun _ _ _ h=>Vc hs h⟩
theorem Bh{r:R2}{g:Store->D->D->Option D}{a b:Expr}{fa fb:Aw}{pos:Pos}(ho:IxR X r)(hs:Fb X.K r g)(ha:JE X a fa)(hb:JE X b fb)(hp:Qd b):JE X (.Subscript a b pos) (eOp g fa fb) :=
 ⟨PE.imp (uT ho ha.pe hb.pe hp) fun _ _ _ h=>Vc hs h⟩
theorem Kr{op:UnaryOp}{r:V->Hp->VK->Prop}{g:Store->D->Option D}{a:Expr}{fa:Aw}{pos:Pos}(ho:UnR X (unaryOp op) r)(hs:pI X.K r g)(ha:JE X a fa):JE X (.UnaryOp op a pos) (eUn g fa) :=
 ⟨PE.imp (uR ho ha.pe) fun σ H Q h=>by
  obtain⟨Γ,μ,env,S,d,S',hK,R,e,q⟩:=h
  obtain⟨⟨x,S1⟩,e1,e⟩:=bind_some e
  obtain⟨z,e3,e⟩:=map_some e
  cases e
  refine⟨Γ,μ,env,S,x,S1,hK,R,e1,fun v1 μ1 H1 x1 R1 r1=>?_⟩
  refine hs Γ μ1 σ H1 env S1 v1 x _ hK R1 r1 e3 Q fun v H' sm rv=>?_
  obtain⟨R3,x3⟩:=R1.grow sm
  exact q v μ1 H' (x1.trans x3) R3 rv⟩
theorem Ad(i:Nat){x:Str}{pos:Pos}(hN:X.N[i]?=some x:=by rfl)(hv:Vis X.env.scope x:=by first|exact U7s rfl|exact U60 (U7s rfl)|exact U60 (U60 rfl))(hd:(x==("__debug__":Str))=false:=by decide)
  (hcd:(x==("__classdict__":Str))=false:=by decide):JE X (.Name x pos) (Ab i) :=
 ⟨PE.imp (Zz hN hv hd hcd) fun σ H Q h=>by
  obtain⟨Γ,μ,env,S,d,S',hK,R,e,q⟩:=h
  obtain⟨d',e1,e⟩:=map_some e
  cases e
  have e1':env[i]?=some (some d):=by
   cases h:env[i]? with
   |none=>rw[h] at e1;cases e1
   |some o=>rw[h] at e1;exact congrArg some e1
  obtain⟨v,h1,h2⟩:=R.vals i d e1'
  exact⟨v,h1,q v μ H (Ext.refl _ _) R h2⟩⟩
theorem cg{K:U0a}{v:V}{d:D}(h:∀Γ μ H,VR Γ μ H v d){σ:St}{H:Hp}{Q:VK}(w:wpE K (eC d) σ H Q):tC v σ H Q:=by
 obtain⟨Γ,μ,env,S,d',S',hK,R,e,q⟩:=w
 cases e
 exact q v μ H (Ext.refl _ _) R (h Γ μ H)
theorem Aj{i j pos}:JE X (.Constant (.int i) j pos) (eC (.int i)):=⟨PE.imp aC fun _ _ _=>cg fun _ _ _=>.int i⟩
theorem Np{b j pos}:JE X (.Constant (.bool b) j pos) (eC (.bl b)):=⟨PE.imp uV fun _ _ _=>cg fun _ _ _=>.bl b⟩
theorem QF{n:String}{x:Str}{pos:Pos}(hg:Gl X x)(hm:X.mg x=none)(hv:bootBuiltins x=some (.type n))(hn:x≠"__name__":=by decide)(hd:(x==("__debug__":Str))=false:=by decide):JE X (.Name x pos) (eC (.ty n)) :=
 ⟨PE.imp (lD (v:=.ty n) hg hm hv rfl hn hd) fun _ _ _=>cg fun _ _ _=>.ty n⟩
theorem Ah:JA X [] Af:=⟨PA.imp Ou fun σ H Q h=>by
 obtain⟨Γ,μ,env,S,d,S',hK,R,e,q⟩:=h
 cases e
 exact q [] μ H (Ext.refl _ _) R .nil⟩
theorem Ac{e:Expr}{es:List Expr}{f:Aw}{r:Bg}(ha:JE X e f)(hr:JA X es r)(hs:starEach (e::es) X.env=(false,eval e X.env)::starEach es X.env:=by rfl):JA X (e::es) (Aa f r) :=
 ⟨PA.imp (NT ha.pe hr.pa hs) fun σ H Q h=>by
  obtain⟨Γ,μ,env,S,d,S',hK,R,e,q⟩:=h
  obtain⟨⟨x,S1⟩,e1,e⟩:=bind_some e
  obtain⟨⟨y,S2⟩,e2,e⟩:=bind_some e
  cases e
  refine⟨Γ,μ,env,S,x,S1,hK,R,e1,fun v1 μ1 H1 x1 R1 r1=>?_⟩
  refine⟨Γ,μ1,env,S1,y,S2,hK,R1,e2,fun v2 μ2 H2 x2 R2 r2=>?_⟩
  exact q _ μ2 H2 (x1.trans x2) R2 (.cons (r1.ext x2) r2)⟩
theorem big{n:Nat}(h:n<=1000000):n<sizeLine:=U3o h (by decide)
theorem pN{K:U0a}{f:Bg}{σ:St}{H:Hp}{Q:VK}(hl:∀env S p,f env S=some p->p.1.length<=1000000)(h:wpE K (Bw f) σ H Q):oK (wpA K f) σ H Q:=by
 obtain⟨Γ,μ,env,S,d,S',hK,R,e,q⟩:=h
 obtain⟨⟨x,S1⟩,e1,e⟩:=bind_some e
 cases e
 refine⟨Γ,μ,env,S,x,S1,hK,R,e1,fun vs μ1 H1 x1 R1 r1=>⟨by rw[r1.length];exact U2c (big (hl _ _ _ e1)),fun p hp=>?_⟩⟩
 have sm:=Cz hp (.tup vs)
 obtain⟨R2,x2⟩:=R1.grow sm
 exact q _ μ1 _ (x1.trans x2) R2 (.tup Bo (r1.ext x2))
def Few(n:Nat)(f:Bg):Prop:=∀env S p,f env S=some p->p.1.length<=n
theorem BX:Few 0 Af:=fun env S p h=>by cases h;exact U0s _
theorem Al{n:Nat}{f:Aw}{r:Bg}(h:Few n r):Few (n+1) (Aa f r):=fun env S p e=>by
 obtain⟨⟨x,S1⟩,e1,e⟩:=bind_some e
 obtain⟨⟨y,S2⟩,e2,e⟩:=bind_some e
 cases e
 have:=h _ _ _ e2
 show(x::y).length<=n+1
 rw[U0g]
 exact Nat.succ_le_succ this
theorem DY{es:List Expr}{f:Bg}{x1:Nat}{pos:Pos}{n:Nat}(h:JA X es f)(hf:Few n f)(hn:n<=1000000:=by decide):JE X (.Tuple es x1 pos) (Bw f):=⟨PE.imp (qT h.pa) fun _ _ _ w=>pN (fun env S p e=>U07 (hf env S p e) hn) w⟩
theorem GK{es:List Expr}{f:Bg}{pos:Pos}{n:Nat}(h:JA X es f)(hf:Few n f)(hn:n<=1000000:=by decide):JE X (.List es pos) (Cg f):=⟨PE.imp (aA h.pa) fun σ H Q w=>by
 obtain⟨Γ,μ,env,S,d,S',hK,R,e,q⟩:=w
 obtain⟨⟨x,S1⟩,e1,e⟩:=bind_some e
 cases e
 refine⟨Γ,μ,env,S,x,S1,hK,R,e1,fun vs μ1 H1 x1 R1 r1=>⟨by rw[r1.length];exact U2c (big (U07 (hf _ _ _ e1) hn)),fun p hp=>?_⟩⟩
 obtain⟨R2,x2⟩:=R1.grow (Cz hp (.lst vs))
 exact q _ μ1 _ (x1.trans x2) R2 (.lst (R1.ok hp true) (R1.dead hp) Bo (r1.ext x2))⟩
theorem Qa{es:List Expr}{f:Bg}{pos:Pos}{n:Nat}(h:JA X es f)(hf:Few n f)(hn:n<=1000000:=by decide):JE X (.List es pos) (Mv f):=⟨PE.imp (aA h.pa) fun σ H Q w=>by
 obtain⟨Γ,μ,env,S,d,S',hK,R,e,q⟩:=w
 obtain⟨⟨x,S1⟩,e1,e⟩:=bind_some e
 cases e
 refine⟨Γ,μ,env,S,x,S1,hK,R,e1,fun vs μ1 H1 x1 R1 r1=>⟨by rw[r1.length];exact U2c (big (U07 (hf _ _ _ e1) hn)),fun p hp=>?_⟩⟩
 obtain⟨R2,x2⟩:=R1.laid hp r1
 exact q _ _ _ (x1.trans x2) R2 (.ref (by rw[U0q,R1.slen];simp) fun a h=>by
  rw[R1.slen] at h
  simp at h
  rw[←h]
  exact⟨rfl,⟨_,Bo⟩⟩)⟩
end
end VS
end
section
namespace VS
open PySem PySem.Spec L2
section
variable{X:Cx}{a b c:Expr}{fa fb fc:Aw}{pos:Pos}{rest:List Expr}
theorem Vy{op}(h:JE X a fa):JE X (.BoolOp op [a] pos) fa:=⟨qU h.pe⟩
theorem SJ(ha:JE X a fa)(hb:JE X (.BoolOp .And (b::rest) pos) fb):JE X (.BoolOp .And (a::b::rest) pos) (TQ fa fb):=⟨PE.imp (qX ha.pe hb.pe) fun σ H Q h=>by
 obtain⟨Γ,μ,env,S,d,S',hK,R,e,q⟩:=h
 obtain⟨⟨x,S1⟩,e1,e⟩:=bind_some e
 refine⟨Γ,μ,env,S,x,S1,hK,R,e1,fun v1 μ1 H1 x1 R1 r1=>?_⟩
 dsimp only at e
 split at e
 .cases r1
  exact⟨true,rfl,by rw[if_pos rfl];exact⟨Γ,μ1,env,S1,d,S',hK,R1,e,fun v μ' H' x' R' r'=>q v μ' H' (x1.trans x') R' r'⟩⟩
 .cases r1
  cases e
  exact⟨false,rfl,by rw[if_neg U1c];exact q _ μ1 H1 x1 R1 (.bl false)⟩
 .cases e⟩
theorem rH(ha:JE X a fa):JE X (.UnaryOp .Not a pos) (dH fa):=⟨PE.imp (qW ha.pe) fun σ H Q h=>by
 obtain⟨Γ,μ,env,S,d,S',hK,R,e,q⟩:=h
 obtain⟨⟨x,S1⟩,e1,e⟩:=bind_some e
 refine⟨Γ,μ,env,S,x,S1,hK,R,e1,fun v1 μ1 H1 x1 R1 r1=>?_⟩
 dsimp only at e
 split at e
 .rename_i c
  cases r1
  cases e
  exact⟨c,rfl,q _ μ1 H1 x1 R1 (.bl _)⟩
 .cases e⟩
theorem Jf{e:Expr}(h:JE X e fa)(he:∀whole,isTrue e X.env whole=(do let v ←whole;standAt e.pos;holding [v] (truthy v)):=by intro _;rfl):JT X e (Bf fa):=⟨PT.imp (qK h.pe he) fun σ H Q h=>by
 obtain⟨Γ,μ,env,S,d,S',hK,R,e,q⟩:=h
 obtain⟨⟨x,S1⟩,e1,e⟩:=bind_some e
 refine⟨Γ,μ,env,S,x,S1,hK,R,e1,fun v1 μ1 H1 x1 R1 r1=>?_⟩
 dsimp only at e
 split at e
 .rename_i c
  cases r1
  cases e
  exact⟨_,rfl,q μ1 H1 x1 R1⟩
 .cases e⟩
theorem YG{K:U0a}{f:Aw}{t:TE}(ht:∀σ H Q,wpE K f σ H Q->t σ H Q){σ:St}{H:Hp}{Q:Bool->Hp->Prop}(h:wpT K (Bf f) σ H Q):Z4 t σ H Q:=by
 obtain⟨Γ,μ,env,S,d,S',hK,R,e,q⟩:=h
 obtain⟨⟨x,S1⟩,e1,e⟩:=bind_some e
 refine ht σ H _ ⟨Γ,μ,env,S,x,S1,hK,R,e1,fun v1 μ1 H1 x1 R1 r1=>?_⟩
 dsimp only at e
 split at e
 .cases r1
  cases e
  exact⟨_,rfl,q μ1 H1 x1 R1⟩
 .cases e
theorem Dt{op:CmpOp}{r:R2}{g:Store->D->D->Option D}(ho:OpR X (compareOp op) r)(hs:Fb X.K r g)(ha:JE X a fa)(hb:JE X b fb)(hm:behindInMarks op b=false):JT X (.Compare a [op] [b] pos) (Bf (eOp g fa fb)) :=
 ⟨PT.imp (jy ho ha.pe hb.pe hm) fun σ H Q h=>YG (fun _ _ _=>Vc hs) h⟩
theorem dW{K:U0a}{r r':R2}{g g':Store->D->D->Option D}(hs:Fb K r g)(hs':Fb K r' g'){σ:St}{H:Hp}{Q:VK}(h:wpE K (PB g g' fa fb fc) σ H Q):Zu r r' (wpE K fa) (wpE K fb) (wpE K fc) σ H Q:=by
 obtain⟨Γ,μ,env,S,d,S',hK,R,e,q⟩:=h
 obtain⟨⟨x,S1⟩,e1,e⟩:=bind_some e
 obtain⟨⟨y,S2⟩,e2,e⟩:=bind_some e
 obtain⟨z,e3,e⟩:=bind_some e
 refine⟨Γ,μ,env,S,x,S1,hK,R,e1,fun v1 μ1 H1 x1 R1 r1=>?_⟩
 refine⟨Γ,μ1,env,S1,y,S2,hK,R1,e2,fun v2 μ2 H2 x2 R2 r2=>?_⟩
 refine hs Γ μ2 σ H2 env S2 v1 v2 x y _ hK R2 (r1.ext x2) r2 e3 _ fun v H3 sm rv=>?_
 obtain⟨R3,x3⟩:=R2.grow sm
 dsimp only at e
 split at e
 .cases rv
  refine⟨true,rfl,?_⟩
  rw[if_pos rfl]
  obtain⟨⟨u,S3⟩,e4,e⟩:=bind_some e
  obtain⟨w,e5,e⟩:=map_some e
  cases e
  refine⟨Γ,μ2,env,S2,u,S3,hK,R3,e4,fun v4 μ4 H4 x4 R4 r4=>?_⟩
  refine hs' Γ μ4 σ H4 env S3 v2 v4 y u _ hK R4 (r2.ext (x3.trans x4)) r4 e5 _ fun v5 H5 sm5 rv5=>?_
  obtain⟨R5,x5⟩:=R4.grow sm5
  exact q v5 μ4 H5 (x1.trans (x2.trans (x3.trans (x4.trans x5)))) R5 rv5
 .cases rv
  cases e
  refine⟨false,rfl,?_⟩
  rw[if_neg U1c]
  exact q _ μ2 H3 (x1.trans (x2.trans x3)) R3 (.bl false)
 .cases e
theorem Wc{op op':CmpOp}{r r':R2}{g g':Store->D->D->Option D}(ho:OpR X (compareOp op) r)(hs:Fb X.K r g)(ho':OpR X (compareOp op') r')(hs':Fb X.K r' g')(ha:JE X a fa)(hb:JE X b fb)(hc:JE X c fc)
  (hm:lastMarks [op,op'] [b,c]=false:=by with_unfolding_all rfl):JT X (.Compare a [op,op'] [b,c] pos) (Bf (PB g g' fa fb fc)):=⟨PT.imp (fO ho ho' ha.pe hb.pe hc.pe hm) fun _ _ _ h=>YG (fun _ _ _=>dW hs hs') h⟩
variable{ta tb:El}
theorem Kq(h:JW X a ta):JT X a ta:=⟨h.pw.pt⟩
theorem Yg(ha:JT X a ta):JW X (.BoolOp .And [a] pos) ta:=⟨jt ha.pt⟩
theorem Ls(ha:JT X a ta):JW X (.BoolOp .Or [a] pos) ta:=⟨qI ha.pt⟩
theorem aJ(ha:JT X a ta)(hb:JW X (.BoolOp .And (b::rest) pos) tb):JW X (.BoolOp .And (a::b::rest) pos) (Nh ta tb):=⟨PW.imp (qJ ha.pt hb.pw) fun σ H Q h=>by
 obtain⟨Γ,μ,env,S,d,S',hK,R,e,q⟩:=h
 obtain⟨⟨x,S1⟩,e1,e⟩:=bind_some e
 refine⟨Γ,μ,env,S,x,S1,hK,R,e1,fun μ1 H1 x1 R1=>?_⟩
 dsimp only at e
 by_cases hx:x=true
 .rw[if_pos hx] at e ⊢
  exact⟨Γ,μ1,env,S1,d,S',hK,R1,e,fun μ' H' x' R'=>q μ' H' (x1.trans x') R'⟩
 .rw[if_neg hx] at e ⊢
  cases e
  exact q μ1 H1 x1 R1⟩
theorem Kp(ha:JT X a ta)(hb:JW X (.BoolOp .Or (b::rest) pos) tb):JW X (.BoolOp .Or (a::b::rest) pos) (tOr ta tb):=⟨PW.imp (uP ha.pt hb.pw) fun σ H Q h=>by
 obtain⟨Γ,μ,env,S,d,S',hK,R,e,q⟩:=h
 obtain⟨⟨x,S1⟩,e1,e⟩:=bind_some e
 refine⟨Γ,μ,env,S,x,S1,hK,R,e1,fun μ1 H1 x1 R1=>?_⟩
 dsimp only at e
 by_cases hx:x=true
 .rw[if_pos hx] at e ⊢
  cases e
  exact q μ1 H1 x1 R1
 .rw[if_neg hx] at e ⊢
  exact⟨Γ,μ1,env,S1,d,S',hK,R1,e,fun μ' H' x' R'=>q μ' H' (x1.trans x') R'⟩⟩
theorem Jg(ha:JT X a ta):JT X (.UnaryOp .Not a pos) (Il ta):=⟨PT.imp (qL ha.pt) fun σ H Q h=>by
 obtain⟨Γ,μ,env,S,d,S',hK,R,e,q⟩:=h
 obtain⟨⟨x,S1⟩,e1,e⟩:=bind_some e
 cases e
 exact⟨Γ,μ,env,S,x,S1,hK,R,e1,fun μ1 H1 x1 R1=>q μ1 H1 x1 R1⟩⟩
theorem JM:JTs X [] Gh:=⟨PTs.imp jx fun σ H Q h=>by
 obtain⟨Γ,μ,env,S,d,S',hK,R,e,q⟩:=h
 cases e
 exact q μ H (Ext.refl _ _) R⟩
theorem Ti(h:JT X c ta):JTs X [c] ta:=⟨jw h.pt⟩
variable{lo hi:Option Expr}{ol oh:R7}{p2:Pos}
theorem QZ:JO X none Hs:=⟨PO.imp kY fun σ H Q h=>by
 obtain⟨Γ,μ,env,S,d,S',hK,R,e,q⟩:=h
 cases e
 exact q μ H (Ext.refl _ _) R⟩
theorem QX(h:JE X a fa):JO X (some a) (Hr fa):=⟨PO.imp (kW h.pe) fun σ H Q h=>by
 obtain⟨Γ,μ,env,S,d,S',hK,R,e,q⟩:=h
 obtain⟨⟨x,S1⟩,e1,e⟩:=bind_some e
 refine⟨Γ,μ,env,S,x,S1,hK,R,e1,fun v1 μ1 H1 x1 R1 r1=>?_⟩
 dsimp only at e
 split at e
 .cases r1
  cases e
  exact⟨_,rfl,q μ1 H1 x1 R1⟩
 .cases e⟩
theorem Ny{r:V->Option Int->Option Int->Hp->VK->Prop}{g:Store->D->Option Int->Option Int->Option D}(hr:SlR X r)(hs:jJ X.K r g)(ha:JE X a fa)(hl:JO X lo ol)(hh:JO X hi oh) :
  JE X (.Subscript a (.Slice lo hi none p2) pos) (eSl g fa ol oh):=⟨PE.imp (fW hr ha.pe hl.po hh.po) fun σ H Q h=>by
 obtain⟨Γ,μ,env,S,d,S',hK,R,e,q⟩:=h
 obtain⟨⟨x,S1⟩,e1,e⟩:=bind_some e
 obtain⟨⟨l,S2⟩,e2,e⟩:=bind_some e
 obtain⟨⟨u,S3⟩,e3,e⟩:=bind_some e
 obtain⟨z,e4,e⟩:=map_some e
 cases e
 refine⟨Γ,μ,env,S,x,S1,hK,R,e1,fun v1 μ1 H1 x1 R1 r1=>?_⟩
 refine⟨Γ,μ1,env,S1,l,S2,hK,R1,e2,fun μ2 H2 x2 R2=>?_⟩
 refine⟨Γ,μ2,env,S2,u,S3,hK,R2,e3,fun μ3 H3 x3 R3=>?_⟩
 refine hs Γ μ3 σ H3 env S3 v1 x _ l u hK R3 (r1.ext (x2.trans x3)) e4 Q fun v H' sm rv=>?_
 obtain⟨R4,x4⟩:=R3.grow sm
 exact q v μ3 H' (x1.trans (x2.trans (x3.trans x4))) R4 rv⟩
theorem iz{K:U0a}{r:List V->Hp->VK->Prop}{g:Store->List D->Option D}{f:Bg}(hs:Kc K r g){σ:St}{H:Hp}{Q:VK}(h:wpE K (eCB g f) σ H Q):tCB r (wpA K f) σ H Q:=by
 obtain⟨Γ,μ,env,S,d,S',hK,R,e,q⟩:=h
 obtain⟨⟨x,S1⟩,e1,e⟩:=bind_some e
 obtain⟨z,e4,e⟩:=map_some e
 cases e
 refine⟨Γ,μ,env,S,x,S1,hK,R,e1,fun v1 μ1 H1 x1 R1 r1=>?_⟩
 refine hs Γ μ1 σ H1 env S1 v1 x _ hK R1 r1 e4 Q fun v H' sm rv=>?_
 obtain⟨R4,x4⟩:=R1.grow sm
 exact q v μ1 H' (x1.trans x4) R4 rv
variable{x:Str}{p:Pos}{e:Expr}{es:List Expr}{id T:String}{f:Bg}
theorem CP{r:List V->Hp->VK->Prop}{g:Store->List D->Option D}(hc:DN X (.builtin id) r)(hsm:Kc X.K r g)(hg:Gl X x)(hm:X.mg x=none)(hv:bootBuiltins x=some (.builtin id))(ha:JA X (e::es) f)(hn:x≠"__name__":=by decide)(hdb:(x==("__debug__":Str))=false:=by decide)
  (he:starEach (e::es) X.env=(false,eval e X.env)::starEach es X.env:=by rfl) (hpl:(backTo pos (starEach es X.env)).any (·.1)=false:=by rfl):JE X (.Call (.Name x p) (e::es) [] pos) (eCB g f) :=
 ⟨PE.imp (WT hc hg hm hv ha.pa hn hdb he hpl) fun _ _ _ h=>iz hsm h⟩
theorem Pk{r:List V->Hp->VK->Prop}{g:Store->List D->Option D}(hc:DN X (.type T) r)(hsm:Kc X.K r g)(hg:Gl X x)(hm:X.mg x=none)(hv:bootBuiltins x=some (.type T))(ha:JA X (e::es) f)(hn:x≠"__name__":=by decide)(hdb:(x==("__debug__":Str))=false:=by decide)
  (he:starEach (e::es) X.env=(false,eval e X.env)::starEach es X.env:=by rfl) (hpl:(backTo pos (starEach es X.env)).any (·.1)=false:=by rfl):JE X (.Call (.Name x p) (e::es) [] pos) (eCB g f) :=
 ⟨PE.imp (KQ hc hg hm hv ha.pa hn hdb he hpl) fun _ _ _ h=>iz hsm h⟩
end
section
variable{X:Cx}{st:Stmt}{sts:List Stmt}{f g:BL}{fa:Aw}{a:Expr}{pos:Pos}{K:U0a}
theorem tZ{E:Ends}{σ:St}{H:Hp}{fl:Fl}(h:wpS K (fun env S=>some (fl,env,S)) E σ H):∃Γ μ,FlQ Γ μ E σ H fl:=by
 obtain⟨Γ,μ,env,S,fl',env',S',hK,R,e,q⟩:=h
 cases e
 exact⟨Γ,μ,q μ σ H (Ext.refl _ _) R⟩
theorem Ej:JSs X [] FJ:=⟨PSs.imp kE fun E σ H h=>let ⟨_,_,q⟩:=tZ (fl:=.nx) h;q⟩
theorem RM:JS X st Ot:=⟨PS.imp fQ fun E σ H h=>by obtain⟨_,_,_,_,_,_,_,_,_,e,_⟩:=h;cases e⟩
theorem Av(h1:JS X st f)(h2:JSs X sts g):JSs X (st::sts) (Bq f g):=⟨PSs.imp (fP h1.ps h2.ps) fun E σ H h=>by
 obtain⟨Γ,μ,env,S,fl,env',S',hK,R,e,q⟩:=h
 obtain⟨⟨fl1,env1,S1⟩,e1,e⟩:=bind_some e
 refine⟨Γ,μ,env,S,fl1,env1,S1,hK,R,e1,fun μ1 σ1 H1 x1 R1=>?_⟩
 dsimp only at e
 cases fl1 with
 |nx=>exact⟨Γ,μ1,env1,S1,fl,env',S',hK,R1,e,fun μ' σ' H' x' R'=>q μ' σ' H' (x1.trans x') R'⟩
 |brk=>cases e;exact q μ1 σ1 H1 x1 R1
 |cnt=>cases e;exact q μ1 σ1 H1 x1 R1
 |ret d=>cases e;exact q μ1 σ1 H1 x1 R1⟩
theorem Ax(h1:JS X st f):JSs X [st] f:=⟨jz h1.ps⟩
theorem KC(he:JE X a fa)(hs:swapsWith a none pos.line X.env=pure false:=by rfl):JS X (.Expr a pos) (J8 fa):=⟨PS.imp (kJ he.pe hs) fun E σ H h=>by
 obtain⟨Γ,μ,env,S,fl,env',S',hK,R,e,q⟩:=h
 obtain⟨⟨x,S1⟩,e1,e⟩:=bind_some e
 cases e
 exact⟨Γ,μ,env,S,x,S1,hK,R,e1,fun v1 μ1 H1 x1 R1 r1=>q μ1 σ H1 x1 R1⟩⟩
theorem Cd(he:JE X a fa):JS X (.Return (some a) pos) (Cw fa):=⟨PS.imp (qN he.pe) fun E σ H h=>by
 obtain⟨Γ,μ,env,S,fl,env',S',hK,R,e,q⟩:=h
 obtain⟨⟨x,S1⟩,e1,e⟩:=bind_some e
 cases e
 exact⟨Γ,μ,env,S,x,S1,hK,R,e1,fun v1 μ1 H1 x1 R1 r1=>q μ1 σ H1 x1 R1 v1 r1⟩⟩
theorem Fz{c:Expr}{A B:List Stmt}{tc:El}(hc:JT X c tc)(ha:JSs X A f)(hb:JSs X B g):JS X (.If c A B pos) (sIf tc f g):=⟨PS.imp (uQ hc.pt ha.ps hb.ps) fun E σ H h=>by
 obtain⟨Γ,μ,env,S,fl,env',S',hK,R,e,q⟩:=h
 obtain⟨⟨x,S1⟩,e1,e⟩:=bind_some e
 refine⟨Γ,μ,env,S,x,S1,hK,R,e1,fun μ1 H1 x1 R1=>?_⟩
 dsimp only at e
 by_cases hx:x=true
 .rw[if_pos hx] at e ⊢
  exact⟨Γ,μ1,env,S1,fl,env',S',hK,R1,e,fun μ' σ' H' x' R'=>q μ' σ' H' (x1.trans x') R'⟩
 .rw[if_neg hx] at e ⊢
  exact⟨Γ,μ1,env,S1,fl,env',S',hK,R1,e,fun μ' σ' H' x' R'=>q μ' σ' H' (x1.trans x') R'⟩⟩
theorem DK{i:Nat}{x:Str}{pos':Pos}(hN:X.N.Nodup)(he:JE X a fa)(hi:X.N[i]?=some x:=by rfl)(hx:Loc X.env.scope x:=by first|exact U7s rfl|exact U60 rfl)(hs:swapsWith a (some (.Name x pos')) pos.line X.env=pure false:=by rfl)
  (hf:X.fn x=true∨X.env.scope.names.lookup x=some .local:=by first|exact .inl rfl|exact .inr rfl|assumption):JS X (.Assign [.Name x pos'] a pos) (Bu i fa):=⟨PS.imp (qM hN hi hx he.pe hs hf) fun E σ H h=>by
 obtain⟨Γ,μ,env,S,fl,env',S',hK,R,e,q⟩:=h
 obtain⟨⟨y,S1⟩,e1,e⟩:=bind_some e
 cases e
 exact⟨Γ,μ,env,S,y,S1,hK,R,e1,fun v1 μ1 H1 x1 R1 r1=>q μ1 _ H1 x1 (R1.cu i r1)⟩⟩
theorem CK{i:Nat}{x:Str}(hN:X.N.Nodup)(hi:X.N[i]?=some x:=by rfl)(hx:Loc X.env.scope x:=by first|exact U7s rfl|exact U60 rfl)
  (hf:X.fn x=true∨X.env.scope.names.lookup x=some .local:=by first|exact .inl rfl|exact .inr rfl|assumption):JG X (.Name x pos) (.nm i):=⟨by rw[Pat.raw];exact kh hN hi hx hf⟩
theorem JN:JGs X [] []:=⟨by rw[J9];exact kZ⟩
theorem Dv{e:Expr}{es:List Expr}{t:Pat}{u:List Pat}(h1:JG X e t)(h2:JGs X es u)
  (hs:(assignEach (e::es) X.env).map (·.2)=assign e X.env::(assignEach es X.env).map (·.2):=by rfl):JGs X (e::es) (t::u):=⟨by rw[J9];exact fV h1.pg h2.pg hs⟩
theorem KD{es:List Expr}{k:Nat}{gs:List Pat}(hc:X.calm=true)(h:JGs X es gs)(hn:(assignEach es X.env).length=gs.length:=by rfl)(hst:(assignEach es X.env).findIdx? (·.1)=none:=by rfl):JG X (.Tuple es k pos) (.tp gs) :=
 ⟨by rw[Pat.raw];exact qQ hc h.pg hn hst⟩
theorem rG{tg:Expr}{gg:Pat}(he:JE X a fa)(hg:JG X tg gg)(hs:swapsWithSole [tg] a pos.line X.env=pure false:=by rfl)(hw:swappedStores [tg] a X.env=pure none:=by rfl)
  (h1:(assignEach [tg] X.env).map (·.2)=[assign tg X.env]:=by rfl):JS X (.Assign [tg] a pos) (Yt fa gg.sem):=⟨PS.imp (Zy he.pe hg.pg hs hw h1) fun E σ H h=>by
 obtain⟨Γ,μ,env,S,fl,env',S',hK,R,e,q⟩:=h
 obtain⟨⟨y,S1⟩,e1,e⟩:=bind_some e
 obtain⟨env1,e2,e⟩:=bind_some e
 cases e
 exact⟨Γ,μ,env,S,y,S1,hK,R,e1,fun v1 μ1 H1 x1 R1 r1=>gg.run X.K R1 r1 e2 fun σ' R'=>q μ1 σ' H1 x1 R'⟩⟩
theorem Hh{tg iter:Expr}{body:List Stmt}{it:Jw}{gg:Pat}(hc:X.calm=true)(hi:JI X tg iter it)(hg:JG X tg gg)(hb:JSs X body f)(hp:PassesOwn (model X.prog X.w) X.A X.env X.xe)
  (hs:∀x,foldedSetIterable iter X.env x=pure x:=by intro _;rfl):JS X (.For tg iter body [] pos) (Jv it gg.sem f):=⟨PS.imp (qO hp hc hi.pi hg.pg hb.ps hs) fun E σ H h=>by
 obtain⟨Γ,μ,env,S,fl,env',S',hK,R,e,q⟩:=h
 obtain⟨⟨⟨ds,w⟩,S1⟩,e1,e⟩:=bind_some e
 refine⟨Γ,μ,env,S,ds,w,S1,hK,R,e1,fun J μ1 H1 x1 R1 ok=>?_⟩
 refine⟨fun i m σ2 H2=>∃μ2 env2 S2,m=ds.length-i/\i<=ds.length/\Ext μ1 H1 μ2 H2/\Rep Γ μ2 σ2 H2 env2 S2/\loop w gg.sem f (ds.drop i) env2 S2=some (fl,env',S'),⟨ds.length,μ1,env,S1,rfl,U3h _,Ext.refl _ _,R1,by rw[U7k];exact e⟩,?_⟩
 rintro i m σ2 H2 ⟨μ2,env2,S2,rfl,hi,x2,R2,el⟩
 by_cases hlt:i<ds.length
 .rw[U29 hlt] at el
  unfold loop at el
  by_cases hcm:calm w S2
  .rw[if_pos hcm] at el
   obtain⟨env3,e3,el⟩:=bind_some el
   obtain⟨⟨fl4,env4,S4⟩,e4,el⟩:=bind_some el
   obtain⟨go,yl⟩:=ok.step i ds[i] μ2 H2 σ2 env2 S2 (U0h hlt) x2 R2 hcm
   refine .inr ⟨go,fun σ5 H5=>∃μ5 env5 S5,Ext μ1 H1 μ5 H5/\Rep Γ μ5 σ5 H5 env5 S5/\loop w gg.sem f (ds.drop (i+1)) env5 S5=some (fl,env',S'),fun σ5 H5 ⟨μ5,env5,S5,x5,R5,e5⟩=>⟨ds.length-(i+1),by omega,μ5,env5,S5,rfl,hlt,x5,R5,e5⟩,fun x H3 y=>?_⟩
   obtain⟨sm,rx⟩:=yl x H3 y
   obtain⟨R3,x3⟩:=R2.grow sm
   refine gg.run X.K R3 rx e3 fun σ3 R3'=>?_
   refine⟨Γ,μ2,env3,S2,fl4,env4,S4,hK,R3',e4,fun μ4 σ4 H4 x4 R4=>?_⟩
   have x14:=x2.trans (x3.trans x4)
   dsimp only at el
   cases fl4 with
   |nx=>exact⟨μ4,env4,S4,x14,R4,el⟩
   |cnt=>exact⟨μ4,env4,S4,x14,R4,el⟩
   |brk=>cases el;exact q μ4 σ4 H4 (x1.trans x14) R4
   |ret d=>cases el;exact q μ4 σ4 H4 (x1.trans x14) R4
  .rw[if_neg hcm] at el;cases el
 .have hi':i=ds.length:=by omega
  subst hi'
  rw[List.drop_length] at el
  unfold loop at el
  by_cases hcm:calm w S2
  .rw[if_pos hcm] at el
   cases el
   exact .inl ⟨ok.stop μ2 H2 σ2 _ _ x2 R2 hcm,q μ2 σ2 H2 (x1.trans x2) R2⟩
  .rw[if_neg hcm] at el;cases el⟩
end
end VS
end
section
namespace VS
open PySem PySem.Spec L2
theorem Rep.cap{Γ:Fr}{μ:Mu}{σ:St}{H:Hp}{env:Env}{S:Store}(R:Rep Γ μ σ H env S)(k:Nat)(caps:List Nat):Rep Γ μ (Io k caps σ) H (JB k caps env) S:=by
 refine⟨fun i d h=>?_,?_,R.sto,R.liv,R.inj,R.slen,R.ent,R.new⟩
 .unfold JB at h
  by_cases hi:i<k
  .rw[U1d (by simpa using hi),U30,if_pos hi] at h
   cases h
  .rw[U2a (by simpa using hi),U1e,U04] at h
   cases e:caps[i-k]? with
   |none=>rw[e] at h;cases h
   |some a =>
    rw[e] at h
    have h':(env[a]?).join=some d:=U05 h
    have h2:env[a]?=some (some d):=by
     cases q:env[a]? with
     |none=>rw[q] at h';cases h'
     |some o=>rw[q] at h';exact congrArg some h'
    obtain⟨v,h3,h4⟩:=R.vals a d h2
    refine⟨v,?_,h4⟩
    unfold Io
    rw[U2a (by simpa using hi),U1e,U04,e]
    show some (σ[a]?).join=some (some v)
    rw[h3];rfl
 .unfold Io JB
  rw[U0q,U0q,U0l,U0l,U1e,U1e]
section
variable{X:Cx}
theorem YH{K:U0a}{k:Nat}{caps:List Nat}{it:Jw}{p:Pat}{t:El}{f:Aw}{σ:St}{H:Hp}{Q:VK} (h:∃Γ μ env S ys S',Γ.K=K/\Rep Γ μ σ H env S/\Ea k caps it p.sem t f env S=some (ys,S') /\
  ∀xs μ' H',Ext μ H μ' H'->Rep Γ μ' σ H' env S'->VRs Γ μ' H' xs ys->∀q,H' q=none->Q (.ref q) (upd H' q (.lst xs))):Z5 k caps (wpI K it) (p.raw K) (wpT K t) (wpE K f) σ H Q:=by
 obtain⟨Γ,μ,env,S,ys,S',hK,R,e,q⟩:=h
 obtain⟨⟨⟨ds,w⟩,S1⟩,e1,e⟩:=bind_some e
 refine⟨Γ,μ,env,S,ds,w,S1,hK,R,e1,fun J μ1 H1 x1 R1 ok=>?_⟩
 refine⟨fun i m zs H2=>∃μ2 S2 dzs,m=ds.length-i/\i<=ds.length/\Ext μ1 H1 μ2 H2/\Rep Γ μ2 σ H2 env S2/\VRs Γ μ2 H2 zs dzs/\FQ w (JB k caps env) p.sem t f (ds.drop i) dzs S2=some (ys,S'),
  ⟨ds.length,μ1,S1,[],rfl,U3h _,Ext.refl _ _,R1,.nil,by rw[U7k];exact e⟩,?_⟩
 rintro i m zs H2 ⟨μ2,S2,dzs,rfl,hi,x2,R2,rz,el⟩
 by_cases hlt:i<ds.length
 .rw[U29 hlt] at el
  unfold FQ at el
  by_cases hcm:calm w S2/\dzs.length<=1000000
  .rw[if_pos hcm] at el
   obtain⟨env3,e3,el⟩:=bind_some el
   obtain⟨⟨b,S4⟩,e4,el⟩:=bind_some el
   have R2c:=R2.cap k caps
   obtain⟨go,yl⟩:=ok.step i ds[i] μ2 H2 _ _ S2 (U0h hlt) x2 R2c hcm.1
   refine .inr ⟨go,by rw[rz.length];exact big hcm.2,fun x H3 y=>?_⟩
   obtain⟨sm,rx⟩:=yl x H3 y
   obtain⟨R3,x3⟩:=R2c.grow sm
   obtain⟨R3o,_⟩:=R2.grow sm
   refine p.run K R3 rx e3 fun σ3 R3'=>?_
   refine⟨Γ,μ2,env3,S2,b,S4,hK,R3',e4,fun μ4 H4 x4 R4=>?_⟩
   dsimp only at el
   by_cases hb:b=true
   .rw[if_pos hb] at el ⊢
    obtain⟨⟨d5,S5⟩,e5,el⟩:=bind_some el
    refine⟨Γ,μ4,env3,S4,d5,S5,hK,R4,e5,fun v μ5 H5 x5 R5 r5=>?_⟩
    exact⟨ds.length-(i+1),by omega,μ5,S5,dzs++[d5],rfl,hlt,x2.trans (x3.trans (x4.trans x5)),R3o.back (x4.trans x5) R5,((rz.ext (x3.trans (x4.trans x5)))).append (.cons r5 .nil),el⟩
   .rw[if_neg hb] at el ⊢
    exact⟨ds.length-(i+1),by omega,μ4,S4,dzs,rfl,hlt,x2.trans (x3.trans x4),R3o.back x4 R4,rz.ext (x3.trans x4),el⟩
  .rw[if_neg hcm] at el;cases el
 .have hi':i=ds.length:=by omega
  subst hi'
  rw[List.drop_length] at el
  unfold FQ at el
  by_cases hcm:calm w S2/\dzs.length<=1000000
  .rw[if_pos hcm] at el
   cases el
   exact .inl ⟨ok.stop μ2 H2 σ env _ x2 R2 hcm.1,fun p hp=>q zs μ2 H2 (x1.trans x2) R2 rz p hp⟩
  .rw[if_neg hcm] at el;cases el
structure JC(X:Cx)(N2:List Str)(scope:Scope)(tg:Expr)(ifs:List Expr)(elt:Expr)(p:Pat)(t:El)(f:Aw):Prop where
 all:∀(cl:List (Str×Addr))(C:Addr)(s:Shared)(H:Hp)(ex:List Addr),JG (Df X N2 scope cl C s H ex) tg p/\JTs (Df X N2 scope cl C s H ex) ifs t/\JE (Df X N2 scope cl C s H ex) elt f
theorem Gw{elt tg iter:Expr}{ifs:List Expr}{scope:Scope}{pos:Pos}{N2:List Str}{k:Nat}{caps:List Nat}{it:Jw}{p:Pat}{t:El}{f:Aw}
  (hc:X.calm=true) (hS:Ez X.env.scope X.N N2 k caps scope) (hlow:p.low k=true) (hi:JI X tg iter it) (hb:JC X N2 scope tg ifs elt p t f)
  (hs:∀x,foldedSetIterable iter X.env x=pure x:=by intro _;rfl):JE X (.ListComp elt [⟨tg,iter,ifs,0⟩] scope pos) (Cg (Ea k caps it p.sem t f)) :=
 ⟨PE.imp (lB hc hS (p.ZC X.K hlow) hi.pi (fun cl C s H ex=>let ⟨a,b,c⟩:=hb.all cl C s H ex;⟨a.pg,b.pt,c.pe⟩) hs) fun σ H Q h=>by
  obtain⟨Γ,μ,env,S,d,S',hK,R,e,q⟩:=h
  obtain⟨⟨ys,S1⟩,e1,e⟩:=bind_some e
  cases e
  refine YH ⟨Γ,μ,env,S,ys,S1,hK,R,e1,fun xs μ1 H1 x1 R1 r1 z hz=>?_⟩
  obtain⟨R2,x2⟩:=R1.grow (Cz hz (.lst xs))
  exact q _ μ1 _ (x1.trans x2) R2 (.lst (R1.ok hz true) (R1.dead hz) Bo (r1.ext x2))⟩
theorem jq{Γ:Fr}{μ:Mu}{H:Hp}{p:Addr}{n:Nat}(h:n=μ.length)(hl:IsL H p:=by exact⟨_,Bo⟩):VR Γ (μ++[some p]) H (.ref p) (.ref n):=by
 subst h
 refine .ref (by rw[U0q];simp) fun a h=>?_
 simp at h
 rw[←h]
 exact⟨rfl,hl⟩
theorem Qm{elt tg iter:Expr}{ifs:List Expr}{scope:Scope}{pos py spos:Pos}{N2:List Str}{k i:Nat}{y:Str}{caps:List Nat}{it:Jw}{p:Pat}{t:El}{f:Aw}
  (hc:X.calm=true) (hN:X.N.Nodup) (hS:Ez X.env.scope X.N N2 k caps scope) (hlow:p.low k=true) (hi:JI X tg iter it) (hb:JC X N2 scope tg ifs elt p t f) (hi':X.N[i]?=some y:=by rfl)
  (hx:X.env.scope.names.lookup y=some .local:=by rfl) (hsw:swapsWith (.ListComp elt [⟨tg,iter,ifs,0⟩] scope pos) (some (.Name y py)) spos.line X.env=pure true:=by rfl)
  (hs:∀x,foldedSetIterable iter X.env x=pure x:=by intro _;rfl):JS X (.Assign [.Name y py] (.ListComp elt [⟨tg,iter,ifs,0⟩] scope pos) spos) (Bu i (Cg (Ea k caps it p.sem t f))) :=
 ⟨PS.imp (kI hc hN hi' hS (p.ZC X.K hlow) hi.pi (fun cl C s H ex=>let ⟨a,b,c⟩:=hb.all cl C s H ex;⟨a.pg,b.pt,c.pe⟩) hx hsw hs) fun E σ H h=>by
  obtain⟨Γ,μ,env,S,fl,env',S',hK,R,e,q⟩:=h
  obtain⟨⟨d,S1⟩,e1,e⟩:=bind_some e
  cases e
  obtain⟨⟨ys,S2⟩,e2,e1⟩:=bind_some e1
  cases e1
  refine YH ⟨Γ,μ,env,S,ys,_,hK,R,e2,fun xs μ1 H1 x1 R1 r1 z hz=>?_⟩
  obtain⟨R2,x2⟩:=R1.grow (Cz hz (.lst xs))
  exact q μ1 _ _ (x1.trans x2) (R2.cu i (.lst (R1.ok hz true) (R1.dead hz) Bo (r1.ext x2)))⟩
end
def listOf(S:Store):D->Option (List D)
 |.lst _ ds=>some ds
 |.ref i=>(S[i]?).join
 |_=>none
def Bx(S:Store):D->Option (List D)
 |.tup ds=>some ds
 |.scr ns=>some (ns.map .int)
 |d=>listOf S d
def idOf(ds:List D):D->List (Nat×List D)
 |.ref i=>[(i,ds)]
 |_=>[]
section
variable{Γ:Fr}{μ:Mu}{σ:St}{H:Hp}{env:Env}{S:Store}{v:V}{d:D}{ds:List D}
theorem join_some{α:Type}{a:Option (Option α)}{b:α}(h:a.join=some b):a=some (some b):=by
 cases a with
 |none=>cases h
 |some o=>exact congrArg some h
theorem VR.list(R:Rep Γ μ σ H env S)(r:VR Γ μ H v d)(h:listOf S d=some ds):∃a xs,v=.ref a/\H a=some (.lst xs)/\VRs Γ μ H xs ds:=by
 cases r with
 |lst o n hb rs=>cases h;exact⟨_,_,rfl,hb,rs⟩
 |@ref i v hi f =>
  obtain⟨a,h1,hc⟩:=R.sto i ds (join_some h)
  obtain⟨f1,f2⟩:=f a h1
  obtain⟨xs,h2,h3⟩:=hc.list f2
  exact⟨a,xs,f1,h2,h3⟩
 |_=>cases h
theorem VR.seq(hK:Γ.K=K)(R:Rep Γ μ σ H env S)(r:VR Γ μ H v d)(h:Bx S d=some ds):∃a xs,v=.ref a/\(SqL K H a xs∨SqT K H a xs)/\VRs Γ μ H xs ds:=by
 subst hK
 cases d with
 |tup es=>cases r with|tup hb rs=>cases h;exact⟨_,_,rfl,.inr (SqT.of hb),rs⟩
 |scr ns =>
  cases h
  cases r with
  |scrK hk=>exact⟨_,_,rfl,.inl (hk H),VRs.ints ns⟩
  |scrR n hb=>exact⟨_,_,rfl,.inl (.inl (.inr ⟨_,hb⟩)),VRs.ints ns⟩
 |lst m es=>obtain⟨a,xs,e1,e2,e3⟩:=VR.list R r h;exact⟨a,xs,e1,.inl (SqL.of e2),e3⟩
 |ref i=>obtain⟨a,xs,e1,e2,e3⟩:=VR.list R r h;exact⟨a,xs,e1,.inl (SqL.of e2),e3⟩
 |_=>cases h
end
def Ec(a:Aw):Jw:=fun env S=>(a env S).bind fun p=>(Bx p.2 p.1).map fun ds=>((ds,idOf ds p.1),p.2)
section
variable{X:Cx}{tg:Expr}
def u5(K:U0a)(tl:TE):TI:=fun σ H R=>tl σ H fun x H1=>∃a,x=.ref a/\(((∃xs,SqL K H1 a xs)/\R (Itl K a) H1)∨((∃xs,SqT K H1 a xs)/\R (Itt K a) H1))
theorem qP{l:Expr}{tl:TE}(hl:PE X l tl):PI X tg l (u5 X.K tl):=by
 intro pins s σ H R I h
 refine thn (hl pins s σ H _ I h) fun v s1 ⟨x,H1,I1,r1,q1⟩=>?_
 obtain⟨a,e,⟨⟨xs,hq⟩,q⟩|⟨⟨xs,hq⟩,q⟩⟩:=q1
 .subst e
  cases r1
  obtain⟨its,rv,p,hz⟩:=I1.list hq
  refine U48 p.isList ?_
  refine⟨s1.heap.objs.size,[s1.heap.objs.size],_,_,H1,rfl,I1.kept (t':=s1.toks) fun b o e=>U0b _ e,aX a _,⟨_,U0n _ rfl,rfl,rfl⟩,fun b hb=>?_,q⟩
  have e:b=s1.heap.objs.size:=by simpa using hb
  subst e
  exact I1.dG (U0s _) (I1.hok.fresh (U0s _))
 .subst e
  cases r1
  obtain⟨its,rv,p,hz⟩:=I1.tuple hq
  refine U6m (show s1.heap.IsTuple a its.toArray from p) ?_
  refine⟨s1.heap.objs.size,[s1.heap.objs.size],_,_,H1,rfl,I1.kept (t':=s1.toks) fun b o e=>U0b _ e,ZK a _,⟨_,U0n _ rfl,rfl,rfl⟩,fun b hb=>?_,q⟩
  have e:b=s1.heap.objs.size:=by simpa using hb
  subst e
  exact I1.dG (U0s _) (I1.hok.fresh (U0s _))
theorem ao{d:D}{ds:List D}{S S':Store}(h:Bx S d=some ds)(c:calm (idOf ds d) S'):Bx S' d=some ds:=by
 cases d with
 |ref i =>
  have c':S'[i]?=some (some ds):=c (i,ds) (U0z.mpr rfl)
  show(S'[i]?).join=some ds
  rw[c'];rfl
 |_=>exact h
theorem VR.Ys{K:U0a}{Γ:Fr}{μ:Mu}{σ:St}{H:Hp}{env:Env}{S:Store}{v:V}{d:D}{ds:List D}(hK:Γ.K=K)(R:Rep Γ μ σ H env S)(r:VR Γ μ H v d)(h:Bx S d=some ds):(∃es,d=.tup es)∨∃a xs,v=.ref a/\SqL K H a xs/\VRs Γ μ H xs ds:=by
 subst hK
 cases d with
 |tup es=>exact .inl ⟨es,rfl⟩
 |scr ns =>
  cases h
  cases r with
  |scrK hk=>exact .inr ⟨_,_,rfl,hk H,VRs.ints ns⟩
  |scrR n hb=>exact .inr ⟨_,_,rfl,.inl (.inr ⟨_,hb⟩),VRs.ints ns⟩
 |lst m es=>obtain⟨a,xs,e1,e2,e3⟩:=VR.list R r h;exact .inr ⟨a,xs,e1,SqL.of e2,e3⟩
 |ref i=>obtain⟨a,xs,e1,e2,e3⟩:=VR.list R r h;exact .inr ⟨a,xs,e1,SqL.of e2,e3⟩
 |_=>cases h
theorem mK{Γ:Fr}{μ:Mu}{H:Hp}{a:Addr}{ds:List D}{K:U0a}{w:List (Nat×List D)}(hr:∀μ' H' σ' env' S',Ext μ H μ' H'->Rep Γ μ' σ' H' env' S'->calm w S'->∃xs,SqL K H' a xs/\VRs Γ μ' H' xs ds):Z1 Γ μ H (Itl K a) ds w:=by
 refine⟨fun i d μ' H' σ' env' S' hi x R c=>?_,fun μ' H' σ' env' S' x R c=>?_⟩
 .obtain⟨xs,h1,h2⟩:=hr μ' H' σ' env' S' x R c
  obtain⟨y,e1,e2⟩:=h2.get hi
  refine⟨⟨xs,y,h1,e1⟩,fun z H'' yl=>?_⟩
  obtain⟨e,f⟩:=yl
  subst e
  have:=f xs h1
  rw[e1] at this;cases this
  exact⟨Same.refl _,e2⟩
 .obtain⟨xs,h1,h2⟩:=hr μ' H' σ' env' S' x R c
  exact⟨xs,h1,by rw[h2.length];exact U0s _⟩
theorem aK{Γ:Fr}{μ:Mu}{H:Hp}{a:Addr}{ds:List D}{K:U0a}{w:List (Nat×List D)}(hr:∀μ' H' σ' env' S',Ext μ H μ' H'->Rep Γ μ' σ' H' env' S'->calm w S'->∃xs,SqT K H' a xs/\VRs Γ μ' H' xs ds):Z1 Γ μ H (Itt K a) ds w:=by
 refine⟨fun i d μ' H' σ' env' S' hi x R c=>?_,fun μ' H' σ' env' S' x R c=>?_⟩
 .obtain⟨xs,h1,h2⟩:=hr μ' H' σ' env' S' x R c
  obtain⟨y,e1,e2⟩:=h2.get hi
  refine⟨⟨xs,y,h1,e1⟩,fun z H'' yl=>?_⟩
  obtain⟨e,f⟩:=yl
  subst e
  have:=f xs h1
  rw[e1] at this;cases this
  exact⟨Same.refl _,e2⟩
 .obtain⟨xs,h1,h2⟩:=hr μ' H' σ' env' S' x R c
  exact⟨xs,h1,by rw[h2.length];exact U0s _⟩
theorem G7{l:Expr}{f:Aw}(hl:JE X l f):JI X tg l (Ec f):=⟨PI.imp (qP hl.pe) fun σ H Q h=>by
 obtain⟨Γ,μ,env,S,ds,w,S',hK,R,e,q⟩:=h
 obtain⟨⟨d,S1⟩,e1,e⟩:=bind_some e
 obtain⟨ds',e2,e⟩:=map_some e
 cases e
 refine⟨Γ,μ,env,S,d,S1,hK,R,e1,fun v μ1 H1 x1 R1 r1=>?_⟩
 rcases VR.Ys hK R1 r1 e2 with ⟨es,rfl⟩|⟨a,xs,rfl,hq,rs⟩
 .cases r1 with
  |@tup a xs _ hb rs =>
   refine⟨a,rfl,.inr ⟨⟨xs,SqT.of hb⟩,q _ μ1 H1 x1 R1 (aK fun μ' H' σ' env' S' x' R' c=>?_)⟩⟩
   have e2':es=ds:=U05 e2
   subst e2'
   exact⟨xs,SqT.of (x'.tups _ _ hb),rs.ext x'⟩
 .by_cases ht:∃es,d=.tup es
  .obtain⟨es,rfl⟩:=ht
   cases r1 with
   |@tup b ys _ hb rs' =>
    refine⟨a,rfl,.inr ⟨⟨ys,SqT.of hb⟩,q _ μ1 H1 x1 R1 (aK fun μ' H' σ' env' S' x' R' c=>?_)⟩⟩
    have e2':es=ds:=U05 e2
    subst e2'
    exact⟨ys,SqT.of (x'.tups _ _ hb),rs'.ext x'⟩
  .refine⟨a,rfl,.inl ⟨⟨xs,hq⟩,q _ μ1 H1 x1 R1 (mK fun μ' H' σ' env' S' x' R' c=>?_)⟩⟩
   rcases VR.Ys hK R' (r1.ext x') (ao e2 c) with z|⟨b,ys,e,h1,h2⟩
   .exact absurd z ht
   .cases e
    exact⟨ys,h1,h2⟩⟩
def upD(lo:Int)(n:Nat):List D:=(U0j n).map fun(i:Nat)=>.int (lo+i)
theorem Wg{Γ:Fr}{μ:Mu}{H:Hp}(lo:Int)(n:Nat):Z1 Γ μ H (Itr lo n) (upD lo n) []:=by
 have len:(upD lo n).length=n:=by unfold upD;rw[U0l,U49]
 refine⟨fun i d μ' H' σ' env' S' hi x R c=>?_,fun μ' H' σ' env' S' x R c=>?_⟩
 .have hi':i<n:=by rw[←len];exact(U0p.mp hi).1
  refine⟨hi',fun y H'' yl=>?_⟩
  obtain⟨e1,e2⟩:=yl
  subst e1 e2
  unfold upD at hi
  rw[U04,List.getElem?_range hi'] at hi
  cases hi
  exact⟨Same.refl _,.int _⟩
 .show n<=(upD lo n).length
  rw[len];exact U0s _
def r62(j:Int):Prop:=-(2^62)<=j/\j<2^62
instance(j:Int):Decidable (r62 j):=by unfold r62;infer_instance
def Hx(a:Bg):Jw:=fun env S=>(a env S).bind fun p=>match p.1 with|[.int j]=>if r62 j then some ((upD 0 j.toNat,[]),p.2) else none|_=>none
def Gk(a:Bg):Jw:=fun env S=>(a env S).bind fun p=>match p.1 with|[.int i,.int j]=>if r62 i/\r62 j then some ((upD i (j-i).toNat,[]),p.2) else none|_=>none
theorem VRs.one{Γ:Fr}{μ:Mu}{H:Hp}{vs:List V}{d:D}(h:VRs Γ μ H vs [d]):∃v,vs=[v]/\VR Γ μ H v d:=by
 cases h with|cons r t=>cases t;exact⟨_,rfl,r⟩
theorem VRs.two{Γ:Fr}{μ:Mu}{H:Hp}{vs:List V}{d e:D}(h:VRs Γ μ H vs [d,e]):∃v u,vs=[v,u]/\VR Γ μ H v d/\VR Γ μ H u e:=by
 cases h with|cons r t=>cases t with|cons r' t=>cases t;exact⟨_,_,rfl,r,r'⟩
theorem Pj{a:Expr}{f:Bg}{p pos:Pos}(hg:Gl X "range")(hm:X.mg "range"=none)(ha:JA X [a] f)(hs:starEach [a] X.env=[(false,eval a X.env)]:=by rfl):JI X tg (.Call (.Name "range" p) [a] [] pos) (Hx f) :=
 ⟨PI.imp (bM hg hm ha.pa hs) fun σ H Q h=>by
  obtain⟨Γ,μ,env,S,ds,w,S',hK,R,e,q⟩:=h
  obtain⟨⟨d,S1⟩,e1,e⟩:=bind_some e
  refine⟨Γ,μ,env,S,d,S1,hK,R,e1,fun v μ1 H1 x1 R1 r1=>?_⟩
  dsimp only at e
  split at e
  .rename_i j
   by_cases hj:r62 j
   .rw[if_pos hj] at e
    cases e
    obtain⟨v,rfl,r⟩:=r1.one
    cases r
    exact⟨j,rfl,hj.1,hj.2,q _ μ1 H1 x1 R1 (Wg 0 _)⟩
   .rw[if_neg hj] at e;cases e
  .cases e⟩
theorem Mi{a b:Expr}{f:Bg}{p pos:Pos}(hg:Gl X "range")(hm:X.mg "range"=none)(ha:JA X [a,b] f)(hs:starEach [a,b] X.env=[(false,eval a X.env),(false,eval b X.env)]:=by rfl)(hs2:starEach [b] X.env=[(false,eval b X.env)]:=by rfl) :
  JI X tg (.Call (.Name "range" p) [a,b] [] pos) (Gk f) :=
 ⟨PI.imp (bL hg hm ha.pa hs hs2) fun σ H Q h=>by
  obtain⟨Γ,μ,env,S,ds,w,S',hK,R,e,q⟩:=h
  obtain⟨⟨d,S1⟩,e1,e⟩:=bind_some e
  refine⟨Γ,μ,env,S,d,S1,hK,R,e1,fun v μ1 H1 x1 R1 r1=>?_⟩
  dsimp only at e
  split at e
  .rename_i i j
   by_cases hj:r62 i/\r62 j
   .rw[if_pos hj] at e
    cases e
    obtain⟨v,u,rfl,r,r'⟩:=r1.two
    cases r
    cases r'
    exact⟨i,j,rfl,⟨hj.1.1,hj.1.2,hj.2.1,hj.2.2⟩,q _ μ1 H1 x1 R1 (Wg i _)⟩
   .rw[if_neg hj] at e;cases e
  .cases e⟩
end
end VS
end
section
namespace VS
open PySem PySem.Spec L2
section
variable{X:Cx}{tg:Expr}
def GC:List D->List D->List D
 |x::xs,y::ys=>.tup [x,y]::GC xs ys
 |_,_=>[]
def wz(a:Bg):Jw:=fun env S=>(a env S).bind fun p=>match p.1 with
 |[.tup xs,.tup ys]=>some ((GC xs ys,[]),p.2)
 |[x,.tup ys]=>(listOf p.2 x).bind fun xs=>some ((GC xs ys,idOf xs x),p.2)
 |[x,y]=>(listOf p.2 x).bind fun xs=>(listOf p.2 y).bind fun ys=>some ((GC xs ys,idOf xs x++idOf ys y),p.2)
 |_=>none
def Z0(K:U0a)(r:V->List V->Hp->VK->Prop)(g:Store->D->List D->Option (D×Store)):Prop:=∀(Γ:Fr)(μ:Mu)(σ:St)(H:Hp)(env:Env)(S:Store)(x:V)(xs:List V)(dx:D)(ds:List D)(d:D)(S':Store),Γ.K=K->Rep Γ μ σ H env S->VR Γ μ H x dx->VRs Γ μ H xs ds->g S dx ds=some (d,S') ->
 ∀Q:VK,(∀v μ' H',Ext μ H μ' H'->Rep Γ μ' σ H' env S'->VR Γ μ' H' v d->Q v H')->r x xs H Q
def Hu(g:Store->D->List D->Option (D×Store))(o:Aw)(a:Bg):Aw:=fun env S=>(o env S).bind fun p=>if (listOf p.2 p.1).isSome then (a env p.2).bind fun q=>g q.2 p.1 q.1 else none
theorem jT{K:U0a}{r:V->List V->Hp->VK->Prop}{g:Store->D->List D->Option (D×Store)}{o:Aw}{a:Bg}(hs:Z0 K r g){σ:St}{H:Hp}{Q:VK}(h:wpE K (Hu g o a) σ H Q):tBM K "list" r (wpE K o) (wpA K a) σ H Q:=by
 obtain⟨Γ,μ,env,S,d,S',hK,R,e,q⟩:=h
 obtain⟨⟨x,S1⟩,e1,e⟩:=bind_some e
 refine⟨Γ,μ,env,S,x,S1,hK,R,e1,fun v1 μ1 H1 x1 R1 r1=>?_⟩
 dsimp only at e
 by_cases hl:(listOf S1 x).isSome=true
 .rw[if_pos hl] at e
  obtain⟨⟨ds,S2⟩,e2,e⟩:=bind_some e
  obtain⟨xs,hx⟩:=U5o.mp hl
  obtain⟨b,us,rfl,hb,rb⟩:=VR.list R1 r1 hx
  refine⟨.inl ⟨rfl,us,SqL.of hb⟩,Γ,μ1,env,S1,ds,S2,hK,R1,e2,fun vs μ2 H2 x2 R2 r2=>?_⟩
  exact hs Γ μ2 σ H2 env S2 _ vs x ds d S' hK R2 (r1.ext x2) r2 e Q fun v μ' H' x' R' rv=>q v μ' H' (x1.trans (x2.trans x')) R' rv
 .rw[if_neg hl] at e;cases e
variable{o e:Expr}{es:List Expr}{fo:Aw}{fa:Bg}{name:Str}{apos cpos:Pos}{id:String}{r:V->List V->Hp->VK->Prop}{g:Store->D->List D->Option (D×Store)}
theorem Lf(pa:PlainAttrs "list")(slot:Slot "list" name id)(hty:typeOf (.builtin id)=pure (.type "method_descriptor"))(hm:MtR X id r)(hsm:Z0 X.K r g)(ho:JE X o fo)(ha:JA X (e::es) fa)
  (hbase:attributeBase o name X.env (eval o X.env)=eval o X.env:=by rfl)
  (hfew:((backTo cpos (starEach (e::es) X.env)).all (fun x=>!x.1)&&(backToKw cpos (keywordEach [] X.env)).all (fun x=>x.1.isSome)
   && decide ((e::es).length+([]:List Keyword).length+(if ([]:List Keyword).isEmpty then 0 else 1)<30))=true:=by rfl)
  (hline:(apos.endLine==cpos.line)=true:=by rfl) (hs:starEach (e::es) X.env=(false,eval e X.env)::starEach es X.env:=by rfl) (hplain:(backTo cpos (starEach es X.env)).any (·.1)=false:=by rfl) :
  JE X (.Call (.Attribute o name apos) (e::es) [] cpos) (Hu g fo fa) :=
 ⟨PE.imp (uU pa slot hty hm ho.pe ha.pa hbase hfew hline hs hplain) fun _ _ _ h=>jT hsm h⟩
theorem VR.d7{Γ:Fr}{μ:Mu}{σ:St}{H:Hp}{env:Env}{S:Store}{v:V}{i:Nat}{ds:List D}(R:Rep Γ μ σ H env S)(r:VR Γ μ H v (.ref i))(h:S[i]?=some (some ds)):∃a xs,v=.ref a/\μ[i]?=some (some a)/\H a=some (.lst xs)/\VRs Γ μ H xs ds:=by
 cases r with
 |ref hi f =>
  obtain⟨a,h1,hc⟩:=R.sto i ds h
  obtain⟨f1,f2⟩:=f a h1
  obtain⟨xs,h2,h3⟩:=hc.list f2
  exact⟨a,xs,f1,h1,h2,h3⟩
def GJ(S:Store):D->List D->Option (D×Store)
 |.ref i,[d]=>match S[i]? with
  |some (some ds)=>if ds.length<1000000 then some (.non,S.set i (some (ds++[d]))) else none
  |_=>none
 |_,_=>none
theorem KN{K:U0a}:Z0 K YX GJ:=by
 intro Γ μ σ H env S x xs dx ds d S' hK R rx rs e Q q
 unfold GJ at e
 split at e
 .rename_i i d1
  split at e
  .rename_i es he
   by_cases hl:es.length<1000000
   .rw[if_pos hl] at e
    cases e
    obtain⟨a,us,rfl,h1,h2,h3⟩:=VR.d7 R rx he
    obtain⟨y,rfl,ry⟩:=rs.one
    obtain⟨R2,x2⟩:=R.put h1 ⟨_,h2⟩ (h3.append (.cons ry .nil))
    exact⟨a,us,y,rfl,rfl,h2,by rw[h3.length];exact big (U2c hl),q _ μ _ x2 R2 .non⟩
   .rw[if_neg hl] at e;cases e
  .cases e
 .cases e
def wZ(S:Store):D->List D->Option (D×Store)
 |.ref i,[.int k]=>match S[i]? with
  |some (some ds)=>if -(2^63)<=k/\k<2^63 then (PySem.seqIndex? k ds.length).bind fun j=>(ds[j]?).bind fun d=>some (d,S.set i (some (ds.eraseIdx j))) else none
  |_=>none
 |_,_=>none
def Jd(v o i:Aw):BL:=fun env S=>(v env S).bind fun p=>(o env p.2).bind fun q=>(i env q.2).bind fun r=>match q.1,r.1 with
 |.ref j,.int k=>(match r.2[j]? with
  |some (some ds)=>(ixN ds.length k).bind fun n=>some (.nx,env,r.2.set j (some (ds.set n p.1)))
  |_=>none)
 |_,_=>none
theorem Ly{a i:Expr}{fv fi:Aw}{pos tpos:Pos}(he:JE X a fv)(ho:JE X o fo)(hi:JE X i fi)
  (ha:∀v,assign (.Subscript o i tpos) X.env v=(do
   let ov ←holding [v] (eval o X.env)
   let iv ←holding [v,ov] (eval i X.env)
   standAt tpos
   holding [v,ov,iv] (setItem ov iv v)
   release [v,ov,iv] []):=by intro _;rfl)
  (hs:swapsWithSole [.Subscript o i tpos] a pos.line X.env=pure false:=by rfl) (hw:swappedStores [.Subscript o i tpos] a X.env=pure none:=by rfl)
  (h1:(assignEach [.Subscript o i tpos] X.env).map (·.2)=[assign (.Subscript o i tpos) X.env]:=by rfl):JS X (.Assign [.Subscript o i tpos] a pos) (Jd fv fo fi) :=
 ⟨PS.imp (Zy he.pe (qR ho.pe hi.pe set_list ha) hs hw h1) fun E σ H h=>by
  obtain⟨Γ,μ,env,S,fl,env',S',hK,R,e,q⟩:=h
  obtain⟨⟨x,S1⟩,e1,e⟩:=bind_some e
  obtain⟨⟨y,S2⟩,e2,e⟩:=bind_some e
  obtain⟨⟨z,S3⟩,e3,e⟩:=bind_some e
  refine⟨Γ,μ,env,S,x,S1,hK,R,e1,fun v1 μ1 H1 x1 R1 r1=>?_⟩
  refine⟨Γ,μ1,env,S1,y,S2,hK,R1,e2,fun v2 μ2 H2 x2 R2 r2=>?_⟩
  refine⟨Γ,μ2,env,S2,z,S3,hK,R2,e3,fun v3 μ3 H3 x3 R3 r3=>?_⟩
  dsimp only at e
  split at e
  .rename_i j k
   split at e
   .rename_i ds hd
    obtain⟨n,e4,e⟩:=bind_some e
    cases e
    obtain⟨b,us,rfl,g1,g2,g3⟩:=VR.d7 R3 (r2.ext x3) hd
    cases r3
    have r1':=r1.ext (x2.trans x3)
    obtain⟨R4,x4⟩:=R3.put g1 ⟨_,g2⟩ (g3.set r1' n)
    exact⟨b,us,_,n,rfl,rfl,g2,by rw[g3.length];exact e4,q μ3 σ _ (x1.trans (x2.trans (x3.trans x4))) R4⟩
   .cases e
  .cases e⟩
end
end VS
end
section
namespace VS
open PySem PySem.Spec L2
mutual
def BW:D->Bool
 |.ref _=>false
 |.dref _=>false
 |.dcm _=>false
 |.tup ds=>Az ds
 |.lst _ ds=>Az ds
 |_=>true
def Az:List D->Bool
 |[]=>true
 |d::r=>BW d&&Az r
end
mutual
def CJ:D->Bool
 |.ref _=>false
 |.dref _=>false
 |.dcf _=>false
 |.dcm _=>false
 |.lst _ _=>false
 |.scr _=>false
 |.emp=>false
 |.tup ds=>Dm ds
 |_=>true
def Dm:List D->Bool
 |[]=>true
 |d::r=>CJ d&&Dm r
end
mutual
def newD:D->Bool
 |.ref _=>false
 |.dref _=>false
 |.dcf _=>false
 |.dcm _=>false
 |.lst m ds=>m&&newL ds
 |.scr _=>false
 |.emp=>false
 |.tup ds=>newL ds
 |_=>true
def newL:List D->Bool
 |[]=>true
 |d::r=>newD d&&newL r
end
mutual
def den(k:Nat)(S:Store):D->Option D
 |.tup ds=>(Cu k S ds).map .tup
 |.lst m ds=>(Cu k S ds).map (.lst m)
 |.ref i=>if i<k then none else match S[i]? with|some (some ds)=>if Az ds=true then some (.lst true ds) else none|_=>none
 |.non=>some .non
 |.bl b=>some (.bl b)
 |.int i=>some (.int i)
 |.str x=>some (.str x)
 |.ty n=>some (.ty n)
 |.scr ns=>some (.scr ns)
 |.emp=>some .emp
 |.dref i=>if i<k then none else match S[i]? with|some (some [.dcm kvs])=>some (.dcf kvs)|_=>none
 |.dcf kvs=>some (.dcf kvs)
 |.dcm _=>none
def Cu(k:Nat)(S:Store):List D->Option (List D)
 |[]=>some []
 |d::r=>(den k S d).bind fun x=>(Cu k S r).bind fun xs=>some (x::xs)
end
mutual
def age:D->D
 |.tup ds=>.tup (Bk ds)
 |.lst _ ds=>.lst false (Bk ds)
 |.ref i=>.ref i
 |.non=>.non
 |.bl b=>.bl b
 |.int i=>.int i
 |.str x=>.str x
 |.ty n=>.ty n
 |.scr ns=>.scr ns
 |.emp=>.emp
 |.dref i=>.dref i
 |.dcf kvs=>.dcf kvs
 |.dcm kvs=>.dcm kvs
def Bk:List D->List D
 |[]=>[]
 |d::r=>age d::Bk r
end
mutual
theorem Hq:∀{d:D},CJ d=true->BW d=true
 |.ref _,h=>by simp[CJ] at h
 |.lst _ _,h=>by simp[CJ] at h
 |.scr _,h=>by simp[CJ] at h
 |.emp,h=>by simp[CJ] at h
 |.dref _,h=>by simp[CJ] at h
 |.dcf _,h=>by simp[CJ] at h
 |.dcm _,h=>by simp[CJ] at h
 |.tup ds,h=>by rw[CJ] at h;rw[BW];exact CG h
 |.non,_=>rfl
 |.bl _,_=>rfl
 |.int _,_=>rfl
 |.str _,_=>rfl
 |.ty _,_=>rfl
theorem CG:∀{ds:List D},Dm ds=true->Az ds=true
 |[],_=>rfl
 |d::r,h=>by
  rw[Dm,U00] at h
  rw[Az,Hq h.1,CG h.2];rfl
end
mutual
theorem Nz:∀{d:D},CJ d=true->newD d=true
 |.ref _,h=>by simp[CJ] at h
 |.lst _ _,h=>by simp[CJ] at h
 |.scr _,h=>by simp[CJ] at h
 |.emp,h=>by simp[CJ] at h
 |.dref _,h=>by simp[CJ] at h
 |.dcf _,h=>by simp[CJ] at h
 |.dcm _,h=>by simp[CJ] at h
 |.tup ds,h=>by rw[CJ] at h;rw[newD];exact Mj h
 |.non,_=>rfl
 |.bl _,_=>rfl
 |.int _,_=>rfl
 |.str _,_=>rfl
 |.ty _,_=>rfl
theorem Mj:∀{ds:List D},Dm ds=true->newL ds=true
 |[],_=>rfl
 |d::r,h=>by
  rw[Dm,U00] at h
  rw[newL,Nz h.1,Mj h.2];rfl
end
mutual
theorem Jz(k:Nat)(S:Store):∀{d:D},BW d=true->den k S d=some d
 |.ref _,h=>by simp[BW] at h
 |.lst m ds,h=>by rw[BW] at h;rw[den,Ck k S h];rfl
 |.tup ds,h=>by rw[BW] at h;rw[den,Ck k S h];rfl
 |.non,_=>by rw[den]
 |.bl _,_=>by rw[den]
 |.int _,_=>by rw[den]
 |.str _,_=>by rw[den]
 |.ty _,_=>by rw[den]
 |.scr _,_=>by rw[den]
 |.emp,_=>by rw[den]
 |.dref _,h=>by simp[BW] at h
 |.dcf _,_=>by rw[den]
 |.dcm _,h=>by simp[BW] at h
theorem Ck(k:Nat)(S:Store):∀{ds:List D},Az ds=true->Cu k S ds=some ds
 |[],_=>by rw[Cu]
 |d::r,h=>by
  rw[Az,U00] at h
  rw[Cu,Jz k S h.1,Ck k S h.2];rfl
end
mutual
theorem O1:∀{d:D},CJ d=true->age d=d
 |.ref _,h=>by simp[CJ] at h
 |.lst _ _,h=>by simp[CJ] at h
 |.scr _,h=>by simp[CJ] at h
 |.emp,h=>by simp[CJ] at h
 |.dref _,h=>by simp[CJ] at h
 |.dcf _,h=>by simp[CJ] at h
 |.dcm _,h=>by simp[CJ] at h
 |.tup ds,h=>by rw[CJ] at h;rw[age,Gs h]
 |.non,_=>by rw[age]
 |.bl _,_=>by rw[age]
 |.int _,_=>by rw[age]
 |.str _,_=>by rw[age]
 |.ty _,_=>by rw[age]
theorem Gs:∀{ds:List D},Dm ds=true->Bk ds=ds
 |[],_=>by rw[Bk]
 |d::r,h=>by
  rw[Dm,U00] at h
  rw[Bk,O1 h.1,Gs h.2]
end
section
variable{Γ Γ':Fr}{μ μ':Mu}{H:Hp}
mutual
theorem VR.age(hK:Γ'.K=Γ.K)(hN:∀a,¬CW μ a->Γ.N a∨Γ.H0 a=none->Γ'.N a)(hl:∀a o,H a=some o->¬CW μ a->¬CW μ' a):∀{v:V} {d:D},BW d=true->VR Γ μ H v d->VR Γ' μ' H v (VS.age d)
 |_,_,_,.non=>by rw[VS.age];exact .non
 |_,_,_,.bl b=>by rw[VS.age];exact .bl b
 |_,_,_,.int i=>by rw[VS.age];exact .int i
 |_,_,_,.str x=>by rw[VS.age];exact .str x
 |_,_,_,.ty n=>by rw[VS.age];exact .ty n
 |_,_,h,.tup hb t=>by rw[BW] at h;rw[VS.age];exact .tup hb (VRs.age hK hN hl h t)
 |_,_,h,.lst o n hb t=>by rw[BW] at h;rw[VS.age];exact .lst ⟨fun z=>(by cases z),.inl (hN _ n o.2)⟩ (hl _ _ hb n) hb (VRs.age hK hN hl h t)
 |_,_,h,.ref _ _=>by simp[BW] at h
 |_,_,_,.scrK k=>by rw[VS.age];exact .scrK (by rw[hK];exact k)
 |_,_,_,.scrR n hb=>by rw[VS.age];exact .scrR (hl _ _ hb n) hb
 |_,_,_,.emp o n hb=>by rw[VS.age];exact .emp ⟨fun z=>(by cases z),.inl (hN _ n o.2)⟩ (hl _ _ hb n) hb
 |_,_,h,.dref _ _=>by simp[BW] at h
 |_,_,_,.dcf o n hb=>by rw[VS.age];exact .dcf ⟨fun z=>(by cases z),.inl (hN _ n o.2)⟩ (hl _ _ hb n) hb
theorem VRs.age(hK:Γ'.K=Γ.K)(hN:∀a,¬CW μ a->Γ.N a∨Γ.H0 a=none->Γ'.N a)(hl:∀a o,H a=some o->¬CW μ a->¬CW μ' a):∀{v:List V} {d:List D},Az d=true->VRs Γ μ H v d->VRs Γ' μ' H v (Bk d)
 |_,_,_,.nil=>by rw[Bk];exact .nil
 |_,_,h,.cons r t=>by
  rw[Az,U00] at h
  rw[Bk];exact .cons (VR.age hK hN hl h.1 r) (VRs.age hK hN hl h.2 t)
end
mutual
theorem VR.pure(hK:Γ'.K=Γ.K)(hN:∀m a xs,¬CW μ a->Γ.Ok m a->H a=some xs->Γ'.Ok m a/\¬CW μ' a)(ho:∀a o,H a=some o->¬CW μ a->(∀xs,o≠.lst xs)->(∀xs,o≠.dK xs)->¬CW μ' a):∀{v:V} {d:D},BW d=true->VR Γ μ H v d->VR Γ' μ' H v d
 |_,_,_,.non=>.non
 |_,_,_,.bl b=>.bl b
 |_,_,_,.int i=>.int i
 |_,_,_,.str x=>.str x
 |_,_,_,.ty n=>.ty n
 |_,_,h,.tup hb t=>by rw[BW] at h;exact .tup hb (VRs.pure hK hN ho h t)
 |_,_,h,.lst o n hb t=>by rw[BW] at h;exact .lst (hN _ _ _ n o hb).1 (hN _ _ _ n o hb).2 hb (VRs.pure hK hN ho h t)
 |_,_,h,.ref _ _=>by simp[BW] at h
 |_,_,_,.scrK k=>.scrK (by rw[hK];exact k)
 |_,_,_,.scrR n hb=>.scrR (ho _ _ hb n (fun _ z=>by cases z) fun _ z=>by cases z) hb
 |_,_,_,.emp o n hb=>.emp (hN _ _ _ n o hb).1 (hN _ _ _ n o hb).2 hb
 |_,_,h,.dref _ _=>by simp[BW] at h
 |_,_,_,.dcf o n hb=>.dcf (hN _ _ _ n o hb).1 (hN _ _ _ n o hb).2 hb
theorem VRs.pure(hK:Γ'.K=Γ.K)(hN:∀m a xs,¬CW μ a->Γ.Ok m a->H a=some xs->Γ'.Ok m a/\¬CW μ' a)(ho:∀a o,H a=some o->¬CW μ a->(∀xs,o≠.lst xs)->(∀xs,o≠.dK xs)->¬CW μ' a):∀{v:List V} {d:List D},Az d=true->VRs Γ μ H v d->VRs Γ' μ' H v d
 |_,_,_,.nil=>.nil
 |_,_,h,.cons r t=>by
  rw[Az,U00] at h
  exact .cons (VR.pure hK hN ho h.1 r) (VRs.pure hK hN ho h.2 t)
end
mutual
theorem VR.den{σ:St}{env:Env}{S S0:Store}{k:Nat}(R:Rep Γ μ σ H env S)(hK:Γ'.K=Γ.K)(h0:∀(i:Nat)(ds:List D)(a:Addr),k<=i->S0[i]?=some (some ds)->S[i]?=some (some ds)/\(μ[i]?=some (some a)->¬CW μ' a/\Γ'.Ok true a))
  (hN:∀m a,¬CW μ a->Γ.Ok m a->Γ'.Ok m a) (hl:∀a o,H a=some o->¬CW μ a->¬CW μ' a):∀{v:V} {d e:D},VR Γ μ H v d->VS.den k S0 d=some e->VR Γ' μ' H v e
 |_,_,_,.non,h=>by rw[VS.den] at h;cases h;exact .non
 |_,_,_,.bl b,h=>by rw[VS.den] at h;cases h;exact .bl b
 |_,_,_,.int i,h=>by rw[VS.den] at h;cases h;exact .int i
 |_,_,_,.str x,h=>by rw[VS.den] at h;cases h;exact .str x
 |_,_,_,.ty n,h=>by rw[VS.den] at h;cases h;exact .ty n
 |_,_,_,.tup hb t,h=>by
  rw[VS.den] at h
  obtain⟨es,e1,e2⟩:=map_some h
  subst e2
  exact .tup hb (VRs.den R hK h0 hN hl t e1)
 |_,_,_,.lst o n hb t,h=>by
  rw[VS.den] at h
  obtain⟨es,e1,e2⟩:=map_some h
  subst e2
  exact .lst (hN _ _ n o) (hl _ _ hb n) hb (VRs.den R hK h0 hN hl t e1)
 |_,.ref i,_,.ref hi f,h=>by
  rw[VS.den] at h
  by_cases hk:i<k
  .rw[if_pos hk] at h;cases h
  .rw[if_neg hk] at h
   split at h
   .rename_i ds hd
    by_cases hp:Az ds=true
    .rw[if_pos hp] at h
     cases h
     have hS:=(h0 i ds 0 (by omega) hd).1
     obtain⟨a,h1,hc⟩:=R.sto i ds hS
     obtain⟨hv,f2⟩:=f a h1
     obtain⟨xs,h2,h3⟩:=hc.list f2
     subst hv
     obtain⟨z1,z2⟩:=(h0 i ds a (by omega) hd).2 h1
     exact .lst z2 z1 h2 (VRs.pure hK (fun m b ys n o hb=>⟨hN m b n o,hl b _ hb n⟩) (fun b o hb n _ _=>hl b o hb n) hp h3)
    .rw[if_neg hp] at h;cases h
   .cases h
 |_,_,_,.scrK k,h=>by rw[VS.den] at h;cases h;exact .scrK (by rw[hK];exact k)
 |_,_,_,.scrR n hb,h=>by rw[VS.den] at h;cases h;exact .scrR (hl _ _ hb n) hb
 |_,_,_,.emp o n hb,h=>by rw[VS.den] at h;cases h;exact .emp (hN _ _ n o) (hl _ _ hb n) hb
 |_,.dref i,_,.dref hi f,h=>by
  rw[VS.den] at h
  by_cases hk:i<k
  .rw[if_pos hk] at h;cases h
  .rw[if_neg hk] at h
   split at h
   .rename_i kvs hd
    cases h
    have hS:=(h0 i _ 0 (by omega) hd).1
    obtain⟨a,h1,hc⟩:=R.sto i _ hS
    obtain⟨hv,f2⟩:=f a h1
    obtain⟨kvs',q1,h2⟩:=hc.dict f2
    cases q1
    subst hv
    have z:=(h0 i _ a (by omega) hd).2 h1
    exact .dcf ⟨fun z=>(by cases z),z.2.2⟩ z.1 h2
   .cases h
 |_,_,_,.dcf o n hb,h=>by rw[VS.den] at h;cases h;exact .dcf (hN _ _ n o) (hl _ _ hb n) hb
theorem VRs.den{σ:St}{env:Env}{S S0:Store}{k:Nat}(R:Rep Γ μ σ H env S)(hK:Γ'.K=Γ.K)(h0:∀(i:Nat)(ds:List D)(a:Addr),k<=i->S0[i]?=some (some ds)->S[i]?=some (some ds)/\(μ[i]?=some (some a)->¬CW μ' a/\Γ'.Ok true a))
  (hN:∀m a,¬CW μ a->Γ.Ok m a->Γ'.Ok m a) (hl:∀a o,H a=some o->¬CW μ a->¬CW μ' a):∀{v:List V} {d e:List D},VRs Γ μ H v d->VS.Cu k S0 d=some e->VRs Γ' μ' H v e
 |_,_,_,.nil,h=>by rw[Cu] at h;cases h;exact .nil
 |_,_,_,.cons r t,h=>by
  rw[Cu] at h
  obtain⟨x,e1,h⟩:=bind_some h
  obtain⟨xs,e2,h⟩:=bind_some h
  cases h
  exact .cons (VR.den R hK h0 hN hl r e1) (VRs.den R hK h0 hN hl t e2)
end
mutual
theorem VR.new(hN:∀a xs,¬CW μ a->Γ.Ok true a->H a=some (.lst xs)->Γ'.Ok true a/\¬CW μ' a):∀{v:V} {d:D},newD d=true->VR Γ μ H v d->VR Γ' μ' H v d
 |_,_,_,.non=>.non
 |_,_,_,.bl b=>.bl b
 |_,_,_,.int i=>.int i
 |_,_,_,.str x=>.str x
 |_,_,_,.ty n=>.ty n
 |_,_,h,.tup hb t=>by rw[newD] at h;exact .tup hb (VRs.new hN h t)
 |_,.lst m ds,h,.lst o n hb t=>by
  rw[newD,U00] at h
  obtain⟨rfl,h⟩:=h
  exact .lst (hN _ _ n o hb).1 (hN _ _ n o hb).2 hb (VRs.new hN h t)
 |_,_,h,.ref _ _=>by simp[newD] at h
 |_,_,h,.scrK _=>by simp[newD] at h
 |_,_,h,.scrR _ _=>by simp[newD] at h
 |_,_,h,.emp _ _ _=>by simp[newD] at h
 |_,_,h,.dref _ _=>by simp[newD] at h
 |_,_,h,.dcf _ _ _=>by simp[newD] at h
theorem VRs.new(hN:∀a xs,¬CW μ a->Γ.Ok true a->H a=some (.lst xs)->Γ'.Ok true a/\¬CW μ' a):∀{v:List V} {d:List D},newL d=true->VRs Γ μ H v d->VRs Γ' μ' H v d
 |_,_,_,.nil=>.nil
 |_,_,h,.cons r t=>by
  rw[newL,U00] at h
  exact .cons (VR.new hN h.1 r) (VRs.new hN h.2 t)
end
mutual
theorem VR.flat:∀{v:V} {d:D},CJ d=true->VR Γ μ H v d->VR Γ' μ' H v d
 |_,_,_,.non=>.non
 |_,_,_,.bl b=>.bl b
 |_,_,_,.int i=>.int i
 |_,_,_,.str x=>.str x
 |_,_,_,.ty n=>.ty n
 |_,_,h,.tup hb t=>by rw[CJ] at h;exact .tup hb (VRs.flat h t)
 |_,_,h,.lst _ _ _ _=>by simp[CJ] at h
 |_,_,h,.ref _ _=>by simp[CJ] at h
 |_,_,h,.scrK _=>by simp[CJ] at h
 |_,_,h,.scrR _ _=>by simp[CJ] at h
 |_,_,h,.emp _ _ _=>by simp[CJ] at h
 |_,_,h,.dref _ _=>by simp[CJ] at h
 |_,_,h,.dcf _ _ _=>by simp[CJ] at h
theorem VRs.flat:∀{v:List V} {d:List D},Dm d=true->VRs Γ μ H v d->VRs Γ' μ' H v d
 |_,_,_,.nil=>.nil
 |_,_,h,.cons r t=>by
  rw[Dm,U00] at h
  exact .cons (VR.flat h.1 r) (VRs.flat h.2 t)
end
mutual
theorem RX{k:Nat}{S:Store}:∀{d e:D},den k S d=some e->BW e=true
 |.tup ds,e,h=>by
  rw[den] at h
  obtain⟨es,e1,e2⟩:=map_some h
  subst e2
  rw[BW];exact Ml e1
 |.lst m ds,e,h=>by
  rw[den] at h
  obtain⟨es,e1,e2⟩:=map_some h
  subst e2
  rw[BW];exact Ml e1
 |.ref i,e,h=>by
  rw[den] at h
  by_cases hk:i<k
  .rw[if_pos hk] at h;cases h
  .rw[if_neg hk] at h
   split at h
   .rename_i ds hd
    by_cases hp:Az ds=true
    .rw[if_pos hp] at h;cases h;rw[BW];exact hp
    .rw[if_neg hp] at h;cases h
   .cases h
 |.non,e,h=>by rw[den] at h;cases h;rfl
 |.bl _,e,h=>by rw[den] at h;cases h;rfl
 |.int _,e,h=>by rw[den] at h;cases h;rfl
 |.str _,e,h=>by rw[den] at h;cases h;rfl
 |.ty _,e,h=>by rw[den] at h;cases h;rfl
 |.scr _,e,h=>by rw[den] at h;cases h;rfl
 |.emp,e,h=>by rw[den] at h;cases h;rfl
 |.dref i,e,h=>by
  rw[den] at h
  by_cases hk:i<k
  .rw[if_pos hk] at h;cases h
  .rw[if_neg hk] at h
   split at h
   .cases h;rfl
   .cases h
 |.dcf _,e,h=>by rw[den] at h;cases h;rfl
 |.dcm _,e,h=>by rw[den] at h;cases h
theorem Ml{k:Nat}{S:Store}:∀{d e:List D},Cu k S d=some e->Az e=true
 |[],e,h=>by rw[Cu] at h;cases h;rfl
 |d::r,e,h=>by
  rw[Cu] at h
  obtain⟨x,e1,h⟩:=bind_some h
  obtain⟨xs,e2,h⟩:=bind_some h
  cases h
  rw[Az,RX e1,Ml e2];rfl
end
end
end VS
end
section
namespace VS
open PySem PySem.Spec L2
abbrev Cy:=List D->Option D
abbrev Ln:=List Int->List D->Option (D×List Int)
def intsOf:List D->Option (List Int)
 |[]=>some []
 |.int i::r=>(intsOf r).map (i::·)
 |_=>none
theorem Gf:∀{ds:List D} {ns:List Int},intsOf ds=some ns->ds=ns.map D.int
 |[],_,h=>by cases h;rfl
 |.int i::r,ns,h=>by
  obtain⟨ms,e1,e2⟩:=map_some h
  subst e2
  rw[U0t,Gf e1]
 |.non::_,_,h=>by cases h
 |.bl _::_,_,h=>by cases h
 |.str _::_,_,h=>by cases h
 |.ty _::_,_,h=>by cases h
 |.tup _::_,_,h=>by cases h
 |.lst _ _::_,_,h=>by cases h
 |.ref _::_,_,h=>by cases h
 |.scr _::_,_,h=>by cases h
 |.emp::_,_,h=>by cases h
 |.dref _::_,_,h=>by cases h
 |.dcf _::_,_,h=>by cases h
 |.dcm _::_,_,h=>by cases h
@[simp] theorem Jj(ns:List Int):intsOf (ns.map D.int)=some ns:=by
 induction ns with
 |nil=>rfl
 |cons n r ih=>rw[U0t,intsOf,ih];rfl
def Ey(np n:Nat)(f:BL):Cy:=fun ds=>if ds.length=np then (f (ds.map some++U0m (n-ds.length) none) []).bind fun p=>match p.1 with|.ret d=>den 0 p.2.2 d|.nx=>some .non|_=>none else none
def runM(np n:Nat)(f:BL):Ln:=fun ns ds=>if ds.length+1=np then (f (some (.ref 0)::(ds.map some++U0m (n-1-ds.length) none)) [some (ns.map D.int)]).bind fun p=>match p.2.2[0]? with
 |some (some cs)=>(intsOf cs).bind fun ms=>(match p.1 with|.ret d=>(den 1 p.2.2 d).map fun r=>(r,ms)|.nx=>some (.non,ms)|_=>none)
 |_=>none
 else none
def spP(K:U0a)(sem:Cy)(n:Nat):Sp:=fun vs H Q _=>∃(N:Addr->Prop)(ds:List D)(r:D),vs.length=n/\VRs ⟨K,H,N,[]⟩ [] H vs ds/\sem ds=some r/\∀v H',Same H H'->VR ⟨K,H,N,[]⟩ [] H' v r->Q v H'
def spM(K:U0a)(sem:Ln)(n:Nat):Sp:=fun vs H Q _=>∃(N:Addr->Prop)(a:Addr)(us:List V)(ns:List Int)(ds:List D)(r:D)(ms:List Int),vs=.ref a::us/\vs.length=n/\H a=some (.lst (ns.map V.int))/\VRs ⟨K,H,N,[a]⟩ [some a] H us ds/\sem ns ds=some (r,ms) /\
 ∀v H',(∀b o,b≠a->H b=some o->H' b=some o)->H' a=some (.lst (ms.map V.int))->VR ⟨K,H,N,[a]⟩ [some a] H' v r->Q v H'
section
variable{P:Program}{w:World}{K:U0a}{mg:Str->Option Value}{base:Heap}
theorem Uk{N:List Str}{vs:List V}{ds:List D}{Γ:Fr}{μ:Mu}{H:Hp}(r:VRs Γ μ H vs ds){i:Nat}{d:D}{n:Nat}(h:(ds.map some++U0m n none:Env)[i]?=some (some d)):∃v,(vs.map some++U0m (N.length-vs.length) none:St)[i]?=some (some v)/\VR Γ μ H v d:=by
 have hi:i<ds.length:=by
  by_cases hi:i<ds.length
  .exact hi
  .rw[U2a (by simpa using hi),U30] at h
   split at h<;>cases h
 rw[U1d (by simpa using hi),U04] at h
 have h2:ds[i]?=some d:=by
  cases q:ds[i]? with
  |none=>rw[q] at h;cases h
  |some e=>rw[q] at h;cases h;rfl
 obtain⟨v,e1,e2⟩:=r.get h2
 refine⟨v,?_,e2⟩
 rw[U1d (by rw[U0l,r.length];exact hi),U04,e1]
 rfl
theorem Hj{a:Addr}:¬CW [] a:=fun z=>by simp[CW] at z
theorem Nu{a b:Addr}:CW [some b] a↔a=b:=by simp[CW]
theorem fnP{x qual:Str}{st:Stmt}{f:Addr}{fd:FuncData}{N ps:List Str}{k:Nat}{fs:BL}(F:Fun K x qual st f fd)(Sc:CV N ps (Ak st))
  (hb:∀(cdv:Value)(A:Around)(outer:List PySem.Env)(s:Shared)(H:Hp)(E:XK),Ed k (A.deeper (PyProof.Rows.envOfC qual (Ak st) s.heap.objs.size f cdv))->JSs (Oi CX0 P w K mg base N qual (Ak st) f cdv A outer s H E).nox (Bv st) fs) :
  DG P w K mg base CX0 (k+1) f fd ps (spP K (Ey ps.length N.length fs) ps.length):=by
 refine F.ok Sc (fun vs H Q E h=>?_) (fun cdv A outer s H vs Q E hr h=>?_)
 .obtain⟨_,_,_,hl,_⟩:=h;exact hl
 obtain⟨Nn,ds,r,hl,rs,e,q⟩:=h
 refine⟨_,(hb cdv A outer s H E hr).ps,?_⟩
 have hdl:=rs.length
 unfold Ey at e
 rw[if_pos (by omega)] at e
 obtain⟨⟨fl,env',S'⟩,e1,e⟩:=bind_some e
 have hpl:ps.length<=N.length:=by have:=congrArg U5d Sc.pre;rw[U24] at this;omega
 refine⟨⟨K,H,Nn,[]⟩,[],_,[],fl,env',S',rfl,⟨fun i d h=>Uk rs h,?_,fun i ds h=>by simp at h,fun i a h=>by simp at h,fun i j a h=>by simp at h,rfl,Ext.refl _ _,fun i a _ h=>by simp at h⟩,e1,fun μ' σ' H' x' R'=>?_⟩
 .unfold L2.start
  rw[U0q,U0l,U1e,U0q,U0l,U1e,hdl]
 have sm:Same H H':=fun b o hb=>(x'.keep b o hb Hj).1
 dsimp only at e
 cases fl with
 |nx=>cases e;exact q _ H' sm .non
 |brk=>cases e
 |cnt=>cases e
 |ret d =>
  intro v rv
  refine q v H' sm (VR.den R' rfl (fun i ds a _ hs=>⟨hs,fun hm=>⟨Hj,?_⟩⟩) (fun m a _ o=>o) (fun a o _ _=>Hj) rv e)
  have hn:=R'.new i a (U3h _) hm
  exact⟨fun _=>hn,.inr hn⟩
theorem fnM{x qual:Str}{st:Stmt}{f:Addr}{fd:FuncData}{N ps:List Str}{k:Nat}{fs:BL}(F:Fun K x qual st f fd)(Sc:CV N ps (Ak st))
  (hb:∀(cdv:Value)(A:Around)(outer:List PySem.Env)(s:Shared)(H:Hp)(E:XK),Ed k (A.deeper (PyProof.Rows.envOfC qual (Ak st) s.heap.objs.size f cdv))->JSs (Oi CX0 P w K mg base N qual (Ak st) f cdv A outer s H E).nox (Bv st) fs) :
  DG P w K mg base CX0 (k+1) f fd ps (spM K (runM ps.length N.length fs) ps.length):=by
 refine F.ok Sc (fun vs H Q E h=>?_) (fun cdv A outer s H vs Q E hr h=>?_)
 .obtain⟨_,_,_,_,_,_,_,_,hl,_⟩:=h;exact hl
 obtain⟨Nn,a,us,ns,ds,r,ms,rfl,hl,ha,rs,e,q⟩:=h
 refine⟨_,(hb cdv A outer s H E hr).ps,?_⟩
 have hdl:=rs.length
 rw[U0g] at hl
 unfold runM at e
 rw[if_pos (by omega)] at e
 obtain⟨⟨fl,env',S'⟩,e1,e⟩:=bind_some e
 have hpl:ps.length<=N.length:=by have:=congrArg U5d Sc.pre;rw[U24] at this;omega
 refine⟨⟨K,H,Nn,[a]⟩,[some a],_,[some (ns.map D.int)],fl,env',S',rfl,⟨fun i d h=>?_,?_,fun i es h=>?_,fun i b h=>?_,fun i j b h1 h2=>?_,rfl,Ext.refl _ _,fun i b hi h=>?_⟩,e1,fun μ' σ' H' x' R'=>?_⟩
 .cases i with
  |zero =>
   simp at h
   subst h
   refine⟨.ref a,by simp[L2.start],.ref (by simp) fun b hb=>?_⟩
   simp at hb;rw[←hb];exact⟨rfl,⟨_,ha⟩⟩
  |succ i =>
   rw[List.getElem?_cons_succ] at h
   obtain⟨v,e1,e2⟩:=Uk (N:=U0m (N.length-1) "") rs h
   refine⟨v,?_,e2⟩
   unfold L2.start
   rw[U0t,U2m,List.getElem?_cons_succ,U0g]
   rw[U1e] at e1
   rw[show N.length-(us.length+1)=N.length-1-us.length by omega]
   exact e1
 .unfold L2.start
  rw[U0q,U0l,U1e,U0g,U0g,U0q,U0l,U1e,hdl]
  omega
 .cases i with
  |zero=>simp at h;subst h;exact⟨a,by simp,.inl ⟨_,ha,VRs.ints ns⟩⟩
  |succ i=>simp at h
 .cases i with
  |zero=>exact⟨_,rfl⟩
  |succ i=>simp at h
 .cases i with
  |zero=>cases j with
   |zero=>rfl
   |succ j=>simp at h2
  |succ i=>simp at h1
 .cases i with
  |zero=>simp at hi
  |succ i=>simp at h
 have sm:∀b o,b≠a->H b=some o->H' b=some o:=fun b o hb h=>(x'.keep b o h fun z=>hb (Nu.mp z)).1
 dsimp only at e
 split at e
 .rename_i cs hc
  obtain⟨ms',e3,e5⟩:=bind_some e
  clear e
  obtain⟨a',g1,gc⟩:=R'.sto 0 cs hc
  obtain⟨xs',g2,g3⟩:∃xs,H' a'=some (.lst xs)/\VRs _ μ' H' xs cs:=by
   rcases gc with z|⟨kvs,q,_⟩
   .exact z
   .rw[q] at e3;cases e3
  have ea:a'=a:=by
   have:=x'.ids 0 a' (by simp) g1
   simp at this;exact this.symm
  subst ea
  have ec:=Gf e3
  subst ec
  have ex:=g3.Nq
  subst ex
  cases fl with
  |nx=>cases e5;exact q _ H' sm g2 .non
  |brk=>cases e5
  |cnt=>cases e5
  |ret d =>
   intro v rv
   dsimp only at e5
   obtain⟨r',e4,e6⟩:=map_some e5
   cases e6
   refine q v H' sm g2 (VR.den R' rfl (fun i es b hi hs=>⟨hs,fun hm=>⟨fun z=>?_,?_⟩⟩) (fun m b _ o=>o) (fun b o _ n z=>n ?_) rv e4)
   .have:b=a':=Nu.mp z
    subst this
    have:=R'.inj 0 i b g1 hm
    omega
   .have hn:=R'.new i b hi hm
    exact⟨fun _=>hn,.inr hn⟩
   .have:b=a':=Nu.mp z
    subst this
    exact U1j g1
 .cases e
end
theorem Dc{np n:Nat}{f:BL}{ds:List D}{r:D}(h:Ey np n f ds=some r):ds.length=np/\BW r=true:=by
 unfold Ey at h
 by_cases hl:ds.length=np
 .rw[if_pos hl] at h
  obtain⟨⟨fl,env',S'⟩,e1,e⟩:=bind_some h
  refine⟨hl,?_⟩
  dsimp only at e
  cases fl with
  |nx=>cases e;rfl
  |brk=>cases e
  |cnt=>cases e
  |ret d=>exact RX e
 .rw[if_neg hl] at h;cases h
theorem QK{np n:Nat}{f:BL}{ns:List Int}{ds:List D}{r:D×List Int}(h:runM np n f ns ds=some r):ds.length+1=np/\BW r.1=true:=by
 unfold runM at h
 by_cases hl:ds.length+1=np
 .rw[if_pos hl] at h
  obtain⟨⟨fl,env',S'⟩,e1,e⟩:=bind_some h
  refine⟨hl,?_⟩
  dsimp only at e
  split at e
  .rename_i cs hc
   obtain⟨ms',e3,e⟩:=bind_some e
   cases fl with
   |nx=>cases e;rfl
   |brk=>cases e
   |cnt=>cases e
   |ret d =>
    dsimp only at e
    obtain⟨r',e4,e⟩:=map_some e
    cases e
    exact RX e4
  .cases e
 .rw[if_neg hl] at h;cases h
end VS
end
section
namespace VS
open PySem PySem.Spec L2
structure CZ(P:Program)(w:World)(K:U0a)(mg:Str->Option Value)(base:Heap)(x:Str)(k:Nat)(sem:Cy):Prop where
 cal:∃ps,Cal P w K mg base x k ps (spP K sem ps.length)/\∀ds r,sem ds=some r->ds.length=ps.length/\BW r=true
structure Kd(P:Program)(w:World)(K:U0a)(mg:Str->Option Value)(base:Heap)(x:Str)(k:Nat)(sem:Ln):Prop where
 cal:∃ps,Cal P w K mg base x k ps (spM K sem ps.length)/\∀ns ds r,sem ns ds=some r->ds.length+1=ps.length/\BW r.1=true
def BK(sem:Cy)(a:Bg):Aw:=fun env S=>(a env S).bind fun p=>(Cu 0 p.2 p.1).bind fun ds=>(sem (Bk ds)).bind fun r=>if (Az p.1||newD r)=true then some (r,p.2) else none
def Bm(sem:Ln)(a:Bg):Aw:=fun env S=>(a env S).bind fun p=>match p.1 with
 |.ref i::rest=>(match p.2[i]? with
  |some (some cs)=>(intsOf cs).bind fun ns=>(Cu 0 (p.2.set i none) rest).bind fun ds=>(sem ns (Bk ds)).bind fun r=>if (Az rest||newD r.1)=true then some (r.1,p.2.set i (some (r.2.map D.int))) else none
  |_=>none)
 |_=>none
def Vd(n:Nat):List D->Option (List D×List D)
 |[]=>none
 |d::r=>if CJ d=true then (Vd n r).map fun p=>(d::p.1,p.2) else match d with
  |.lst true ds=>if (Dm ds&&Dm r)=true then some (.ref n::r,ds) else none
  |_=>none
def Oh(n:Nat):D->Option (D×List D)
 |.lst true ds=>if Dm ds=true then some (.ref n,ds) else none
 |.tup es=>(Vd n es).map fun p=>(.tup p.1,p.2)
 |_=>none
def KH(sem:Cy)(a:Bg):Aw:=fun env S=>(BK sem a env S).bind fun p=>(Oh p.2.length p.1).bind fun q=>some (q.1,p.2++[some q.2])
section
variable{Γ:Fr}{μ:Mu}{σ:St}{H H':Hp}{env:Env}{S:Store}
theorem lend{K:U0a}(hK:Γ.K=K)(R:Rep Γ μ σ H env S){S0:Store}{m0:List Addr}{vs:List V}{ds es:List D}(r:VRs Γ μ H vs ds)(e:Cu 0 S0 ds=some es)(h0:∀(i:Nat)(ds:List D)(a:Addr),S0[i]?=some (some ds)->S[i]?=some (some ds)/\(μ[i]?=some (some a)->¬CW (m0.map some) a))(hm:∀a∈m0,CW μ a)
  (c:Bool) (hc:(Az ds||c)=true):∃N:Addr->Prop,VRs ⟨K,H,N,m0⟩ (m0.map some) H vs (Bk es)/\(c=true∨∀a,N a->¬CW μ a/\(Γ.N a∨Γ.H0 a=none)):=by
 subst hK
 have hl:∀a o,H a=some o->¬CW μ a->¬CW (m0.map some) a:=fun a o _ n z=>n (hm a (by simpa [CW] using z))
 by_cases hp:Az ds=true
 .rw[Ck 0 S0 hp] at e
  cases e
  exact⟨fun a=>¬CW μ a/\(Γ.N a∨Γ.H0 a=none),VRs.age (Γ:=Γ) (Γ':=⟨Γ.K,H,fun a=>¬CW μ a/\(Γ.N a∨Γ.H0 a=none),m0⟩) rfl (fun a n o=>⟨n,o⟩) hl hp r,.inr fun a z=>z⟩
 .have hc':c=true:=by simpa [hp] using hc
  refine⟨fun _=>True,?_,.inl hc'⟩
  have r1:VRs ⟨Γ.K,fun _=>none,fun _=>True,m0⟩ (m0.map some) H vs es:=VRs.den (Γ':=⟨Γ.K,fun _=>none,fun _=>True,m0⟩) R rfl (fun i ds a _ hs=>⟨(h0 i ds a hs).1,fun z=>⟨(h0 i ds a hs).2 z,⟨fun _=>rfl,.inl trivial⟩⟩⟩) (fun m a _ _=>⟨fun _=>rfl,.inl trivial⟩) hl r e
  exact VRs.age (Γ:=⟨Γ.K,fun _=>none,fun _=>True,m0⟩) (Γ':=⟨Γ.K,H,fun _=>True,m0⟩) (μ:=m0.map some) rfl (fun a _ _=>trivial) (fun a o _ n=>n) (Ml e) r1
theorem home{K:U0a}(hK:Γ.K=K)(R:Rep Γ μ σ H env S){N:Addr->Prop}{m0:List Addr}{v:V}{r:D}(lv:∀a,CW μ a->IsL H' a∨IsK H' a)(hp:BW r=true)(c:newD r=true∨∀a,N a->¬CW μ a/\(Γ.N a∨Γ.H0 a=none))
  (rv:VR ⟨K,H,N,m0⟩ (m0.map some) H' v r):VR Γ μ H' v r:=by
 subst hK
 rcases c with c|c
 .exact VR.new (fun a xs n o hb=>⟨R.ok (o.1 rfl) true,R.dead (o.1 rfl)⟩) c rv
 .refine VR.pure (Γ:=⟨Γ.K,H,N,m0⟩) (Γ':=Γ) rfl (fun m a xs n o hb=>?_) (fun a o hb n hx hy z=>?_) hp rv
  .rcases o.2 with z|z
   .refine⟨⟨fun hm=>R.fresh (o.1 hm),(c a z).2⟩,(c a z).1⟩
   .exact⟨R.ok z m,R.dead z⟩
  .rcases lv a z with ⟨xs,q⟩|⟨xs,q⟩
   .rw[q] at hb
    exact hx xs (U05 hb).symm
   .rw[q] at hb
    exact hy xs (U05 hb).symm
theorem Rep.adopt(R:Rep Γ μ σ H env S)(sm:Same H H'){a:Addr}{xs:List V}{ds:List D}(hn:H a=none)(ha:H' a=some (.lst xs))(hf:Dm ds=true){Γ':Fr}{μ':Mu}(rs:VRs Γ' μ' H' xs ds) :
  Rep Γ (μ++[some a]) σ H' env (S++[some ds])/\Ext μ H (μ++[some a]) H':=by
 have ne:∀b o,H b=some o->b≠a:=fun b o h z=>by rw[z,hn] at h;cases h
 have x:Ext μ H (μ++[some a]) H':=by
  refine⟨fun b o h n=>⟨sm b o h,fun z=>?_⟩,fun b ys h=>sm b _ h,fun b h=>sm.free h,fun i b hi h=>?_,by rw[U0q];omega,fun b _ ⟨ys,h⟩=>⟨ys,sm b _ h⟩,fun b _ ⟨ys,h⟩=>⟨ys,sm b _ h⟩⟩
  .rcases U10.mp z with z|z
   .exact n z
   .have z':b=a:=by simpa using z
    exact ne b o h z'
  .rw[U1d hi] at h;exact h
 have idx:∀i b,(μ++[some a])[i]?=some (some b)->(i<μ.length/\μ[i]?=some (some b))∨(i=μ.length/\b=a):=fun i b h=>by
  by_cases hi:i<μ.length
  .rw[U1d hi] at h;exact .inl ⟨hi,h⟩
  .rw[U2a (by omega)] at h
   have hl:=(U0p.mp h).1
   have hi':i=μ.length:=by simp at hl;omega
   subst hi'
   simp at h
   exact .inr ⟨rfl,h.symm⟩
 have no:∀i,μ[i]?=some (some a)->False:=fun i h=>R.dead hn (U1j h)
 refine⟨⟨fun i d h=>?_,R.len,fun i es h=>?_,fun i b h=>?_,fun i j b h1 h2=>?_,by rw[U0q,U0q,R.slen];rfl,R.ent.trans x,fun i b hi h=>?_⟩,x⟩
 .obtain⟨v,h1,h2⟩:=R.vals i d h
  exact⟨v,h1,h2.ext x⟩
 .by_cases hi:i<S.length
  .rw[U1d hi] at h
   obtain⟨b,h1,h2⟩:=R.sto i es h
   exact⟨b,by rw[U1d (by rw[←R.slen];exact hi)];exact h1,h2.to x fun o q=>sm _ _ q⟩
  .rw[U2a (by omega)] at h
   have hl:=(U0p.mp h).1
   have hi':i=S.length:=by simp at hl;omega
   subst hi'
   simp at h
   subst h
   exact⟨a,by rw[R.slen];simp,.inl ⟨xs,ha,VRs.flat hf rs⟩⟩
 .rcases idx i b h with ⟨hi,h⟩|⟨rfl,rfl⟩
  .obtain⟨ds',q⟩:=R.liv i b h
   exact⟨ds',by rw[U1d (by rw[R.slen];exact hi)];exact q⟩
  .exact⟨ds,by rw[←R.slen];simp⟩
 .rcases idx i b h1 with ⟨_,g1⟩|⟨e1,e2⟩
  .rcases idx j b h2 with ⟨_,g2⟩|⟨e3,e4⟩
   .exact R.inj i j b g1 g2
   .exact(no i (e4 ▸ g1)).elim
  .rcases idx j b h2 with ⟨_,g2⟩|⟨e3,_⟩
   .exact(no j (e2 ▸ g2)).elim
   .rw[e1,e3]
 .rcases idx i b h with ⟨_,h⟩|⟨rfl,rfl⟩
  .exact R.new i b hi h
  .exact R.fresh hn
end
theorem W9{Γ:Fr}{μ:Mu}{H:Hp}{n:Nat}:∀{vs:List V} {ds:List D} {p:List D×List D},Vd n ds=some p->VRs Γ μ H vs ds ->
  ∃a xs,Γ.Ok true a/\H a=some (.lst xs)/\VRs Γ μ H xs p.2/\Dm p.2=true/\∀(Γ':Fr)(μ':Mu),μ'[n]?=some (some a)->VRs Γ' μ' H vs p.1
 |_,[],_,h,_=>by cases h
 |_,d::r,p,h,.cons (xs:=vr) rd rr=>by
  unfold Vd at h
  by_cases hf:CJ d=true
  .rw[if_pos hf] at h
   obtain⟨q,e1,e2⟩:=map_some h
   subst e2
   obtain⟨a,xs,h1,h2,h3,h4,h5⟩:=W9 e1 rr
   exact⟨a,xs,h1,h2,h3,h4,fun Γ' μ' z=>.cons (VR.flat hf rd) (h5 Γ' μ' z)⟩
  .rw[if_neg hf] at h
   split at h
   .rename_i ds
    by_cases hg:(Dm ds&&Dm r)=true
    .rw[if_pos hg] at h
     cases h
     rw[U00] at hg
     cases rd with
     |@lst _ a xs _ o nl hb t =>
      refine⟨a,xs,o,hb,t,hg.1,fun Γ' μ' z=>.cons (.ref (U0p.mp z).1 fun b hb'=>?_) (VRs.flat hg.2 rr)⟩
      rw[z] at hb';cases hb';exact⟨rfl,⟨_,hb⟩⟩
    .rw[if_neg hg] at h;cases h
   .cases h
theorem jZ{Γ:Fr}{μ:Mu}{H:Hp}{n:Nat}{v:V}{d:D}{p:D×List D}(h:Oh n d=some p)(r:VR Γ μ H v d) :
  ∃a xs,Γ.Ok true a/\H a=some (.lst xs)/\VRs Γ μ H xs p.2/\Dm p.2=true/\∀(Γ':Fr)(μ':Mu),μ'[n]?=some (some a)->VR Γ' μ' H v p.1:=by
 unfold Oh at h
 split at h
 .rename_i ds
  by_cases hg:Dm ds=true
  .rw[if_pos hg] at h
   cases h
   cases r with
   |@lst _ a xs _ o nl hb t =>
    refine⟨a,xs,o,hb,t,hg,fun Γ' μ' z=>.ref (U0p.mp z).1 fun b hb'=>?_⟩
    rw[z] at hb';cases hb';exact⟨rfl,⟨_,hb⟩⟩
  .rw[if_neg hg] at h;cases h
 .rename_i es
  obtain⟨q,e1,e2⟩:=map_some h
  subst e2
  cases r with
  |@tup b xs _ hb t =>
   obtain⟨a,ys,h1,h2,h3,h4,h5⟩:=W9 e1 t
   exact⟨a,ys,h1,h2,h3,h4,fun Γ' μ' z=>.tup hb (h5 Γ' μ' z)⟩
 .cases h
section
variable{X:Cx}{x:Str}{k k':Nat}{e:Expr}{es:List Expr}{f:Bg}{p pos:Pos}
theorem CN{sem:Cy}(c:CZ X.prog X.w X.K X.mg X.base x k sem)(hr:Ed k' X.A)(hk:k<=k')(hg:Gl X x)(ha:JA X (e::es) f)
  (hdb:(x==("__debug__":Str))=false:=by decide) (he:starEach (e::es) X.env=(false,eval e X.env)::starEach es X.env:=by rfl) (hpl:(backTo pos (starEach es X.env)).any (·.1)=false:=by rfl) :
  JE X (.Call (.Name x p) (e::es) [] pos) (BK sem f):=by
 obtain⟨ps,c,hok⟩:=c.cal
 refine⟨PE.imp (RK c hr hk hg ha.pa hdb he hpl) fun σ H Q h=>?_⟩
 obtain⟨Γ,μ,env,S,d,S',hK,R,e,q⟩:=h
 obtain⟨⟨as,S1⟩,e1,e⟩:=bind_some e
 obtain⟨ds,e2,e⟩:=bind_some e
 obtain⟨r,e3,e⟩:=bind_some e
 refine⟨Γ,μ,env,S,as,S1,hK,R,e1,fun vs μ1 H1 x1 R1 r1=>?_⟩
 show spP X.K sem ps.length (vs++[]) H1 Q E0
 rw[U3f]
 dsimp only at e e2
 by_cases hc:(Az as||newD r)=true
 .rw[if_pos hc] at e
  cases e
  obtain⟨hl,hp⟩:=hok _ _ e3
  obtain⟨N,rs,cN⟩:=lend hK R1 (m0:=[]) r1 e2 (fun i ds a hs=>⟨hs,fun _=>Hj⟩) (fun a z=>by simp at z) (newD d) hc
  refine⟨N,_,d,?_,rs,e3,fun v H' sm rv=>?_⟩
  .rw[rs.length,hl]
  obtain⟨R2,x2⟩:=R1.grow sm
  exact q v μ1 H' (x1.trans x2) R2 (home hK R1 (fun a z=>R2.live z) hp cN rv)
 .rw[if_neg hc] at e;cases e
theorem Wf{sem:Cy}(c:CZ X.prog X.w X.K X.mg X.base x k sem)(hr:Ed k' X.A)(hk:k<=k')(hg:Gl X x)(ha:JA X (e::es) f)
  (hdb:(x==("__debug__":Str))=false:=by decide) (he:starEach (e::es) X.env=(false,eval e X.env)::starEach es X.env:=by rfl) (hpl:(backTo pos (starEach es X.env)).any (·.1)=false:=by rfl) :
  JE X (.Call (.Name x p) (e::es) [] pos) (KH sem f):=by
 obtain⟨ps,c,hok⟩:=c.cal
 refine⟨PE.imp (RK c hr hk hg ha.pa hdb he hpl) fun σ H Q h=>?_⟩
 obtain⟨Γ,μ,env,S,d,S',hK,R,e,q⟩:=h
 obtain⟨⟨d0,S0⟩,e0,e⟩:=bind_some e
 obtain⟨t,et,e⟩:=bind_some e
 cases e
 obtain⟨⟨as,S1⟩,e1,e⟩:=bind_some e0
 obtain⟨ds,e2,e⟩:=bind_some e
 obtain⟨r,e3,e⟩:=bind_some e
 refine⟨Γ,μ,env,S,as,S1,hK,R,e1,fun vs μ1 H1 x1 R1 r1=>?_⟩
 show spP X.K sem ps.length (vs++[]) H1 Q E0
 rw[U3f]
 dsimp only at e e2
 by_cases hc:(Az as||newD r)=true
 .rw[if_pos hc] at e
  cases e
  obtain⟨hl,hp⟩:=hok _ _ e3
  obtain⟨N,rs,cN⟩:=lend hK R1 (m0:=[]) r1 e2 (fun i ds a hs=>⟨hs,fun _=>Hj⟩) (fun a z=>by simp at z) (newD d0) hc
  refine⟨N,_,d0,?_,rs,e3,fun v H' sm rv=>?_⟩
  .rw[rs.length,hl]
  obtain⟨a,xs,h1,h2,h3,h4,h5⟩:=jZ et rv
  obtain⟨R2,x2⟩:=R1.adopt sm (h1.1 rfl) h2 h4 h3
  exact q v _ H' (x1.trans x2) R2 (h5 _ _ (by rw[R1.slen];simp))
 .rw[if_neg hc] at e;cases e
theorem En{sem:Ln}(c:Kd X.prog X.w X.K X.mg X.base x k sem)(hr:Ed k' X.A)(hk:k<=k')(hg:Gl X x)(ha:JA X (e::es) f)
  (hdb:(x==("__debug__":Str))=false:=by decide) (he:starEach (e::es) X.env=(false,eval e X.env)::starEach es X.env:=by rfl) (hpl:(backTo pos (starEach es X.env)).any (·.1)=false:=by rfl) :
  JE X (.Call (.Name x p) (e::es) [] pos) (Bm sem f):=by
 obtain⟨ps,c,hok⟩:=c.cal
 refine⟨PE.imp (RK c hr hk hg ha.pa hdb he hpl) fun σ H Q h=>?_⟩
 obtain⟨Γ,μ,env,S,d,S',hK,R,e,q⟩:=h
 obtain⟨⟨as,S1⟩,e1,e⟩:=bind_some e
 refine⟨Γ,μ,env,S,as,S1,hK,R,e1,fun vs μ1 H1 x1 R1 r1=>?_⟩
 show spM X.K sem ps.length (vs++[]) H1 Q E0
 rw[U3f]
 dsimp only at e
 split at e
 .rename_i i rest
  split at e
  .rename_i cs hcs
   obtain⟨ns,e4,e⟩:=bind_some e
   obtain⟨ds,e2,e⟩:=bind_some e
   obtain⟨⟨r,ms⟩,e3,e⟩:=bind_some e
   dsimp only at e
   by_cases hc:(Az rest||newD r)=true
   .rw[if_pos hc] at e
    cases e
    obtain⟨hl,hp⟩:=hok _ _ _ e3
    have ecs:=Gf e4
    subst ecs
    cases r1 with
    |@cons v0 _ us _ r0 rr =>
     obtain⟨a,xs,rfl,h1,h2,h3⟩:=VR.d7 R1 r0 hcs
     have ex:=h3.Nq
     subst ex
     have hi:i<S1.length:=(U0p.mp hcs).1
     obtain⟨N,rs,cN⟩:=lend hK R1 (S0:=S1.set i none) (m0:=[a]) rr e2 (fun j es b hs=>by
      have hj:i≠j:=fun z=>by
       subst z
       rw[U2s hi] at hs;cases hs
      rw[U23 hj] at hs
      exact⟨hs,fun hm z=>hj (R1.inj i j a h1 (by rw[show a=b from (Nu.mp z).symm];exact hm))⟩) (fun b z=>by
       have:b=a:=by simpa using z
       rw[this];exact U1j h1) (newD d) hc
     refine⟨N,a,us,ns,_,d,ms,rfl,?_,h2,rs,e3,fun v H' sm ha' rv=>?_⟩
     .rw[U0g,rs.length,hl]
     obtain⟨R2,x2⟩:=R1.put h1 ⟨_,h2⟩ (VRs.ints ms)
     have sm2:Same (upd H1 a (.lst (ms.map V.int))) H':=fun b o hb=>by
      by_cases z:b=a
      .rw[z,Bo] at hb;cases hb;rw[z];exact ha'
      .rw[BZ z] at hb;exact sm b o z hb
     obtain⟨R3,x3⟩:=R2.grow sm2
     exact q v μ1 H' (x1.trans (x2.trans x3)) R3 (home hK R1 (fun a z=>R3.live z) hp cN rv)
   .rw[if_neg hc] at e;cases e
  .cases e
 .cases e
end
end VS
end
section
namespace VS
open PySem PySem.Spec L2
theorem OpR.or{X:Cx}{f:Value->Value->Sem Value}{r r':R2}(h:OpR X f r)(h':OpR X f r'):OpR X f (fun x y H Q=>r x y H Q∨r' x y H Q):=fun pins s σ H x y v u Q I rx ry q=>q.elim (fun z=>h pins s σ H x y v u Q I rx ry z) fun z=>h' pins s σ H x y v u Q I rx ry z
theorem DN.or{X:Cx}{f:Value}{r r':List V->Hp->VK->Prop}(h:DN X f r)(h':DN X f r'):DN X f (fun xs H Q=>r xs H Q∨r' xs H Q):=fun pins s σ H xs us Q I rs q=>q.elim (fun z=>h pins s σ H xs us Q I rs z) fun z=>h' pins s σ H xs us Q I rs z
def oI(c:Int->Int->Bool)(g:Int->Int->D)(_:Store):D->D->Option D
 |.int i,.int j=>if c i j=true then some (g i j) else none
 |_,_=>none
def Ge(_ _:Int):Bool:=true
theorem Z6{K:U0a}{C:Int->Int->Prop}{c:Int->Int->Bool}(g:Int->Int->Int)(hc:∀i j,c i j=true->C i j):Fb K (rI C fun i j=>.int (g i j)) (oI c fun i j=>.int (g i j)):=by
 intro Γ μ σ H env S x y dx dy d hK R rx ry e Q q
 unfold oI at e
 split at e
 .rename_i i j
  by_cases h:c i j=true
  .rw[if_pos h] at e;cases e;cases rx;cases ry
   exact⟨i,j,rfl,rfl,hc i j h,q _ H (Same.refl H) (.int _)⟩
  .rw[if_neg h] at e;cases e
 .cases e
theorem pW{K:U0a}(g:Int->Int->Int):Fb K (rI0 fun i j=>.int (g i j)) (oI Ge fun i j=>.int (g i j)):=by
 intro Γ μ σ H env S x y dx dy d hK R rx ry e Q q
 unfold oI at e
 split at e
 .rename_i i j
  rw[if_pos (show Ge i j=true from rfl)] at e;cases e;cases rx;cases ry
  exact⟨i,j,rfl,rfl,q _ H (Same.refl H) (.int _)⟩
 .cases e
theorem Ry{K:U0a}(g:Int->Int->Bool):Fb K (rI0 fun i j=>.bl (g i j)) (oI Ge fun i j=>.bl (g i j)):=by
 intro Γ μ σ H env S x y dx dy d hK R rx ry e Q q
 unfold oI at e
 split at e
 .rename_i i j
  rw[if_pos (show Ge i j=true from rfl)] at e;cases e;cases rx;cases ry
  exact⟨i,j,rfl,rfl,q _ H (Same.refl H) (.bl _)⟩
 .cases e
def Im:=oI Ge fun i j=>.int (i-j)
def Mw(i j:Int):Bool:=(decide (-(2^64)<i)&&decide (i<2^64))||(decide (-(2^64)<j)&&decide (j<2^64))
def TX(_ j:Int):Bool:=decide (0<j)&&decide (j<2^64)
def TV(_ j:Int):Bool:=decide (0<j)
def R6(i j:Int):Bool:=decide (0<=j)&&decide (j<=1000000)&&decide (i.natAbs<2^64)
def oDiv:=oI TX fun i j=>.int (i/j)
def oMod:=oI TV fun i j=>.int (i%j)
def Ka:=oI R6 fun i j=>.int (i^j.toNat)
def oLt:=oI Ge fun i j=>.bl (decide (i<j))
def oLe:=oI Ge fun i j=>.bl (decide (i<=j))
def oGt:=oI Ge fun i j=>.bl (decide (j<i))
def oGe:=oI Ge fun i j=>.bl (decide (j<=i))
theorem NQ{K:U0a}:Fb K (rI0 fun i j=>.int (i-j)) Im:=pW _
theorem YS{K:U0a}:Fb K (rI (fun _ j=>0<j/\j<2^64) fun i j=>.int (i/j)) oDiv:=Z6 _ fun i j h=>by simpa [TX] using h
theorem LR{K:U0a}:Fb K (rI (fun _ j=>0<j) fun i j=>.int (i%j)) oMod:=Z6 _ fun i j h=>by simpa [TV] using h
theorem Td{K:U0a}:Fb K (rI dR fun i j=>.int (i^j.toNat)) Ka:=Z6 _ fun i j h=>by simpa [R6,dR,and_assoc] using h
theorem Oo{K:U0a}:Fb K (rI0 fun i j=>.bl (decide (i<j))) oLt:=Ry _
theorem Zv{K:U0a}:Fb K (rI0 fun i j=>.bl (decide (i<=j))) oLe:=Ry _
theorem N6{K:U0a}:Fb K (rI0 fun i j=>.bl (decide (j<i))) oGt:=Ry _
theorem Rx{K:U0a}:Fb K (rI0 fun i j=>.bl (decide (j<=i))) oGe:=Ry _
def FN(_:Store):D->Option D
 |.int i=>some (.int (-i))
 |_=>none
theorem Hv{K:U0a}:pI K (rU fun i=>.int (-i)) FN:=by
 intro Γ μ σ H env S x dx d hK R rx e Q q
 unfold FN at e
 split at e
 .cases e;cases rx;exact⟨_,rfl,q _ H (Same.refl H) (.int _)⟩
 .cases e
def Bl(S:Store):D->D->Option D
 |.int i,.int j=>some (.int (i+j))
 |.tup a,.tup b=>if a.length+b.length<=1000000 then some (.tup (a++b)) else none
 |.str x,.str y=>if x.length+y.length<=1000000 then some (.str (x++y)) else none
 |x,y=>(listOf S x).bind fun a=>(listOf S y).bind fun b=>if a.length+b.length<=1000000 then some (.lst true (a++b)) else none
def jA:R2:=fun x y H Q=>∃(a b:Addr)(xs ys:List V),x=.ref a/\y=.ref b/\H a=some (.tup xs)/\H b=some (.tup ys)/\xs.length+ys.length<=sizeLine/\∀p H',Same H H'->H' p=some (.tup (xs++ys))->Q (.ref p) H'
def uO:R2:=fun x y H Q=>∃i j,x=.str i/\y=.str j/\i.length+j.length<=sizeLine/\Q (.str (i++j)) H
def jB:R2:=fun x y H Q=>(rI0 fun i j=>.int (i+j)) x y H Q∨jA x y H Q∨uO x y H Q∨pC x y H Q
theorem DQ{X:Cx}:OpR X (binaryOp .Add) jB:=OpR.or qm (OpR.or lH (OpR.or ZW qj))
theorem DP{K:U0a}:Fb K jB Bl:=by
 intro Γ μ σ H env S x y dx dy d hK R rx ry e Q q
 unfold Bl at e
 split at e
 .cases e;cases rx;cases ry;exact .inl ⟨_,_,rfl,rfl,q _ H (Same.refl H) (.int _)⟩
 .rename_i a b
  by_cases h:a.length+b.length<=1000000
  .rw[if_pos h] at e;cases e
   cases rx with
   |@tup p xs _ hp rp =>
    cases ry with
    |@tup p2 ys _ hp2 rp2 =>
     refine .inr (.inl ⟨p,p2,xs,ys,rfl,rfl,hp,hp2,by rw[rp.length,rp2.length];exact U2c (big h),fun t H' sm ht=>?_⟩)
     obtain⟨R2,x2⟩:=R.grow sm
     exact q _ H' sm (.tup ht ((rp.append rp2).ext x2))
  .rw[if_neg h] at e;cases e
 .rename_i a b
  by_cases h:a.length+b.length<=1000000
  .rw[if_pos h] at e;cases e;cases rx;cases ry
   exact .inr (.inr (.inl ⟨_,_,rfl,rfl,U2c (big h),q _ H (Same.refl H) (.str _)⟩))
  .rw[if_neg h] at e;cases e
 .obtain⟨a,e1,e⟩:=bind_some e
  obtain⟨b,e2,e⟩:=bind_some e
  by_cases h:a.length+b.length<=1000000
  .rw[if_pos h] at e;cases e
   obtain⟨p,xs,rfl,hp,rp⟩:=VR.list R rx e1
   obtain⟨p2,ys,rfl,hp2,rp2⟩:=VR.list R ry e2
   refine .inr (.inr (.inr ⟨p,p2,xs,ys,rfl,rfl,hp,hp2,by rw[rp.length,rp2.length];exact U2c (big h),fun t ht=>?_⟩))
   obtain⟨R2,x2⟩:=R.grow (Cz ht (.lst (xs++ys)))
   exact q _ _ (Cz ht _) (.lst (R.ok ht true) (R.dead ht) Bo ((rp.append rp2).ext x2))
  .rw[if_neg h] at e;cases e
def HY(S:Store):D->D->Option D
 |.int i,.int j=>if Mw i j=true then some (.int (i*j)) else none
 |.tup a,.int k=>if a≠[]/\1<=k/\k<2^60/\a.length*k.toNat<=1000000 then some (.tup (U0m k.toNat a).flatten) else none
 |x,.int k=>(listOf S x).bind fun a=>if -(2^63)<=k/\k<2^63/\a.length*k.toNat<=1000000 then some (.lst true (U0m k.toNat a).flatten) else none
 |_,_=>none
def j9:R2:=fun x y H Q=>(rI Vt fun i j=>.int (i*j)) x y H Q∨j8 x y H Q∨oY x y H Q
theorem JL{X:Cx}:OpR X (binaryOp .Mult) j9:=OpR.or qe (OpR.or lF aD)
theorem JK{K:U0a}:Fb K j9 HY:=by
 intro Γ μ σ H env S x y dx dy d hK R rx ry e Q q
 unfold HY at e
 split at e
 .rename_i i j
  by_cases h:Mw i j=true
  .rw[if_pos h] at e;cases e;cases rx;cases ry
   exact .inl ⟨_,_,rfl,rfl,by simpa [Mw,Vt] using h,q _ H (Same.refl H) (.int _)⟩
  .rw[if_neg h] at e;cases e
 .rename_i a k
  by_cases h:a≠[]/\1<=k/\k<2^60/\a.length*k.toNat<=1000000
  .rw[if_pos h] at e;cases e
   cases ry
   cases rx with
   |@tup p xs _ hp rp =>
    have hl:=rp.length
    refine .inr (.inl ⟨p,k,xs,rfl,rfl,hp,fun z=>h.1 (U31.mp (by rw[←hl,z];rfl)),h.2.1,h.2.2.1,by rw[hl];exact U2c (big h.2.2.2),fun t H' sm ht=>?_⟩)
    obtain⟨R2,x2⟩:=R.grow sm
    exact q _ H' sm (.tup ht ((rp.rep _).ext x2))
  .rw[if_neg h] at e;cases e
 .rename_i k _ _
  obtain⟨a,e1,e⟩:=bind_some e
  by_cases h:-(2^63)<=k/\k<2^63/\a.length*k.toNat<=1000000
  .rw[if_pos h] at e;cases e
   cases ry
   obtain⟨p,xs,rfl,hp,rp⟩:=VR.list R rx e1
   refine .inr (.inr ⟨p,k,xs,rfl,rfl,hp,h.1,h.2.1,by rw[rp.length];exact U2c (big h.2.2),fun t ht=>?_⟩)
   obtain⟨R2,x2⟩:=R.grow (Cz ht (.lst (U0m k.toNat xs).flatten))
   exact q _ _ (Cz ht _) (.lst (R.ok ht true) (R.dead ht) Bo ((rp.rep _).ext x2))
  .rw[if_neg h] at e;cases e
 .cases e
def oIx(S:Store):D->D->Option D
 |x,.int i=>(Bx S x).bind fun ds=>atI ds i
 |_,_=>none
theorem nO{Γ:Fr}{μ:Mu}{H:Hp}{xs:List V}{ds:List D}{i:Int}{d:D}(r:VRs Γ μ H xs ds)(h:atI ds i=some d):∃x,atI xs i=some x/\VR Γ μ H x d:=by
 unfold atI at h ⊢
 obtain⟨j,e1,e2⟩:=bind_some h
 obtain⟨x,f1,f2⟩:=r.get e2
 exact⟨x,by rw[r.length,e1];exact f1,f2⟩
theorem BP{K:U0a}:Fb K (rIx K) oIx:=by
 intro Γ μ σ H env S x y dx dy d hK R rx ry e Q q
 unfold oIx at e
 split at e
 .rename_i i
  obtain⟨ds,e1,e⟩:=bind_some e
  cases ry
  obtain⟨a,xs,rfl,hq,rs⟩:=VR.seq hK R rx e1
  obtain⟨v,f1,f2⟩:=nO rs e
  rcases hq with hq|hq
  .exact .inl ⟨a,xs,i,v,rfl,rfl,hq,f1,q _ H (Same.refl H) f2⟩
  .exact .inr (.inl ⟨a,xs,i,v,rfl,rfl,hq,f1,q _ H (Same.refl H) f2⟩)
 .cases e
def cut(xs:List D)(lo hi:Option Int):List D:=(xs.drop (HT.sIx xs.length 0 lo)).take (HT.sIx xs.length xs.length hi-HT.sIx xs.length 0 lo)
def oSl(S:Store)(x:D)(lo hi:Option Int):Option D:=match x with
 |.tup ds=>some (.tup (cut ds lo hi))
 |x=>(Bx S x).map fun ds=>.lst true (cut ds lo hi)
def oW:V->Option Int->Option Int->Hp->VK->Prop:=fun x lo hi H Q=>∃(a:Addr)(xs:List V),x=.ref a/\H a=some (.tup xs)/\∀p H',Same H H'->H' p=some (.tup (JV xs lo hi))->Q (.ref p) H'
def oX(K:U0a):V->Option Int->Option Int->Hp->VK->Prop:=fun x lo hi H Q=>oW x lo hi H Q∨oV K x lo hi H Q
theorem Rv{X:Cx}:SlR X (oX X.K):=SlR.or jg jh
theorem Rw{K:U0a}:jJ K (oX K) oSl:=by
 intro Γ μ σ H env S x dx d l h hK R rx e Q q
 have key:∀{xs:List V} {ds:List D} {H':Hp},VRs Γ μ H' xs ds->VRs Γ μ H' (JV xs l h) (cut ds l h):=fun r=>by
  unfold JV cut
  rw[r.length]
  exact(r.drop _).take _
 unfold oSl at e
 split at e
 .cases e
  cases rx with
  |@tup p xs _ hp rp =>
   refine .inl ⟨p,xs,rfl,hp,fun t H' sm ht=>?_⟩
   obtain⟨R2,x2⟩:=R.grow sm
   exact q _ H' sm (.tup ht (key (rp.ext x2)))
 .rename_i ht
  obtain⟨ds,e1,e2⟩:=map_some e
  subst e2
  rcases VR.Ys hK R rx e1 with ⟨es,z⟩|⟨a,xs,rfl,hq,rs⟩
  .exact absurd z (ht es)
  .refine .inr ⟨a,xs,rfl,hq,fun t htt=>?_⟩
   obtain⟨R2,x2⟩:=R.grow (Cz htt (.lst (JV xs l h)))
   exact q _ _ (Cz htt _) (.lst (R.ok htt true) (R.dead htt) Bo (key (rs.ext x2)))
def Du(S:Store):List D->Option D
 |[x]=>(Bx S x).map fun ds=>.int ds.length
 |_=>none
theorem GD{K:U0a}:Kc K (vY K) Du:=by
 intro Γ μ σ H env S xs ds d hK R rs e Q q
 unfold Du at e
 split at e
 .obtain⟨es,e1,e2⟩:=map_some e
  subst e2
  obtain⟨v,rfl,r⟩:=rs.one
  obtain⟨a,xs,rfl,hq,rx⟩:=VR.seq hK R r e1
  refine⟨a,xs,rfl,hq,?_⟩
  rw[rx.length]
  exact q _ H (Same.refl H) (.int _)
 .cases e
def Yy(S:Store):List D->Option D
 |[x]=>(Bx S x).map fun ds=>.tup ds
 |_=>none
theorem aq{K:U0a}:Kc K (fL K) Yy:=by
 intro Γ μ σ H env S xs ds d hK R rs e Q q
 unfold Yy at e
 split at e
 .rename_i x
  obtain⟨es,e1,e2⟩:=map_some e
  subst e2
  obtain⟨v,rfl,r⟩:=rs.one
  rcases VR.Ys hK R r e1 with ⟨fs,rfl⟩|⟨a,xs,rfl,hq,rx⟩
  .cases r with
   |@tup p xs _ hp rp=>cases e1;exact⟨p,xs,rfl,.inr ⟨SqT.of hp,q _ H (Same.refl H) (.tup hp rp)⟩⟩
  .refine⟨a,xs,rfl,.inl ⟨hq,fun l hl=>?_⟩⟩
   obtain⟨R2,x2⟩:=R.grow (Cz hl (.tup xs))
   exact q _ _ (Cz hl _) (.tup Bo (rx.ext x2))
 .cases e
def Lj(S:Store):List D->Option D
 |[x]=>(listOf S x).bind fun ds=>(boolsOf ds).map fun bs=>.bl (bs.all id)
 |_=>none
where boolsOf:List D->Option (List Bool)
 |[]=>some []
 |.bl b::r=>(boolsOf r).map (b::·)
 |_=>none
@[simp] theorem YB(bs:List Bool):Lj.boolsOf (bs.map D.bl)=some bs:=by
 induction bs with
 |nil=>rfl
 |cons b r ih=>rw[U0t,Lj.boolsOf,ih];rfl
theorem Qx{Γ:Fr}{μ:Mu}{H:Hp}:∀{xs:List V} {ds:List D} {bs:List Bool},VRs Γ μ H xs ds->Lj.boolsOf ds=some bs->xs=bs.map V.bl
 |_,[],_,.nil,h=>by cases h;rfl
 |_,.bl b::r,bs,.cons q t,h=>by
  rw[Lj.boolsOf] at h
  obtain⟨cs,e1,e2⟩:=map_some h
  subst e2
  cases q
  rw[U0t,Qx t e1]
 |_,.non::_,_,_,h=>by cases h
 |_,.int _::_,_,_,h=>by cases h
 |_,.str _::_,_,_,h=>by cases h
 |_,.ty _::_,_,_,h=>by cases h
 |_,.tup _::_,_,_,h=>by cases h
 |_,.lst _ _::_,_,_,h=>by cases h
 |_,.ref _::_,_,_,h=>by cases h
 |_,.scr _::_,_,_,h=>by cases h
 |_,.emp::_,_,_,h=>by cases h
def vf(K:U0a):List V->Hp->VK->Prop:=fun xs H Q=>∃(p:Addr)(bs:List Bool),xs=[.ref p]/\SqL K H p (bs.map V.bl)/\Q (.bl (bs.all id)) H
theorem YT{K:U0a}:Kc K (vf K) Lj:=by
 intro Γ μ σ H env S xs ds d hK R rs e Q q
 unfold Lj at e
 split at e
 .obtain⟨es,e1,e⟩:=bind_some e
  obtain⟨bs,e2,e3⟩:=map_some e
  subst e3
  obtain⟨v,rfl,r⟩:=rs.one
  obtain⟨a,xs,rfl,ha,rx⟩:=VR.list R r e1
  have:=Qx rx e2
  subst this
  exact⟨a,bs,rfl,SqL.of ha,q _ H (Same.refl H) (.bl _)⟩
 .cases e
def Vk(_:Store):List D->Option D
 |[.int i,.int j]=>some (.int (if j>i then j else i))
 |_=>none
def Vj(_:Store):List D->Option D
 |[.int i,.int j]=>some (.int (if j<i then j else i))
 |_=>none
def Nm(_:Store):List D->Option D
 |[.int i]=>some (.int i)
 |[.bl k]=>some (.int (if k then 1 else 0))
 |_=>none
theorem eZ{K:U0a}:Kc K (fun xs H Q=>∃i j,xs=[.int i,.int j]/\Q (.int (if j>i then j else i)) H) Vk:=by
 intro Γ μ σ H env S xs ds d hK R rs e Q q
 unfold Vk at e
 split at e
 .cases e
  obtain⟨v,u,rfl,r1,r2⟩:=rs.two
  cases r1;cases r2
  exact⟨_,_,rfl,q _ H (Same.refl H) (.int _)⟩
 .cases e
theorem eX{K:U0a}:Kc K (fun xs H Q=>∃i j,xs=[.int i,.int j]/\Q (.int (if j<i then j else i)) H) Vj:=by
 intro Γ μ σ H env S xs ds d hK R rs e Q q
 unfold Vj at e
 split at e
 .cases e
  obtain⟨v,u,rfl,r1,r2⟩:=rs.two
  cases r1;cases r2
  exact⟨_,_,rfl,q _ H (Same.refl H) (.int _)⟩
 .cases e
theorem YQ{K:U0a}:Kc K (fun xs H Q=>(∃i,xs=[.int i]/\Q (.int i) H)∨∃k,xs=[.bl k]/\Q (.int (if k then 1 else 0)) H) Nm:=by
 intro Γ μ σ H env S xs ds d hK R rs e Q q
 unfold Nm at e
 split at e
 .cases e
  obtain⟨v,rfl,r1⟩:=rs.one
  cases r1
  exact .inl ⟨_,rfl,q _ H (Same.refl H) (.int _)⟩
 .cases e
  obtain⟨v,rfl,r1⟩:=rs.one
  cases r1
  exact .inr ⟨_,rfl,q _ H (Same.refl H) (.int _)⟩
 .cases e
def Hf:List Int->Option Int
 |[]=>none
 |n::r=>some (r.foldl (fun a b=>if a<b then b else a) n)
theorem mj(r:List Int):∀n:Int,(r.foldl (fun a b=>if a<b then b else a) n=n∨r.foldl (fun a b=>if a<b then b else a) n∈r)/\n<=r.foldl (fun a b=>if a<b then b else a) n/\∀m∈r,m<=r.foldl (fun a b=>if a<b then b else a) n:=by
 induction r with
 |nil=>intro n;exact⟨.inl rfl,U4k _,fun m h=>by simp at h⟩
 |cons x r ih =>
  intro n
  rw[U2z]
  by_cases h:n<x
  .rw[if_pos h]
   obtain⟨h1,h2,h3⟩:=ih x
   refine⟨.inr (by rcases h1 with z|z;(rw[z];exact U0i);exact U0y _ z),by omega,fun m hm=>?_⟩
   rcases U0w.mp hm with z|z
   .rw[z];exact h2
   .exact h3 m z
  .rw[if_neg h]
   obtain⟨h1,h2,h3⟩:=ih n
   refine⟨by rcases h1 with z|z;exact .inl z;exact .inr (U0y _ z),h2,fun m hm=>?_⟩
   rcases U0w.mp hm with z|z
   .rw[z];omega
   .exact h3 m z
theorem QW{ns:List Int}{m:Int}(h:Hf ns=some m):m∈ns/\∀n∈ns,n<=m:=by
 cases ns with
 |nil=>cases h
 |cons x r =>
  cases h
  obtain⟨h1,h2,h3⟩:=mj r x
  refine⟨by rcases h1 with z|z;(rw[z];exact U0i);exact U0y _ z,fun n hn=>?_⟩
  rcases U0w.mp hn with z|z
  .rw[z];exact h2
  .exact h3 n z
def QG(S:Store):List D->Option D
 |[x]=>(listOf S x).bind fun ds=>(intsOf ds).bind fun ns=>(Hf ns).map .int
 |_=>none
theorem eY{K:U0a}:Kc K (fun xs H Q=>∃(p:Addr)(ns:List Int),xs=[.ref p]/\SqL K H p (ns.map V.int)/\ns≠[]/\∀m,m∈ns->(∀n∈ns,n<=m)->Q (.int m) H) QG:=by
 intro Γ μ σ H env S xs ds d hK R rs e Q q
 unfold QG at e
 split at e
 .obtain⟨es,e1,e⟩:=bind_some e
  obtain⟨ns,e2,e⟩:=bind_some e
  obtain⟨m,e3,e4⟩:=map_some e
  subst e4
  obtain⟨v,rfl,r⟩:=rs.one
  obtain⟨a,xs,rfl,ha,rx⟩:=VR.list R r e1
  have:=Gf e2
  subst this
  have:=rx.Nq
  subst this
  refine⟨a,ns,rfl,SqL.of ha,(fun z=>by rw[z] at e3;cases e3),fun m' h1 h2=>?_⟩
  obtain⟨g1,g2⟩:=QW e3
  have:m'=m:=U5n (g2 _ h1) (h2 _ g1)
  rw[this]
  exact q _ H (Same.refl H) (.int _)
 .cases e
def dJ(K:U0a)(r:List V->Hp->VK->Prop)(g:Store->List D->Option (List D)):Prop:=∀(Γ:Fr)(μ:Mu)(σ:St)(H:Hp)(env:Env)(S:Store)(xs:List V)(ds es:List D),Γ.K=K->Rep Γ μ σ H env S->VRs Γ μ H xs ds->g S ds=some es ->
 ∀Q:VK,(∀l ys,H l=none->VRs Γ μ H ys es->Q (.ref l) (upd H l (.lst ys)))->r xs H Q
def Rp(g:Store->List D->Option (List D))(a:Bg):Aw:=fun env S=>(a env S).bind fun p=>(g p.2 p.1).map fun es=>(.lst true es,p.2)
theorem jR{K:U0a}{r:List V->Hp->VK->Prop}{g:Store->List D->Option (List D)}{f:Bg}(hs:dJ K r g){σ:St}{H:Hp}{Q:VK}(h:wpE K (Rp g f) σ H Q):tCB r (wpA K f) σ H Q:=by
 obtain⟨Γ,μ,env,S,d,S',hK,R,e,q⟩:=h
 obtain⟨⟨x,S1⟩,e1,e⟩:=bind_some e
 obtain⟨z,e4,e⟩:=map_some e
 cases e
 refine⟨Γ,μ,env,S,x,S1,hK,R,e1,fun v1 μ1 H1 x1 R1 r1=>?_⟩
 refine hs Γ μ1 σ H1 env S1 v1 x _ hK R1 r1 e4 Q fun l ys hl ry=>?_
 obtain⟨R4,x4⟩:=R1.grow (Cz hl (.lst ys))
 exact q _ μ1 _ (x1.trans x4) R4 (.lst (R1.ok hl true) (R1.dead hl) Bo (ry.ext x4))
section
variable{X:Cx}{x:Str}{p pos:Pos}{e:Expr}{es:List Expr}{T:String}{f:Bg}{r:List V->Hp->VK->Prop}{g:Store->List D->Option (List D)}
theorem mD(hc:DN X (.type T) r)(hsm:dJ X.K r g)(hg:Gl X x)(hm:X.mg x=none)(hv:bootBuiltins x=some (.type T))(ha:JA X (e::es) f)(hn:x≠"__name__":=by decide)(hdb:(x==("__debug__":Str))=false:=by decide)
  (he:starEach (e::es) X.env=(false,eval e X.env)::starEach es X.env:=by rfl) (hpl:(backTo pos (starEach es X.env)).any (·.1)=false:=by rfl):JE X (.Call (.Name x p) (e::es) [] pos) (Rp g f) :=
 ⟨PE.imp (KQ hc hg hm hv ha.pa hn hdb he hpl) fun _ _ _ h=>jR hsm h⟩
end
def nList(S:Store):List D->Option (List D)
 |[x]=>Bx S x
 |_=>none
theorem fB{K:U0a}:dJ K (jr K) nList:=by
 intro Γ μ σ H env S xs ds es hK R rs e Q q
 unfold nList at e
 split at e
 .obtain⟨v,rfl,r⟩:=rs.one
  obtain⟨a,ys,rfl,hq,ry⟩:=VR.seq hK R r e
  exact⟨a,ys,rfl,hq,fun l hl=>q l ys hl ry⟩
 .cases e
end VS
end
section
namespace VS
open PySem PySem.Spec L2
mutual
def toP:D->Option PyData
 |.non=>some .none
 |.bl b=>some (.bool b)
 |.int i=>some (.int i)
 |.str x=>some (.str x)
 |.tup ds=>(HX ds).map .tuple
 |.lst _ ds=>(HX ds).map .list
 |.emp=>some (.dict [])
 |.ref _=>none
 |.scr _=>none
 |.ty _=>none
 |.dref _=>none
 |.dcf _=>none
 |.dcm _=>none
def HX:List D->Option (List PyData)
 |[]=>some []
 |d::r=>(toP d).bind fun x=>(HX r).bind fun xs=>some (x::xs)
end
mutual
theorem VR.tr{Γ:Fr}{μ:Mu}{H:Hp}:∀{v:V} {d:D} {p:PyData},VR Γ μ H v d->toP d=some p->Tr (fun _=>True) H v p
 |_,_,_,.non,h=>by rw[toP] at h;cases h;exact .non
 |_,_,_,.bl b,h=>by rw[toP] at h;cases h;exact .bl b
 |_,_,_,.int i,h=>by rw[toP] at h;cases h;exact .int i
 |_,_,_,.str x,h=>by rw[toP] at h;cases h;exact .str x
 |_,_,_,.ty _,h=>by rw[toP] at h;cases h
 |_,_,_,.tup hb t,h=>by
  rw[toP] at h
  obtain⟨ps,e1,e2⟩:=map_some h
  subst e2
  exact .tup trivial hb (VRs.tr t e1)
 |_,_,_,.lst _ _ hb t,h=>by
  rw[toP] at h
  obtain⟨ps,e1,e2⟩:=map_some h
  subst e2
  exact .lst trivial hb (VRs.tr t e1)
 |_,_,_,.ref _ _,h=>by rw[toP] at h;cases h
 |_,_,_,.scrK _,h=>by rw[toP] at h;cases h
 |_,_,_,.scrR _ _,h=>by rw[toP] at h;cases h
 |_,_,_,.emp _ _ hb,h=>by rw[toP] at h;cases h;exact .dct trivial hb
 |_,_,_,.dref _ _,h=>by rw[toP] at h;cases h
 |_,_,_,.dcf _ _ _,h=>by rw[toP] at h;cases h
theorem VRs.tr{Γ:Fr}{μ:Mu}{H:Hp}:∀{v:List V} {d:List D} {p:List PyData},VRs Γ μ H v d->HX d=some p->Ja (fun _=>True) H v p
 |_,_,_,.nil,h=>by rw[HX] at h;cases h;exact .nil
 |_,_,_,.cons r t,h=>by
  rw[HX] at h
  obtain⟨x,e1,h⟩:=bind_some h
  obtain⟨xs,e2,h⟩:=bind_some h
  cases h
  exact .cons (VR.tr r e1) (VRs.tr t e2)
end
def Ce(S:Store)(d:D):Option PyData:=(den 0 S d).bind toP
theorem VR.see{Γ:Fr}{μ:Mu}{σ:St}{H:Hp}{env:Env}{S:Store}{v:V}{d:D}{p:PyData}(R:Rep Γ μ σ H env S)(r:VR Γ μ H v d)(h:Ce S d=some p):Tr (fun _=>True) H v p:=by
 obtain⟨e,e1,e2⟩:=bind_some h
 have r1:VR ⟨Γ.K,fun _=>none,fun _=>True,[]⟩ [] H v e:=VR.den (Γ':=⟨Γ.K,fun _=>none,fun _=>True,[]⟩) R rfl (fun i ds a _ hs=>⟨hs,fun z=>⟨Hj,⟨fun _=>rfl,.inl trivial⟩⟩⟩) (fun m a _ _=>⟨fun _=>rfl,.inl trivial⟩) (fun a o _ _=>Hj) r e1
 exact r1.tr e2
def eqP(neg:Bool)(S:Store)(x y:D):Option D:=(Ce S x).bind fun p=>(Ce S y).bind fun q=>if (U2l p&&U2l q)=true then some (.bl (neg ^^ U7n p q)) else none
def oEq(neg:Bool)(S:Store):D->D->Option D
 |.int i,.int j=>some (.bl (neg ^^ decide (i=j)))
 |x,y=>eqP neg S x y
def vd:R2:=fun x y H Q=>∃(N N':Addr->Prop)(d e:PyData),Tr N H x d/\Tr N' H y e/\U2l d=true/\U2l e=true/\Q (.bl (U7n d e)) H
def vX:R2:=fun x y H Q=>∃(N N':Addr->Prop)(d e:PyData),Tr N H x d/\Tr N' H y e/\U2l d=true/\U2l e=true/\Q (.bl (!PyData.eqv d e)) H
def pA:R2:=fun x y H Q=>rEq x y H Q∨vd x y H Q
def d8:R2:=fun x y H Q=>rNe x y H Q∨vX x y H Q
theorem Lr{X:Cx}{k:Nat}(hr:Ed k X.A):OpR X (compareOp .Eq) pA:=OpR.or uY (qg hr)
theorem Lq{X:Cx}{k:Nat}(hr:Ed k X.A):OpR X (compareOp .NotEq) d8:=OpR.or uX (qd hr)
theorem Lp{K:U0a}:Fb K pA (oEq false):=by
 intro Γ μ σ H env S x y dx dy d hK R rx ry e Q q
 unfold oEq at e
 split at e
 .rename_i i j
  cases e;cases rx;cases ry
  refine .inl ⟨rfl,?_⟩
  have:decide (V.int i=V.int j)=decide (i=j):=by simp
  rw[this]
  exact q _ H (Same.refl H) (by simpa using VR.bl (decide (i=j)))
 .unfold eqP at e
  obtain⟨p,e1,e⟩:=bind_some e
  obtain⟨p2,e2,e⟩:=bind_some e
  by_cases h:(U2l p&&U2l p2)=true
  .rw[if_pos h] at e
   cases e
   rw[U00] at h
   exact .inr ⟨_,_,p,p2,rx.see R e1,ry.see R e2,h.1,h.2,q _ H (Same.refl H) (by simpa using VR.bl (U7n p p2))⟩
  .rw[if_neg h] at e;cases e
theorem Om{K:U0a}:Fb K d8 (oEq true):=by
 intro Γ μ σ H env S x y dx dy d hK R rx ry e Q q
 unfold oEq at e
 split at e
 .rename_i i j
  cases e;cases rx;cases ry
  refine .inl ⟨rfl,?_⟩
  have:decide (V.int i=V.int j)=decide (i=j):=by simp
  rw[this]
  exact q _ H (Same.refl H) (by simpa using VR.bl (!decide (i=j)))
 .unfold eqP at e
  obtain⟨p,e1,e⟩:=bind_some e
  obtain⟨p2,e2,e⟩:=bind_some e
  by_cases h:(U2l p&&U2l p2)=true
  .rw[if_pos h] at e
   cases e
   rw[U00] at h
   exact .inr ⟨_,_,p,p2,rx.see R e1,ry.see R e2,h.1,h.2,q _ H (Same.refl H) (by simpa using VR.bl (!PyData.eqv p p2))⟩
  .rw[if_neg h] at e;cases e
def Vn(D:List (PyData×PyData))(_:Store):VS.D->Option VS.D
 |.int i=>some (.bl (lookup (.int i) D).isSome)
 |_=>none
def S7(D:List (PyData×PyData))(_:Store):VS.D->Option VS.D
 |.int i=>match lookup (.int i) D with|some (.int j)=>some (.int j)|_=>none
 |_=>none
section
variable{X:Cx}{a:Expr}{fa:Aw}{x:Str}{p pos:Pos}{dM:Addr}{D:List (PyData×PyData)}
theorem pO{K:U0a}{σ:St}{H:Hp}{Q:VK}(h:wpE K (eUn (Vn D) fa) σ H Q):tOp (fun x y H Q=>∃(i:Int),x=.int i/\y=.ref dM/\Q (.bl (lookup (.int i) D).isSome) H) (wpE K fa) (tC (.ref dM)) σ H Q:=by
 obtain⟨Γ,μ,env,S,d,S',hK,R,e,q⟩:=h
 obtain⟨⟨y,S1⟩,e1,e⟩:=bind_some e
 obtain⟨z,e3,e⟩:=map_some e
 cases e
 refine⟨Γ,μ,env,S,y,S1,hK,R,e1,fun v1 μ1 H1 x1 R1 r1=>?_⟩
 dsimp only at e3
 unfold Vn at e3
 split at e3
 .cases e3;cases r1;exact⟨_,rfl,rfl,q _ μ1 H1 x1 R1 (.bl _)⟩
 .cases e3
theorem gk(hT:∀h,X.K.In h->U5g X.prog X.w h dM D)(ha:JE X a fa)(hg:Gl X x)(hm:X.mg x=some (.ref dM))(hk:behindInMarks .In (.Name x p)=false:=by with_unfolding_all rfl)(hd:(x==("__debug__":Str))=false:=by decide):JE X (.Compare a [.In] [.Name x p] pos) (eUn (Vn D) fa) :=
 ⟨PE.imp (Yc (fj hT) ha.pe (Yb (v:=.ref dM) hg hm rfl hd) hk) fun _ _ _ h=>pO h⟩
theorem gj(hT:∀h,X.K.In h->U5g X.prog X.w h dM D)(hb:JE X a fa)(hg:Gl X x)(hm:X.mg x=some (.ref dM))(hs:Qd a)(hd:(x==("__debug__":Str))=false:=by decide)
  (hgo:∀r,letTemporaryGo (.Name x p) (.ref dM) r=pure ():=by intro _;with_unfolding_all rfl):JE X (.Subscript (.Name x p) a pos) (eUn (S7 D) fa) :=
 ⟨PE.imp (fX hT (Yb (v:=.ref dM) hg hm rfl hd) hb.pe hs hgo) fun σ H Q h=>by
  obtain⟨Γ,μ,env,S,d,S',hK,R,e,q⟩:=h
  obtain⟨⟨y,S1⟩,e1,e⟩:=bind_some e
  obtain⟨z,e3,e⟩:=map_some e
  cases e
  refine⟨Γ,μ,env,S,y,S1,hK,R,e1,fun v1 μ1 H1 x1 R1 r1=>?_⟩
  dsimp only at e3
  unfold S7 at e3
  split at e3
  .split at e3
   .rename_i hl
    cases e3;cases r1;exact⟨_,_,rfl,rfl,hl,q _ μ1 H1 x1 R1 (.int _)⟩
   .cases e3
  .cases e3⟩
end
def isT(T:String)(d:PyData):Bool:=match T with
 |"str"=>(match d with|.str _=>true|_=>false)
 |T=>Vo T d
theorem lq{K:U0a}(d:PyData):U3d K (.type (tyName d)) (.type "str")=some (isT "str" d):=by
 cases d with
 |none=>exact Ca (a:="NoneType") (r:=false) (by decide +kernel)
 |bool _=>exact Ca (a:="bool") (r:=false) (by decide +kernel)
 |int _=>exact Ca (a:="int") (r:=false) (by decide +kernel)
 |str _=>exact Ca (a:="str") (r:=true) (by decide +kernel)
 |list _=>exact Ca (a:="list") (r:=false) (by decide +kernel)
 |tuple _=>exact Ca (a:="tuple") (r:=false) (by decide +kernel)
 |dict _=>exact Ca (a:="dict") (r:=false) (by decide +kernel)
def JX(S:Store):List D->Option D
 |[x,.ty "int"]=>(Ce S x).map fun p=>.bl (isT "int" p)
 |[x,.ty "bool"]=>(Ce S x).map fun p=>.bl (isT "bool" p)
 |[x,.ty "tuple"]=>(Ce S x).map fun p=>.bl (isT "tuple" p)
 |[x,.ty "list"]=>(Ce S x).map fun p=>.bl (isT "list" p)
 |[x,.ty "str"]=>(Ce S x).map fun p=>.bl (isT "str" p)
 |[x,.tup [.ty "tuple",.ty "list"]]=>(Ce S x).bind fun p=>if noDict p=true then some (.bl (isSeq p)) else none
 |_=>none
def vZ(K:U0a):List V->Hp->VK->Prop:=fun xs H Q=>∃(x:V)(T:String)(t:Value)(b:Bool),xs=[x,.ty T]/\JD K H x t/\U3d K t (.type T)=some b/\Q (.bl b) H
def uM:List V->Hp->VK->Prop:=fun xs H Q=>∃(N:Addr->Prop)(x:V)(d:PyData)(p:Addr),xs=[x,.ref p]/\H p=some (.tup [.ty "tuple",.ty "list"])/\Tr N H x d/\noDict d=true/\Q (.bl (isSeq d)) H
def Z7(K:U0a):List V->Hp->VK->Prop:=fun xs H Q=>vZ K xs H Q∨uM xs H Q
theorem K3{X:Cx}:DN X (.builtin "isinstance") (Z7 X.K):=DN.or Y8 Vb
theorem La{K:U0a}:Kc K (Z7 K) JX:=by
 intro Γ μ σ H env S xs ds d hK R rs e Q q
 have go:∀(T:String)(x:D),(∀p:PyData,U3d K (.type (tyName p)) (.type T)=some (isT T p))->ds=[x,.ty T]->((Ce S x).map fun p=>D.bl (isT T p))=some d->Z7 K xs H Q:=fun T x hk hd e'=>by
  subst hd
  obtain⟨p,e1,e2⟩:=map_some e'
  subst e2
  obtain⟨v,u,rfl,r1,r2⟩:=rs.two
  cases r2
  exact .inl ⟨v,T,_,_,rfl,(r1.see R e1).ty,hk p,q _ H (Same.refl H) (.bl _)⟩
 unfold JX at e
 split at e
 .exact go "int" _ lu rfl e
 .exact go "bool" _ gb rfl e
 .exact go "tuple" _ kit_tuple rfl e
 .exact go "list" _ gZ rfl e
 .exact go "str" _ lq rfl e
 .obtain⟨p,e1,e⟩:=bind_some e
  by_cases h:noDict p=true
  .rw[if_pos h] at e
   cases e
   obtain⟨v,u,rfl,r1,r2⟩:=rs.two
   cases r2 with
   |@tup a ys _ ha ry =>
    cases ry with
    |cons q1 t1 =>
     cases t1 with
     |cons q2 t2 =>
      cases t2;cases q1;cases q2
      exact .inr ⟨_,v,p,a,rfl,ha,r1.see R e1,h,q _ H (Same.refl H) (.bl _)⟩
  .rw[if_neg h] at e;cases e
 .cases e
def FT(S:Store):List D->Option D
 |[x]=>(Ce S x).bind fun p=>if (p.showable&&decide (p.depth<=60)&&decide (p.shown.length<=1000000))=true then some (.str p.shown) else none
 |_=>none
def uL:List V->Hp->VK->Prop:=fun xs H Q=>∃(N:Addr->Prop)(v:V)(d:PyData),xs=[v]/\Tr N H v d/\d.showable=true/\d.depth<=60/\d.shown.length<=sizeLine/\Q (.str d.shown) H
theorem Nt{K:U0a}:Kc K uL FT:=by
 intro Γ μ σ H env S xs ds d hK R rs e Q q
 unfold FT at e
 split at e
 .obtain⟨p,e1,e⟩:=bind_some e
  by_cases h:(p.showable&&decide (p.depth<=60)&&decide (p.shown.length<=1000000))=true
  .rw[if_pos h] at e
   cases e
   simp only[U00,decide_eq_true_eq] at h
   obtain⟨v,rfl,r1⟩:=rs.one
   exact⟨_,v,p,rfl,r1.see R e1,h.1.1,h.1.2,U2c (big h.2),q _ H (Same.refl H) (.str _)⟩
  .rw[if_neg h] at e;cases e
 .cases e
def FP(ns:List Int):List Int:=(SetP.once ns).mergeSort fun a b=>decide (a<=b)
theorem SM{ns ms:List Int}(h:ms.Perm (SetP.once ns))(s:ms.Pairwise (·<=·)):ms=FP ns:=by
 have h2:(FP ns).Perm (SetP.once ns):=U5h _ _
 have s2:(FP ns).Pairwise (·<=·):=by
  have:=List.pairwise_mergeSort (le:=fun a b:Int=>decide (a<=b)) (by intro a b c h1 h2;simp at *;omega) (by intro a b;simp;omega) (SetP.once ns)
  exact this.imp fun h=>by simpa using h
 exact U41.eq_of_pairwise (fun a b _ _ h1 h2=>U5n h1 h2) s s2 (h.trans h2.symm)
def RV(a:Aw):Aw:=fun env S=>(a env S).bind fun p=>(listOf p.2 p.1).bind fun ds=>(intsOf ds).bind fun ns=>if ns.length<1000/\(SetP.once ns).length<64 then some (.lst true ((FP ns).map .int),p.2) else none
theorem Zi{X:Cx}{a:Expr}{f:Aw}{p p2 pos pos2:Pos}(hc:X.calm=true)(ha:JE X a f)(hg:Gl X "sorted")(hm:X.mg "sorted"=none)(hg2:Gl X "set")(hm2:X.mg "set"=none) 
  (he:starEach [a] X.env=[(false,eval a X.env)]:=by rfl) (he2:starEach [.Call (.Name "set" p2) [a] [] pos2] X.env=[(false,eval (.Call (.Name "set" p2) [a] [] pos2) X.env)]:=by rfl):JE X (.Call (.Name "sorted" p) [.Call (.Name "set" p2) [a] [] pos2] [] pos) (RV f) :=
 ⟨PE.imp (WT (Uc hc) hg hm cW (NT (KQ (iU hc) hg2 hm2 sI (NT ha.pe Ou he) (he:=he) (hpl:=rfl)) Ou he2) (he:=he2) (hpl:=rfl)) fun σ H Q h=>by
  obtain⟨Γ,μ,env,S,d,S',hK,R,e,q⟩:=h
  obtain⟨⟨y,S1⟩,e1,e⟩:=bind_some e
  obtain⟨ds,e2,e⟩:=bind_some e
  obtain⟨ns,e3,e⟩:=bind_some e
  by_cases hl:ns.length<1000/\(SetP.once ns).length<64
  .rw[if_pos hl] at e
   cases e
   refine⟨Γ,μ,env,S,y,_,hK,R,e1,fun v1 μ1 H1 x1 R1 r1=>?_⟩
   obtain⟨b,xs,rfl,hb,rb⟩:=VR.list R1 r1 e2
   have:=Gf e3
   subst this
   have:=rb.Nq
   subst this
   refine⟨b,ns,rfl,SqL.of hb,hl.1,fun s hs=>?_⟩
   obtain⟨R2,x2⟩:=R1.grow (Cz hs (Vl X.prog X.w s (SetP.once ns)))
   refine⟨s,_,rfl,Bo,hl.2,fun l ms hl' hp hsrt=>?_⟩
   have:=SM hp hsrt
   subst this
   obtain⟨R3,x3⟩:=R2.grow (Cz hl' (.lst ((FP ns).map V.int)))
   exact q _ μ1 _ (x1.trans (x2.trans x3)) R3 (.lst (R2.ok hl' true) (R2.dead hl') Bo (VRs.ints _))
  .rw[if_neg hl] at e;cases e⟩
def Jk(a:Bg):Aw:=fun env S=>(a env S).bind fun p=>match p.1 with
 |[.int j]=>if r62 j/\j.toNat<=1000 then some (.lst true (upD 0 j.toNat),p.2) else none
 |[.int i,.int j]=>if r62 i/\r62 j/\(j-i).toNat<=1000 then some (.lst true (upD i (j-i).toNat),p.2) else none
 |_=>none
theorem jW{Γ:Fr}{μ:Mu}{H:Hp}(lo:Int)(n:Nat):VRs Γ μ H ((upTo lo n).map V.int) (upD lo n):=by
 have:upD lo n=(upTo lo n).map D.int:=by unfold upD L2.upTo;rw[U0e];rfl
 rw[this];exact VRs.ints _
def WR:List V->Hp->VK->Prop:=fun xs H Q=>(∃(n:Int),xs=[.int n]/\∀p,H p=none->Q (.ref p) (upd H p (.rng 0 n)))∨∃(a b:Int),xs=[.int a,.int b]/\∀p,H p=none->Q (.ref p) (upd H p (.rng a b))
theorem Xb{X:Cx}:DN X (.type "range") WR:=DN.or Y7 Y6
theorem Wz{K:U0a}{f:Bg}{σ:St}{H:Hp}{Q:VK} (h:∃Γ μ env S ds S',Γ.K=K/\Rep Γ μ σ H env S/\f env S=some (ds,S')/\∃lo n,((∃j,ds=[.int j]/\r62 j/\j.toNat<=1000/\lo=0/\n=j.toNat)∨∃i j,ds=[.int i,.int j]/\r62 i/\r62 j/\(j-i).toNat<=1000/\lo=i/\n=(j-i).toNat) /\
   ∀μ' H',Ext μ H μ' H'->Rep Γ μ' σ H' env S'->∀l,H' l=none->Q (.ref l) (upd H' l (.lst ((upTo lo n).map V.int)))) :
  tCB (fun xs H Q=>∃(r:Addr)(lo hi:Int),xs=[.ref r]/\H r=some (.rng lo hi)/\-(2^62)<=lo/\lo<2^62/\-(2^62)<=hi/\hi<2^62/\(hi-lo).toNat<=1000/\∀l,H l=none->Q (.ref l) (upd H l (.lst ((upTo lo (hi-lo).toNat).map V.int)))) (j5 (tCB WR (wpA K f)) oM) σ H Q:=by
 obtain⟨Γ,μ,env,S,ds,S',hK,R,e1,lo,n,hc,q⟩:=h
 refine⟨Γ,μ,env,S,ds,S',hK,R,e1,fun vs μ1 H1 x1 R1 r1=>?_⟩
 rcases hc with ⟨j,rfl,h1,h2,rfl,rfl⟩|⟨i,j,rfl,h1,h2,h3,rfl,rfl⟩
 .obtain⟨v,rfl,r⟩:=r1.one
  cases r
  refine .inl ⟨j,rfl,fun p hp=>⟨p,0,j,rfl,Bo,by decide,by decide,h1.1,h1.2,by simpa using h2,fun l hl=>?_⟩⟩
  obtain⟨R2,x2⟩:=R1.grow (Cz hp (.rng 0 j))
  have:=q μ1 _ (x1.trans x2) R2 l hl
  simpa using this
 .obtain⟨v,u,rfl,r,r'⟩:=r1.two
  cases r
  cases r'
  refine .inr ⟨lo,j,rfl,fun p hp=>⟨p,lo,j,rfl,Bo,h1.1,h1.2,h2.1,h2.2,h3,fun l hl=>?_⟩⟩
  obtain⟨R2,x2⟩:=R1.grow (Cz hp (.rng lo j))
  exact q μ1 _ (x1.trans x2) R2 l hl
section
variable{X:Cx}{a:Expr}{as:List Expr}{f:Bg}{p p2 pos pos2:Pos}
theorem XQ(hc:X.calm=true)(ha:JA X (a::as) f)(hg:Gl X "list")(hm:X.mg "list"=none)(hg2:Gl X "range")(hm2:X.mg "range"=none)
  (he:starEach (a::as) X.env=(false,eval a X.env)::starEach as X.env:=by rfl) (hpl:(backTo pos2 (starEach as X.env)).any (·.1)=false:=by rfl) (he2:starEach [.Call (.Name "range" p2) (a::as) [] pos2] X.env=[(false,eval (.Call (.Name "range" p2) (a::as) [] pos2) X.env)]:=by rfl) :
  JE X (.Call (.Name "list" p) [.Call (.Name "range" p2) (a::as) [] pos2] [] pos) (Jk f) :=
 ⟨PE.imp (KQ (Ud hc) hg hm Tz (NT (KQ Xb hg2 hm2 iY ha.pa (he:=he) (hpl:=hpl)) Ou he2) (he:=he2) (hpl:=rfl)) fun σ H Q h=>by
  obtain⟨Γ,μ,env,S,d,S',hK,R,e,q⟩:=h
  obtain⟨⟨ds,S1⟩,e1,e⟩:=bind_some e
  refine Wz ⟨Γ,μ,env,S,ds,S1,hK,R,e1,?_⟩
  have fin:∀lo n,d=.lst true (upD lo n)->S1=S'->∀μ' H',Ext μ H μ' H'->Rep Γ μ' σ H' env S1->∀l,H' l=none->Q (.ref l) (upd H' l (.lst ((upTo lo n).map V.int))):=fun lo n hd hs μ' H' x' R' l hl=>by
   subst hd hs
   obtain⟨R2,x2⟩:=R'.grow (Cz hl (.lst ((upTo lo n).map V.int)))
   exact q _ μ' _ (x'.trans x2) R2 (.lst (R'.ok hl true) (R'.dead hl) Bo (jW lo n))
  dsimp only at e
  split at e
  .rename_i j
   by_cases hj:r62 j/\j.toNat<=1000
   .rw[if_pos hj] at e;cases e
    exact⟨0,_,.inl ⟨j,rfl,hj.1,hj.2,rfl,rfl⟩,fin _ _ rfl rfl⟩
   .rw[if_neg hj] at e;cases e
  .rename_i i j
   by_cases hj:r62 i/\r62 j/\(j-i).toNat<=1000
   .rw[if_pos hj] at e;cases e
    exact⟨i,_,.inr ⟨i,j,rfl,hj.1,hj.2.1,hj.2.2,rfl,rfl⟩,fin _ _ rfl rfl⟩
   .rw[if_neg hj] at e;cases e
  .cases e⟩
end
end VS
end
section
namespace VS
open PySem PySem.Spec L2
def Ru(K:U0a):Sp:=fun vs H Q _=>∃(l:Addr)(ns:List Int),vs=[.ref l]/\Only H/\ns.length<=63/\SqL K H l (ns.map V.int)/\∀H',Q (.bl true) H'
theorem rB{K:U0a}{sem:Cy}(h:∀ns:List Int,ns.length<=63->sem [.scr ns]=some (.bl true)):∀vs H Q E,Ru K vs H Q E->spP K sem 1 vs H Q E:=by
 intro vs H Q E ⟨l,ns,e,hO,hl,hq,q⟩
 subst e
 refine⟨fun _=>False,[.scr ns],.bl true,rfl,.cons ?_ .nil,h ns hl,fun v H' sm rv=>?_⟩
 .rcases hq with hq|hq
  .rcases hq with hq|⟨o,hq⟩
   .rcases hO l with z|⟨o,xs,z⟩
    .rw[z] at hq;cases hq
    .rw[z] at hq;cases hq
   .exact .scrR Hj hq
  .exact .scrK fun H'=>.inr hq
 .cases rv;exact q H'
theorem mq{P:Program}{w:World}{K:U0a}{mg:Str->Option Value}{base:Heap}{k:Nat}{f:Addr}{fd:FuncData}{ps:List Str}{n:Nat}(hn:n=ps.length):DG P w K mg base CX0 k f fd ps (spP K (fun _=>none) n) :=
 ⟨fun vs H Q E ⟨_,_,_,hl,_⟩=>hl.trans hn,fun A outer s H args us vs Q E hr e0 hb hv ⟨_,_,_,_,_,e,_⟩=>by cases e⟩
end VS
end
section
namespace VS
open PySem L2
theorem GF(a b:BL)(env:VS.Env)(S:Store):VS.Bq a b env S=(a env S).bind fun p=>match p.1 with|.nx=>b p.2.1 p.2.2|f=>some (f,p.2.1,p.2.2):=rfl
theorem Cm(i:Nat)(a:Aw)(env:VS.Env)(S:Store):VS.Bu i a env S=(a env S).bind fun p=>some (.nx,env.set i (some p.1),p.2):=rfl
theorem Ci(a:Aw)(env:VS.Env)(S:Store):VS.Cw a env S=(a env S).bind fun p=>some (.ret p.1,env,p.2):=rfl
theorem Hg(c:El)(a b:BL)(env:VS.Env)(S:Store):VS.sIf c a b env S=(c env S).bind fun p=>if p.1=true then a env p.2 else b env p.2:=rfl
theorem jl(a:Aw)(g:JZ)(env:VS.Env)(S:Store):VS.Yt a g env S=(a env S).bind fun p=>(g p.1 env).bind fun e=>some (.nx,e,p.2):=rfl
theorem Lb(a:Aw)(env:VS.Env)(S:Store):VS.J8 a env S=(a env S).bind fun p=>some (.nx,env,p.2):=rfl
theorem Hw(env:VS.Env)(S:Store):VS.FJ  env S=some (.nx,env,S):=rfl
theorem bF(env:VS.Env)(S:Store):VS.Ot  env S=none:=rfl
theorem Gj(it:Jw)(g:JZ)(b:BL)(env:VS.Env)(S:Store):VS.Jv it g b env S=(it env S).bind fun p=>loop p.1.2 g b p.1.1 env p.2:=rfl
theorem JQ(v o i:Aw)(env:VS.Env)(S:Store):VS.Jd v o i env S=(v env S).bind fun p=>(o env p.2).bind fun q=>(i env q.2).bind fun r=>match q.1,r.1 with
 |.ref j,.int k=>(match r.2[j]? with
  |some (some ds)=>(ixN ds.length k).bind fun n=>some (.nx,env,r.2.set j (some (ds.set n p.1)))
  |_=>none)
 |_,_=>none:=rfl
theorem Ay(i:Nat)(env:VS.Env)(S:Store):VS.Ab i env S=(env[i]?.join).map fun d=>(d,S):=rfl
theorem EY(d:D)(env:VS.Env)(S:Store):VS.eC d env S=some (d,S):=rfl
theorem BJ(g:Store->D->D->Option D)(a b:Aw)(env:VS.Env)(S:Store):VS.eOp g a b env S=(a env S).bind fun p=>(b env p.2).bind fun q=>(g q.2 p.1 q.1).map fun d=>(d,q.2):=rfl
theorem rT(g:Store->D->Option D)(a:Aw)(env:VS.Env)(S:Store):VS.eUn g a env S=(a env S).bind fun p=>(g p.2 p.1).map fun d=>(d,p.2):=rfl
theorem CT(env:VS.Env)(S:Store):VS.Af  env S=some ([],S):=rfl
theorem Aq(a:Aw)(r:Bg)(env:VS.Env)(S:Store):VS.Aa a r env S=(a env S).bind fun p=>(r env p.2).bind fun q=>some (p.1::q.1,q.2):=rfl
theorem Eh(g:Store->List D->Option D)(a:Bg)(env:VS.Env)(S:Store):VS.eCB g a env S=(a env S).bind fun p=>(g p.2 p.1).map fun d=>(d,p.2):=rfl
theorem Tv(a b:Aw)(env:VS.Env)(S:Store):VS.TQ a b env S=(a env S).bind fun p=>match p.1 with|.bl true=>b env p.2|.bl false=>some (.bl false,p.2)|_=>none:=rfl
theorem nF(a:Aw)(env:VS.Env)(S:Store):VS.dH a env S=(a env S).bind fun p=>match p.1 with|.bl c=>some (.bl (!c),p.2)|_=>none:=rfl
theorem Pr(g g':Store->D->D->Option D)(a b c:Aw)(env:VS.Env)(S:Store):VS.PB g g' a b c env S=(a env S).bind fun p=>(b env p.2).bind fun q=>(g q.2 p.1 q.1).bind fun z=>match z with
 |.bl true=>(c env q.2).bind fun r=>(g' r.2 q.1 r.1).map fun d=>(d,r.2)
 |.bl false=>some (.bl false,q.2)
 |_=>none:=rfl
theorem Cr(a:Aw)(env:VS.Env)(S:Store):VS.Bf a env S=(a env S).bind fun p=>match p.1 with|.bl c=>some (c,p.2)|_=>none:=rfl
theorem QJ(a b:El)(env:VS.Env)(S:Store):VS.Nh a b env S=(a env S).bind fun p=>if p.1=true then b env p.2 else some (false,p.2):=rfl
theorem Rt(a b:El)(env:VS.Env)(S:Store):VS.tOr a b env S=(a env S).bind fun p=>if p.1=true then some (true,p.2) else b env p.2:=rfl
theorem QH(a:El)(env:VS.Env)(S:Store):VS.Il a env S=(a env S).bind fun p=>some (!p.1,p.2):=rfl
theorem gB(env:VS.Env)(S:Store):VS.Hs  env S=some (none,S):=rfl
theorem fu(a:Aw)(env:VS.Env)(S:Store):VS.Hr a env S=(a env S).bind fun p=>match p.1 with|.int i=>some (some i,p.2)|_=>none:=rfl
theorem rW(g:Store->D->Option Int->Option Int->Option D)(a:Aw)(l h:R7)(env:VS.Env)(S:Store):VS.eSl g a l h env S=(a env S).bind fun p=>(l env p.2).bind fun q=>(h env q.2).bind fun r=>(g r.2 p.1 q.1 r.1).map fun d=>(d,r.2):=rfl
theorem Ds(a:Bg)(env:VS.Env)(S:Store):VS.Cg a env S=(a env S).bind fun p=>some (.lst true p.1,p.2):=rfl
theorem Tt(a:Bg)(env:VS.Env)(S:Store):VS.Mv a env S=(a env S).bind fun p=>some (.ref p.2.length,p.2++[some p.1]):=rfl
theorem GQ(a:Bg)(env:VS.Env)(S:Store):VS.Bw a env S=(a env S).bind fun p=>some (.tup p.1,p.2):=rfl
theorem G3(sem:Cy)(a:Bg)(env:VS.Env)(S:Store):VS.BK sem a env S=(a env S).bind fun p=>(Cu 0 p.2 p.1).bind fun ds=>(sem (Bk ds)).bind fun r=>if (Az p.1||newD r)=true then some (r,p.2) else none:=rfl
theorem V1(sem:Ln)(a:Bg)(env:VS.Env)(S:Store):VS.Bm sem a env S=(a env S).bind fun p=>match p.1 with
 |.ref i::rest=>(match p.2[i]? with
  |some (some cs)=>(intsOf cs).bind fun ns=>(Cu 0 (p.2.set i none) rest).bind fun ds=>(sem ns (Bk ds)).bind fun r=>if (Az rest||newD r.1)=true then some (r.1,p.2.set i (some (r.2.map D.int))) else none
  |_=>none)
 |_=>none:=rfl
theorem cI(sem:Cy)(a:Bg)(env:VS.Env)(S:Store):VS.KH sem a env S=(BK sem a env S).bind fun p=>(Oh p.2.length p.1).bind fun q=>some (q.1,p.2++[some q.2]):=rfl
theorem Ws(g:Store->D->List D->Option (D×Store))(o:Aw)(a:Bg)(env:VS.Env)(S:Store):VS.Hu g o a env S=(o env S).bind fun p=>if (listOf p.2 p.1).isSome then (a env p.2).bind fun q=>g q.2 p.1 q.1 else none:=rfl
theorem iH(g:Store->List D->Option (List D))(a:Bg)(env:VS.Env)(S:Store):VS.Rp g a env S=(a env S).bind fun p=>(g p.2 p.1).map fun es=>(.lst true es,p.2):=rfl
theorem VP(a:Bg)(env:VS.Env)(S:Store):VS.Jk a env S=(a env S).bind fun p=>match p.1 with
 |[.int j]=>if r62 j/\j.toNat<=1000 then some (.lst true (upD 0 j.toNat),p.2) else none
 |[.int i,.int j]=>if r62 i/\r62 j/\(j-i).toNat<=1000 then some (.lst true (upD i (j-i).toNat),p.2) else none
 |_=>none:=rfl
theorem Y0(a:Aw)(env:VS.Env)(S:Store):VS.RV a env S=(a env S).bind fun p=>(listOf p.2 p.1).bind fun ds=>(intsOf ds).bind fun ns=>if ns.length<1000/\(SetP.once ns).length<64 then some (.lst true ((FP ns).map .int),p.2) else none:=rfl
theorem Gz(a:Aw)(env:VS.Env)(S:Store):VS.Ec a env S=(a env S).bind fun p=>(Bx p.2 p.1).map fun ds=>((ds,idOf ds p.1),p.2):=rfl
theorem Dg(np n:Nat)(f:BL)(ds:List D):VS.Ey np n f ds=if ds.length=np then (f (ds.map some++U0m (n-ds.length) none) []).bind fun p=>match p.1 with|.ret d=>den 0 p.2.2 d|.nx=>some .non|_=>none else none:=rfl
theorem Ld(np n:Nat)(f:BL)(ns:List Int)(ds:List D):VS.runM np n f ns ds=if ds.length+1=np then (f (some (.ref 0)::(ds.map some++U0m (n-1-ds.length) none)) [some (ns.map D.int)]).bind fun p=>match p.2.2[0]? with
 |some (some cs)=>(intsOf cs).bind fun ms=>(match p.1 with|.ret d=>(den 1 p.2.2 d).map fun r=>(r,ms)|.nx=>some (.non,ms)|_=>none)
 |_=>none
 else none:=rfl
theorem Dy(i:Nat)(d:D)(env:VS.Env):Pat.sem (.nm i) d env=some (env.set i (some d)):=by rw[Pat.sem]
theorem K9(ps:List Pat)(ds:List D)(env:VS.Env):Pat.sem (.tp ps) (.tup ds) env=Gu ps ds env:=by rw[Pat.sem]
theorem Hi(env:VS.Env):Gu [] [] env=some env:=by rw[Gu]
theorem Gp(p:Pat)(ps:List Pat)(d:D)(ds:List D)(env:VS.Env):Gu (p::ps) (d::ds) env=(Pat.sem p d env).bind fun e=>Gu ps ds e:=by rw[Gu]
@[simp] theorem wM(S:Store):calm [] S=True:=by simp[calm]
@[simp] theorem wL(i:Nat)(ds:List D)(S:Store):calm [(i,ds)] S=(S[i]?=some (some ds)):=by simp[calm]
@[simp] theorem wg{α:Type}(S:List α)(a:α):(S++[a])[S.length]?=some a:=by simp
@[simp] theorem wW{α:Type}(S:List α)(a b:α):(S++[a]).set S.length b=S++[b]:=by simp
theorem NZ{n k:Nat}(h:k<n):ixN n (k:Int)=some k:=by
 unfold ixN
 rw[if_pos (by omega),if_pos (by omega)];simp
@[simp] theorem um{n:Nat}:ixN (n+1) 0=some 0:=NZ (k:=0) (by omega)
@[simp] theorem uh{n:Nat}:ixN (n+2) 1=some 1:=NZ (k:=1) (by omega)
@[simp] theorem ug{n:Nat}:ixN (n+3) 2=some 2:=NZ (k:=2) (by omega)
@[simp] theorem uf{n:Nat}:ixN (n+4) 3=some 3:=NZ (k:=3) (by omega)
@[simp] theorem xK{α:Type}(a:α)(l:List α):atI (a::l) 0=some a:=by unfold atI;rw[U0g,um];rfl
@[simp] theorem xJ{α:Type}(a b:α)(l:List α):atI (a::b::l) 1=some b:=by unfold atI;rw[U0g,U0g,uh];rfl
@[simp] theorem xH{α:Type}(a b c:α)(l:List α):atI (a::b::c::l) 2=some c:=by unfold atI;rw[U0g,U0g,U0g,ug];rfl
@[simp] theorem xG{α:Type}(a b c d:α)(l:List α):atI (a::b::c::d::l) 3=some d:=by unfold atI;rw[U0g,U0g,U0g,U0g,uf];rfl
theorem lW{w:List (Nat×List D)}{g:JZ}{b:BL}(I:Nat->Env->Store->Prop)(R:D->Store->Prop){ds:List D}{env:Env}{S:Store}(h0:I 0 env S)(hc:∀i env S,I i env S->calm w S)
  (step:∀i d env S,ds[i]?=some d->I i env S->∃env1,g d env=some env1/\((∃env2 S2,(b env1 S=some (.nx,env2,S2)∨b env1 S=some (.cnt,env2,S2))/\I (i+1) env2 S2)∨∃r env2 S2,b env1 S=some (.ret r,env2,S2)/\R r S2)) :
  (∃env' S',loop w g b ds env S=some (.nx,env',S')/\I ds.length env' S')∨∃r env' S',loop w g b ds env S=some (.ret r,env',S')/\R r S':=by
 have key:∀(l:List D)(i:Nat)(env:Env)(S:Store),ds.drop i=l->i<=ds.length->I i env S->(∃env' S',loop w g b l env S=some (.nx,env',S')/\I ds.length env' S')∨∃r env' S',loop w g b l env S=some (.ret r,env',S')/\R r S':=by
  intro l
  induction l with
  |nil =>
   intro i env S hd hi h
   have:i=ds.length:=by
    have:=congrArg U5d hd
    simp at this;omega
   subst this
   exact .inl ⟨env,S,by unfold loop;rw[if_pos (hc _ _ _ h)],h⟩
  |cons d r ih =>
   intro i env S hd hi h
   have hlt:i<ds.length:=by
    have:=congrArg U5d hd
    simp at this;omega
   have e:ds[i]?=some d:=by
    rw[U29 hlt] at hd
    rw[U0h hlt,(U6r hd).1]
   have hr:ds.drop (i+1)=r:=by
    rw[U29 hlt] at hd
    exact(U6r hd).2
   obtain⟨env1,e1,q⟩:=step i d env S e h
   rcases q with ⟨env2,S2,e2,q⟩|⟨v,env2,S2,e2,q⟩
   .have e3:loop w g b (d::r) env S=loop w g b r env2 S2:=by
     rcases e2 with e2|e2<;>(rw[loop,if_pos (hc _ _ _ h),e1];show(b env1 S).bind _=_;rw[e2];rfl)
    rw[e3]
    exact ih (i+1) env2 S2 hr hlt q
   .refine .inr ⟨v,env2,S2,?_,q⟩
    rw[loop,if_pos (hc _ _ _ h),e1]
    show(b env1 S).bind _=_
    rw[e2];rfl
 exact key ds 0 env S (by simp) (U3h _) h0
theorem G8{w:List (Nat×List D)}{g:JZ}{b:BL}(I:Nat->Env->Store->Prop){ds:List D}{env:Env}{S:Store}(h0:I 0 env S)(hc:∀i env S,I i env S->calm w S)
  (step:∀i d env S,ds[i]?=some d->I i env S->∃env1,g d env=some env1/\∃env2 S2,b env1 S=some (.nx,env2,S2)/\I (i+1) env2 S2) :
  ∃env' S',loop w g b ds env S=some (.nx,env',S')/\I ds.length env' S':=by
 rcases lW I (fun _ _=>False) h0 hc (fun i d env S e h=>by
  obtain⟨env1,e1,env2,S2,e2,q⟩:=step i d env S e h
  exact⟨env1,e1,.inl ⟨env2,S2,.inl e2,q⟩⟩) with h|⟨_,_,_,_,h⟩
 .exact h
 .exact h.elim
theorem comp_map{w:List (Nat×List D)}{e0:Env}{g:JZ}{t:El}{f:Aw}{S:Store}(hc:calm w S)(p:D->Bool)(F:D->D):∀(ds ys:List D),ys.length+ds.length<=1000000 ->
  (∀d∈ds,∃e1,g d e0=some e1/\t e1 S=some (p d,S)/\(p d=true->f e1 S=some (F d,S)))->FQ w e0 g t f ds ys S=some (ys++(ds.filter p).map F,S)
 |[],ys,hl,_=>by unfold FQ;rw[if_pos ⟨hc,by simpa using hl⟩];simp
 |d::r,ys,hl,h=>by
  rw[U0g] at hl
  obtain⟨e1,h1,h2,h3⟩:=h d U0i
  unfold FQ
  rw[if_pos ⟨hc,by omega⟩,h1]
  show(t e1 S).bind _=_
  rw[h2]
  show(if p d=true then _ else _)=_
  have hr:∀x∈r,_:=fun x hx=>h x (U0y _ hx)
  by_cases hp:p d=true
  .rw[if_pos hp,h3 hp]
   show FQ w e0 g t f r (ys++[F d]) S=_
   rw[comp_map hc p F r (ys++[F d]) (by rw[U0q];simp;omega) hr,List.filter_cons_of_pos hp]
   simp
  .rw[if_neg hp,List.filter_cons_of_neg hp]
   exact comp_map hc p F r ys (by omega) hr
theorem Wu{w:List (Nat×List D)}{e0:Env}{g:JZ}{f:Aw}{S:Store}(hc:calm w S)(F:D->D)(ds:List D)(hl:ds.length<=1000000)(h:∀d∈ds,∃e1,g d e0=some e1/\f e1 S=some (F d,S)):FQ w e0 g Gh f ds [] S=some (ds.map F,S):=by
 have:=comp_map (t:=Gh) hc (fun _=>true) F ds [] (by simpa using hl) (fun d hd=>let ⟨e1,h1,h2⟩:=h d hd;⟨e1,h1,rfl,fun _=>h2⟩)
 rw[this,U16,List.filter_eq_self.mpr (by simp)]
theorem iR{w:List (Nat×List D)}{e0:Env}{g:JZ}{f:Aw}(I:Nat->List D->Store->Prop){ds:List D}{S:Store}(h0:I 0 [] S)(hc:∀i ys S,I i ys S->calm w S/\ys.length<=1000000)
  (step:∀i d ys S,ds[i]?=some d->I i ys S->∃e1 y S2,g d e0=some e1/\f e1 S=some (y,S2)/\I (i+1) (ys++[y]) S2):∃ys S',FQ w e0 g Gh f ds [] S=some (ys,S')/\I ds.length ys S':=by
 have key:∀(l:List D)(i:Nat)(ys:List D)(S:Store),ds.drop i=l->i<=ds.length->I i ys S->∃ys' S',FQ w e0 g Gh f l ys S=some (ys',S')/\I ds.length ys' S':=by
  intro l
  induction l with
  |nil =>
   intro i ys S hd hi h
   have:i=ds.length:=by
    have:=congrArg U5d hd
    simp at this;omega
   subst this
   exact⟨ys,S,by unfold FQ;rw[if_pos (hc _ _ _ h)],h⟩
  |cons d r ih =>
   intro i ys S hd hi h
   have hlt:i<ds.length:=by
    have:=congrArg U5d hd
    simp at this;omega
   have e:ds[i]?=some d:=by
    rw[U29 hlt] at hd
    rw[U0h hlt,(U6r hd).1]
   have hr:ds.drop (i+1)=r:=by
    rw[U29 hlt] at hd
    exact(U6r hd).2
   obtain⟨e1,y,S2,h1,h2,h3⟩:=step i d ys S e h
   obtain⟨ys',S',h4,h5⟩:=ih (i+1) (ys++[y]) S2 hr hlt h3
   refine⟨ys',S',?_,h5⟩
   unfold FQ
   rw[if_pos (hc _ _ _ h),h1]
   simp only[U0c,Gh,if_true,h2]
   exact h4
 exact key ds 0 [] S (by simp) (U3h _) h0
theorem Lg{α:Type}{w:List (Nat×List D)}{e0:VS.Env}{g:JZ}{t:El}{f:Aw}{S:Store}(hc:calm w S)(enc:α->D)(p:α->Bool)(F:α->D):∀(l:List α)(ys:List D),ys.length+l.length<=1000000 ->
  (∀a∈l,∃e1,g (enc a) e0=some e1/\t e1 S=some (p a,S)/\(p a=true->f e1 S=some (F a,S)))->FQ w e0 g t f (l.map enc) ys S=some (ys++(l.filter p).map F,S)
 |[],ys,hl,_=>by rw[U1w,FQ,if_pos ⟨hc,by simpa using hl⟩];simp
 |d::r,ys,hl,h=>by
  rw[U0g] at hl
  obtain⟨e1,h1,h2,h3⟩:=h d U0i
  have hr:∀x∈r,_:=fun x hx=>h x (U0y _ hx)
  rw[U0t,FQ,if_pos ⟨hc,by omega⟩,h1]
  simp only[U0c,h2]
  by_cases hp:p d=true
  .simp only[hp,if_true,h3 hp,U0c]
   rw[Lg hc enc p F r (ys++[F d]) (by rw[U0q];simp;omega) hr,List.filter_cons_of_pos hp]
   simp
  .rw[if_neg hp,List.filter_cons_of_neg hp]
   exact Lg hc enc p F r ys (by omega) hr
theorem Nb{α:Type}{w:List (Nat×List D)}{e0:VS.Env}{g:JZ}{f:Aw}{S:Store}(hc:calm w S)(enc F:α->D)(l:List α)(hl:l.length<=1000000)(h:∀a∈l,∃e1,g (enc a) e0=some e1/\f e1 S=some (F a,S)):FQ w e0 g VS.Gh f (l.map enc) [] S=some (l.map F,S):=by
 have:=Lg (t:=VS.Gh) hc enc (fun _=>true) F l [] (by simpa using hl) (fun d hd=>let ⟨e1,h1,h2⟩:=h d hd;⟨e1,h1,rfl,fun _=>h2⟩)
 rw[this,U16,List.filter_eq_self.mpr (by simp)]
theorem NK(lo:Int)(n:Nat):(upD lo n).length=n:=by unfold upD;rw[U0l,U49]
theorem NP{lo:Int}{n i:Nat}{d:D}(h:(upD lo n)[i]?=some d):i<n/\d=.int (lo+i):=by
 have hi:i<n:=by rw[←NK lo n];exact(U0p.mp h).1
 unfold upD at h
 rw[U04,List.getElem?_range hi] at h
 cases h
 exact⟨hi,rfl⟩
theorem bH{j:Int}(h0:-1000000<=j)(h1:j<=1000000):r62 j:=⟨Int.le_trans (by decide) h0,Int.lt_of_le_of_lt h1 (by decide)⟩
theorem Vu{f:Bg}{env:VS.Env}{S S':Store}{j:Int}(n:Nat)(hf:f env S=some ([.int j],S'))(hn:j.toNat=n)(h0:-1000000<=j)(h1:j<=1000000):Hx f env S=some ((upD 0 n,[]),S'):=by
 unfold Hx
 rw[hf,U0c]
 show(if r62 j then some ((upD 0 j.toNat,([]:List (Nat×List D))),S') else none)=_
 rw[if_pos (bH h0 h1),hn]
theorem S6{f:Bg}{env:VS.Env}{S S':Store}{i j:Int}(n:Nat)(hf:f env S=some ([.int i,.int j],S'))(hn:(j-i).toNat=n)(h0:r62 i)(h1:r62 j):Gk f env S=some ((upD i n,[]),S'):=by
 unfold Gk
 rw[hf,U0c]
 show(if r62 i/\r62 j then some ((upD i (j-i).toNat,([]:List (Nat×List D))),S') else none)=_
 rw[if_pos ⟨h0,h1⟩,hn]
theorem Pu{S:Store}{ds:List D}(h:Dm ds=true):Cu 0 S ds=some ds:=Ck 0 S (CG h)
theorem Ek{α:Type}{F:α->D}(l:List α)(h:∀a∈l,CJ (F a)=true):Dm (l.map F)=true:=by
 induction l with
 |nil=>rfl
 |cons a r ih=>rw[U0t,Dm,h a U0i,ih fun b hb=>h b (U0y _ hb)];rfl
theorem W6{α:Type}{F:α->D}{G:α->PyData}(l:List α)(h:∀a∈l,toP (F a)=some (G a)):HX (l.map F)=some (l.map G):=by
 induction l with
 |nil=>rw[U1w,HX];rfl
 |cons a r ih=>rw[U0t,HX,h a U0i,ih fun b hb=>h b (U0y _ hb)];rfl
abbrev St2:=Int×Int
def Ag(p:St2):D:=.tup [.int p.1,.int p.2]
def Ae(b:List St2):D:=.tup (b.map Ag)
def Ao(m:Bool)(n:Nat)(bs:List (List St2)):D:=.tup [.int n,.lst m (bs.map Ae)]
@[simp] theorem Dp(p:St2):CJ (Ag p)=true:=rfl
@[simp] theorem Gq(b:List St2):CJ (Ae b)=true:=by rw[Ae,CJ];exact Ek b fun p _=>Dp p
theorem Cq(bs:List (List St2)):Dm (bs.map Ae)=true:=Ek bs fun b _=>Gq b
def pS(p:St2):PyData:=.tuple [.int p.1,.int p.2]
def pB(b:List St2):PyData:=.tuple (b.map pS)
theorem RD(p:St2):toP (Ag p)=some (pS p):=by simp[Ag,toP,HX,pS]
theorem W5(b:List St2):toP (Ae b)=some (pB b):=by rw[Ae,toP,W6 b fun p _=>RD p];rfl
theorem ZM(bs:List (List St2)):HX (bs.map Ae)=some (bs.map pB):=W6 bs fun b _=>W5 b
@[simp] theorem wQ(S:Store)(x:D):JX S [x,.ty "int"]=(Ce S x).map fun p=>.bl (isT "int" p):=rfl
@[simp] theorem tH:isT "int" (.none)=false:=rfl
@[simp] theorem tM(b:Bool):isT "int" (.bool b)=true:=rfl
@[simp] theorem tW(i:Int):isT "int" (.int i)=true:=rfl
@[simp] theorem tV(s:Str):isT "int" (.str s)=false:=rfl
@[simp] theorem tK(l:List PyData):isT "int" (.list l)=false:=rfl
@[simp] theorem o9(l:List PyData):isT "int" (.tuple l)=false:=rfl
@[simp] theorem tL(l:List (PyData×PyData)):isT "int" (.dict l)=false:=rfl
@[simp] theorem vL(S:Store)(x:D):JX S [x,.ty "bool"]=(Ce S x).map fun p=>.bl (isT "bool" p):=rfl
@[simp] theorem oA:isT "bool" (.none)=false:=rfl
@[simp] theorem oG(b:Bool):isT "bool" (.bool b)=true:=rfl
@[simp] theorem tQ(i:Int):isT "bool" (.int i)=false:=rfl
@[simp] theorem tO(s:Str):isT "bool" (.str s)=false:=rfl
@[simp] theorem oE(l:List PyData):isT "bool" (.list l)=false:=rfl
@[simp] theorem nY(l:List PyData):isT "bool" (.tuple l)=false:=rfl
@[simp] theorem oF(l:List (PyData×PyData)):isT "bool" (.dict l)=false:=rfl
@[simp] theorem vD(S:Store)(x:D):JX S [x,.ty "tuple"]=(Ce S x).map fun p=>.bl (isT "tuple" p):=rfl
@[simp] theorem nQ:isT "tuple" (.none)=false:=rfl
@[simp] theorem nU(b:Bool):isT "tuple" (.bool b)=false:=rfl
@[simp] theorem ni(i:Int):isT "tuple" (.int i)=false:=rfl
@[simp] theorem nZ(s:Str):isT "tuple" (.str s)=false:=rfl
@[simp] theorem nR(l:List PyData):isT "tuple" (.list l)=false:=rfl
@[simp] theorem jL(l:List PyData):isT "tuple" (.tuple l)=true:=rfl
@[simp] theorem nT(l:List (PyData×PyData)):isT "tuple" (.dict l)=false:=rfl
@[simp] theorem vK(S:Store)(x:D):JX S [x,.ty "list"]=(Ce S x).map fun p=>.bl (isT "list" p):=rfl
@[simp] theorem nq:isT "list" (.none)=false:=rfl
@[simp] theorem o8(b:Bool):isT "list" (.bool b)=false:=rfl
@[simp] theorem tG(i:Int):isT "list" (.int i)=false:=rfl
@[simp] theorem tE(s:Str):isT "list" (.str s)=false:=rfl
@[simp] theorem nu(l:List PyData):isT "list" (.list l)=true:=rfl
@[simp] theorem nW(l:List PyData):isT "list" (.tuple l)=false:=rfl
@[simp] theorem o7(l:List (PyData×PyData)):isT "list" (.dict l)=false:=rfl
@[simp] theorem wN(S:Store)(x:D):JX S [x,.ty "str"]=(Ce S x).map fun p=>.bl (isT "str" p):=rfl
@[simp] theorem sY:isT "str" (.none)=false:=rfl
@[simp] theorem tD(b:Bool):isT "str" (.bool b)=false:=rfl
@[simp] theorem tU(i:Int):isT "str" (.int i)=false:=rfl
@[simp] theorem tR(s:Str):isT "str" (.str s)=true:=rfl
@[simp] theorem sZ(l:List PyData):isT "str" (.list l)=false:=rfl
@[simp] theorem nj(l:List PyData):isT "str" (.tuple l)=false:=rfl
@[simp] theorem su(l:List (PyData×PyData)):isT "str" (.dict l)=false:=rfl
@[simp] theorem wO(S:Store)(x:D):JX S [x,.tup [.ty "tuple",.ty "list"]]=(Ce S x).bind fun p=>if noDict p=true then some (.bl (isSeq p)) else none:=rfl
@[simp] theorem wD(S:Store)(i:Int):Ce S (.int i)=some (.int i):=by simp[Ce,den,toP]
@[simp] theorem wX(S:Store)(b:Bool):Ce S (.bl b)=some (.bool b):=by simp[Ce,den,toP]
@[simp] theorem wC(S:Store):Ce S .non=some .none:=by simp[Ce,den,toP]
@[simp] theorem wA(S:Store)(x:Str):Ce S (.str x)=some (.str x):=by simp[Ce,den,toP]
@[simp] theorem bA(S:Store)(p:St2):Ce S (Ag p)=some (pS p):=by rw[Ce,Jz 0 S (Hq (Dp p))];exact RD p
@[simp] theorem bB(S:Store)(b:List St2):Ce S (Ae b)=some (pB b):=by rw[Ce,Jz 0 S (Hq (Gq b))];exact W5 b
theorem O5(S:Store)(m:Bool)(bs:List (List St2)):Ce S (.lst m (bs.map Ae))=some (.list (bs.map pB)):=by
 rw[Ce,den,Pu (Cq bs)]
 show toP (.lst m (bs.map Ae))=_
 rw[toP,ZM];rfl
theorem PX(S:Store)(m:Bool)(n:Nat)(bs:List (List St2)):Ce S (Ao m n bs)=some (.tuple [.int n,.list (bs.map pB)]):=by
 have h:=O5 S m bs
 rw[Ce,den,Pu (Cq bs)] at h
 have h':toP (.lst m (bs.map Ae))=some (.list (bs.map pB)):=h
 simp[Ce,Ao,den,Cu,Pu (Cq bs),toP,HX]
 rw[toP] at h'
 obtain⟨ps,e1,e2⟩:=map_some h'
 rw[e1]
 cases e2
 rfl
@[simp] theorem Ky(ns:List Int):Dm (ns.map D.int)=true:=Ek ns fun _ _=>rfl
@[simp] theorem cJ(k:Nat)(S:Store)(ns:List Int):Cu k S (ns.map D.int)=some (ns.map D.int):=Ck k S (CG (Ky ns))
@[simp] theorem cY(ns:List Int):Bk (ns.map D.int)=ns.map D.int:=Gs (Ky ns)
@[simp] theorem Ji(ns:List Int):Az (ns.map D.int)=true:=CG (Ky ns)
@[simp] theorem vJ(ns:List Int):newL (ns.map D.int)=true:=Mj (Ky ns)
theorem W4(lo:Int)(n:Nat):upD lo n=((U0j n).map fun(i:Nat)=>lo+(i:Int)).map D.int:=by unfold upD;rw[U0e];rfl
@[simp] theorem wK(k:Nat)(S:Store)(lo:Int)(n:Nat):Cu k S (upD lo n)=some (upD lo n):=by rw[W4];exact cJ ..
@[simp] theorem vI(lo:Int)(n:Nat):Az (upD lo n)=true:=by rw[W4];exact Ji _
@[simp] theorem vC(k:Nat)(S:Store)(bs:List (List St2)):Cu k S (bs.map Ae)=some (bs.map Ae):=Ck k S (CG (Cq bs))
@[simp] theorem Zr(bs:List (List St2)):Bk (bs.map Ae)=bs.map Ae:=Gs (Cq bs)
@[simp] theorem Xl(bs:List (List St2)):Az (bs.map Ae)=true:=CG (Cq bs)
@[simp] theorem vB(bs:List (List St2)):newL (bs.map Ae)=true:=Mj (Cq bs)
@[simp] theorem tX(bs:List (List St2)):Dm (bs.map Ae)=true:=Cq bs
@[simp] theorem wH(k:Nat)(S:Store)(p:St2):den k S (Ag p)=some (Ag p):=Jz k S (Hq (Dp p))
@[simp] theorem wJ(k:Nat)(S:Store)(b:List St2):den k S (Ae b)=some (Ae b):=Jz k S (Hq (Gq b))
@[simp] theorem wR(p:St2):age (Ag p)=Ag p:=O1 (Dp p)
@[simp] theorem wV(b:List St2):age (Ae b)=Ae b:=O1 (Gq b)
@[simp] theorem vG(p:St2):BW (Ag p)=true:=Hq (Dp p)
@[simp] theorem Uo(b:List St2):BW (Ae b)=true:=Hq (Gq b)
@[simp] theorem wF(p:St2):newD (Ag p)=true:=Nz (Dp p)
@[simp] theorem wG(b:List St2):newD (Ae b)=true:=Nz (Gq b)
@[simp] theorem wI(k:Nat)(S:Store)(m:Bool)(n:Nat)(bs:List (List St2)):den k S (Ao m n bs)=some (Ao m n bs):=by simp[Ao,den,Cu,Ck k S (CG (Cq bs))]
@[simp] theorem wU(m:Bool)(n:Nat)(bs:List (List St2)):age (Ao m n bs)=Ao false n bs:=by simp[Ao,age,Bk,Gs (Cq bs)]
@[simp] theorem vH(m:Bool)(n:Nat)(bs:List (List St2)):BW (Ao m n bs)=true:=by simp[Ao,BW,Az,CG (Cq bs)]
structure Good(n:Nat)(bs:List (List St2)):Prop where
 ways:n=1∨n=2∨n=3
 most:bs.length<=[0,20,10,6].getD n 0
 box:∀b∈bs,b.length=n/\∀p∈b,p.1<p.2/\-1000000000<=p.1/\p.2<=1000000000
theorem Good.n3{n:Nat}{bs:List (List St2)}(g:Good n bs):1<=n/\n<=3:=by have:=g.ways;omega
theorem Good.few{n:Nat}{bs:List (List St2)}(g:Good n bs):bs.length<=20:=by
 have:=g.most
 rcases g.ways with h|h|h<;>subst h<;>simp at this<;>omega
theorem sV{α:Type}{l:List α}{i:Int}{j:Nat}(e:i=(j:Int))(h:j<l.length):atI l i=some l[j]:=by
 subst e
 exact Lh (U0h h)
theorem U8{α β:Type}{F:α->β}{l:List α}{i:Int}(h0:0<=i)(h1:i<l.length):∃a,atI (l.map F) i=some (F a)/\l[i.toNat]?=some a:=by
 have hj:i.toNat<l.length:=by omega
 refine⟨l[i.toNat],?_,U0h hj⟩
 rw[sV (j:=i.toNat) (by omega) (by simpa using hj)];simp
theorem WM{n d:Nat}{a:Int}(h0:0<=a)(h1:a<=n):HT.sIx n d (some a)=a.toNat:=by
 show(if a<0 then (a+(n:Int)).toNat else min a.toNat n)=a.toNat
 rw[if_neg (by omega)]
 omega
theorem sG{xs:List D}{a:Int}(h0:0<=a)(h1:a<=xs.length):cut xs none (some a)=xs.take a.toNat:=by
 unfold cut
 rw[WM h0 h1]
 simp[HT.sIx]
theorem Wt{xs:List D}{a:Int}(h0:0<=a)(h1:a<=xs.length):cut xs (some a) none=xs.drop a.toNat:=by
 unfold cut
 rw[WM h0 h1]
 simp only[HT.sIx]
 rw[List.take_of_length_le]
 simp
def lev:Nat->PyData->Bool
 |_,.none=>true
 |_,.bool _=>true
 |_,.int _=>true
 |k+1,.list xs=>xs.all (lev k)
 |k+1,.tuple xs=>xs.all (lev k)
 |_,_=>false
theorem Tg{k:Nat}(ih:∀d,lev k d=true->U4m d=true/\d.depth<=k):∀xs:List PyData,xs.all (lev k)=true->U5z xs=true/\U4 xs<=k
 |[],_=>⟨by rw[U5z],by rw[U4];omega⟩
 |x::xs,h=>by
  rw[U6q,U00] at h
  obtain⟨h1,h2⟩:=ih x h.1
  obtain⟨h3,h4⟩:=Tg ih xs h.2
  exact⟨by rw[U5z,h1,h3];rfl,by rw[U4];omega⟩
theorem S8:∀(k:Nat)(d:PyData),lev k d=true->U4m d=true/\d.depth<=k
 |k,.none,_=>⟨by rw[U4m],by rw[U3c];omega⟩
 |k,.bool _,_=>⟨by rw[U4m],by rw[U3c];omega⟩
 |k,.int _,_=>⟨by rw[U4m],by rw[U3c];omega⟩
 |0,.list _,h=>by simp[lev] at h
 |0,.tuple _,h=>by simp[lev] at h
 |k,.str _,h=>by cases k<;>simp[lev] at h
 |k,.dict _,h=>by cases k<;>simp[lev] at h
 |k+1,.list xs,h=>by
  rw[lev] at h
  obtain⟨h1,h2⟩:=Tg (S8 k) xs h
  exact⟨by rw[U4m];exact h1,by rw[U3c];omega⟩
 |k+1,.tuple xs,h=>by
  rw[lev] at h
  obtain⟨h1,h2⟩:=Tg (S8 k) xs h
  exact⟨by rw[U4m];exact h1,by rw[U3c];omega⟩
theorem SX{k:Nat}{d:PyData}(h:lev k d=true)(hk:k<=60):U2l d=true:=by
 obtain⟨h1,h2⟩:=S8 k d h
 unfold U2l
 rw[h1,U7p]
 exact decide_eq_true (by omega)
theorem RT{neg:Bool}{S:Store}{x y:D}{p:PyData}(k:Nat)(hx:Ce S x=some p)(hy:Ce S y=some p)(h:lev k p=true)(hk:k<=60):eqP neg S x y=some (.bl (neg ^^ true)):=by
 unfold eqP
 rw[hx,hy]
 simp only[U0c]
 rw[SX h hk,SeqAt.eqv_refl _ (S8 k p h).1];rfl
theorem n8{neg:Bool}{S:Store}{x:D}{m:Bool}{l:List PyData}(k:Nat)(hx:Ce S x=some (.list l))(h:lev k (.list l)=true)(hk:k<=60):eqP neg S x (.lst m [])=some (.bl (neg ^^ l.isEmpty)):=by
 unfold eqP
 have hy:Ce S (.lst m [])=some (.list []):=by simp[Ce,den,Cu,toP,HX]
 rw[hx,hy]
 simp only[U0c]
 rw[SX h hk]
 cases l with
 |nil=>rfl
 |cons a r=>rfl
theorem aG(k:Nat)(p:St2):lev (k+1) (pS p)=true:=by simp[pS,lev]
theorem qz(k:Nat)(b:List St2):lev (k+2) (pB b)=true:=by
 rw[pB,lev,List.all_map,U3l]
 exact fun p _=>aG k p
theorem Uu(k:Nat)(bs:List (List St2)):lev (k+3) (.list (bs.map pB))=true:=by
 rw[lev,List.all_map,U3l]
 exact fun p _=>qz k p
theorem gQ(k:Nat)(n:Nat)(bs:List (List St2)):lev (k+4) (.tuple [.int n,.list (bs.map pB)])=true:=by
 rw[lev,U6q,U6q,Uu k bs]
 rfl
theorem Bj{a b:BL}{env env1:VS.Env}{S S1:Store}(h:a env S=some (.nx,env1,S1)):Bq a b env S=b env1 S1:=by rw[GF,h];rfl
theorem N8{c:El}{a b:BL}{env:VS.Env}{S S1:Store}(h:c env S=some (true,S1)):sIf c a b env S=a env S1:=by rw[Hg,h];rfl
theorem Ht{c:El}{a b:BL}{env:VS.Env}{S S1:Store}(h:c env S=some (false,S1)):sIf c a b env S=b env S1:=by rw[Hg,h];rfl
end VS
end
section
namespace VS
open PySem PySem.Spec L2
end VS
namespace HT
open PySem PySem.Spec PyProof PyProof.Rows
end HT
namespace L2
open PySem PySem.Spec PyProof PyProof.Rows
end L2
namespace VS
open PySem PySem.Spec L2
end VS
end
section
set_option maxRecDepth 100000
namespace HT
open PySem PySem.Spec PyProof.Rows
section
variable{prog:Program}{w:World}{A:Around}{E:Value->Shared->Prop}{s:Shared}
theorem Xd{a:Addr}{o:Obj}{Q:Option Obj->Shared->Prop}(e:s.heap.get? a=some o)(q:Q (some o) s):wpAny (model prog w) A (loadIfAlive a) Q E s:=by
 intro Γ p _
 unfold loadIfAlive
 rw[Sem.wp_loadIfAlive,e]
 exact(Sem.wp_pure ..).mpr q
abbrev Lw(h:Heap)(z TI TO T:Addr)(c:Bool):Prop:=h.get? z=some { cls:=.type "zip",dict:=none,data:=.fields #[rawInt T,.bool c,.bool false,.ref TI,.ref TO],slots:=#[] }
variable{z TI TO i1 i2 T:Addr}{fp1 fp2:List Addr}{n1 n2 k:Nat}{P1 P2:Nat->Value->Prop}{S1 S2:Nat->Heap->Prop}{c:Bool}
theorem YF{Q:Bool->Shared->Prop}(hZ:Lw s.heap z TI TO T c)(hT:∃o,s.heap.get? T=some o)(q:∀h',Lw h' z TI TO T true->U03 z s.heap h'->Q false { s with heap:=h' }) :
  wpAny (model prog w) A (U1v (.ref z)) Q E s:=by
 obtain⟨o,hT⟩:=hT
 unfold U1v
 refine U0 (U2b hZ rfl (x:=rawInt T) rfl ?_)
 show wpAny _ _ (loadIfAlive (Int.toNat (T:Int)) >>= _) _ _ _
 rw[U2w]
 refine U0 (Xd hT ?_)
 simp only[Option.isNone_some,U1n,if_false]
 refine U0 (U2b hZ rfl (x:=.bool c) rfl ?_)
 cases c with
 |false =>
  rw[if_pos (by decide)]
  refine U0 (U3p hZ (by simp) fun g z' m=>?_)
  exact U0d (q g z' m)
 |true =>
  rw[if_neg (by decide)]
  exact U0d (q s.heap hZ (U03.refl ..))
theorem vM{Q:Value->Shared->Prop}(D1:Draws prog w A i1 fp1 n1 P1 S1)(D2:Draws prog w A i2 fp2 n2 P2 S2)(D:Apart z TI TO i1 i2 fp1 fp2)(hZ:Lw s.heap z TI TO T c)(hI:IsPair s.heap TI (.ref i1) (.ref i2))(hT:∃o,s.heap.get? T=some o)
  (s1:S1 k s.heap) (s2:S2 k s.heap) (k1:k<n1) (k2:k<n2)
  (q:∀x y h' tk,P1 k x->P2 k y->Lw h' z TI TO T true->S1 (k+1) h'->S2 (k+1) h'->IsPair h' s.heap.objs.size x y->h'.objs.size=s.heap.objs.size+1 ->
   (∀c o,c≠z->c≠i1->c≠i2->s.heap.get? c=some o->h'.get? c=some o)->Q (.ref s.heap.objs.size) { s with heap:=h',toks:=tk }) :
  wpAny (model prog w) A (Builtin.«zip.__next__» ⟨[.ref z],[]⟩) (fun fin s'=>∃v,fin=.done (.ret v)/\Q v s') E s:=by
 obtain⟨hp,g,d,tk0,os⟩:=s
 refine(show wpAny _ _ (field (.ref z) 2 >>= _) _ _ _ from U0 (U2b hZ rfl (x:=.bool false) rfl ?_))
 refine(show wpAny _ _ (field (.ref z) 3 >>= _) _ _ _ from U0 (U2b hZ rfl (x:=.ref TI) rfl (U0 (U19 hI rfl ?_))))
 refine(show wpAny _ _ (U1v (.ref z) >>= _) _ _ _ from U0 (YF hZ hT fun g1 z1 m1=>?_))
 replace m1:U03 z hp g1:=m1
 simp only[U1n,if_false]
 have t1:S1 k g1:=D1.frame _ _ _ s1 fun c hc o e=>m1.extBut _ _ (D.b1 c hc).1 e
 have u1:S2 k g1:=D2.frame _ _ _ s2 fun c hc o e=>m1.extBut _ _ (D.b2 c hc).1 e
 refine U0 ?_
 simp only[List.forIn_toArray,U39,U5s]
 refine U0 (U0 (U15 (show wpAny _ _ (U1g (.ref i1) >>= _) _ _ _ from U0 (D1.item k ⟨g1,g,d,tk0,os⟩ _ _ k1 t1 fun x g2 tk1 px t2 m2=>U0d ?_))))
 replace m2:U03 i1 g1 g2:=m2
 have u2:S2 k g2:=D2.frame _ _ _ u1 fun c hc o e=>m2.extBut _ _ (D.b2 c hc).2.2 e
 refine U0d ?_
 refine U0 (U0 (U15 (show wpAny _ _ (U1g (.ref i2) >>= _) _ _ _ from U0 (D2.item k ⟨g2,g,d,tk1,os⟩ _ _ k2 u2 fun y g3 tk2 py u3 m3=>U0d ?_))))
 replace m3:U03 i2 g2 g3:=m3
 refine U0d (U0d ?_)
 refine U0 (wpAny_newTuple ?_ (by simp[sizeLine]))
 have sz:g3.objs.size=hp.objs.size:=by rw[m3.1,m2.1,m1.1]
 refine U0d ⟨_,rfl,?_⟩
 show Q (.ref g3.objs.size) _
 have z3:Lw g3 z TI TO T true:=m3.extBut _ _ (U1p D.c2.1) (m2.extBut _ _ (U1p D.c1.1) z1)
 have q3:=q x y (g3.push { cls:=.type "tuple",data:=.seq #[x,y] }) tk2 px py (U0b _ z3)
  (D1.frame _ _ _ t2 fun c hc o e=>U0b _ (m3.extBut _ _ (D.b1 c hc).2.2 e)) (D2.frame _ _ _ u3 fun c hc o e=>U0b _ e)
  (by show IsPair _ hp.objs.size x y;rw[←sz];exact U0n _ rfl) (by rw[U1s,sz])
  fun c o n1 n3 n4 e=>U0b _ (m3.extBut _ _ n4 (m2.extBut _ _ n3 (m1.extBut _ _ n1 e)))
 rw[sz]
 exact q3
theorem tY{Q:PySem.Fin->Shared->Prop}(D1:Draws prog w A i1 fp1 n1 P1 S1)(D2:Draws prog w A i2 fp2 n2 P2 S2)(D:Apart z TI TO i1 i2 fp1 fp2)(hZ:Lw s.heap z TI TO T c)(hI:IsPair s.heap TI (.ref i1) (.ref i2))(hT:∃o,s.heap.get? T=some o)
  (s1:S1 k s.heap) (s2:S2 k s.heap) (ke:k=n1∨(k<n1/\k=n2))
  (q:∀h' e tk,(∀c o,c≠z->c≠i1->c≠i2->s.heap.get? c=some o->h'.get? c=some o)->(∃o,h'.get? e=some o/\o.cls=.type "StopIteration")->E (.ref e) { s with heap:=h',toks:=tk }) :
  wpAny (model prog w) A (Builtin.«zip.__next__» ⟨[.ref z],[]⟩) Q E s:=by
 obtain⟨hp,g,d,tk0,os⟩:=s
 refine(show wpAny _ _ (field (.ref z) 2 >>= _) _ _ _ from U0 (U2b hZ rfl (x:=.bool false) rfl ?_))
 refine(show wpAny _ _ (field (.ref z) 3 >>= _) _ _ _ from U0 (U2b hZ rfl (x:=.ref TI) rfl (U0 (U19 hI rfl ?_))))
 refine(show wpAny _ _ (U1v (.ref z) >>= _) _ _ _ from U0 (YF hZ hT fun g1 z1 m1=>?_))
 replace m1:U03 z hp g1:=m1
 simp only[U1n,if_false]
 have t1:S1 k g1:=D1.frame _ _ _ s1 fun c hc o e=>m1.extBut _ _ (D.b1 c hc).1 e
 have u1:S2 k g1:=D2.frame _ _ _ s2 fun c hc o e=>m1.extBut _ _ (D.b2 c hc).1 e
 refine U0 ?_
 simp only[List.forIn_toArray,U39,U5s]
 rcases ke with ke|⟨k1,ke⟩
 .subst ke
  refine U0 (U0 (U15 (show wpAny _ _ (U1g (.ref i1) >>= _) _ _ _ from U0 (D1.done ⟨g1,g,d,tk0,os⟩ _ _ t1 fun g2 e m2 he=>?_))))
  replace m2:U5e i1 g1 g2:=m2
  exact q g2 e tk0 (fun c o n1 n3 _ x=>m2 _ _ n3 (m1.extBut _ _ n1 x)) he
 .refine U0 (U0 (U15 (show wpAny _ _ (U1g (.ref i1) >>= _) _ _ _ from U0 (D1.item k ⟨g1,g,d,tk0,os⟩ _ _ k1 t1 fun x g2 tk1 px t2 m2=>U0d ?_))))
  replace m2:U03 i1 g1 g2:=m2
  have u2:S2 k g2:=D2.frame _ _ _ u1 fun c hc o e=>m2.extBut _ _ (D.b2 c hc).2.2 e
  rw[ke] at u2
  refine U0d ?_
  refine U0 (U0 (U15 (show wpAny _ _ (U1g (.ref i2) >>= _) _ _ _ from U0 (D2.done ⟨g2,g,d,tk1,os⟩ _ _ u2 fun g3 e m3 he=>?_))))
  replace m3:U5e i2 g2 g3:=m3
  exact q g3 e tk1 (fun c o n1 n3 n4 x=>m3 _ _ n4 (m2.extBut _ _ n3 (m1.extBut _ _ n1 x))) he
def ZS(z TI TO i1 i2:Addr)(S1 S2:Nat->Heap->Prop)(k:Nat)(h:Heap):Prop :=
 IsPair h TI (.ref i1) (.ref i2)/\S1 k h/\S2 k h/\((∃a b,IsZip h z TI TO .none/\IsPair h TO a b)∨∃T c o,Lw h z TI TO T c/\h.get? T=some o/\T≠z/\T≠i1/\T≠i2)
theorem ZS.type(st:ZS z TI TO i1 i2 S1 S2 k s.heap):s.TypeIs (.ref z) "zip":=by
 obtain⟨_,_,_,⟨_,_,h,_⟩|⟨_,_,_,h,_⟩⟩:=st
 .exact⟨_,h,rfl⟩
 .exact⟨_,h,rfl⟩
theorem ZS.lt{h:Heap}(st:ZS z TI TO i1 i2 S1 S2 k h):z<h.objs.size:=by
 obtain⟨_,_,_,⟨_,_,h,_⟩|⟨_,_,_,h,_⟩⟩:=st
 .exact U0k h
 .exact U0k h
theorem ZS.frame{h h':Heap}(D1:Draws prog w A i1 fp1 n1 P1 S1)(D2:Draws prog w A i2 fp2 n2 P2 S2)(st:ZS z TI TO i1 i2 S1 S2 k h){S:Addr}(f1:S ∉ fp1)(f2:S ∉ fp2)(n1:S≠z)(n2:S≠TI)(n3:S≠TO)(lv:∃o,h'.get? S=some o)(m:∀c o,c≠S->h.get? c=some o->h'.get? c=some o):ZS z TI TO i1 i2 S1 S2 k h':=by
 obtain⟨a1,a2,a3,a4⟩:=st
 refine⟨m _ _ (U1p n2) a1,D1.frame _ _ _ a2 fun c hc o e=>m c o (fun q=>f1 (q ▸ hc)) e,D2.frame _ _ _ a3 fun c hc o e=>m c o (fun q=>f2 (q ▸ hc)) e,?_⟩
 rcases a4 with ⟨a,b,b1,b2⟩|⟨T,c,o,b1,b2,b3⟩
 .exact .inl ⟨a,b,m _ _ (U1p n1) b1,m _ _ (U1p n3) b2⟩
 .by_cases q:T=S
  .obtain⟨o',e⟩:=lv
   exact .inr ⟨T,c,o',m _ _ (U1p n1) b1,q ▸ e,b3⟩
  .exact .inr ⟨T,c,o,m _ _ (U1p n1) b1,m _ _ q b2,b3⟩
theorem pL{Q:Option Value->Shared->Prop}(D1:Draws prog w A.in1 i1 fp1 n1 P1 S1)(D2:Draws prog w A.in1 i2 fp2 n2 P2 S2)(D:Apart z TI TO i1 i2 fp1 fp2)(st:ZS z TI TO i1 i2 S1 S2 k s.heap)(k1:k<n1)(k2:k<n2)
  (q:∀x y h' tk,P1 k x->P2 k y->ZS z TI TO i1 i2 S1 S2 (k+1) h'->IsPair h' s.heap.objs.size x y->h'.objs.size=s.heap.objs.size+1->(∀c o,c≠z->c≠TO->c≠i1->c≠i2->s.heap.get? c=some o->h'.get? c=some o)->Q (some (.ref s.heap.objs.size)) { s with heap:=h',toks:=tk }) :
  wpAny (model prog w) A (pyNext (.ref z)) Q E s:=by
 have T:=st.type
 have lz:=st.lt
 obtain⟨a1,a2,a3,a4⟩:=st
 obtain⟨_,l1⟩:=D1.live _ _ a2
 obtain⟨_,l2⟩:=D2.live _ _ a3
 rcases a4 with ⟨a,b,b1,b2⟩|⟨T',c,o,b1,b2,b3,b4,b5⟩
 .refine jO D1 D2 D b1 a1 b2 a2 a3 k1 k2 fun x y h' tk p1 p2 c1 c2 c3 c4 c5 c6 c7=>q x y h' tk p1 p2 ⟨c7 _ _ D.a1 D.a3 (U1p D.c1.2.2) (U1p D.c2.2.2) a1,c3,c4,.inr ⟨_,false,_,c1,c5,U1l lz,U1l (U0k l1),U1l (U0k l2)⟩⟩ c5 c6 c7
 .unfold pyNext
  refine U0 (U5c (wpAny_callSpecial?_slot (name:=U3 "__next__") T U2o (U2d U2o T U45 (vM D1 D2 D b1 a1 ⟨o,b2⟩ a2 a3 k1 k2 fun x y h' tk p1 p2 c1 c3 c4 c5 c6 c7=>U0d (q x y h' tk p1 p2 ?_ c5 c6 fun c o n1 _ n3 n4 e=>c7 c o n1 n3 n4 e)) (U4u _))))
  exact⟨c7 _ _ D.a1 (U1p D.c1.2.2) (U1p D.c2.2.2) a1,c3,c4,.inr ⟨T',true,o,c1,c7 _ _ b3 b4 b5 b2,b3,b4,b5⟩⟩
theorem jN{Q:Option Value->Shared->Prop}(D1:Draws prog w A.in1 i1 fp1 n1 P1 S1)(D2:Draws prog w A.in1 i2 fp2 n2 P2 S2)(D:Apart z TI TO i1 i2 fp1 fp2)(st:ZS z TI TO i1 i2 S1 S2 k s.heap)(ke:k=n1∨(k<n1/\k=n2))
  (q:∀h' tk,(∀c o,c≠z->c≠TO->c≠i1->c≠i2->s.heap.get? c=some o->h'.get? c=some o)->Q none { s with heap:=h',toks:=tk }):wpAny (model prog w) A (pyNext (.ref z)) Q E s:=by
 have T:=st.type
 obtain⟨a1,a2,a3,a4⟩:=st
 rcases a4 with ⟨a,b,b1,b2⟩|⟨T',c,o,b1,b2,b3,b4,b5⟩
 .exact jM D1 D2 D b1 a1 b2 a2 a3 ke q
 .unfold pyNext
  refine U0 (U5c (wpAny_callSpecial?_slot (name:=U3 "__next__") T U2o (U2d U2o T U45 (tY D1 D2 D b1 a1 ⟨o,b2⟩ a2 a3 ke fun h' e tk kk he=>?_) (U4u _))))
  obtain⟨o,e1,e2⟩:=he
  exact U0 (U4q (T:="StopIteration") (b:=true) ⟨o,e1,e2⟩ isSubtype_stop (U0d (q h' tk fun c o n1 _ n3 n4 e=>kk c o n1 n3 n4 e)))
def Laid(P1 P2:Nat->Value->Prop)(t0 k:Nat)(h:Heap):Prop:=∀j,j<k->∃x y,P1 j x/\P2 j y/\IsPair h (t0+j) x y
theorem jQ{R:Result->Shared->Prop}(D1:Draws prog w A.in1.in1 i1 fp1 n1 P1 S1)(D2:Draws prog w A.in1.in1 i2 fp2 n2 P2 S2)(D:Apart z TI TO i1 i2 fp1 fp2){m t0:Nat}(hm:∀k,k<m->k<n1/\k<n2)(he:m=n1∨(m<n1/\m=n2))(hs:m<=1000000)(S:Addr)(f1:S ∉ fp1)(f2:S ∉ fp2)(e1:S≠z)(e2:S≠TI)(e3:S≠TO)(e4:S≠i1)(e5:S≠i2)(e6:S<t0)
  (far:z<t0/\TO<t0/\i1<t0/\i2<t0) (res:Value) :
  ∀(j k:Nat)(s:Shared)(acc:Array Value)(c:Nat),m-k=j->k<=m->ZS z TI TO i1 i2 S1 S2 k s.heap->s.heap.get? S=some { cls:=.type "list",dict:=none,data:=.seq acc c,slots:=#[] }->acc=((U0j k).map fun j=>U1y (t0+j)).toArray->s.heap.objs.size=t0+k->Laid P1 P2 t0 k s.heap ->
  (∀h' tk c',(∀b o,b≠z->b≠TO->b≠i1->b≠i2->b≠S->s.heap.get? b=some o->h'.get? b=some o)->h'.get? S=some { cls:=.type "list",dict:=none,data:=.seq ((U0j m).map fun j=>U1y (t0+j)).toArray c',slots:=#[] }->Laid P1 P2 t0 m h'->R (.ok (.ret res)) { s with heap:=h',toks:=tk }) ->
  codeAny (model prog w) A (.builtin "list.extend.loop" ⟨[.ref S,.ref z,res],[]⟩) R s:=by
 have aw:∀j:Nat,t0+j≠z/\t0+j≠TO/\t0+j≠i1/\t0+j≠i2/\t0+j≠S:=fun j=>⟨U1l (U0r far.1 (U1o _ _)),U1l (U0r far.2.1 (U1o _ _)),U1l (U0r far.2.2.1 (U1o _ _)),U1l (U0r far.2.2.2 (U1o _ _)),U1l (U0r e6 (U1o _ _))⟩
 have hs2:m<=sizeLine:=U07 hs (by decide)
 intro j
 induction j with
 |zero =>
  intro k s acc c hj hk st hS ha hz hl q
  have hkm:k=m:=by omega
  subst hkm
  refine codeAny_builtin PySem.F.entry_extend_loop ?_
  rw[U2g U3q _]
  show wpAny _ A.in1 (pyNext (.ref z) >>= _) _ _ s
  refine U0 (jN D1 D2 D st he fun h' tk kk=>U0d (q h' tk c (fun b o n1 n2 n3 n4 _ e=>kk b o n1 n2 n3 n4 e) ?_ ?_))
  .rw[←ha];exact kk _ _ e1 e3 e4 e5 hS
  .intro j hj
   obtain⟨x,y,p1,p2,t⟩:=hl j hj
   exact⟨x,y,p1,p2,kk _ _ (aw j).1 (aw j).2.1 (aw j).2.2.1 (aw j).2.2.2.1 t⟩
 |succ j ih =>
  intro k s acc c hj hk st hS ha hz hl q
  have hlt:k<m:=by omega
  refine codeAny_builtin PySem.F.entry_extend_loop ?_
  rw[U2g U3q _]
  show wpAny _ A.in1 (pyNext (.ref z) >>= _) _ _ s
  refine U0 (pL D1 D2 D st (hm k hlt).1 (hm k hlt).2 fun x y h' tk p1 p2 st' tp sz kk=>?_)
  have hS':=kk _ _ e1 e3 e4 e5 hS
  have hlen:acc.size=k:=by rw[ha];simp
  show wpAny _ A.in1 (updateSeq S (·.push (.ref s.heap.objs.size)) >>= _) _ _ _
  refine U0 ?_
  have oth:∀b o,b≠S->h'.get? b=some o->(h'.update S (U1f (·.push (U1y s.heap.objs.size)))).get? b=some o:=fun b o n e=>(U02 _ _ (U1p n)).trans e
  have hS2:=U1k (U1f (·.push (U1y s.heap.objs.size))) hS' rfl
  have szu:(h'.update S (U1f (·.push (U1y s.heap.objs.size)))).objs.size=h'.objs.size:=(U1r ..).1
  refine U2r hS' rfl (U0d ⟨plainId_quiet U3q _,ih (k+1) _ (acc.push (.ref s.heap.objs.size)) _ (by omega) hlt (ZS.frame D1 D2 st' f1 f2 e1 e2 e3 ⟨_,hS2⟩ oth) hS2 ?_ ?_ ?_ fun h'' tk'' c'' kk2 hS3 hl3=>?_⟩)
   (by rw[hlen];omega) (by show(acc.push _).size<=sizeLine+1;rw[Array.size_push,hlen];omega)
  .rw[ha,hz,U7a];simp
  .rw[show(U7g _).objs.size=_ from szu,sz,hz];omega
  .intro j hj
   by_cases q':j=k
   .subst q'
    refine⟨x,y,p1,p2,oth _ _ (aw _).2.2.2.2 ?_⟩
    rw[←hz];exact tp
   .obtain⟨x',y',r1,r2,t⟩:=hl j (by omega)
    exact⟨x',y',r1,r2,oth _ _ (aw j).2.2.2.2 (kk _ _ (aw j).1 (aw j).2.1 (aw j).2.2.1 (aw j).2.2.2.1 t)⟩
  .exact q h'' tk'' c'' (fun b o n1 n2 n3 n4 n5 e=>kk2 b o n1 n2 n3 n4 n5 (oth b o n5 (kk b o n1 n2 n3 n4 e))) hS3 hl3
theorem dU:typeLookup (.type "zip") "__len__"=pure none:=by rw[typeLookup_type,builtinLookup_eq_fast];kernel_rfl
theorem aW:typeLookup (.type "zip") "__length_hint__"=pure none:=by rw[typeLookup_type,builtinLookup_eq_fast];kernel_rfl
theorem ZS.push{h:Heap}(D1:Draws prog w A i1 fp1 n1 P1 S1)(D2:Draws prog w A i2 fp2 n2 P2 S2)(st:ZS z TI TO i1 i2 S1 S2 k h)(o:Obj):ZS z TI TO i1 i2 S1 S2 k (h.push o):=by
 obtain⟨a1,a2,a3,a4⟩:=st
 refine⟨U0b _ a1,D1.frame _ _ _ a2 fun c hc o e=>U0b _ e,D2.frame _ _ _ a3 fun c hc o e=>U0b _ e,?_⟩
 rcases a4 with ⟨a,b,b1,b2⟩|⟨T,c,o,b1,b2,b3⟩
 .exact .inl ⟨a,b,U0b _ b1,U0b _ b2⟩
 .exact .inr ⟨T,c,o,U0b _ b1,U0b _ b2,b3⟩
theorem mJ{Q:Value->Shared->Prop}(T:s.TypeIs (.ref z) "zip")(q:Q (.ref z) s):wpAny (model prog w) A (pyIter (.ref z)) Q E s :=
 U6w T PySem.F.slot_zip_iter (U2d PySem.F.slot_zip_iter T PySem.F.entry_zip_iter (show wpAny _ _ (ret (.ref z)) _ _ s from U0d ⟨_,rfl,"zip",_,T,U2o.lookup,q⟩) (PySem.F.args_zip_iter_1 _))
theorem lX{Q:Value->Shared->Prop}(D1:Draws prog w A.in1.in1.in1 i1 fp1 n1 P1 S1)(D2:Draws prog w A.in1.in1.in1 i2 fp2 n2 P2 S2)(D:Apart z TI TO i1 i2 fp1 fp2){m:Nat}(hm:∀k,k<m->k<n1/\k<n2)(he:m=n1∨(m<n1/\m=n2))(hs:m<=1000000)(st:ZS z TI TO i1 i2 S1 S2 0 s.heap)
  (l1:∀b∈fp1,b<s.heap.objs.size) (l2:∀b∈fp2,b<s.heap.objs.size) (l3:z<s.heap.objs.size/\TI<s.heap.objs.size/\TO<s.heap.objs.size/\i1<s.heap.objs.size/\i2<s.heap.objs.size)
  (q:∀h' tk c',(∀b o,b≠z->b≠TO->b≠i1->b≠i2->s.heap.get? b=some o->h'.get? b=some o)->h'.get? s.heap.objs.size=some { cls:=.type "list",dict:=none,data:=.seq ((U0j m).map fun j=>U1y (s.heap.objs.size+1+j)).toArray c',slots:=#[] } ->
   Laid P1 P2 (s.heap.objs.size+1) m h'->Q (.ref s.heap.objs.size) { s with heap:=h',toks:=tk }):wpAny (model prog w) A (call (.type "list") [.ref z]) Q E s:=by
 refine callType_codes (Q₁:=fun obj s₁=>obj=.ref s.heap.objs.size/\s₁={ s with heap:=s.heap.push { cls:=.type "list",data:=.seq #[] } }) PySem.F.called_list (PySem.F.typeCall_list_1 _) PySem.F.entry_list_init (code_list_new _ ⟨rfl,rfl⟩) fun obj s₁ h₁=>?_
 obtain⟨rfl,rfl⟩:=h₁
 have g0:(s.heap.push { cls:=.type "list",data:=.seq #[] }).get? s.heap.objs.size=some { cls:=.type "list",data:=.seq #[] }:=U0n _ rfl
 refine⟨⟨_,g0,rfl⟩,PySem.F.args_list_init_2 _ _,?_⟩
 generalize hS:s.heap.objs.size=S at *
 have st0:=ZS.push D1 D2 st { cls:=.type "list",data:=.seq #[] }
 have sz0:(s.heap.push { cls:=.type "list",data:=.seq #[] }).objs.size=S+1:=by rw[U1s,hS]
 have k0:∀b o,s.heap.get? b=some o->(s.heap.push { cls:=.type "list",data:=.seq #[] }).get? b=some o:=fun b o e=>U0b _ e
 generalize s.heap.push { cls:=.type "list",data:=.seq #[] }=h0 at *
 have ne1:S≠z:=U1l l3.1
 have ne2:S≠TI:=U1l l3.2.1
 have ne3:S≠TO:=U1l l3.2.2.1
 have ne4:S≠i1:=U1l l3.2.2.2.1
 have ne5:S≠i2:=U1l l3.2.2.2.2
 have nf1:S ∉ fp1:=fun z=>U3y _ (l1 _ z)
 have nf2:S ∉ fp2:=fun z=>U3y _ (l2 _ z)
 -- one write of the new list after the other
 have wr:∀(h:Heap)(f:Array Value->Array Value)(xs:Array Value)(c:Nat),h.get? S=some { cls:=.type "list",data:=.seq xs c }->(∀b o,b≠S->h.get? b=some o->(h.update S (U1f f)).get? b=some o)/\(h.update S (U1f f)).objs.size=h.objs.size:=fun h f xs c e=>⟨fun b o n e=>(U02 _ _ (U1p n)).trans e,(U1r ..).1⟩
 refine(show wpAny _ _ (do let old ←U46 (.ref S);Builtin.List.listUpdate (.ref S) (fun _=>#[]);letGo old.toList.reverse;U2f (.ref S) (.ref z) .none) _ _ _ from U0 ?_)
 unfold U46
 refine U0 (U19 g0 rfl (U0d (show wpAny _ _ (updateSeq S (fun _=>#[]) >>= fun _=>letGo (#[]:Array Value).toList.reverse >>= fun _=>U2f (.ref S) (.ref z) .none) _ _ _ from U0 (U2r g0 rfl (U0 (U4j ?_))))))
 have g1:=U1k (U1f (fun _=>(#[]:Array Value))) g0 rfl
 obtain⟨o1,z1⟩:=wr h0 (fun _=>#[]) _ _ g0
 have st1:=ZS.frame D1 D2 st0 nf1 nf2 ne1 ne2 ne3 ⟨_,g1⟩ o1
 unfold U2f
 refine U0 (U4n (st1.type (s:={ s with heap:=_ })) ?_)
 have b1:U3b (.ref S) (.ref z)=false:=by simp[U3b,ne1]
 rw[if_neg (by rw[b1];decide)]
 have ty1:U4x { s with heap:=h0.update S (U1f (fun _=>(#[]:Array Value))) } (.ref z) "zip":=st1.type (s:={ s with heap:=_ })
 refine U0 (mJ ty1 ?_)
 refine U0 (U15 ?_)
 unfold U3g
 refine U0 (U5m ty1 dU ?_)
 refine(show wpAny _ _ (specialOf (U1y z) (U3 "__length_hint__") >>= _) _ _ _ from U0 (U5m ty1 aW (U0d ?_)))
 refine(show wpAny _ _ (rule "list.extend.makes-room" >>= fun _=>U53 (.ref S) >>= fun _=>again (.builtin "list.extend.loop" ⟨[.ref S,.ref z,.none],[]⟩)) _ _ _ from U0 (U4h (U0 ?_)))
 refine(show wpAny _ _ (updateSeq S (·.push .none) >>= fun _=>updateSeq S (·.pop)) _ _ _ from U0 (U2r g1 rfl ?_))
 have g2:=U1k (U1f (·.push U13)) g1 rfl
 obtain⟨o2,z2⟩:=wr _ (·.push U13) _ _ g1
 have g3:=U1k (U1f (·.pop)) g2 rfl
 obtain⟨o3,z3⟩:=wr _ (·.pop) _ _ g2
 refine U2r (hz:=by seq_fits) g2 rfl ?_
 have st3:=ZS.frame D1 D2 (ZS.frame D1 D2 st1 nf1 nf2 ne1 ne2 ne3 ⟨_,g2⟩ o2) nf1 nf2 ne1 ne2 ne3 ⟨_,g3⟩ o3
 refine U0d ⟨plainId_quiet U3q _,jQ D1 D2 D (t0:=S+1) hm he hs S nf1 nf2 ne1 ne2 ne3 ne4 ne5 (U3k _) ⟨U18 l3.1,U18 l3.2.2.1,U18 l3.2.2.2.1,U18 l3.2.2.2.2⟩ _ m 0 _ _ _ rfl (U3h _) st3 g3 ?_ ?_ (fun j hj=>absurd hj (U69 _)) fun h' tk c' kk hS' hl=>⟨rfl,q h' tk c' (fun b o n1 n2 n3 n4 e=>?_) hS' hl⟩⟩
 .simp
 .show(Heap.update _ _ _).objs.size=_
  rw[z3,z2,z1,sz0]
 .have nb:b≠S:=U0u (hS ▸ U0k e)
  exact kk b o n1 n2 n3 n4 nb (o3 b o nb (o2 b o nb (o1 b o nb (k0 b o e))))
end
end HT
end
section
namespace L2
open PySem PySem.Spec PyProof.Rows
section
variable{X:Cx}{pins:List (Addr×Obj)}{σ:St}{H:Hp}{s:Shared}
theorem Inv.ud{H':Hp}{h':Heap}{d':Drawn}{t':Nat}(I:Inv X pins σ H s)(k:∀b u,s.heap.get? b=some u->h'.get? b=some u)(old:∀b,b<s.heap.objs.size->H' b=H b)(ext:∀b o,H b=some o->H' b=some o)
  (new:∀b o,H' b=some o->H b=none->Cp X.prog X.w H' h' b o):Inv X pins σ H' { s with heap:=h',drawn:=d',toks:=t' }:=by
 refine I.step (g':=s.gens) (ch:=[]) (fun _ z=>nomatch z) (fun b u _ _ _ e _=>k b u e) (fun b u _ _ _ e _=>⟨u.slots,k b u e⟩) (fun b u _ e n=>by rw[old b (U0k e)];exact n) (fun b u _ e=>⟨u,k b u e⟩)
  (fun b xs e=>ext _ _ e) (fun b u xs e=>ext _ _ e) (fun b ps e=>⟨#[],by rw[ext _ _ e];simp⟩) (fun m hm=>?_) (fun b u e=>?_) I.bare (fun n=>by rw[old _ I.Vq];exact n)
 .obtain⟨ob,es,ep,e,r⟩:=hm
  exact⟨ob,es,ep,k _ _ e,r⟩
 .cases q:H b with
  |none=>exact new b u e q
  |some o =>
   have:=ext b o q
   rw[this] at e
   cases e
   exact(I.hok b _ q).stay (fun c v _ q=>k c v q) (fun c q=>ext _ _ q) fun c xs q=>ext _ _ q
end
def eG(L:Bool)(ta:TA):TE:=fun σ H Q=>ta σ H fun vs H1=>∃a b xs ys,vs=[.ref a,.ref b]/\H1 a=some (HB L xs)/\H1 b=some (HB L ys)/\(xs.zip ys).length<=1000000 /\
 ∀l t0 H2,H1 l=none->(∀c o,H1 c=some o->H2 c=some o)->H2 l=some (.lst ((U0j (xs.zip ys).length).map fun j=>V.ref (t0+j)))->(∀j p,(xs.zip ys)[j]?=some p->H2 (t0+j)=some (.tup [p.1,p.2]))->Q (.ref l) H2
section
variable{X:Cx}
theorem ZV(L:Bool){a b:Expr}{ta:TA}{p p2 pos pos2:Pos}(hc:X.calm=true)(hg:Gl X "list")(hm:X.mg "list"=none)(hg2:Gl X "zip")(hm2:X.mg "zip"=none)(ha:PA X [a,b] ta)(hs:starEach [a,b] X.env=[(false,eval a X.env),(false,eval b X.env)]:=by rfl)(hs2:starEach [b] X.env=[(false,eval b X.env)]:=by rfl)
  (he2:starEach [.Call (.Name "zip" p2) [a,b] [] pos2] X.env=[(false,eval (.Call (.Name "zip" p2) [a,b] [] pos2) X.env)]:=by rfl):PE X (.Call (.Name "list" p) [.Call (.Name "zip" p2) [a,b] [] pos2] [] pos) (eG L ta):=by
 intro pins s σ H Q I h
 refine U34 (Je I hg hm (by decide +kernel:bootBuiltins "list"=some (.type "list")) (U21 ?_ he2 rfl))
 rw[he2]
 refine(show wpAny _ _ (spliced ((false,eval (.Call (.Name "zip" p2) [a,b] [] pos2) X.env)::backTo pos (starEach [] X.env))) _ _ s from U6l ?_)
 refine Call_ (Je I hg2 hm2 (by decide +kernel:bootBuiltins "zip"=some (.type "zip")) (U21 (thn (ha pos2 pins s σ H _ I h) fun us s1 ⟨vs,H1,I1,r1,q1⟩=>?_) (by rw[hs,hs2]) (by rw[hs2];rfl)))
 obtain⟨l,m,xs,ys,e,e1,e2,hl,q⟩:=q1
 subst e
 obtain⟨us1,us2⟩:us=[.ref l,.ref m]/\True:=by
  cases r1 with
  |cons r rr =>
   cases rr with
   |cons r' rr =>
    cases rr
    cases r
    cases r'
    exact⟨rfl,trivial⟩
 subst us1
 obtain⟨its1,rv1,p1⟩:=I1.oO e1
 obtain⟨its2,rv2,p2⟩:=I1.oO e2
 have fin:∀h',IsZip h' (s1.heap.objs.size+4) (s1.heap.objs.size+2) (s1.heap.objs.size+3) .none->IsPair h' (s1.heap.objs.size+2) (.ref s1.heap.objs.size) (.ref (s1.heap.objs.size+1))->IsPair h' (s1.heap.objs.size+3) .none .none ->
   ZJ L h' s1.heap.objs.size l 0->ZJ L h' (s1.heap.objs.size+1) m 0->(∀c o,s1.heap.get? c=some o->h'.get? c=some o)->wpAny (model X.prog X.w) X.A (spliced (backTo pos (starEach [] X.env))) (fun us s2=>wpAny (model X.prog X.w) X.A (call (.type "list") (.ref (s1.heap.objs.size+4)::us)) (fun v s3=>∃x H',Inv X pins σ H' s3/\RelV x v/\Q x H') X.xe s2) X.xe { s1 with heap:=h' }:=fun h' c1 c2 c3 c4 c5 k=>by
  refine U6t ?_
  generalize hn:s1.heap.objs.size=n at *
  have seqAt:∀(t:Addr)(ws:Array Value),Yz L s1.heap t ws->Yz L h' t ws/\t<n:=fun t ws x=>by
   cases L with
   |true =>
    refine⟨Heap.IsList.at x fun o e=>k _ _ e,?_⟩
    obtain⟨o,e,_⟩:=(show s1.heap.IsList t ws from x)
    exact hn ▸ U0k e
   |false =>
    refine⟨U62.at x fun o e=>k _ _ e,?_⟩
    obtain⟨o,e,_⟩:=(show s1.heap.IsTuple t ws from x)
    exact hn ▸ U0k e
  obtain⟨q1,ll⟩:=seqAt _ _ p1
  obtain⟨q2,lm⟩:=seqAt _ _ p2
  have lz:n+4<h'.objs.size:=U0k c1
  have lz0:n<h'.objs.size:=U2q (Nat.lt_add_of_pos_right (by decide)) lz
  have lz1:n+1<h'.objs.size:=U2q (U6f (by decide) n) lz
  have lz2:n+2<h'.objs.size:=U2q (U6f (by decide) n) lz
  have lz3:n+3<h'.objs.size:=U2q (U6f (by decide) n) lz
  have hh:X.A.in1.in1.in1.handled=none:=I1.ok.hd hc
  have sl1:=rv1.length
  have sl2:=rv2.length
  have hlen:(xs.zip ys).length=min its1.length its2.length:=by rw[U7b,sl1,sl2]
  refine HT.lX (z:=n+4) (TI:=n+2) (TO:=n+3) (i1:=n) (i2:=n+1) (m:=(xs.zip ys).length) (aO L hh n l (U0u ll) its1.toArray) (aO L hh (n+1) m (U0u (U18 lm)) its2.toArray)
   (iw (by simp) (by simp) (by simp) ⟨by simp,by simp,by simp⟩ ⟨by simp,by simp,by simp⟩ (by simp) (by simp only[U0w,U2t,or_false,not_or];exact⟨U0u (U0r ll (U1o _ _)),U0u (U0r ll (U1o _ _)),U0u (U0r ll (U1o _ _)),U0u ll,U0u (U0r ll (U1o _ _))⟩)
    (by simp only[U0w,U2t,or_false,not_or];exact⟨U0u (U0r lm (U1o _ _)),U0u (U0r lm (U1o _ _)),U0u (U0r lm (U1o _ _)),U0u lm,U0u (U0r lm (U1o _ _))⟩))
   (fun j hj=>by rw[hlen] at hj;simp;omega) (by rw[hlen];simp;omega) hl ⟨c2,⟨c4,q1⟩,⟨c5,q2⟩,.inl ⟨_,_,c1,c3⟩⟩ ?_ ?_ ⟨lz,lz2,lz3,lz0,lz1⟩ fun h2 tk c' kk hS hL=>?_
  .intro b hb
   simp only[U0w,U2t,or_false] at hb
   show b<h'.objs.size
   rcases hb with rfl|rfl
   .exact lz0
   .exact U2q ll lz0
  .intro b hb
   simp only[U0w,U2t,or_false] at hb
   show b<h'.objs.size
   rcases hb with rfl|rfl
   .exact lz1
   .exact U2q lm lz0
  .generalize hS':h'.objs.size=S at *
   have up:∀b u,s1.heap.get? b=some u->b<n:=fun b u e=>hn ▸ U0k e
   have k2:∀b u,s1.heap.get? b=some u->h2.get? b=some u:=fun b u e=>by
    have:=up b u e
    exact kk b u (U0u (U0r this (U1o _ _))) (U0u (U0r this (U1o _ _))) (U0u this) (U0u (U0r this (U1o _ _))) (k b u e)
   let refs:List V:=(U0j (xs.zip ys).length).map fun j=>V.ref (S+1+j)
   let H2:Hp:=fun b=>if b=S then some (.lst refs) else match (if S+1<=b then (xs.zip ys)[b-(S+1)]? else none) with|some p=>some (.tup [p.1,p.2])|none=>H1 b
   have old:∀b,b<n->H2 b=H1 b:=fun b hb=>by
    have h1:b≠S:=U0u (U2q hb lz0)
    have h2:¬S+1<=b:=Nat.not_le_of_lt (U2q hb (U18 lz0))
    show(if b=S then _ else _)=_
    rw[if_neg h1,if_neg h2]
   have ext:∀b o,H1 b=some o->H2 b=some o:=fun b o e=>by
    obtain⟨ob,e'⟩:=(I1.hok b o e).obj
    rw[old b (up b ob e')];exact e
   have hpair:∀j p,(xs.zip ys)[j]?=some p->H2 (S+1+j)=some (.tup [p.1,p.2]):=fun j p e=>by
    show(if S+1+j=S then _ else _)=_
    rw[if_neg (by omega),if_pos (by omega),show S+1+j-(S+1)=j by omega,e]
   have hlst:H2 S=some (.lst refs):=by show(if S=S then _ else _)=_;rw[if_pos rfl]
   have fresh:∀b,n<=b->H1 b=none:=fun b hb=>I1.hok.fresh (hn ▸ hb)
   refine⟨.ref S,H2,I1.ud (h':=h2) (d':=s1.drawn) (t':=tk) k2 (hn ▸ old) ext fun b o e e'=>?_,rfl,q S (S+1) H2 (fresh S (U2c lz0)) ext hlst hpair⟩
   by_cases hb:b=S
   .subst hb
    rw[hlst] at e
    cases e
    refine⟨?_,(U0j (xs.zip ys).length).map (fun j=>U1y (b+1+j)),c',?_,hS⟩
    .show((U0j (xs.zip ys).length).map _).length<=_
     rw[U0l,U49];exact U07 hl (by decide)
    .show Vals ((U0j (xs.zip ys).length).map _) _
     generalize U0j (xs.zip ys).length=r
     induction r with
     |nil=>exact .nil
     |cons j r ih=>exact .cons rfl ih
   .by_cases hb2:S+1<=b
    .obtain⟨j,rfl⟩:∃j,b=S+1+j:=⟨b-(S+1),(Nat.add_sub_cancel' hb2).symm⟩
     cases hz:(xs.zip ys)[j]? with
     |none =>
      have:H2 (S+1+j)=H1 (S+1+j):=by
       show(if S+1+j=S then _ else _)=_
       rw[if_neg hb,if_pos hb2,show S+1+j-(S+1)=j by omega,hz]
      rw[this,e'] at e;cases e
     |some p =>
      rw[hpair j p hz] at e
      cases e
      obtain⟨hj,_⟩:=U0p.mp hz
      obtain⟨x,y,r1,r2,t⟩:=hL j hj
      have z1:=List.getElem?_zip_eq_some.mp hz
      obtain⟨u,hu,ru⟩:=rv1.get z1.1
      obtain⟨v,hv,rv⟩:=rv2.get z1.2
      have g1:its1[j]?=some x:=by simpa using r1
      have g2:its2[j]?=some y:=by simpa using r2
      rw[hu] at g1
      rw[hv] at g2
      have g1':=U05 g1
      have g2':=U05 g2
      rw[g1'] at ru
      rw[g2'] at rv
      exact⟨(by decide:2<=sizeLine),[x,y],.cons ru (.cons rv .nil),⟨_,t,rfl,_,rfl⟩⟩
    .have:H2 b=H1 b:=by
      show(if b=S then _ else _)=_
      rw[if_neg hb,if_neg hb2]
     rw[this,e'] at e;cases e
 cases L with
 |true=>exact call_zip_2 p1 p2 fun h' c1 c2 c3 c4 c5 _ k=>fin h' c1 c2 c3 c4 c5 k
 |false=>exact HT.iV p1 p2 fun h' c1 c2 c3 c4 c5 k=>fin h' c1 c2 c3 c4 c5 k
end
end L2
end
section
namespace VS
open PySem PySem.Spec L2 PyProof.Rows
theorem Uq{Γ:Fr}{μ:Mu}{H:Hp}:∀{as bs:List V} {xs ys:List D} (t0:Nat),VRs Γ μ H as xs->VRs Γ μ H bs ys->(∀j p,(as.zip bs)[j]?=some p->H (t0+j)=some (.tup [p.1,p.2]))->VRs Γ μ H ((U7x t0 (as.zip bs).length).map V.ref) (GC xs ys)
 |[],_,_,_,_,.nil,_,_=>by simp[GC];exact .nil
 |_::_,[],_,_,_,.cons _ _,.nil,_=>by simp[GC];exact .nil
 |a::as,b::bs,_,_,t0,.cons ra rs,.cons rb rt,h=>by
  rw[List.zip_cons_cons,U0g,List.range'_succ,U0t,GC]
  refine .cons (.tup (h 0 (a,b) rfl) (.cons ra (.cons rb .nil))) (Uq (t0+1) rs rt fun j p hp=>?_)
  have:=h (j+1) p (by simpa using hp)
  rw[show t0+1+j=t0+(j+1) by omega]
  exact this
theorem Ue:∀(xs ys:List D),(GC xs ys).length=(xs.zip ys).length
 |[],_=>by simp[GC]
 |_::_,[]=>by simp[GC]
 |_::xs,_::ys=>by simp[GC,Ue xs ys]
def RW(a:Bg):Aw:=fun env S=>(a env S).bind fun p=>match p.1 with
 |[x,y]=>(listOf p.2 x).bind fun xs=>(listOf p.2 y).bind fun ys=>if (GC xs ys).length<=1000000 then some (.lst true (GC xs ys),p.2) else none
 |_=>none
theorem Zj{X:Cx}{a b:Expr}{f:Bg}{p p2 pos pos2:Pos}(hc:X.calm=true)(ha:JA X [a,b] f)(hg:Gl X "list")(hm:X.mg "list"=none)(hg2:Gl X "zip")(hm2:X.mg "zip"=none)(hs:starEach [a,b] X.env=[(false,eval a X.env),(false,eval b X.env)]:=by rfl)(hs2:starEach [b] X.env=[(false,eval b X.env)]:=by rfl)
  (he2:starEach [.Call (.Name "zip" p2) [a,b] [] pos2] X.env=[(false,eval (.Call (.Name "zip" p2) [a,b] [] pos2) X.env)]:=by rfl):JE X (.Call (.Name "list" p) [.Call (.Name "zip" p2) [a,b] [] pos2] [] pos) (RW f) :=
 ⟨PE.imp (ZV true hc hg hm hg2 hm2 ha.pa hs hs2 he2) fun σ H Q h=>by
  obtain⟨Γ,μ,env,S,d,S',hK,R,e,q⟩:=h
  obtain⟨⟨ds,S1⟩,e1,e⟩:=bind_some e
  dsimp only at e
  split at e
  .rename_i x y
   obtain⟨xs,e2,e⟩:=bind_some e
   obtain⟨ys,e3,e⟩:=bind_some e
   by_cases hl:(GC xs ys).length<=1000000
   .rw[if_pos hl] at e;cases e
    refine⟨Γ,μ,env,S,[x,y],_,hK,R,e1,fun vs μ1 H1 x1 R1 r1=>?_⟩
    obtain⟨v,u,rfl,ra,rb⟩:=r1.two
    obtain⟨pa,as,rfl,ha',rx⟩:=VR.list R1 ra e2
    obtain⟨pb,bs,rfl,hb',ry⟩:=VR.list R1 rb e3
    refine⟨pa,pb,as,bs,rfl,ha',hb',?_,fun l t0 H2 hn hx hl2 hp=>?_⟩
    .rw[Ue,U7b,←rx.length,←ry.length] at hl
     rw[U7b];exact hl
    .obtain⟨R2,x2⟩:=R1.grow (show Same H1 H2 from hx)
     have hr:(U0j (as.zip bs).length).map (fun j=>V.ref (t0+j))=(U7x t0 (as.zip bs).length).map V.ref:=by
      rw[List.range'_eq_map_range,U0e];rfl
     exact q _ μ1 H2 (x1.trans x2) R2 (.lst (R1.ok hn true) (R1.dead hn) hl2 (by rw[hr];exact Uq t0 (rx.ext x2) (ry.ext x2) hp))
   .rw[if_neg hl] at e;cases e
  .cases e⟩
def Ro(a b:Aw):Aw:=fun env S=>(a env S).bind fun p=>(b env p.2).bind fun q=>match q.1 with
 |.int k=>(listOf q.2 p.1).bind fun ds=>if -(2^63)<=k/\k<2^63/\ds.length*k.toNat<=1000000 then some (.ref q.2.length,q.2++[some (U0m k.toNat ds).flatten]) else none
 |_=>none
theorem mC{X:Cx}{a b:Expr}{fa fb:Aw}{pos:Pos}(ha:JE X a fa)(hb:JE X b fb):JE X (.BinOp a .Mult b pos) (Ro fa fb) :=
 ⟨PE.imp (jC aD ha.pe hb.pe) fun σ H Q h=>by
  obtain⟨Γ,μ,env,S,d,S',hK,R,e,q⟩:=h
  obtain⟨⟨x,S1⟩,e1,e⟩:=bind_some e
  obtain⟨⟨y,S2⟩,e2,e⟩:=bind_some e
  dsimp only at e
  split at e
  .rename_i k
   obtain⟨ds,e3,e⟩:=bind_some e
   by_cases hl:-(2^63)<=k/\k<2^63/\ds.length*k.toNat<=1000000
   .rw[if_pos hl] at e;cases e
    refine⟨Γ,μ,env,S,x,S1,hK,R,e1,fun v1 μ1 H1 x1 R1 r1=>?_⟩
    refine⟨Γ,μ1,env,S1,.int k,S2,hK,R1,e2,fun v2 μ2 H2 x2 R2 r2=>?_⟩
    cases r2
    obtain⟨p,xs,rfl,hp,rp⟩:=VR.list R2 (r1.ext x2) e3
    refine⟨p,k,xs,rfl,rfl,hp,hl.1,hl.2.1,by rw[rp.length];exact U2c (big hl.2.2),fun t ht=>?_⟩
    obtain⟨R3,x3⟩:=R2.laid ht (rp.rep k.toNat)
    exact q _ _ _ (x1.trans (x2.trans x3)) R3 (jq R2.slen)
   .rw[if_neg hl] at e;cases e
  .cases e⟩
theorem Y4(a:Bg)(env:VS.Env)(S:Store):VS.RW a env S=(a env S).bind fun p=>match p.1 with
 |[x,y]=>(listOf p.2 x).bind fun xs=>(listOf p.2 y).bind fun ys=>if (GC xs ys).length<=1000000 then some (.lst true (GC xs ys),p.2) else none
 |_=>none:=rfl
theorem iG(a b:Aw)(env:VS.Env)(S:Store):VS.Ro a b env S=(a env S).bind fun p=>(b env p.2).bind fun q=>match q.1 with
 |.int k=>(listOf q.2 p.1).bind fun ds=>if -(2^63)<=k/\k<2^63/\ds.length*k.toNat<=1000000 then some (.ref q.2.length,q.2++[some (U0m k.toNat ds).flatten]) else none
 |_=>none:=rfl
end VS
end
section
namespace VS
open PySem PySem.Spec L2
end VS
end
section
namespace HT
open PySem PySem.Spec PyProof PyProof.Rows
def half{α:Type}(a:Nat)(l:List α):List α:=(U0j ((l.length+1-a)/2)).filterMap fun k=>l[a+2*k]?
end HT
namespace L2
open PySem PySem.Spec PyProof PyProof.Rows
end L2
end
section
namespace VS
open PySem PySem.Spec L2
def Nj(neg:Bool)(_:Store):D->D->Option D
 |.str a,.str b=>some (.bl (neg ^^ decide (a=b)))
 |_,_=>none
theorem YM{K:U0a}:Fb K d8 (Nj true):=by
 intro Γ μ σ H env S x y dx dy d hK R rx ry e Q q
 unfold Nj at e
 split at e
 .rename_i a b
  cases e;cases rx;cases ry
  refine .inl ⟨rfl,?_⟩
  have:decide (V.str a=V.str b)=decide (a=b):=by simp
  rw[this]
  exact q _ H (Same.refl H) (by simpa using VR.bl (!decide (a=b)))
 .cases e
end VS
end
section
namespace L2
open PySem PySem.Spec PyProof PyProof.Rows
section
variable{X:Cx}
end
end L2
end
section
namespace HT
open PySem PySem.Spec PyProof PyProof.Rows
section
variable{P0:Program}{wd:World}{Ar:Around}{Er:Value->Shared->Prop}{sh:Shared}
theorem cV{nm:String}{bi:Builtin}{xs:List Value}{kv:List (Str×Value)}{Qv:Value->Shared->Prop}(k1:builtinKind nm=none)(k2:plainId nm=true)(k3:entryFor table nm=some bi)(k4:argsOk nm ⟨xs,kv⟩)
  (k5:wpAny (model P0 wd) Ar.in1 (bi ⟨xs,kv⟩) (fun fin t=>match fin with
   |.done f=>(match (Except.ok f:Result) with|.ok (.ret v)=>Qv v t|.ok _=>False|.error e=>Er e t)
   |.again c=>c.quiet=true/\codeAny (model P0 wd) Ar c (fun r t'=>match r with|.ok (.ret v)=>Qv v t'|.ok _=>False|.error e=>Er e t') t) Er sh):wpAny (model P0 wd) Ar (call (.builtin nm) xs kv) Qv Er sh:=by
 apply wpAny_call;apply codeAny_call_builtin k2 k3
 simp only[checkBuiltinCall,k1]
 cases g:Manifest.signature? nm with
 |none=>exact U0d k5
 |some sg =>
  have e:Bind.checkArgs nm sg ⟨xs,kv⟩=pure ():=by simpa only[argsOk,g] using k4
  simp only[e];exact U0d k5
theorem QV:(toString "max"++toString ".loop":String)="max.loop":=by decide
variable{J:Addr}{fp wr:List Addr}{n:Nat}{P:Nat->Value->Prop}{St:Nat->Heap->Prop}{Rr:Result->Shared->Prop}{dv:Value}
theorem bU(W:Walks P0 wd Ar.in1 J fp wr n P St)(bt:Nat->Nat->Bool)(hG:CmpOf P0 wd Ar.in1 .Gt P bt)(B:Addr)(nB:B ∉ fp) :
  ∀(k j:Nat)(t:Shared)(vb:Value)(c:Nat),n-(j+1)=k->j+1<=n->St (j+1) t.heap->P (argBest bt j) vb->t.heap.get? B=some { cls:=.type "list",dict:=none,data:=.seq #[vb,vb] c,slots:=#[] } ->
  (∀v h' tk,P (argBest bt (n-1)) v->(∀b o,b ∉ wr->b≠B->t.heap.get? b=some o->h'.get? b=some o)->Rr (.ok (.ret v)) { t with heap:=h',toks:=tk }) ->
  codeAny (model P0 wd) Ar (.builtin "max.loop" ⟨[.ref J,.none,.ref B],[("default",dv)]⟩) Rr t:=by
 have wB:B ∉ wr:=fun h=>nB (W.sub _ h)
 intro k
 induction k with
 |zero =>
  intro j t vb c q1 q2 q3 q4 q5 q6
  have jn:j+1=n:=by omega
  apply codeAny_builtin U63;rw[U2g U33 _]
  show wpAny _ Ar.in1 (seqItems? (.ref B) >>= _) _ _ t
  apply U0;apply U19 q5 rfl
  show wpAny _ Ar.in1 (tryCatch (pyNext (.ref J)) _ >>= _) _ _ t
  refine U0 (U5t (W.done t _ _ (jn ▸ q3) fun h1 tk1 kp=>?_))
  have q5':=kp B _ wB q5
  show wpAny _ Ar.in1 (updateSeq B (fun _=>#[]) >>= _) _ _ _
  apply U0;apply U2r q5' rfl
  refine U0 (U4j (U0d (q6 vb _ tk1 (by rw[←jn];exact q4) fun b o n1 n2 e=>(U02 _ _ (U1p n2)).trans (kp b o n1 e))))
 |succ k ih =>
  intro j t vb c q1 q2 q3 q4 q5 q6
  have jn:j+1<n:=by omega
  apply codeAny_builtin U63;rw[U2g U33 _]
  show wpAny _ Ar.in1 (seqItems? (.ref B) >>= _) _ _ t
  apply U0;apply U19 q5 rfl
  show wpAny _ Ar.in1 (tryCatch (pyNext (.ref J)) _ >>= _) _ _ t
  refine U0 (U5t (W.item (j+1) t _ _ jn q3 fun v h1 tk1 pv st1 kp=>?_))
  have q5':=kp B _ wB q5
  show wpAny _ Ar.in1 (tryCatch (holding [v,v] (richCompare .Gt v vb >>= _)) _ >>= _) _ _ _
  refine U0 (U5t (U15 (U0 (hG (j+1) (argBest bt j) v vb _ _ _ pv q4 (U0 (U15 (U28 (U0 (U4j (U0d ?_))))))))))
  cases hb:bt (j+1) (argBest bt j) with
  |true =>
   simp only[if_true]
   apply U0;apply U2r q5' rfl
   refine U0 (U4j ?_)
   rw[QV]
   refine U0d ⟨plainId_quiet U33 _,ih (j+1) _ v _ (by omega) jn (W.frame _ _ _ st1 fun b hbf o e=>(U02 _ _ (fun h:B=b=>nB (by rw[h];exact hbf))).trans e) (by simp only[argBest,hb,if_true];exact pv) (U1k _ q5' rfl) fun v' h2 tk2 pv' kp2=>?_⟩
   exact q6 v' h2 tk2 pv' fun b o n1 n2 e=>kp2 b o n1 n2 ((U02 _ _ (U1p n2)).trans (kp b o n1 e))
  |false =>
   simp only[U1n,if_false]
   refine U0 (U4j ?_)
   rw[QV]
   exact U0d ⟨plainId_quiet U33 _,ih (j+1) _ vb c (by omega) jn st1 (by simp only[argBest,hb,U1n,if_false];exact q4) q5' fun v' h2 tk2 pv' kp2=>q6 v' h2 tk2 pv' fun b o n1 n2 e=>kp2 b o n1 n2 (kp b o n1 e)⟩
theorem lR(W:Walks P0 wd Ar.in1 J fp wr n P St)(bt:Nat->Nat->Bool)(hG:CmpOf P0 wd Ar.in1 .Gt P bt)(B:Addr)(nB:B ∉ fp){t:Shared}{c:Nat}(st:St 0 t.heap)(q5:t.heap.get? B=some { cls:=.type "list",dict:=none,data:=.seq #[] c,slots:=#[] })
  (q6:∀v h' tk,(n=0/\v=dv∨0<n/\P (argBest bt (n-1)) v)->(∀b o,b ∉ wr->b≠B->t.heap.get? b=some o->h'.get? b=some o)->Rr (.ok (.ret v)) { t with heap:=h',toks:=tk }) :
  codeAny (model P0 wd) Ar (.builtin "max.loop" ⟨[.ref J,.none,.ref B],[("default",dv)]⟩) Rr t:=by
 have wB:B ∉ wr:=fun h=>nB (W.sub _ h)
 apply codeAny_builtin U63;rw[U2g U33 _]
 show wpAny _ Ar.in1 (seqItems? (.ref B) >>= _) _ _ t
 apply U0;apply U19 q5 rfl
 show wpAny _ Ar.in1 (tryCatch (pyNext (.ref J)) _ >>= _) _ _ t
 by_cases h0:n=0
 .refine U0 (U5t (W.done t _ _ (h0 ▸ st) fun h1 tk1 kp=>?_))
  show wpAny _ Ar.in1 (rule _ >>= _) _ _ _
  exact U0 (U4h (U0d (q6 dv _ tk1 (.inl ⟨h0,rfl⟩) fun b o n1 n2 e=>kp b o n1 e)))
 .have hn:0<n:=by omega
  refine U0 (U5t (W.item 0 t _ _ hn st fun v h1 tk1 pv st1 kp=>?_))
  have q5':=kp B _ wB q5
  show wpAny _ Ar.in1 (updateSeq B (fun _=>#[v,v]) >>= _) _ _ _
  apply U0;apply U2r q5' rfl
  rw[QV]
  refine U0d ⟨plainId_quiet U33 _,bU W bt hG B nB _ 0 _ v _ rfl hn (W.frame _ _ _ st1 fun b hbf o e=>(U02 _ _ (fun h:B=b=>nB (by rw[h];exact hbf))).trans e) pv (U1k _ q5' rfl) fun v' h2 tk2 pv' kp2=>?_⟩
  exact q6 v' h2 tk2 (.inr ⟨hn,pv'⟩) fun b o n1 n2 e=>kp2 b o n1 n2 ((U02 _ _ (U1p n2)).trans (kp b o n1 e))
theorem cX(a d:Value):argsOk "max" ⟨[a],[("default",d)]⟩:=by unfold argsOk;kernel_rfl
end
end HT
namespace L2
open PySem PySem.Spec PyProof PyProof.Rows
section
variable{X:Cx}
theorem cT(hc:X.calm=true){pins:List (Addr×Obj)}{σ:St}{H:Hp}{s:Shared}(I:Inv X pins σ H s){p:Addr}{ns:List Int}{d:Int}{t:Tok}(hq:SqL X.K H p (ns.map V.int)){Q:VK}(q0:ns=[]->Q (.int d) H)(q1:ns≠[]->∀m∈ns,(∀n∈ns,n<=m)->Q (.int m) H) :
  wpAny (model X.prog X.w) X.A (call (.builtin "max") [.ref p] [("default",.int d t)]) (EP X pins σ Q) X.xe s:=by
 obtain⟨its,rv,pl,hz⟩:=I.list hq
 have hlen:=rv.length
 rw[U0l] at hlen
 have hl:=pl.isList
 have hlt:p<s.heap.objs.size:=by obtain⟨o,ho,_⟩:=hl;exact U0k ho
 have hval:∀i v,its.toArray[i]?=some v->∃t,v=U27 (ns.getD i 0) t:=fun i v e=>by
  rw[U38] at e
  have hi:i<ns.length:=by rw[hlen];exact(U0p.mp e).1
  obtain⟨u,e1,ru⟩:=rv.get (i:=i) (x:=.int ns[i]) (by rw[U04,U0h hi];rfl)
  rw[e] at e1;cases e1
  rw[show ns.getD i 0=ns[i] by rw[U0o,U0h hi];rfl]
  exact ru
 refine HT.cV F.kind_max F.plain_max F.entry_max (HT.cX _ _) ?_
 show wpAny _ X.A.in1 (Builtin.Builtins.bindParams "max" ["key","default"] 0 ⟨[],[("default",.int d t)]⟩ >>= _) _ _ s
 refine U0 (wpAny_of_eq (show Builtin.Builtins.bindParams "max" ["key","default"] 0 ⟨[],[("default",.int d t)]⟩=pure [none,some (.int d t)] by kernel_rfl) ?_)
 refine U0 (U0d (U0 (U48 hl (U0 (U17 ?_)))))
 rw[HT.QV]
 have W:=Walks.list (prog:=X.prog) (w:=X.w) (A:=X.A.in1) (by simpa using I.ok.hd hc) s.heap.objs.size p (U0u hlt) its.toArray
 refine U0d ⟨plainId_quiet U33 _,HT.lR W _ (CmpOf.ints_gt (fun i=>ns.getD i 0) hval) _ ?_ ⟨⟨_,U0b _ (U0n _ rfl),rfl,rfl⟩,(hl.push _).push _⟩ (U0n _ rfl) fun v h' tk hv hk=>?_⟩
 .intro hm
  rw[U1s] at hm
  rcases U0w.mp hm with z|z
  .exact absurd z (U1l (U3k _))
  .exact absurd (U0z.mp z) (U1l (U18 hlt))
 .have J:Inv X pins σ H { s with heap:=h',toks:=tk }:=I.kept (h':=h') (t':=tk) fun b o e=>hk b o (fun z=>absurd (U0z.mp z) (U0u (U0k e))) (fun z=>absurd (U0k e) (by rw[z,U1s];exact U7m.mpr (U4i _))) (U0b _ (U0b _ e))
  rcases hv with ⟨h0,rfl⟩|⟨h0,hP⟩
  .exact⟨.int d,H,J,⟨t,rfl⟩,q0 (U31.mp (by rw[hlen];simpa using h0))⟩
  .obtain⟨g1,g2⟩:=argBest_gt (fun i=>ns.getD i 0) (its.toArray.size-1)
   obtain⟨t',rfl⟩:=hval _ _ hP
   rw[U0v,←hlen] at g1 g2 h0
   have hb:argBest (fun i j=>decide (ns.getD i 0>ns.getD j 0)) (ns.length-1)<ns.length:=by omega
   rw[U0v,←hlen]
   refine⟨.int _,H,J,⟨t',rfl⟩,q1 (fun z=>by rw[z] at h0;simp at h0) _ ?_ fun n hn=>?_⟩
   .rw[U0o,U0h hb]
    exact U3a hb
   .obtain⟨j,hj,rfl⟩:=List.getElem_of_mem hn
    have:=g2 j (by omega)
    rw[U0o,U0h hj] at this
    exact this
def uE(K:U0a)(d:Int)(te:TE):TE:=fun σ H Q=>te σ H fun x H1=>∃(p:Addr)(ns:List Int),x=.ref p/\SqL K H1 p (ns.map V.int)/\(ns=[]->Q (.int d) H1)/\(ns≠[]->∀m∈ns,(∀n∈ns,n<=m)->Q (.int m) H1)
theorem kj{e:Expr}{te:TE}{d:Int}{j:Nat}{p pos kp kp0:Pos}(hc:X.calm=true)(hg:Gl X "max")(hm:X.mg "max"=none)(he:PE X e te)(hs:starEach [e] X.env=[(false,eval e X.env)]:=by rfl) :
  PE X (.Call (.Name "max" p) [e] [⟨some "default",.Constant (.int d) j kp0,kp⟩] pos) (uE X.K d te):=by
 intro pins s σ H Q I h
 refine U34 (Je I hg hm (by decide +kernel:bootBuiltins "max"=some (.builtin "max")) ?_)
 refine PyProof.Rows.callWith_kw ?_ (by rw[hs];rfl) (by rw[hs];rfl) rfl rfl
 refine thn (NT he Ou hs pos pins s σ H (fun vs H1=>match vs with
  |[x]=>∃(p:Addr)(ns:List Int),x=.ref p/\SqL X.K H1 p (ns.map V.int)/\(ns=[]->Q (.int d) H1)/\(ns≠[]->∀m∈ns,(∀n∈ns,n<=m)->Q (.int m) H1)
  |_=>False) I h) fun us s1 ⟨vs,H1,I1,r1,q1⟩=>?_
 cases r1 with
 |nil=>exact q1.elim
 |cons rx rr =>
  cases rr with
  |cons _ _=>exact q1.elim
  |nil =>
   obtain⟨a,ns,rfl,hq,q0,q2⟩:=q1
   cases rx
   refine PyProof.Rows.kws_cons (thn (aC pins s1 σ H1 (fun y H2=>y=.int d/\H2=H1) I1 ⟨rfl,rfl⟩) fun u s2 ⟨y,H2,I2,r2,e1,e2⟩=>PyProof.Rows.kws_nil ?_)
   subst e1 e2
   obtain⟨t0,rfl⟩:=(show ∃t,u=U27 d t from r2)
   exact cT hc I2 hq q0 q2
end
end L2
end
section
namespace VS
open PySem PySem.Spec L2
def Rq(d:Int)(a:Aw):Aw:=fun env S=>(a env S).bind fun p=>(listOf p.2 p.1).bind fun ds=>(intsOf ds).map fun ns=>(.int ((Hf ns).getD d),p.2)
theorem iI(d:Int)(a:Aw)(env:VS.Env)(S:Store):Rq d a env S=(a env S).bind fun p=>(listOf p.2 p.1).bind fun ds=>(intsOf ds).map fun ns=>(.int ((Hf ns).getD d),p.2):=rfl
theorem mF{X:Cx}{e:Expr}{f:Aw}{d:Int}{j:Nat}{p pos kp kp0:Pos}(hc:X.calm=true)(hg:Gl X "max")(hm:X.mg "max"=none)(he:JE X e f)(hs:starEach [e] X.env=[(false,eval e X.env)]:=by rfl) :
  JE X (.Call (.Name "max" p) [e] [⟨some "default",.Constant (.int d) j kp0,kp⟩] pos) (Rq d f) :=
 ⟨PE.imp (kj hc hg hm he.pe hs) fun σ H Q h=>by
  obtain⟨Γ,μ,env,S,y,S',hK,R,e,q⟩:=h
  obtain⟨⟨x,S1⟩,e1,e⟩:=bind_some e
  obtain⟨ds,e2,e⟩:=bind_some e
  obtain⟨ns,e3,e⟩:=map_some e
  cases e
  refine⟨Γ,μ,env,S,x,S1,hK,R,e1,fun v1 μ1 H1 x1 R1 r1=>?_⟩
  obtain⟨a,xs,rfl,ha,rs⟩:=VR.list R1 r1 e2
  have:=Gf e3
  subst this
  have:=rs.Nq
  subst this
  refine⟨a,ns,rfl,SqL.of ha,fun z=>?_,fun z m h1 h2=>?_⟩
  .have:=q (.int ((Hf ns).getD d)) μ1 H1 x1 R1 (.int _)
   rw[z] at this
   exact this
  .cases hm:Hf ns with
   |none =>
    cases ns with
    |nil=>exact absurd rfl z
    |cons a r=>simp[Hf] at hm
   |some m' =>
    obtain⟨g1,g2⟩:=QW hm
    have e:m=m':=U5n (g2 _ h1) (h2 _ g1)
    have:=q (.int ((Hf ns).getD d)) μ1 H1 x1 R1 (.int _)
    rw[hm] at this
    rw[e]
    exact this⟩
end VS
end
section
namespace VS
open PySem PySem.Spec L2
end VS
end
section
set_option maxRecDepth 100000
namespace HT
open PySem PySem.Spec PyProof.Rows
section
variable{prog:Program}{w:World}{A:Around}{E:Value->Shared->Prop}{s:Shared}
structure wu(z TI TO i1 i2 i3:Addr)(fp1 fp2 fp3:List Addr):Prop where
 a1:TI≠z
 a2:TO≠z
 a3:TI≠TO
 b1:∀b∈fp1,b≠z/\b≠TO/\b≠i2/\b≠i3
 b2:∀b∈fp2,b≠z/\b≠TO/\b≠i1/\b≠i3
 b3:∀b∈fp3,b≠z/\b≠TO/\b≠i1/\b≠i2
 c1:i1≠z/\i1≠TO/\i1≠TI
 c2:i2≠z/\i2≠TO/\i2≠TI
 c3:i3≠z/\i3≠TO/\i3≠TI
section
variable{z TI TO i1 i2 i3:Addr}{fp1 fp2 fp3:List Addr}{n1 n2 n3 k:Nat}{P1 P2 P3:Nat->Value->Prop}{S1 S2 S3:Nat->Heap->Prop}{a b c:Value}
end
set_option maxHeartbeats 4000000 in
end
end HT
end
section
namespace HT
open PySem PySem.Spec PyProof.Rows
section
variable{prog:Program}{w:World}{A:Around}{E:Value->Shared->Prop}{s:Shared}
end
end HT
namespace L2
open PySem PySem.Spec PyProof.Rows
end L2
end
section
namespace L2
open PySem PySem.Spec PyProof.Rows
section
variable{X:Cx}
end
end L2
end
section
namespace VS
open PySem PySem.Spec L2
section
variable{X:Cx}
end
end VS
end
section
set_option maxRecDepth 100000
namespace L2
open PySem PySem.Spec PyProof.Rows
section
variable{κ:Type}[DecidableEq κ]
def Ik(kvs:List (κ×V))(k:κ):Option V:=(kvs.find? fun kv=>decide (kv.1=k)).map (·.2)
def putK(kvs:List (κ×V))(k:κ)(v:V):List (κ×V) :=
 if (kvs.any fun kv=>decide (kv.1=k))=true then kvs.map (fun kv=>if kv.1=k then (kv.1,v) else kv) else kvs++[(k,v)]
theorem R8{p:κ×V}{r:List (κ×V)}{k:κ}(e:p.1=k):Ik (p::r) k=some p.2:=by simp[Ik,U3t,e]
theorem R9{p:κ×V}{r:List (κ×V)}{k:κ}(e:¬p.1=k):Ik (p::r) k=Ik r k:=by simp[Ik,U3t,e]
theorem W3(k:κ):∀kvs:List (κ×V),(kvs.any fun kv=>decide (kv.1=k))=(Ik kvs k).isSome
 |[]=>rfl
 |p::r=>by
  rw[U7q]
  by_cases e:p.1=k
  .simp only[R8 e,decide_eq_true e,U7v,Option.isSome_some]
  .rw[R9 e,decide_eq_false e,Bool.false_or];exact W3 k r
theorem Ql(kvs:List (κ×V))(k:κ)(v:V):(putK kvs k v).length<=kvs.length+1:=by
 unfold putK
 split
 .rw[U0l];omega
 .rw[U0q,U0g,U1h];omega
theorem Lk.cC{o:Option V}{u:Option Value}(r:Lk o u):o.isSome=u.isSome:=by
 cases o with
 |none=>cases u with
  |none=>rfl
  |some _=>exact(show False from r).elim
 |some _=>cases u with
  |none=>exact(show False from r).elim
  |some _=>rfl
theorem KV.val{kvs:List (κ×V)}{vs:List (κ×Value)}(r:KV kvs vs)(k:κ):Lk (Ik kvs k) (valueAt vs k):=by
 unfold KV at r
 induction r with
 |nil=>exact U4z
 |@cons p q ps qs h t ih =>
  obtain⟨h1,h2⟩:=h
  by_cases e:p.1=k
  .have e':q.1=k:=h1.symm.trans e
   have b:valueAt (q::qs) k=some q.2:=by simp[valueAt,U3t,e']
   rw[R8 e,b];exact h2
  .have e':¬q.1=k:=fun z=>e (h1.trans z)
   have b:valueAt (q::qs) k=valueAt qs k:=by simp[valueAt,U3t,e']
   rw[R9 e,b];exact ih
theorem KV.any{kvs:List (κ×V)}{vs:List (κ×Value)}(r:KV kvs vs)(k:κ):(kvs.any fun kv=>decide (kv.1=k))=vs.any fun kv=>decide (kv.1=k):=by
 unfold KV at r
 induction r with
 |nil=>rfl
 |cons h t ih=>rw[U7q,U7q,ih,h.1]
theorem KV.repl{kvs:List (κ×V)}{vs:List (κ×Value)}(r:KV kvs vs)(k:κ){y:V}{u:Value}(ry:RelV y u) :
  KV (kvs.map fun kv=>if kv.1=k then (kv.1,y) else kv) (vs.map fun kv=>if kv.1=k then (kv.1,u) else kv):=by
 unfold KV at r ⊢
 induction r with
 |nil=>exact .nil
 |@cons p q ps qs h t ih =>
  rw[U0t,U0t]
  refine .cons ?_ ih
  obtain⟨h1,h2⟩:=h
  by_cases e:p.1=k
  .rw[if_pos e,if_pos (h1.symm.trans e)];exact⟨h1,ry⟩
  .rw[if_neg e,if_neg (fun z=>e (h1.trans z))];exact⟨h1,h2⟩
theorem KV.put{kvs:List (κ×V)}{vs:List (κ×Value)}(r:KV kvs vs)(k:κ){y:V}{u:Value}(ry:RelV y u):KV (putK kvs k y) (stored vs k u):=by
 unfold putK stored
 rw[r.any k]
 by_cases e:(vs.any fun kv=>decide (kv.1=k))=true
 .rw[if_pos e,if_pos e];exact r.repl k ry
 .rw[if_neg e,if_neg e];exact Paired.snoc r ⟨rfl,ry⟩
theorem KV.length{kvs:List (κ×V)}{vs:List (κ×Value)}(r:KV kvs vs):kvs.length=vs.length:=Paired.length r
end
theorem Z9{P:Program}{w:World}{k:Key}{u:Value}(r:RelV (kV k) u):(Ei P w).is k u=true:=by
 cases k with
 |inl i=>obtain⟨t,e⟩:=(show ∃t,u=U27 i t from r);subst e;exact Xx P w i t
 |inr x=>obtain⟨t,e⟩:=(show ∃t,u=U65 x t from r);subst e;exact Xw P w x t
theorem Uw{P:Program}{w:World}:∀{ks:List Key} {us:List Value},Vals (ks.map kV) us->ItemsAre (Ei P w) ks us
 |[],_,r=>by rw[U1w] at r;cases r;exact .nil
 |k::ks,_,r=>by
  rw[U0t] at r
  cases r with
  |cons h t=>exact .cons (Z9 h) (Uw t)
abbrev KT(H:Hp):List (List Key×V)->List (List Key×Addr×Value)->Prop:=Paired fun p q=>p.1=q.1/\H q.2.1=some (.tup (p.1.map kV))/\RelV p.2 q.2.2
theorem KT.val{H:Hp}{kvs:List (List Key×V)}{xs:List (List Key×Addr×Value)}(r:KT H kvs xs)(k:List Key):Lk (Ik kvs k) ((atKey xs k).map (·.2)):=by
 induction r with
 |nil=>exact U4z
 |@cons p q ps qs h t ih =>
  obtain⟨h1,_,h2⟩:=h
  by_cases e:p.1=k
  .have e':q.1=k:=h1.symm.trans e
   have b:atKey (q::qs) k=some q.2:=by simp[atKey,U3t,e']
   rw[R8 e,b];exact h2
  .have e':¬q.1=k:=fun z=>e (h1.trans z)
   have b:atKey (q::qs) k=atKey qs k:=by simp[atKey,U3t,e']
   rw[R9 e,b];exact ih
theorem KT.repl{H:Hp}{kvs:List (List Key×V)}{xs:List (List Key×Addr×Value)}(r:KT H kvs xs)(k:List Key){y:V}{u:Value}(ry:RelV y u) :
  KT H (kvs.map fun kv=>if kv.1=k then (kv.1,y) else kv) (xs.map (putAt k u)):=by
 induction r with
 |nil=>exact .nil
 |@cons p q ps qs h t ih =>
  rw[U0t,U0t]
  refine .cons ?_ ih
  obtain⟨h1,h2,h3⟩:=h
  unfold putAt
  by_cases e:p.1=k
  .rw[if_pos e,if_pos (h1.symm.trans e)];exact⟨h1,h2,ry⟩
  .rw[if_neg e,if_neg (fun z=>e (h1.trans z))];exact⟨h1,h2,h3⟩
theorem KT.put{H:Hp}{kvs:List (List Key×V)}{xs:List (List Key×Addr×Value)}(r:KT H kvs xs)(k:List Key){b:Addr}{y:V}{u:Value}(hb:H b=some (.tup (k.map kV)))(ry:RelV y u) :
  KT H (putK kvs k y) (storedH xs k b u):=by
 have e:(kvs.any fun kv=>decide (kv.1=k))=(atKey xs k).isSome:=by
  rw[W3,(r.val k).cC,Option.isSome_map]
 unfold putK storedH
 rw[e]
 by_cases q:(atKey xs k).isSome=true
 .rw[if_pos q,if_pos q];exact r.repl k ry
 .rw[if_neg q,if_neg q];exact Paired.snoc r ⟨rfl,hb,ry⟩
theorem KT.keeps{H H':Hp}{kvs:List (List Key×V)}{xs:List (List Key×Addr×Value)}(r:KT H kvs xs)(ht:∀b ys,H b=some (.tup ys)->H' b=some (.tup ys)):KT H' kvs xs :=
 Paired.dB r fun _ _ z=>⟨z.1,ht _ _ z.2.1,z.2.2⟩
section
variable{P:Program}{w:World}{H:Hp}{h:Heap}{a:Addr}
theorem j7{u:HO}(ok:HOk P w H h)(e:Rd H a u):Cp P w H h a u:=e.ok ok
theorem Vi{kvs:List (Key×V)}(ok:HOk P w H h)(e:Rd H a (.dK kvs)):kvs.length<=sizeLine/\(a==sysModules)=false/\∃vs,KV kvs vs/\h.DictOf (Ei P w) a vs :=
 show Cp P w H h a (.dK kvs) from j7 ok e
theorem jH{kvs:List (Key×V)}(ok:HOk P w H h)(e:H a=some (.dK kvs)):kvs.length<=sizeLine/\(a==sysModules)=false/\∃vs,KV kvs vs/\h.DictOf (Ei P w) a vs:=Vi ok (.inl e)
theorem Vx{ks:List Key}(ok:HOk P w H h)(e:H a=some (.tup (ks.map kV))):(tupleKind (Ei P w)).is h ks a:=by
 obtain⟨_,its,r,o,h1,h2,n,h3⟩:=(show Cp P w H h a (.tup (ks.map kV)) from ok a _ e)
 exact⟨o,its.toArray,n,h1,h2,h3,by simpa using Uw r⟩
theorem Vh{kvs:List (List Key×V)}(ok:HOk P w H h)(e:Rd H a (.dT kvs)):kvs.length<=sizeLine/\(a==sysModules)=false /\
  ∃xs,KT H kvs xs/\h.DictOfH (tupleKind (Ei P w)) a xs:=by
 obtain⟨z,y,xs,r,o,es,ep,h1,h2,h3,h4,h5⟩:=(show Cp P w H h a (.dT kvs) from j7 ok e)
 refine⟨z,y,xs,r,o,es,ep,h1,h2,h3,h4,fun x hx=>?_,h5⟩
 have all:∀{l:List (List Key×V)} {m:List (List Key×Addr×Value)},KT H l m->∀x∈m,(tupleKind (Ei P w)).is h x.1 x.2.1:=by
  intro l m q
  induction q with
  |nil=>intro x hx;exact nomatch hx
  |@cons p q ps qs hq t ih =>
   intro x hx
   rcases U0w.mp hx with e|hx
   .subst e
    exact Vx ok (by rw[←hq.1];exact hq.2.1)
   .exact ih x hx
 exact all r x hx
theorem uz{kvs:List (List Key×V)}(ok:HOk P w H h)(e:H a=some (.dT kvs)):kvs.length<=sizeLine/\(a==sysModules)=false /\
  ∃xs,KT H kvs xs/\h.DictOfH (tupleKind (Ei P w)) a xs:=Vh ok (.inl e)
end
def TY(H:Hp)(a:Addr)(y:V)(r:Option V):Prop :=
 (∃kvs k,Rd H a (.dK kvs)/\y=kV k/\r=Ik kvs k)∨∃kvs k b,Rd H a (.dT kvs)/\y=.ref b/\H b=some (.tup (k.map kV))/\r=Ik kvs k
def Vs(H:Hp)(a:Addr)(y v:V)(H':Hp):Prop :=
 (∃kvs k,H a=some (.dK kvs)/\y=kV k/\kvs.length<sizeLine/\H'=upd H a (.dK (putK kvs k v))) ∨
 ∃kvs k b,H a=some (.dT kvs)/\y=.ref b/\H b=some (.tup (k.map kV))/\kvs.length<sizeLine/\H'=upd H a (.dT (putK kvs k v))
theorem TY.k{H:Hp}{a:Addr}{kvs:List (Key×V)}{k:Key}(e:H a=some (.dK kvs)):TY H a (kV k) (Ik kvs k):=.inl ⟨kvs,k,.inl e,rfl,rfl⟩
theorem Vs.k{H:Hp}{a:Addr}{kvs:List (Key×V)}{k:Key}{v:V}(e:H a=some (.dK kvs))(hl:kvs.length<sizeLine):Vs H a (kV k) v (upd H a (.dK (putK kvs k v))):=.inl ⟨kvs,k,e,rfl,hl,rfl⟩
section
variable{X:Cx}{pins:List (Addr×Obj)}{σ:St}{H:Hp}{s:Shared}{a:Addr}{y v:V}{u r:Value}{o:Option V}{A:Around}{E:Value->Shared->Prop}
theorem cM{Q:Value->Shared->Prop}(hu:A.units+1<cLine)(I:Inv X pins σ H s)(g:TY H a y (some v))(ry:RelV y u)(h:∀w' s',Inv X pins σ H s'->RelV v w'->Q w' s') :
  wpAny (model X.prog X.w) A (getItem (.ref a) u) Q E s:=by
 rcases g with ⟨kvs,k,e,ey,l⟩|⟨kvs,k,b,e,ey,eb,l⟩
 .subst ey
  obtain⟨z,hd,vs,rel,dd⟩:=Vi I.hok e
  obtain⟨w',hw,rw'⟩:=Lk.some_of (v:=v) (o:=valueAt vs k) (by rw[l];exact rel.val k)
  exact wpAny_getItem_of (Z9 ry) dd.mapOf hw (h w' _ (I.tok _) rw')
 .subst ey
  cases (show u=U1y b from ry)
  obtain⟨z,hd,xs,rel,dd⟩:=Vh I.hok e
  obtain⟨w',hw,rw'⟩:=Lk.some_of (v:=v) (o:=(atKey xs k).map (·.2)) (by rw[l];exact rel.val k)
  obtain⟨p,hp,hp2⟩:=U26.mp hw
  refine wpAny_getItem_heap (tupleKind_room_in1 hu) (Vx I.hok eb) dd hp ?_
  rw[hp2]
  exact h w' _ (I.tok _) rw'
theorem Yn{h':Heap}{t':Nat}{ob:HO}(I:Inv X pins σ H s)(mu:Mut (H a))(hs:U03 a s.heap h')(he:∃q,h'.get? a=some q)(new:Cp X.prog X.w (upd H a ob) h' a ob) :
  Inv X pins σ (upd H a ob) { s with heap:=h',toks:=t' } :=
 I.write (x:=a) (e:=a) mu (.inl rfl) (fun b q hb z=>(hs.2 b hb).trans z) he new
theorem sE{P:Program}{w:World}{H':Hp}{h':Heap}{kvs:List (Key×V)}{vs:List (Key×Value)}(z:kvs.length<=sizeLine)(hd:(a==sysModules)=false)(rel:KV kvs vs)(dd:h'.DictOf (Ei P w) a vs) :
  Cp P w H' h' a (.dK kvs):=⟨z,hd,vs,rel,dd⟩
theorem cL{H':Hp}{Q:Unit->Shared->Prop}(hu:A.units+1<cLine)(I:Inv X pins σ H s)(g:Vs H a y v H')(ry:RelV y u)(rv:RelV v r)(h:∀s',Inv X pins σ H' s'->Q () s') :
  wpAny (model X.prog X.w) A (setItem (.ref a) u r) Q E s:=by
 rcases g with ⟨kvs,k,e,ey,l,eH⟩|⟨kvs,k,b,e,ey,eb,l,eH⟩
 .subst ey eH
  obtain⟨z,hd,vs,rel,dd⟩:=jH I.hok e
  have hz:vs.length<=sizeLine:=by rw[←rel.length];exact z
  have hl:(putK kvs k v).length<=sizeLine:=by have:=Ql kvs k v;omega
  refine wpAny_setItem_pairs (hsz:=hz) (Z9 ry) dd fun h' dd' hs=>h _ ?_
  have he:∃q,h'.get? a=some q:=let ⟨q,_,_,hq,_⟩:=dd';⟨q,hq⟩
  exact Yn I (by rw[e];exact U4z) hs he (sE hl hd (rel.put k rv) dd')
 .subst ey eH
  cases (show u=U1y b from ry)
  obtain⟨z,hd,xs,rel,dd⟩:=uz I.hok e
  have hz:xs.length<=sizeLine:=by rw[←Paired.length rel];exact z
  have hl:(putK kvs k v).length<=sizeLine:=by have:=Ql kvs k v;omega
  refine wpAny_setItem_heap (hsz:=hz) (tupleKind_room_in1 hu) (Vx I.hok eb) dd fun h' dd' hs=>h _ ?_
  obtain⟨q,es,ep,hq,h2,h3,h4,_,h5⟩:=dd'
  refine Yn I (by rw[e];exact U4z) hs ⟨q,hq⟩ ⟨hl,hd,_,(rel.put k eb rv).keeps fun c ys ec=>?_,q,es,ep,hq,h2,h3,h4,h5⟩
  rw[BZ (uc ec e (fun z=>nomatch z))]
  exact ec
end
section
variable{X:Cx}{pins:List (Addr×Obj)}{σ:St}{H:Hp}{s:Shared}{a:Addr}{kvs:List (Key×V)}{k:Key}{u:Value}{A:Around}{E:Value->Shared->Prop}
end
def dO(i:Expr):Prop:=∀ov iv,subscripted i false ov iv=operate [ov,iv] (getItem ov iv)
theorem jf{prog:Program}{w:World}{A:Around}{E:Value->Shared->Prop}{s:Shared}{env:Env}{value slice:Expr}{pos:Pos}{T id:String}{Q:Value->Shared->Prop}
  (hl:typeLookup (.type T) "__getitem__"=pure (some (.builtin id))) (hs:dO slice)
  (h:wpAny (model prog w) A (eval value env) (fun o s₁=>wpAny (model prog w) A (eval slice env) (fun i s₂=>s₂.TypeIs o T/\wpAny (model prog w) A (getItem o i) Q E s₂) E s₁) E s) :
  wpAny (model prog w) A (eval (.Subscript value slice pos) env) Q E s:=by
 refine Subscript_ (U4e h (fun o s₁ h₁=>U4e h₁ (fun i s₂ h₂=>?_) fun _ _ x=>x) fun _ _ x=>x)
 obtain⟨hT,h₂⟩:=h₂
 unfold subscriptTail
 refine U0 ?_
 rw[getitemInPython_of_ne hT.not_modules]
 refine U0 (U5m hT hl ?_)
 have fin:wpAny (model prog w) A (subscripted slice false o i) (fun r s₃=>wpAny (model prog w) A (letTemporaryGo value o r >>= fun _=>pure r) Q E s₃) E s₂:=by
  rw[hs o i]
  exact wpAny_operating (U4e h₂ (fun r s₃ h₃=>U0 (wpAny_letTemporaryGo (U0d h₃))) fun _ _ x=>x)
 first
  |exact U0d (U0 fin)
  |exact U0 (U0d (U0 fin))
  |exact U0 fin
theorem Y5{X:Cx}{pins:List (Addr×Obj)}{σ:St}{H:Hp}{s:Shared}{a:Addr}{y:V}{o:Option V}(I:Inv X pins σ H s)(g:TY H a y o):s.TypeIs (.ref a) "dict":=by
 rcases g with ⟨kvs,k,e,_,_⟩|⟨kvs,k,b,e,_,_,_⟩
 .obtain⟨_,_,vs,_,dd⟩:=Vi I.hok e
  exact dd.typeIs
 .obtain⟨_,_,xs,_,dd⟩:=Vh I.hok e
  exact dd.typeIs
def uG(td ty:TE):TE:=fun σ H Q=>td σ H fun x H1=>ty σ H1 fun y H2=>∃a v,x=.ref a/\TY H2 a y (some v)/\Q v H2
def Rk(td ty tv:TE):TS:=fun D σ H=>tv σ H fun v H1=>td σ H1 fun x H2=>ty σ H2 fun y H3=>∃a H4,x=.ref a/\Vs H3 a y v H4/\D.nx σ H4
section
variable{X:Cx}{o i e value:Expr}{pos pos' tpos:Pos}{td ty tv:TE}
theorem lA(hu:X.A.units+1<cLine)(ho:PE X o td)(hi:PE X i ty)(hs:dO i):PE X (.Subscript o i pos) (uG td ty):=by
 intro pins s σ H Q I h
 refine jf PySem.F.slot_dict_getitem.lookup hs (thn (ho pins s σ H _ I h) fun u s1 ⟨x,H1,I1,rx,q1⟩=>thn (hi pins s1 σ H1 _ I1 q1) fun iv s2 ⟨y,H2,I2,ry,a,v,ex,g,q2⟩=>?_)
 subst ex
 obtain rfl:u=U1y a:=rx
 exact⟨Y5 I2 g,cM hu I2 g ry fun w' s3 I3 rw'=>⟨v,H2,I3,rw',q2⟩⟩
theorem kO(hu:X.A.units+1<cLine)(ho:PE X o td)(hi:PE X i ty)(hv:PE X value tv)(hs:swapsWith value (some (.Subscript o i pos')) pos.line X.env=pure false) :
  PS X (.Assign [.Subscript o i pos'] value pos) (Rk td ty tv):=by
 intro pins s σ H D I h
 refine wpAny_Assign_Subscript (thn (hv pins s σ H _ I h) fun r s1 ⟨v,H1,I1,rv,q1⟩=>thn (ho pins s1 σ H1 _ I1 q1) fun u s2 ⟨x,H2,I2,rx,q2⟩=>thn (hi pins s2 σ H2 _ I2 q2) fun iv s3 ⟨y,H3,I3,ry,a,H4,ex,g,q3⟩=>?_) hs
 subst ex
 obtain rfl:u=U1y a:=rx
 exact cL hu I3 g ry rv fun s4 I4=>⟨σ,H4,I4,q3⟩
end
theorem iK{P:Program}{w:World}{H:Hp}(h:Heap)(hb:sysModules<h.objs.size):Cp P w H (h.push { cls:=.type "dict",data:=.dict #[] }) h.objs.size (.dK []) :=
 ⟨U3h _,beq_eq_false_iff_ne.mpr (U1p (U0u hb)),[],.nil,Heap.DictOf.new h⟩
def pR:TE:=fun _ H Q=>∀p,H p=none->Q (.ref p) (upd H p (.dK []))
section
variable{X:Cx}{pos:Pos}
theorem fY:PE X (.Dict [] [] pos) pR:=fun pins s σ H Q I h =>
 wpAny_Dict_empty ⟨.ref s.heap.objs.size,_,I.laid (a:=s.heap.objs.size) (o:=.dK []) (t':=s.toks) (fun _ _ q=>U0b _ q) (U0s _) (iK s.heap I.big),rfl,h _ (I.hok.fresh (U0s _))⟩
end
structure M1(X:Cx)(o:Expr)(m:Str)(apos:Pos)(e:Expr)(cpos:Pos):Prop where
 base:attributeBase o m X.env (eval o X.env)=eval o X.env
 few:((backTo cpos (starEach [e] X.env)).all (fun x=>!x.1)&&(backToKw cpos (keywordEach [] X.env)).all (fun x=>x.1.isSome)
  && decide (([e]:List Expr).length+([]:List Keyword).length+(if ([]:List Keyword).isEmpty then 0 else 1)<30))=true
 line:(apos.endLine==cpos.line)=true
 trees:backTo cpos (starEach [e] X.env)=[(false,eval e X.env)]
structure M2(X:Cx)(o:Expr)(m:Str)(apos:Pos)(e f:Expr)(cpos:Pos):Prop where
 base:attributeBase o m X.env (eval o X.env)=eval o X.env
 few:((backTo cpos (starEach [e,f] X.env)).all (fun x=>!x.1)&&(backToKw cpos (keywordEach [] X.env)).all (fun x=>x.1.isSome)
  && decide (([e,f]:List Expr).length+([]:List Keyword).length+(if ([]:List Keyword).isEmpty then 0 else 1)<30))=true
 line:(apos.endLine==cpos.line)=true
 trees:backTo cpos (starEach [e,f] X.env)=[(false,eval e X.env),(false,eval f X.env)]
def IsD(H:Hp)(a:Addr):Prop:=(∃kvs,Rd H a (.dK kvs))∨∃kvs,Rd H a (.dT kvs)
theorem rN{X:Cx}{pins:List (Addr×Obj)}{σ:St}{H:Hp}{s:Shared}{a:Addr}(I:Inv X pins σ H s)(d:IsD H a) :
  s.TypeIs (.ref a) "dict"/\(∀b,U1y a=.ref b->∃ob,s.heap.get? b=some ob/\ob.dict=none)/\(a==sysModules)=false:=by
 rcases d with ⟨kvs,e⟩|⟨kvs,e⟩
 .obtain⟨_,hd,vs,_,dd⟩:=Vi I.hok e
  refine⟨dd.typeIs,fun b q=>?_,hd⟩
  cases q
  obtain⟨ob,_,_,h1,h2,_⟩:=dd
  exact⟨ob,h1,h2.2.1⟩
 .obtain⟨_,hd,xs,_,dd⟩:=Vh I.hok e
  refine⟨dd.typeIs,fun b q=>?_,hd⟩
  cases q
  obtain⟨ob,_,_,h1,h2,_⟩:=dd
  exact⟨ob,h1,h2.2.1⟩
section
variable{X:Cx}{pins:List (Addr×Obj)}{σ:St}{H:Hp}{s:Shared}{a:Addr}{y d:V}{u r:Value}{o:Option V}{A:Around}{E:Value->Shared->Prop}
end
section
variable{X:Cx}{o e f:Expr}{apos cpos:Pos}{td ty tx:TE}
end
section
variable{X:Cx}{pins:List (Addr×Obj)}{σ:St}{H:Hp}{s:Shared}{a:Addr}{kvs:List (Key×V)}{A:Around}{E:Value->Shared->Prop}
end
section
variable{X:Cx}{pins:List (Addr×Obj)}{σ:St}{H:Hp}{s:Shared}{a:Addr}{y:V}{u:Value}{A:Around}{E:Value->Shared->Prop}
end
section
variable{X:Cx}
end
section
variable{κ:Type}[DecidableEq κ]
end
end L2
end
section
namespace VS
open PySem PySem.Spec L2
def ofV:V->Option D
 |.int i=>some (.int i)
 |.bl b=>some (.bl b)
 |.non=>some .non
 |.str x=>some (.str x)
 |_=>none
def toV:D->Option V
 |.int i=>some (.int i)
 |.bl b=>some (.bl b)
 |.non=>some .non
 |.str x=>some (.str x)
 |_=>none
def dictOf(S:Store):D->Option (List (Key×V))
 |.dref i=>match S[i]? with|some (some [.dcm kvs])=>some kvs|_=>none
 |.dcf kvs=>some kvs
 |.emp=>some []
 |_=>none
section
variable{Γ:Fr}{μ:Mu}{σ:St}{H:Hp}{env:Env}{S:Store}{v:V}{d:D}
theorem VR.ofV{w:V}(h:VS.ofV w=some d):VR Γ μ H w d:=by
 cases w with
 |int i=>cases h;exact .int i
 |bl b=>cases h;exact .bl b
 |non=>cases h;exact .non
 |str x=>cases h;exact .str x
 |_=>cases h
theorem VR.toV{w:V}(r:VR Γ μ H v d)(h:VS.toV d=some w):v=w:=by
 cases r with
 |int i=>cases h;rfl
 |bl b=>cases h;rfl
 |non=>cases h;rfl
 |str x=>cases h;rfl
 |_=>cases h
theorem VR.jG{i:Nat}{kvs:List (Key×V)}(R:Rep Γ μ σ H env S)(r:VR Γ μ H v (.dref i))(h:S[i]?=some (some [.dcm kvs])):∃a,v=.ref a/\μ[i]?=some (some a)/\H a=some (.dK kvs):=by
 cases r with
 |dref hi f =>
  obtain⟨a,h1,hc⟩:=R.sto i _ h
  obtain⟨f1,f2⟩:=f a h1
  obtain⟨kvs',q,h2⟩:=hc.dict f2
  cases q
  exact⟨a,f1,h1,h2⟩
theorem VR.dict{kvs:List (Key×V)}(R:Rep Γ μ σ H env S)(r:VR Γ μ H v d)(h:dictOf S d=some kvs):∃a,v=.ref a/\H a=some (.dK kvs):=by
 cases d with
 |dref i =>
  simp only[dictOf] at h
  split at h
  .rename_i e
   cases h
   obtain⟨a,h1,_,h2⟩:=VR.jG R r e
   exact⟨a,h1,h2⟩
  .cases h
 |dcf k=>cases h;cases r with|dcf o n hb=>exact⟨_,rfl,hb⟩
 |emp=>cases h;cases r with|emp o n hb=>exact⟨_,rfl,hb⟩
 |_=>cases h
theorem Rep.dput(R:Rep Γ μ σ H env S){i:Nat}{a:Addr}{kvs kvs':List (Key×V)}(hi:μ[i]?=some (some a))(ha:H a=some (.dK kvs)) :
  Rep Γ μ σ (upd H a (.dK kvs')) env (S.set i (some [.dcm kvs']))/\Ext μ H μ (upd H a (.dK kvs')) :=
 R.pD hi (fun⟨_,q⟩=>by rw[ha] at q;cases q) (fun _=>⟨kvs',Bo⟩) fun _ _ q=>.inr ⟨kvs',rfl,q⟩
end
def ZG:Aw:=fun _ S=>some (.dref S.length,S++[some [.dcm []]])
def Iz(o i:Aw):Aw:=fun env S=>(o env S).bind fun p=>(i env p.2).bind fun q=>match q.1 with
 |.int k=>(dictOf q.2 p.1).bind fun kvs=>(Ik kvs (.inl k)).bind fun w=>(ofV w).map fun d=>(d,q.2)
 |_=>none
def Rk(v o i:Aw):BL:=fun env S=>(v env S).bind fun p=>(o env p.2).bind fun q=>(i env q.2).bind fun r=>match q.1,r.1 with
 |.dref j,.int k=>(match r.2[j]? with
  |some (some [.dcm kvs])=>if kvs.length<1000000 then (toV p.1).bind fun w=>some (.nx,env,r.2.set j (some [.dcm (putK kvs (.inl k) w)])) else none
  |_=>none)
 |_,_=>none
section
variable{X:Cx}{o i e f value:Expr}{pos pos' apos cpos:Pos}{fo fi fe fv ft:Aw}
theorem mG:JE X (.Dict [] [] pos) ZG:=⟨PE.imp fY fun σ H Q w=>by
 obtain⟨Γ,μ,env,S,d,S',hK,R,e,q⟩:=w
 cases e
 intro p hp
 obtain⟨R2,x2⟩:=R.jE (o:=.dK []) (ds:=[.dcm []]) hp fun _ _ _ q=>.inr ⟨[],rfl,q⟩
 exact q _ _ _ x2 R2 (.dref (by rw[U0q,R.slen];simp) fun a h=>by
  rw[R.slen] at h
  simp at h
  rw[←h]
  exact⟨rfl,⟨_,Bo⟩⟩)⟩
theorem Tj(hu:X.A.units+1<cLine)(ho:JE X o fo)(hi:JE X i fi)(hs:dO i):JE X (.Subscript o i pos) (Iz fo fi):=⟨PE.imp (lA hu ho.pe hi.pe hs) fun σ H Q h=>by
 obtain⟨Γ,μ,env,S,d,S',hK,R,e,q⟩:=h
 obtain⟨⟨x,S1⟩,e1,e⟩:=bind_some e
 obtain⟨⟨y,S2⟩,e2,e⟩:=bind_some e
 refine⟨Γ,μ,env,S,x,S1,hK,R,e1,fun v1 μ1 H1 x1 R1 r1=>?_⟩
 refine⟨Γ,μ1,env,S1,y,S2,hK,R1,e2,fun v2 μ2 H2 x2 R2 r2=>?_⟩
 dsimp only at e
 split at e
 .rename_i k
  obtain⟨kvs,e3,e⟩:=bind_some e
  obtain⟨w,e4,e⟩:=bind_some e
  obtain⟨d',e5,e⟩:=map_some e
  cases e
  obtain⟨a,rfl,ha⟩:=VR.dict R2 (r1.ext x2) e3
  cases r2
  refine⟨a,w,rfl,?_,q w μ2 H2 (x1.trans x2) R2 (VR.ofV e5)⟩
  have:=TY.k (k:=(.inl k:Key)) ha
  rw[e4] at this
  exact this
 .cases e⟩
theorem m6(hu:X.A.units+1<cLine)(hv:JE X value fv)(ho:JE X o fo)(hi:JE X i fi)(hs:swapsWith value (some (.Subscript o i pos')) pos.line X.env=pure false:=by rfl) :
  JS X (.Assign [.Subscript o i pos'] value pos) (VS.Rk fv fo fi):=⟨PS.imp (kO hu ho.pe hi.pe hv.pe hs) fun E σ H h=>by
 obtain⟨Γ,μ,env,S,fl,env',S',hK,R,e,q⟩:=h
 obtain⟨⟨x,S1⟩,e1,e⟩:=bind_some e
 obtain⟨⟨y,S2⟩,e2,e⟩:=bind_some e
 obtain⟨⟨z,S3⟩,e3,e⟩:=bind_some e
 refine⟨Γ,μ,env,S,x,S1,hK,R,e1,fun v1 μ1 H1 x1 R1 r1=>?_⟩
 refine⟨Γ,μ1,env,S1,y,S2,hK,R1,e2,fun v2 μ2 H2 x2 R2 r2=>?_⟩
 refine⟨Γ,μ2,env,S2,z,S3,hK,R2,e3,fun v3 μ3 H3 x3 R3 r3=>?_⟩
 dsimp only at e
 split at e
 .rename_i j k _
  split at e
  .rename_i kvs hd
   by_cases hl:kvs.length<1000000
   .rw[if_pos hl] at e
    obtain⟨w,e4,e⟩:=bind_some e
    cases e
    obtain⟨b,rfl,g1,g2⟩:=VR.jG R3 (r2.ext x3) hd
    cases r3
    have hw:=r1.toV e4
    subst hw
    obtain⟨R4,x4⟩:=R3.dput (kvs':=putK kvs (.inl k) v1) g1 g2
    exact⟨b,_,rfl,Vs.k (k:=(.inl k:Key)) g2 (big (U2c hl)),q μ3 σ _ (x1.trans (x2.trans (x3.trans x4))) R4⟩
   .rw[if_neg hl] at e;cases e
  .cases e
 .cases e⟩
theorem iJ(o i:Aw)(env:VS.Env)(S:Store):Iz o i env S=(o env S).bind fun p=>(i env p.2).bind fun q=>match q.1 with
 |.int k=>(dictOf q.2 p.1).bind fun kvs=>(Ik kvs (.inl k)).bind fun w=>(ofV w).map fun d=>(d,q.2)
 |_=>none:=rfl
theorem fC(v o i:Aw)(env:VS.Env)(S:Store):VS.Rk v o i env S=(v env S).bind fun p=>(o env p.2).bind fun q=>(i env q.2).bind fun r=>match q.1,r.1 with
 |.dref j,.int k=>(match r.2[j]? with
  |some (some [.dcm kvs])=>if kvs.length<1000000 then (toV p.1).bind fun w=>some (.nx,env,r.2.set j (some [.dcm (putK kvs (.inl k) w)])) else none
  |_=>none)
 |_,_=>none:=rfl
end
end VS
end
section
namespace SetP
open PySem PySem.Spec PyProof.Rows
section
variable{prog:Program}{w:World}{K:Type}[DecidableEq K]{knd:KeyKind prog w K}{A:Around}{E:Value->Shared->Prop}{s:Shared}
end
end SetP
namespace L2
open PySem PySem.Spec PyProof.Rows
variable{X:Cx}
end L2
end
section
namespace VS
open PySem PySem.Spec L2
end VS
end
section
set_option maxRecDepth 100000
namespace HT
open PySem PySem.Spec PyProof.Rows
theorem Xy:typeLookup (.type "dict_values") "__len__"=pure (some (.builtin "dict_values.__len__")):=by rw[typeLookup_type,builtinLookup_eq_fast];kernel_rfl
theorem VD:isSubtype (.type "dict_values") (.type "dict_values")=pure true:=by rw[isSubtype_type];kernel_rfl
section
variable{prog:Program}{w:World}{K:Type}[DecidableEq K]{knd:KeyKind prog w K}{A:Around}{E:Value->Shared->Prop}{s:Shared}
theorem rO{S:Addr}{Q:Bool->Shared->Prop}(hT:s.TypeIs (.ref S) "dict_values")(h:Q false s):wpAny (model prog w) A (U3g (.ref S)) Q E s:=by
 unfold U3g
 refine U0 (U5m hT Xy ?_)
 have hs:splitId "dict_values.__len__"=some ("dict_values","__len__"):=by decide +kernel
 dsimp only
 rw[hs]
 dsimp only
 refine U0 (U4q hT VD ?_)
 simp only[U4w,U1n,if_false]
 refine U0 (U4n hT ?_)
 exact U0d h
theorem gP{v d:Addr}{kvs:List (K×Value)}{Q:Value->Shared->Prop}(hh:A.handled=none)(hv:s.heap.IsValuesView v d)(hD:s.heap.DictOf knd d kvs)(hz:kvs.length<=sizeLine)
  (q:∀h' tk c',(∀b o,s.heap.get? b=some o->h'.get? b=some o)->h'.get? s.heap.objs.size=some { cls:=.type "list",dict:=none,data:=.seq (kvs.map (·.2)).toArray c',slots:=#[] }->Q (.ref s.heap.objs.size) { s with heap:=h',toks:=tk }):wpAny (model prog w) A (call (.type "list") [.ref v]) Q E s:=by
 refine callType_codes (Q₁:=fun obj s₁=>obj=.ref s.heap.objs.size/\s₁={ s with heap:=s.heap.push { cls:=.type "list",data:=.seq #[] } }) PySem.F.called_list (PySem.F.typeCall_list_1 _) PySem.F.entry_list_init (code_list_new _ ⟨rfl,rfl⟩) fun obj s₁ h₁=>?_
 obtain⟨rfl,rfl⟩:=h₁
 have g0:(s.heap.push { cls:=.type "list",data:=.seq #[] }).get? s.heap.objs.size=some { cls:=.type "list",data:=.seq #[] }:=U0n _ rfl
 refine⟨⟨_,g0,rfl⟩,PySem.F.args_list_init_2 _ _,?_⟩
 obtain⟨ep,hA⟩:=hD.dictAt
 obtain⟨ov,hov,hvr⟩:=id hv
 obtain⟨od,esd,hod,hdr⟩:=id hA
 generalize hS:s.heap.objs.size=S at *
 have lv:v<S:=hS ▸ U0k hov
 have ld:d<S:=hS ▸ U0k hod
 have k0:∀b o,s.heap.get? b=some o->(s.heap.push { cls:=.type "list",data:=.seq #[] }).get? b=some o:=fun b o e=>U0b _ e
 have sz0:(s.heap.push { cls:=.type "list",data:=.seq #[] }).objs.size=S+1:=by rw[U1s,hS]
 generalize s.heap.push { cls:=.type "list",data:=.seq #[] }=h0 at *
 have ne1:S≠v:=U1l lv
 have ne2:S≠d:=U1l ld
 have wr:∀(h:Heap)(f:Array Value->Array Value),(∀b o,b≠S->h.get? b=some o->(h.update S (U1f f)).get? b=some o)/\(h.update S (U1f f)).objs.size=h.objs.size:=fun h f=>⟨fun b o n e=>(U02 _ _ (U1p n)).trans e,(U1r ..).1⟩
 refine(show wpAny _ _ (do let old ←U46 (.ref S);Builtin.List.listUpdate (.ref S) (fun _=>#[]);letGo old.toList.reverse;U2f (.ref S) (.ref v) .none) _ _ _ from U0 ?_)
 unfold U46
 refine U0 (U19 g0 rfl (U0d (show wpAny _ _ (updateSeq S (fun _=>#[]) >>= fun _=>letGo (#[]:Array Value).toList.reverse >>= fun _=>U2f (.ref S) (.ref v) .none) _ _ _ from U0 (U2r g0 rfl (U0 (U4j ?_))))))
 have g1:=U1k (U1f (fun _=>(#[]:Array Value))) g0 rfl
 obtain⟨o1,z1⟩:=wr h0 (fun _=>#[])
 have k1:∀b o,s.heap.get? b=some o->(h0.update S (U1f (fun _=>(#[]:Array Value)))).get? b=some o:=fun b o e=>o1 b o (U0u (hS ▸ U0k e)) (k0 b o e)
 generalize hh1:h0.update S (U1f (fun _=>(#[]:Array Value)))=h1 at *
 have v1:h1.IsValuesView v d:=⟨ov,k1 _ _ hov,hvr⟩
 have a1:h1.DictAt knd d kvs ep:=⟨od,esd,k1 _ _ hod,hdr⟩
 have ty1:U4x { s with heap:=h1 } (.ref v) "dict_values":=v1.typeIs (s:={ s with heap:=h1 })
 unfold U2f
 refine U0 (U4n ty1 ?_)
 have b1:U3b (.ref S) (.ref v)=false:=by simp[U3b,ne1]
 have b2:(U2v "dict_values"==U2v "list")=false:=by decide
 have b3:(U2v "dict_values"==U2v "tuple")=false:=by decide
 simp only[b1,b2,b3,U4v,U1n,if_false]
 refine U0 (wpAny_pyIter_values (s:={ s with heap:=h1 }) v1 a1 ?_)
 have hit0:h1.objs.size=S+1:=by rw[z1,sz0]
 have k2:∀b o,h1.get? b=some o->(h1.push { cls:=.type "dict_valueiterator",data:=.fields #[.ref d,.int 0 0,.int kvs.length 0,.int ep 0] }).get? b=some o:=fun b o e=>U0b _ e
 have hI:(h1.push { cls:=.type "dict_valueiterator",data:=.fields #[.ref d,.int 0 0,.int kvs.length 0,.int ep 0] }).IsValIter h1.objs.size d 0 kvs.length ep:=⟨_,U0n _ rfl,rfl,rfl⟩
 show wpAny _ _ _ _ _ { s with heap:=h1.push { cls:=.type "dict_valueiterator",data:=.fields #[.ref d,.int 0 0,.int kvs.length 0,.int ep 0] } }
 generalize h1.push { cls:=.type "dict_valueiterator",data:=.fields #[.ref d,.int 0 0,.int kvs.length 0,.int ep 0] }=h2 at *
 have v2:h2.IsValuesView v d:=⟨ov,k2 _ _ (k1 _ _ hov),hvr⟩
 have a2:h2.DictAt knd d kvs ep:=a1.keep k2
 have ty2:U4x { s with heap:=h2 } (.ref v) "dict_values":=v2.typeIs (s:={ s with heap:=h2 })
 refine U0 (U15 (rO ty2 ?_))
 refine(show wpAny _ _ (rule "list.extend.makes-room" >>= fun _=>U53 (.ref S) >>= fun _=>again (.builtin "list.extend.loop" ⟨[.ref S,.ref h1.objs.size,.none],[]⟩)) _ _ _ from U0 (U4h (U0 ?_)))
 have g1':=k2 _ _ g1
 refine(show wpAny _ _ (updateSeq S (·.push .none) >>= fun _=>updateSeq S (·.pop)) _ _ _ from U0 (U2r g1' rfl ?_))
 have g2:=U1k (U1f (·.push U13)) g1' rfl
 obtain⟨o2,z2⟩:=wr h2 (·.push U13)
 have g3:=U1k (U1f (·.pop)) g2 rfl
 obtain⟨o3,z3⟩:=wr (h2.update S (U1f (·.push U13))) (·.pop)
 refine U2r (hz:=by seq_fits) g2 rfl ?_
 have nin:S ∉ [h1.objs.size,d]:=fun z=>by
  simp only[U0w,U2t,or_false] at z
  rcases z with z|z
  .rw[hit0] at z;exact absurd z (U0u (U3k _))
  .exact ne2 z
 have hne:d≠h1.objs.size:=by rw[hit0];exact U0u (U18 ld)
 have nS:h1.objs.size≠S:=by rw[hit0];exact U1l (U3k _)
 have x3:((h2.update S (U1f (·.push U13))).update S (U1f (·.pop))).IsValIter h1.objs.size d 0 kvs.length ep/\((h2.update S (U1f (·.push U13))).update S (U1f (·.pop))).DictAt knd d kvs ep :=
  ⟨hI.at fun o e=>o3 _ o nS (o2 _ o nS e),a2.at' fun o e=>o3 _ o (U1p ne2) (o2 _ o (U1p ne2) e)⟩
 have W:=(Walks.dictValues (prog:=prog) (w:=w) (knd:=knd) (A:=A.in1.in1) (by simpa using hh) h1.objs.size d hne kvs ep).toS
 refine U0d ⟨plainId_quiet U3q _,codeAny_extend_loopS W hz S nin _ kvs.length 0 _ _ _ (by omega) (U3h _) x3 g3 (ItemsOf.nil _) fun s' acc c hm hS' hacc=>?_⟩
 have eacc:acc=(kvs.map (·.2)).toArray:=by
  apply Array.ext_getElem?
  intro j
  cases hj:acc[j]? with
  |some x =>
   obtain⟨k,hk⟩:=hacc.2 j x hj
   simp[hk]
  |none =>
   have:acc.size<=j:=by simpa using hj
   rw[hacc.1] at this
   simp[this]
 obtain⟨h',g',d',tk,os'⟩:=s'
 have q1:g'=s.gens:=hm.gens
 have q2:os'=s.os:=hm.os
 have q3:d'=s.drawn:=hm.drawn
 subst q1 q2 q3
 refine⟨rfl,q h' tk c (fun b o e=>hm.heap b o ?_ ?_) (by rw[←eacc];exact hS')⟩
 .have hb:b<S:=hS ▸ U0k e
  intro z
  rcases U0w.mp z with z|z
  .exact absurd z (U0u hb)
  .have z':=U0z.mp z
   rw[hit0] at z'
   exact absurd z' (U0u (U18 hb))
 .have nb:b≠S:=U0u (hS ▸ U0k e)
  exact o3 b o nb (o2 b o nb (k2 b o (k1 b o e)))
end
end HT
namespace L2
open PySem PySem.Spec PyProof.Rows
def aZ(td:TE):TE:=fun σ H Q=>td σ H fun x H1=>∃a kvs,x=.ref a/\H1 a=some (.dK kvs)/\∀l,H1 l=none->Q (.ref l) (upd H1 l (.lst (kvs.map (·.2))))
section
variable{X:Cx}{o:Expr}{td:TE}{p pos apos cpos:Pos}
theorem lZ{κ:Type}{kvs:List (κ×V)}{vs:List (κ×Value)}(r:KV kvs vs):Vals (kvs.map (·.2)) (vs.map (·.2)):=by
 unfold KV at r
 induction r with
 |nil=>exact .nil
 |cons h t ih=>exact .cons h.2 ih
theorem Xm(hc:X.calm=true)(hg:Gl X "list")(hm:X.mg "list"=none)(ho:PE X o td)(hbase:attributeBase o "values" X.env (eval o X.env)=eval o X.env:=by rfl)(hline:(apos.endLine==cpos.line)=true:=by rfl)
  (he2:starEach [.Call (.Attribute o "values" apos) [] [] cpos] X.env=[(false,eval (.Call (.Attribute o "values" apos) [] [] cpos) X.env)]:=by rfl):PE X (.Call (.Name "list" p) [.Call (.Attribute o "values" apos) [] [] cpos] [] pos) (aZ td):=by
 intro pins s σ H Q I h
 refine U34 (Je I hg hm (by decide +kernel:bootBuiltins "list"=some (.type "list")) (U21 ?_ he2 rfl))
 rw[he2]
 refine(show wpAny _ _ (spliced ((false,eval (.Call (.Attribute o "values" apos) [] [] cpos) X.env)::backTo pos (starEach [] X.env))) _ _ s from U6l ?_)
 refine wpAny_Call_method0_late hbase hline (thn (ho pins s σ H _ I h) fun u s1 ⟨x,H1,I1,rx,a,kvs,ex,ha,q⟩=>?_)
 subst ex
 obtain rfl:u=U1y a:=rx
 obtain⟨t1,t2,_⟩:=rN I1 (.inl ⟨kvs,.inl ha⟩)
 obtain⟨hz,hsys,vs,rel,dd⟩:=jH I1.hok ha
 refine⟨"dict","dict.values",PySem.F.plainAttrs_dict,PySem.F.slot_dict_values,PySem.F.type_dict_values,t1,t2,Calls.callWith_builtin rfl (PySem.evalArgs_none ?_)⟩
 refine call_meetsIn PySem.F.slot_dict_values t1 PySem.F.entry_dict_values (PySem.F.args_dict_values_1 _) (meets_dict_values (Ei X.prog X.w) a hsys) ⟨⟨vs,dd⟩,?_⟩
 refine U6t ?_
 have k1:∀b o,s1.heap.get? b=some o->(s1.heap.push { cls:=.type "dict_values",data:=.fields #[.ref a] }).get? b=some o:=fun b o e=>U0b _ e
 have hv:(s1.heap.push { cls:=.type "dict_values",data:=.fields #[.ref a] }).IsValuesView s1.heap.objs.size a:=⟨_,U0n _ rfl,rfl,rfl⟩
 have sz:(s1.heap.push { cls:=.type "dict_values",data:=.fields #[.ref a] }).objs.size=s1.heap.objs.size+1:=U1s ..
 have hD:(s1.heap.push { cls:=.type "dict_values",data:=.fields #[.ref a] }).DictOf (Ei X.prog X.w) a vs:=by
  obtain⟨o,es,ep,e,r⟩:=dd
  exact⟨o,es,ep,k1 _ _ e,r⟩
 have hlen:vs.length=kvs.length:=rel.length.symm
 refine HT.gP (s:={ s1 with heap:=s1.heap.push { cls:=.type "dict_values",data:=.fields #[.ref a] } }) (knd:=Ei X.prog X.w) (I1.ok.hd hc) hv hD (by rw[hlen];exact hz) fun h' tk c' kk hl=>?_
 have hn:s1.heap.get? (s1.heap.objs.size+1)=none:=U59 (U4i _)
 have hS:(U7g { s1 with heap:=s1.heap.push { cls:=.type "dict_values",data:=.fields #[.ref a] } }).objs.size=s1.heap.objs.size+1:=sz
 rw[hS] at hl ⊢
 refine⟨.ref (s1.heap.objs.size+1),_,I1.laidN (d':=s1.drawn) (t':=tk) (o:=.lst (kvs.map (·.2))) (fun b o e=>kk b o (k1 b o e)) hn (U0u (U18 I1.Vq)) ⟨by rw[U0l];exact hz,vs.map (·.2),c',?_,hl⟩,rfl,q _ (I1.Tf hn)⟩
 exact lZ rel
def Zx:V->List V->Hp->VK->Prop:=fun x vs H Q=>∃(l:Addr)(ns:List Int)(k:Int),x=.ref l/\vs=[.int k]/\H l=some (.lst (ns.map V.int))/\Q (.int (ns.count k:Nat)) H
theorem Ux:∀{ns:List Int} {us:List Value},Vals (ns.map V.int) us->IntsAre us ns
 |[],_,r=>by cases r;exact .nil
 |n::ns,_,r=>by
  cases r with
  |cons h t =>
   obtain⟨t',rfl⟩:=(show ∃t,_=U27 n t from h)
   exact .cons n t' (Ux t)
theorem gG:MtR X "list.count" Zx:=by
 intro pins s σ H x vs v us Q I rx rv h
 obtain⟨l,ns,k,rfl,rfl,hH,q⟩:=h
 cases rx
 obtain⟨u,rfl,ru⟩:=rv.one
 obtain⟨t,rfl⟩:=(show ∃t,u=U27 k t from ru)
 obtain⟨its,r,pl,hz⟩:=I.list (SqL.of hH)
 exact count_list_ints pl.isList (Ux r) ⟨.int (ns.count k:Nat),H,I.tok _,⟨_,rfl⟩,q⟩
end
end L2
end
section
namespace VS
open PySem PySem.Spec L2
def Ni:List V->Option (List D)
 |[]=>some []
 |v::r=>(ofV v).bind fun d=>(Ni r).map (d::·)
theorem VRs.Ni{Γ:Fr}{μ:Mu}{H:Hp}:∀{vs:List V} {ds:List D},VS.Ni vs=some ds->VRs Γ μ H vs ds
 |[],_,h=>by cases h;exact .nil
 |v::r,_,h=>by
  obtain⟨d,e1,h⟩:=bind_some h
  obtain⟨es,e2,e3⟩:=map_some h
  subst e3
  exact .cons (VR.ofV e1) (VRs.Ni e2)
def JR(a:Aw):Aw:=fun env S=>(a env S).bind fun p=>(dictOf p.2 p.1).bind fun kvs=>(Ni (kvs.map (·.2))).map fun ds=>(.lst true ds,p.2)
theorem Xa(a:Aw)(env:VS.Env)(S:Store):JR a env S=(a env S).bind fun p=>(dictOf p.2 p.1).bind fun kvs=>(Ni (kvs.map (·.2))).map fun ds=>(.lst true ds,p.2):=rfl
theorem Qn{X:Cx}{o:Expr}{f:Aw}{p pos apos cpos:Pos}(hc:X.calm=true)(ho:JE X o f)(hg:Gl X "list")(hm:X.mg "list"=none)(hbase:attributeBase o "values" X.env (eval o X.env)=eval o X.env:=by rfl)(hline:(apos.endLine==cpos.line)=true:=by rfl)
  (he2:starEach [.Call (.Attribute o "values" apos) [] [] cpos] X.env=[(false,eval (.Call (.Attribute o "values" apos) [] [] cpos) X.env)]:=by rfl):JE X (.Call (.Name "list" p) [.Call (.Attribute o "values" apos) [] [] cpos] [] pos) (JR f) :=
 ⟨PE.imp (Xm hc hg hm ho.pe hbase hline he2) fun σ H Q h=>by
  obtain⟨Γ,μ,env,S,d,S',hK,R,e,q⟩:=h
  obtain⟨⟨x,S1⟩,e1,e⟩:=bind_some e
  obtain⟨kvs,e2,e⟩:=bind_some e
  obtain⟨ds,e3,e4⟩:=map_some e
  cases e4
  refine⟨Γ,μ,env,S,x,_,hK,R,e1,fun v1 μ1 H1 x1 R1 r1=>?_⟩
  obtain⟨a,rfl,ha⟩:=VR.dict R1 r1 e2
  refine⟨a,kvs,rfl,ha,fun l hl=>?_⟩
  obtain⟨R3,x3⟩:=R1.grow (Cz hl (.lst (kvs.map (·.2))))
  exact q _ μ1 _ (x1.trans x3) R3 (.lst (R1.ok hl true) (R1.dead hl) Bo (VRs.Ni e3))⟩
def Ow(S:Store):D->List D->Option (D×Store)
 |d,[.int k]=>(listOf S d).bind fun ds=>(intsOf ds).map fun ns=>(.int (ns.count k:Nat),S)
 |_,_=>none
theorem eV{K:U0a}:Z0 K Zx Ow:=by
 intro Γ μ σ H env S x xs dx ds d S' hK R rx rs e Q q
 unfold Ow at e
 split at e
 .rename_i k
  obtain⟨es,e1,e⟩:=bind_some e
  obtain⟨ns,e2,e3⟩:=map_some e
  cases e3
  obtain⟨a,us,rfl,ha,ra⟩:=VR.list R rx e1
  have:=Gf e2
  subst this
  have:=ra.Nq
  subst this
  obtain⟨y,rfl,ry⟩:=rs.one
  cases ry
  exact⟨a,ns,k,rfl,rfl,ha,q _ μ H (Ext.refl _ _) R (.int _)⟩
 .cases e
end VS
end
section
namespace VS
def at1(bs:List (List St2))(i w:Nat):St2:=(bs.getD i []).getD w (0,0)
def inS(p:St2)(x:Int):Bool:=decide (p.1<=x)&&decide (x<p.2)
def Dh(bs:List (List St2))(w:Nat)(x:Int)(ns:List Nat):List Nat:=ns.filter fun i=>inS (at1 bs i w) x
def steps(E:List Int):List St2:=E.zip E.tail
def Cj(bs:List (List St2))(w:Nat)(ns:List Nat):List Int:=FP (ns.map (fun i=>(at1 bs i w).1)++ns.map (fun i=>(at1 bs i w).2))
def Ba(bs:List (List St2)):Nat->Nat->List Nat->List (List St2×List Nat)
 |0,_,ns=>if ns=[] then [] else [([],ns)]
 |k+1,w,ns=>if ns=[] then [] else (steps (Cj bs w ns)).flatMap fun p=>(Ba bs k (w+1) (Dh bs w p.1 ns)).map fun c=>(p::c.1,c.2)
def Gi(g:Int->Int)(a:Int):Nat->Int
 |0=>0
 |n+1=>Gi g a n+g (a+n)
def canon(bs:List (List St2))(F:List Nat->Int)(A:Int)(N:Nat):Nat->Nat->List Nat->Int
 |0,_,ns=>F ns
 |k+1,w,ns=>Gi (fun x=>canon bs F A N k (w+1) (Dh bs w x ns)) A N
def Gv:List St2->Int
 |[]=>1
 |p::r=>(p.2-p.1)*Gv r
def csum(F:List Nat->Int)(cs:List (List St2×List Nat)):Int:=(cs.map fun c=>Gv c.1*F c.2).sum
theorem RP(g:Int->Int)(a:Int)(m:Nat):∀n:Nat,Gi g a (m+n)=Gi g a m+Gi g (a+m) n
 |0=>by simp[Gi]
 |n+1=>by
  rw[show m+(n+1)=m+n+1 by omega,Gi,RP g a m n,Gi,show a+((m+n:Nat):Int)=a+m+n by omega]
  omega
theorem Ih(g:Int->Int)(a v:Int):∀n:Nat,(∀x,a<=x->x<a+n->g x=v)->Gi g a n=n*v
 |0,_=>by simp[Gi]
 |n+1,h=>by
  rw[Gi,Ih g a v n (fun x h1 h2=>h x h1 (by omega)),h (a+n) (by omega) (by omega)]
  rw[show((n+1:Nat):Int)=n+1 by omega,Int.add_mul,Int.one_mul]
theorem Hy(a b:Int)(r:List Int):steps (a::b::r)=(a,b)::steps (b::r):=rfl
theorem MP:∀{E:List Int},E.Pairwise (·<·)->∀p∈steps E,p.1<p.2/\p.1∈E/\p.2∈E/\∀e∈E,e<=p.1∨p.2<=e
 |[],_,p,h=>by simp[steps] at h
 |[a],_,p,h=>by simp[steps] at h
 |a::b::r,hp,p,h=>by
  have hab:=(U1m.mp hp).1
  have ht:=(U1m.mp hp).2
  rw[Hy] at h
  rcases U0w.mp h with z|z
  .subst z
   refine⟨hab b U0i,by simp,by simp,fun e he=>?_⟩
   rcases U0w.mp he with q|q
   .left;show e<=a;omega
   .right
    show b<=e
    rcases U0w.mp q with q|q
    .omega
    .exact U7t ((U1m.mp ht).1 e q)
  .obtain⟨h1,h2,h3,h4⟩:=MP ht p z
   refine⟨h1,U0y _ h2,U0y _ h3,fun e he=>?_⟩
   rcases U0w.mp he with q|q
   .left;rw[q];exact U7t (hab _ h2)
   .exact h4 e q
def R0(E:List Int)(g:Int->Int):Int:=((steps E).map fun p=>(p.2-p.1)*g p.1).sum
theorem Ul(g:Int->Int)(B:Int):∀(r:List Int)(a:Int),(a::r).Pairwise (·<·)->(∀p∈steps (a::r),∀x,p.1<=x->x<p.2->g x=g p.1)->(∀x,(∀e∈a::r,e<=x)->g x=0)->(∀e∈a::r,e<=B)->R0 (a::r) g=Gi g a (B-a).toNat
 |[],a,hp,hc,ho,hB=>by
  have:Gi g a (B-a).toNat=(B-a).toNat*0:=Ih g a 0 _ fun x h1 _=>ho x (by simpa using h1)
  rw[this];simp[R0,steps]
 |b::r,a,hp,hc,ho,hB=>by
  have hab:=(U1m.mp hp).1 b U0i
  have ht:=(U1m.mp hp).2
  have hb:=hB b (by simp)
  have ih:=Ul g B r b ht (fun p h=>hc p (by rw[Hy];exact U0y _ h)) (fun x h=>ho x fun e he=>by
   rcases U0w.mp he with q|q
   .have:=h b U0i;omega
   .exact h e q) fun e he=>hB e (U0y _ he)
  have e1:(B-a).toNat=(b-a).toNat+(B-b).toNat:=by omega
  have e2:Gi g a (b-a).toNat=(b-a).toNat*g a:=Ih g a (g a) _ fun x h1 h2=>hc (a,b) (by rw[Hy];exact U0i) x h1 (by show x<b;omega)
  have e3:(((b-a).toNat:Nat):Int)=b-a:=by omega
  rw[e1,RP,e2,e3,show a+(b-a)=b by omega,←ih]
  simp[R0,Hy]
theorem ak{E:List Int}{g:Int->Int}{A:Int}{N:Nat}(hp:E.Pairwise (·<·))(hc:∀p∈steps E,∀x,p.1<=x->x<p.2->g x=g p.1)(h0:∀x,(∀e∈E,x<e)->g x=0)(h1:∀x,(∀e∈E,e<=x)->g x=0)(hb:∀e∈E,A<=e/\e<=A+N):R0 E g=Gi g A N:=by
 cases E with
 |nil =>
  have:Gi g A N=N*0:=Ih g A 0 _ fun x _ _=>h0 x fun e he=>by simp at he
  rw[this];simp[R0,steps]
 |cons a r =>
  have ha:=hb a U0i
  rw[Ul g (A+N) r a hp hc h1 fun e he=>(hb e he).2]
  have e1:N=(a-A).toNat+(A+N-a).toNat:=by omega
  have e2:Gi g A (a-A).toNat=(a-A).toNat*0:=Ih g A 0 _ fun x _ h2=>h0 x fun e he=>by
   rcases U0w.mp he with q|q
   .omega
   .have:=(U1m.mp hp).1 e q;omega
  have e3:A+(((a-A).toNat:Nat):Int)=a:=by omega
  conv=>rhs;rw[e1,RP,e2,e3]
  simp
theorem WD{α:Type}(F:List Nat->Int)(f:α->List (List St2×List Nat)):∀l:List α,csum F (l.flatMap f)=(l.map fun p=>csum F (f p)).sum
 |[]=>rfl
 |a::l=>by
  rw[U50,csum,U11,List.sum_append_int,U0t,U55,←WD F f l];rfl
theorem V2(F:List Nat->Int)(p:St2):∀cs:List (List St2×List Nat),csum F (cs.map fun c=>(p::c.1,c.2))=(p.2-p.1)*csum F cs
 |[]=>by simp[csum]
 |c::cs=>by
  have:=V2 F p cs
  simp only[csum,U0t,U55] at this ⊢
  rw[this,Gv,Int.mul_add,Int.mul_assoc]
theorem Ma{ns:List Int}{x:Int}:x∈FP ns↔x∈ns:=(U5h _ _).mem_iff.trans ((SetP.Lx ns).2.2 x)
theorem Ku(ns:List Int):(FP ns).Pairwise (·<·):=by
 obtain⟨o1,o2,o3⟩:=SetP.Lx ns
 have hp:(FP ns).Perm (SetP.once ns):=U5h _ _
 have hs:(FP ns).Pairwise (·<=·):=by
  have:=List.pairwise_mergeSort (le:=fun a b:Int=>decide (a<=b)) (by intro a b c h1 h2;simp at *;omega) (by intro a b;simp;omega) (SetP.once ns)
  exact this.imp fun h=>by simpa using h
 exact(hs.and (hp.nodup_iff.mpr o1)).imp fun⟨h,n⟩=>by omega
theorem PN(ns:List Int):(FP ns).length<=ns.length:=by
 obtain⟨o1,o2,o3⟩:=SetP.Lx ns
 have hp:(FP ns).Perm (SetP.once ns):=U5h _ _
 rw[hp.length_eq];omega
theorem GP{p:St2}{x:Int}:inS p x=true↔p.1<=x/\x<p.2:=by simp[inS]
theorem Q6{bs:List (List St2)}{w:Nat}{ns:List Nat}{E:List Int}(hp:E.Pairwise (·<·))(hE:∀i∈ns,(at1 bs i w).1∈E/\(at1 bs i w).2∈E):∀p∈steps E,∀x,p.1<=x->x<p.2->Dh bs w x ns=Dh bs w p.1 ns:=fun p h x h1 h2=>by
 obtain⟨g1,g2,g3,g4⟩:=MP hp p h
 unfold Dh
 refine U6x fun i hi=>?_
 rw[U2i,GP,GP]
 have a1:=g4 _ (hE i hi).1
 have a2:=g4 _ (hE i hi).2
 omega
theorem Wk{bs:List (List St2)}{w:Nat}{ns:List Nat}{x:Int}(h:∀i∈ns,x<(at1 bs i w).1∨(at1 bs i w).2<=x):Dh bs w x ns=[]:=by
 unfold Dh
 rw[List.filter_eq_nil_iff]
 intro i hi
 rw[GP]
 have:=h i hi
 omega
theorem Mq{bs:List (List St2)}{F:List Nat->Int}{A:Int}{N:Nat}(hF:F []=0):∀k w,canon bs F A N k w []=0
 |0,_=>hF
 |k+1,w=>by
  have:Gi (fun x=>canon bs F A N k (w+1) (Dh bs w x [])) A N=N*0:=Ih _ A 0 N fun x _ _=>Mq hF k (w+1)
  rw[canon,this];simp
def Wide(bs:List (List St2))(A:Int)(N:Nat)(w k:Nat)(ns:List Nat):Prop:=∀i∈ns,∀v,w<=v->v<w+k->(at1 bs i v).1<(at1 bs i v).2/\A<=(at1 bs i v).1/\(at1 bs i v).2<=A+N
theorem Wide.sub{bs:List (List St2)}{A:Int}{N w k:Nat}{ns ms:List Nat}(h:Wide bs A N w (k+1) ns)(hs:∀i∈ms,i∈ns):Wide bs A N (w+1) k ms:=fun i hi v h1 h2=>h i (hs i hi) v (by omega) (by omega)
theorem Zq{bs:List (List St2)}{F:List Nat->Int}{A:Int}{N k w:Nat}{ns:List Nat}(hF:F []=0)(hw:Wide bs A N w (k+1) ns){E:List Int}(hp:E.Pairwise (·<·))(hE:∀i∈ns,(at1 bs i w).1∈E/\(at1 bs i w).2∈E)(hb:∀e∈E,A<=e/\e<=A+N) :
  R0 E (fun x=>canon bs F A N k (w+1) (Dh bs w x ns))=canon bs F A N (k+1) w ns:=by
 rw[canon]
 refine ak hp (fun p h x h1 h2=>by rw[Q6 hp hE p h x h1 h2]) (fun x h=>?_) (fun x h=>?_) hb
 .rw[Wk fun i hi=>.inl (h _ (hE i hi).1),Mq hF]
 .rw[Wk fun i hi=>.inr (h _ (hE i hi).2),Mq hF]
theorem LC{bs:List (List St2)}{w:Nat}{ns:List Nat}:∀i∈ns,(at1 bs i w).1∈Cj bs w ns/\(at1 bs i w).2∈Cj bs w ns:=fun i hi =>
 ⟨Ma.mpr (U3r _ (U6g hi)),Ma.mpr (U06 _ (U6g hi))⟩
theorem V0{bs:List (List St2)}{w:Nat}{ns:List Nat}{e:Int}(h:e∈Cj bs w ns):∃i∈ns,e=(at1 bs i w).1∨e=(at1 bs i w).2:=by
 rcases U10.mp (Ma.mp h) with z|z
 .obtain⟨i,hi,e⟩:=U12.mp z;exact⟨i,hi,.inl e.symm⟩
 .obtain⟨i,hi,e⟩:=U12.mp z;exact⟨i,hi,.inr e.symm⟩
theorem Mx{bs:List (List St2)}{A:Int}{N w k:Nat}{ns:List Nat}(hw:Wide bs A N w (k+1) ns):∀e∈Cj bs w ns,A<=e/\e<=A+N:=fun e he=>by
 obtain⟨i,hi,q⟩:=V0 he
 have:=hw i hi w (U0s _) (by omega)
 omega
theorem T5{bs:List (List St2)}{F:List Nat->Int}{A:Int}{N:Nat}(hF:F []=0):∀(k w:Nat)(ns:List Nat),Wide bs A N w k ns->csum F (Ba bs k w ns)=canon bs F A N k w ns
 |0,w,ns,_=>by
  rw[Ba,canon]
  by_cases h:ns=[]
  .rw[if_pos h,h,hF];rfl
  .rw[if_neg h];simp[csum,Gv]
 |k+1,w,ns,hw=>by
  rw[Ba]
  by_cases h:ns=[]
  .rw[if_pos h,h,Mq hF];rfl
  .rw[if_neg h,WD,←Zq hF hw (Ku _) LC (Mx hw),R0]
   refine congrArg List.sum (U6h fun p _=>?_)
   rw[V2,T5 hF k (w+1) (Dh bs w p.1 ns) (hw.sub fun i hi=>(U2h.mp hi).1)]
end VS
end
section
namespace VS
def Ft(t:Nat)(ns:List Nat):Int:=if ns.length=t+1 then 1 else 0
def Dl(acc:List Int)(c:List St2×List Nat):List Int:=acc.set (c.2.length-1) (acc.getD (c.2.length-1) 0+Gv c.1)
theorem Oa(acc:List Int)(c:List St2×List Nat):(Dl acc c).length=acc.length:=by unfold Dl;simp
theorem KJ:∀(cs:List (List St2×List Nat))(acc:List Int),(cs.foldl Dl acc).length=acc.length
 |[],_=>rfl
 |c::r,acc=>by rw[U2z,KJ r,Oa]
theorem X3(acc:List Int)(c:List St2×List Nat)(h:1<=c.2.length){t:Nat}(ht:t<acc.length):(Dl acc c).getD t 0=acc.getD t 0+Gv c.1*Ft t c.2:=by
 unfold Dl Ft
 by_cases e:c.2.length=t+1
 .rw[if_pos e,U7w,e,Nat.add_sub_cancel]
  rw[U0o,U2s ht];rfl
 .rw[if_neg e,Int.mul_zero,Int.add_zero,U0o,U23 (by omega),←U0o]
theorem W7{t:Nat}:∀(cs:List (List St2×List Nat))(acc:List Int),(∀c∈cs,1<=c.2.length)->t<acc.length->(cs.foldl Dl acc).getD t 0=acc.getD t 0+csum (Ft t) cs
 |[],acc,_,_=>by simp[csum]
 |c::r,acc,h,ht=>by
  rw[U2z,W7 r _ (fun d hd=>h d (U0y _ hd)) (by rw[Oa];exact ht),X3 acc c (h c U0i) ht]
  unfold csum
  rw[U0t,U55,Int.add_assoc]
theorem iD{l m:List Int}(hl:l.length=m.length)(h:∀t<l.length,l.getD t 0=m.getD t 0):l=m:=by
 refine List.ext_getElem hl fun t h1 h2=>?_
 have:=h t h1
 rw[U0o,U0o,U0h h1,U0h h2] at this
 exact this
theorem iC(n t:Nat):(U0m n (0:Int)).getD t 0=0:=by
 rw[U0o,U30]
 split<;>rfl
end VS
end
section
namespace VS
def Bp(acc:List St2)(p:St2):List St2:=match acc.getLast? with
 |some q=>if q.2=p.1 then acc.dropLast++[(q.1,p.2)] else acc++[p]
 |none=>acc++[p]
def S1(vs:List St2):Int:=((steps (FP (vs.map (fun p=>p.1)++vs.map fun p=>p.2))).map fun p=>(p.2-p.1)*(if vs.any (fun v=>inS v p.1) then 1 else 0)).sum
end VS
end
section
namespace VS
structure Norm(l:List St2):Prop where
 pos:∀p∈l,p.1<p.2
 far:l.Pairwise fun p q=>p.2<q.1
def cov(l:List St2)(x:Int):Bool:=l.any fun p=>inS p x
theorem GR{l:List St2}{x:Int}:cov l x=true↔∃p∈l,p.1<=x/\x<p.2:=by
 unfold cov
 rw[List.any_eq_true]
 constructor
 .rintro⟨p,hp,h⟩;exact⟨p,hp,GP.mp h⟩
 .rintro⟨p,hp,h⟩;exact⟨p,hp,GP.mpr h⟩
theorem Tw(a b:List St2)(x:Int):cov (a++b) x=(cov a x||cov b x):=by unfold cov;rw[List.any_append]
theorem K1(p:St2)(b:List St2)(x:Int):cov (p::b) x=(inS p x||cov b x):=rfl
theorem Norm.tail{p:St2}{l:List St2}(h:Norm (p::l)):Norm l:=⟨fun q hq=>h.pos q (U0y _ hq),(U1m.mp h.far).2⟩
theorem Us:∀{a b:List St2},Norm a->Norm b->(∀x,cov a x=cov b x)->a=b
 |[],[],_,_,_=>rfl
 |[],q::b,_,hb,h=>by
  have h1:cov (q::b) q.1=true:=GR.mpr ⟨q,U0i,U4k _,hb.pos q U0i⟩
  rw[←h] at h1;cases h1
 |p::a,[],ha,_,h=>by
  have h1:cov (p::a) p.1=true:=GR.mpr ⟨p,U0i,U4k _,ha.pos p U0i⟩
  rw[h] at h1;cases h1
 |p::a,q::b,ha,hb,h=>by
  have pp:=ha.pos p U0i
  have qq:=hb.pos q U0i
  have fa:=(U1m.mp ha.far).1
  have fb:=(U1m.mp hb.far).1
  have half:∀{p q:St2} {a b:List St2},p.1<p.2->q.1<q.2->(∀r∈a,p.2<r.1)->(∀r∈b,q.2<r.1)->(∀x,cov (p::a) x=cov (q::b) x)->q.1<=p.1:=fun {p q a b} pp qq fa fb h=>by
   have h1:cov (p::a) p.1=true:=GR.mpr ⟨p,U0i,U4k _,pp⟩
   rw[h] at h1
   obtain⟨r,hr,k1,k2⟩:=GR.mp h1
   rcases U0w.mp hr with z|z
   .rw[z] at k1;exact k1
   .have:=fb r z;omega
  have e1:p.1=q.1:=U5n (half qq pp fb fa fun x=>(h x).symm) (half pp qq fa fb h)
  have le2:∀{p q:St2} {a b:List St2},p.1<p.2->p.1=q.1->(∀r∈a,p.2<r.1)->(∀x,cov (p::a) x=cov (q::b) x)->q.2<=p.2:=fun {p q a b} pp e1 fa h=>by
   by_cases z:q.2<=p.2
   .exact z
   .have h1:cov (q::b) p.2=true:=GR.mpr ⟨q,U0i,by omega,by omega⟩
    rw[←h] at h1
    obtain⟨r,hr,k1,k2⟩:=GR.mp h1
    rcases U0w.mp hr with z|z
    .rw[z] at k2;omega
    .have:=fa r z;omega
  have e2:p.2=q.2:=U5n (le2 qq e1.symm fb fun x=>(h x).symm) (le2 pp e1 fa h)
  have e:p=q:=Prod.ext e1 e2
  subst e
  congr 1
  refine Us ha.tail hb.tail fun x=>?_
  have hx:=h x
  rw[K1,K1] at hx
  by_cases hp:inS p x=true
  .have hx2:=GP.mp hp
   have no:∀{l:List St2},(∀r∈l,p.2<r.1)->cov l x=false:=fun {l} f=>by
    rw[Bool.eq_false_iff]
    intro z
    obtain⟨r,hr,k1,k2⟩:=GR.mp z
    have:=f r hr;omega
   rw[no fa,no fb]
  .rw[Bool.eq_false_iff.mpr hp] at hx
   exact hx
structure Asc(l:List St2):Prop where
 pos:∀p∈l,p.1<p.2
 up:l.Pairwise fun p q=>p.2<=q.1
theorem Nv{α:Type}(l:List α)(a:α):(l++[a]).getLast?=some a:=by simp
theorem bR{l:List St2}{q p:St2}(h:Norm (l++[q]))(hp:p.1<p.2)(he:q.2=p.1):Norm (l++[(q.1,p.2)]):=by
 obtain⟨h1,h2⟩:=h
 rw[U3s] at h2
 refine⟨fun r hr=>?_,U3s.mpr ⟨h2.1,U5w ..,fun r hr s hs=>?_⟩⟩
 .rcases U10.mp hr with z|z
  .exact h1 r (U3r _ z)
  .rw[U0z.mp z]
   have:=h1 q (U06 _ U0i)
   show q.1<p.2;omega
 .rw[U0z.mp hs]
  exact h2.2.2 r hr q U0i
theorem gD{l:List St2}{p:St2}(h:Norm l)(hp:p.1<p.2)(hl:∀q∈l,q.2<p.1):Norm (l++[p]):=by
 refine⟨fun r hr=>?_,U3s.mpr ⟨h.far,U5w ..,fun r hr s hs=>?_⟩⟩
 .rcases U10.mp hr with z|z
  .exact h.pos r z
  .rw[U0z.mp z];exact hp
 .rw[U0z.mp hs];exact hl r hr
theorem iM{l:List St2}{q p:St2}(hq:q.1<q.2)(hp:p.1<p.2)(he:q.2=p.1)(x:Int):cov (l++[(q.1,p.2)]) x=(cov (l++[q]) x||inS p x):=by
 rw[Tw,Tw,Bool.or_assoc]
 congr 1
 rw[K1,K1,show cov ([]:List St2) x=false from rfl,U4v,U4v,U2i,U5l,GP,GP,GP]
 simp only
 omega
theorem Uj{acc:List St2}{p:St2}(h:Norm acc)(hp:p.1<p.2)(hl:∀q∈acc,q.2<=p.1):Norm (Bp acc p)/\(∀x,cov (Bp acc p) x=(cov acc x||inS p x))/\∀q∈Bp acc p,q.2<=p.2:=by
 rcases U5 acc with z|⟨l,q,z⟩
 .subst z
  refine⟨⟨fun r hr=>?_,U5w ..⟩,(fun x=>by show(inS p x||false)=(false||inS p x);rw[U4v,Bool.false_or]),fun r hr=>?_⟩
  .have:r=p:=U0z.mp hr
   rw[this];exact hp
  .have:r=p:=U0z.mp hr
   rw[this];exact U4k _
 .rw[U5a] at z
  subst z
  have hq:=h.pos q (U06 _ U0i)
  have hql:=hl q (U06 _ U0i)
  by_cases he:q.2=p.1
  .have e:Bp (l++[q]) p=l++[(q.1,p.2)]:=by
    unfold Bp
    rw[Nv]
    simp[he]
   rw[e]
   refine⟨bR h hp he,iM hq hp he,fun r hr=>?_⟩
   rcases U10.mp hr with z|z
   .have:=hl r (U3r _ z);omega
   .rw[U0z.mp z];exact U4k _
  .have e:Bp (l++[q]) p=l++[q]++[p]:=by
    unfold Bp
    rw[Nv]
    simp[he]
   rw[e]
   have lt:∀r∈l++[q],r.2<p.1:=fun r hr=>by
    rcases U10.mp hr with z|z
    .have:=(U3s.mp h.far).2.2 r z q U0i
     omega
    .rw[U0z.mp z];omega
   refine⟨gD h hp lt,fun x=>by rw[Tw (l++[q]),K1];simp[cov],fun r hr=>?_⟩
   rcases U10.mp hr with z|z
   .have:=hl r z;omega
   .rw[U0z.mp z];exact U4k _
theorem Uv:∀(l acc:List St2),Norm acc->Asc l->(∀p∈acc,∀q∈l,p.2<=q.1)->Norm (l.foldl Bp acc)/\∀x,cov (l.foldl Bp acc) x=(cov acc x||cov l x)
 |[],acc,h,_,_=>⟨h,fun x=>by rw[List.foldl_nil,show cov [] x=false from rfl,U4v]⟩
 |p::l,acc,h,ha,hl=>by
  obtain⟨s1,s2,s3⟩:=Uj h (ha.pos p U0i) fun q hq=>hl q hq p U0i
  have hu:=U1m.mp ha.up
  obtain⟨t1,t2⟩:=Uv l (Bp acc p) s1 ⟨fun q hq=>ha.pos q (U0y _ hq),hu.2⟩ fun r hr q hq=>by
   have:=s3 r hr
   have:=hu.1 q hq
   omega
  refine⟨t1,fun x=>?_⟩
  rw[U2z,t2,s2,K1,Bool.or_assoc]
def Et(P:Int->Bool)(acc:List St2)(n:Int):List St2:=if P n=true then Bp acc (n,n+1) else acc
theorem RG(P:Int->Bool)(a:Int):∀m:Nat,Norm (((U0j m).map fun(i:Nat)=>a+i).foldl (Et P) [])/\(∀x,cov (((U0j m).map fun(i:Nat)=>a+i).foldl (Et P) []) x=(decide (a<=x/\x<a+m)&&P x))/\∀q∈((U0j m).map fun(i:Nat)=>a+i).foldl (Et P) [],q.2<=a+m
 |0=>⟨⟨fun p h=>by simp at h,.nil⟩,fun x=>by
   rw[show decide (a<=x/\x<a+(0:Nat))=false from decide_eq_false (by omega)];rfl,fun q h=>by simp at h⟩
 |m+1=>by
  obtain⟨h1,h2,h3⟩:=RG P a m
  rw[U7a,U11,U4d]
  simp only[U0t,U1w,U2z,List.foldl_nil]
  generalize ((U0j m).map fun(i:Nat)=>a+i).foldl (Et P) []=acc at *
  unfold Et
  by_cases hp:P (a+m)=true
  .rw[if_pos hp]
   obtain⟨s1,s2,s3⟩:=Uj (p:=(a+m,a+m+1)) h1 (by simp only;omega) fun q hq=>h3 q hq
   refine⟨s1,fun x=>?_,fun q hq=>by have:=s3 q hq;simp only at this;omega⟩
   rw[s2,h2,U2i,U5l,U00,U00,decide_eq_true_eq,decide_eq_true_eq,GP]
   constructor
   .rintro(⟨z,y⟩|z)
    .exact⟨by omega,y⟩
    .have:x=a+m:=by simp only at z;omega
     exact⟨by omega,by rw[this];exact hp⟩
   .rintro⟨z,y⟩
    by_cases w:x=a+m
    .exact .inr (by simp only;omega)
    .exact .inl ⟨by omega,y⟩
  .rw[if_neg hp]
   refine⟨h1,fun x=>?_,fun q hq=>by have:=h3 q hq;omega⟩
   rw[h2,U2i,U00,U00,decide_eq_true_eq,decide_eq_true_eq]
   constructor
   .rintro⟨z,y⟩;exact⟨by omega,y⟩
   .rintro⟨z,y⟩
    refine⟨?_,y⟩
    have:x≠a+m:=fun w=>hp (by rw[←w];exact y)
    omega
theorem Qh:∀{E:List Int},E.Pairwise (·<·)->∀{x:Int},(∃a∈E,a<=x)->(∃b∈E,x<b)->∃p∈steps E,p.1<=x/\x<p.2
 |[],_,x,⟨a,ha,_⟩,_=>by simp at ha
 |[a],_,x,⟨c,hc,h1⟩,⟨b,hb,h2⟩=>by
  rw[U0z.mp hc] at h1
  rw[U0z.mp hb] at h2
  omega
 |a::b::r,h,x,⟨c,hc,h1⟩,⟨d,hd,h2⟩=>by
  have hh:=U1m.mp h
  have ab:=hh.1 b U0i
  rw[Hy]
  by_cases z:x<b
  .refine⟨(a,b),U0i,?_,z⟩
   rcases U0w.mp hc with w|w
   .rw[w] at h1;exact h1
   .show a<=x
    have:=hh.1 c w;omega
  .obtain⟨p,hp,k⟩:=Qh hh.2 (x:=x) ⟨b,U0i,by omega⟩ ⟨d,by
    rcases U0w.mp hd with w|w
    .omega
    .exact w,h2⟩
   exact⟨p,U0y _ hp,k⟩
theorem Ui:∀{E:List Int},E.Pairwise (·<·)->Asc (steps E)
 |[],_=>⟨fun p h=>by simp[steps] at h,by simp[steps]⟩
 |[a],_=>⟨fun p h=>by simp[steps] at h,by simp[steps]⟩
 |a::b::r,h=>by
  have hh:=U1m.mp h
  obtain⟨s1,s2⟩:=Ui hh.2
  rw[Hy]
  refine⟨fun p hp=>?_,U1m.mpr ⟨fun q hq=>?_,s2⟩⟩
  .rcases U0w.mp hp with z|z
   .rw[z];exact hh.1 b U0i
   .exact s1 p z
  .obtain⟨_,hm,_,_⟩:=MP hh.2 q hq
   show b<=q.1
   rcases U0w.mp hm with z|z
   .omega
   .have:=(U1m.mp hh.2).1 _ z;omega
theorem Asc.filter{l:List St2}(h:Asc l)(f:St2->Bool):Asc (l.filter f):=⟨fun p hp=>h.pos p (U2h.mp hp).1,h.up.sublist List.filter_sublist⟩
def Iw(bs:List (List St2))(ns:List Nat)(k:Nat):List St2:=(steps (Cj bs 0 ns)).filter fun p=>decide (k<=(Dh bs 0 p.1 ns).length)
theorem Wj{bs:List (List St2)}{ns:List Nat}{k:Nat}(hk:1<=k)(x:Int):cov (Iw bs ns k) x=decide (k<=(Dh bs 0 x ns).length):=by
 have hr:=Ku (ns.map (fun i=>(at1 bs i 0).1)++ns.map (fun i=>(at1 bs i 0).2))
 have fb:=Q6 (bs:=bs) (w:=0) (ns:=ns) hr LC
 rw[U2i,GR,decide_eq_true_eq]
 unfold Iw
 constructor
 .rintro⟨p,hp,h1,h2⟩
  obtain⟨hp1,hp2⟩:=U2h.mp hp
  rw[fb p hp1 x h1 h2]
  exact of_decide_eq_true hp2
 .intro h
  have hne:Dh bs 0 x ns≠[]:=by intro z;rw[z] at h;simp at h;omega
  obtain⟨i,hi⟩:=List.exists_mem_of_ne_nil _ hne
  obtain⟨hi1,hi2⟩:=U2h.mp hi
  obtain⟨k1,k2⟩:=GP.mp hi2
  obtain⟨p,hp,h1,h2⟩:=Qh hr (x:=x) ⟨_,(LC i hi1).1,k1⟩ ⟨_,(LC i hi1).2,k2⟩
  refine⟨p,U2h.mpr ⟨hp,decide_eq_true ?_⟩,h1,h2⟩
  rw[←fb p hp x h1 h2]
  exact h
theorem Px(bs:List (List St2))(ns:List Nat):Ba bs 1 0 ns=((steps (Cj bs 0 ns)).filter fun p=>decide (Dh bs 0 p.1 ns≠[])).map fun p=>([p],Dh bs 0 p.1 ns):=by
 rw[Ba]
 split
 .rename_i h
  subst h
  have:Cj bs 0 []=[]:=by
   cases q:Cj bs 0 [] with
   |nil=>rfl
   |cons e r =>
    have:e∈Cj bs 0 []:=by rw[q];exact U0i
    obtain⟨i,hi,_⟩:=V0 this
    simp at hi
  rw[this];rfl
 .generalize steps (Cj bs 0 ns)=l
  induction l with
  |nil=>rfl
  |cons p l ih =>
   rw[U50,ih,Ba,U64]
   by_cases h:Dh bs 0 p.1 ns=[]
   .rw[if_pos h]
    simp[h]
   .rw[if_neg h]
    simp[h]
theorem OD(bs:List (List St2))(ns:List Nat)(k:Nat)(hk:1<=k):((Ba bs 1 0 ns).filter fun c=>decide (k<=c.2.length)).map (fun c=>c.1.getD 0 (0,0))=Iw bs ns k:=by
 rw[Px,List.filter_map,U0e,List.filter_filter]
 unfold Iw
 have e:((fun c:List St2×List Nat=>c.1.getD 0 (0,0))∘fun p:St2=>([p],Dh bs 0 p.1 ns))=id:=rfl
 rw[e,U7y]
 refine U6x fun p _=>?_
 rw[U2i,U00]
 simp only[Function.comp,decide_eq_true_eq]
 constructor
 .exact fun z=>z.1
 .exact fun z=>⟨z,fun w=>by rw[w] at z;simp at z;omega⟩
theorem Qo(bs:List (List St2))(ns:List Nat)(k:Nat)(hk:1<=k):Norm ((Iw bs ns k).foldl Bp [])/\∀x,cov ((Iw bs ns k).foldl Bp []) x=decide (k<=(Dh bs 0 x ns).length):=by
 obtain⟨h1,h2⟩:=Uv (Iw bs ns k) [] ⟨fun p h=>by simp at h,.nil⟩ ((Ui (Ku _)).filter _) (fun p h=>by simp at h)
 exact⟨h1,fun x=>by rw[h2,Wj hk];rfl⟩
theorem Xz{acc:List St2}{n:Int}(h:Norm acc)(he:∀q∈acc,q.2<=n):cov acc (n-1)=true↔∃l q,acc=l++[q]/\q.2=n:=by
 rw[GR]
 constructor
 .rintro⟨p,hp,h1,h2⟩
  rcases U5 acc with z|⟨l,q,z⟩
  .rw[z] at hp;simp at hp
  .rw[U5a] at z
   refine⟨l,q,z,?_⟩
   subst z
   have:=he q (U06 _ U0i)
   have hq:=h.pos q (U06 _ U0i)
   rcases U10.mp hp with w|w
   .have:=(U3s.mp h.far).2.2 p w q U0i
    omega
   .rw[U0z.mp w] at h2;omega
 .rintro⟨l,q,rfl,hq⟩
  have:=h.pos q (U06 _ U0i)
  exact⟨q,U06 _ U0i,by omega,by omega⟩
def ups(a:Int)(n:Nat):List Int:=(U0j n).map fun(i:Nat)=>a+i
theorem Tc{a x:Int}{n:Nat}:x∈ups a n↔a<=x/\x<a+n:=by
 unfold ups
 rw[U12]
 constructor
 .rintro⟨i,hi,rfl⟩
  have:=U2x.mp hi
  omega
 .rintro⟨h1,h2⟩
  exact⟨(x-a).toNat,U2x.mpr (by omega),by omega⟩
theorem RB(a:Int)(n:Nat):ups a (n+1)=ups a n++[a+n]:=by
 unfold ups
 rw[U7a,U11];rfl
theorem Sg(P:Int->Bool)(a:Int):∀n:Nat,Gi (fun x=>if P x=true then 1 else 0) a n=(((ups a n).filter P).length:Nat)
 |0=>rfl
 |n+1=>by
  rw[Gi,Sg P a n,RB,List.filter_append,U0q]
  by_cases h:P (a+n)=true
  .rw[if_pos h]
   have:[a+(n:Int)].filter P=[a+n]:=by simp[h]
   rw[this];simp
  .rw[if_neg h]
   have:[a+(n:Int)].filter P=[]:=by simp[h]
   rw[this];simp
end VS
end
section
namespace VS
open PySem L2
def encA(al:List (Int×Int)):List (Key×V):=al.map fun q=>(U3w q.1,V.int q.2)
def Yr(al:List (Int×Int))(x v:Int):List (Int×Int):=if x∈al.map (·.1) then al.map (fun q=>if q.1=x then (q.1,v) else q) else al++[(x,v)]
theorem dY(al:List (Int×Int))(x:Int):Ik (encA al) (.inl x)=(al.find? fun q=>decide (q.1=x)).map fun q=>V.int q.2:=by
 unfold Ik encA
 induction al with
 |nil=>rfl
 |cons q r ih =>
  rw[U0t,U3t,U3t]
  by_cases h:q.1=x
  .rw[decide_eq_true h,decide_eq_true (show(U3w q.1:Key)=U3w x by rw[h])];rfl
  .rw[decide_eq_false h,decide_eq_false (show ¬(U3w q.1:Key)=U3w x from fun z=>h (U7e z))]
   exact ih
theorem fM(al:List (Int×Int))(x v:Int):putK (encA al) (.inl x) (.int v)=encA (Yr al x v):=by
 unfold putK Yr
 have e:((encA al).any fun kv=>decide (kv.1=(U3w x:Key)))=decide (x∈al.map (·.1)):=by
  unfold encA
  rw[List.any_map,U2i,List.any_eq_true,decide_eq_true_eq,U12]
  constructor
  .rintro⟨q,h1,h2⟩
   exact⟨q,h1,U7e (of_decide_eq_true h2)⟩
  .rintro⟨q,h1,h2⟩
   exact⟨q,h1,decide_eq_true (by rw[←h2])⟩
 rw[e]
 by_cases h:x∈al.map (·.1)
 .rw[if_pos (decide_eq_true h),if_pos h]
  unfold encA
  rw[U0e,U0e]
  refine U6h fun q _=>?_
  simp only[Function.comp]
  by_cases z:q.1=x
  .rw[if_pos z,if_pos (by rw[z])]
  .rw[if_neg z,if_neg (fun w=>z (U7e w))]
 .rw[if_neg (by rw[decide_eq_false h];decide),if_neg h]
  unfold encA
  rw[U11];rfl
def cnt(ps:List St2)(x:Int):Int:=(ps.map fun p=>if inS p x=true then (1:Int) else 0).sum
theorem T3(ps:List St2)(x:Int):cnt ps x=((ps.filter fun p=>inS p x).length:Nat):=by
 unfold cnt
 induction ps with
 |nil=>rfl
 |cons p ps ih =>
  rw[U0t,U55,ih,U64]
  by_cases h:inS p x=true
  .rw[if_pos h,if_pos h,U0g];omega
  .rw[if_neg h,if_neg h];omega
end VS
end
section
namespace W09
open PySem L2 VS
def Ss:BL :=
 (Cw (TQ (eCB JX (Aa (Ab 0) (Aa (eC (.ty "int")) Af))) (dH (eCB JX (Aa (Ab 0) (Aa (eC (.ty "bool")) Af))))))
def Dd:Cy:=Ey 1 1 Ss
def Sx:BL :=
 (Cw (TQ (BK Dd (Aa (Ab 0) Af)) (eUn (Vn Bc.D3) (Ab 0))))
def Dz:Cy:=Ey 1 1 Sx
def Q7:BL :=
 (Bq (sIf (tOr (Il (Bf (eCB JX (Aa (Ab 0) (Aa (eC (.ty "tuple")) Af))))) (Bf (eOp (oEq true) (eCB Du (Aa (Ab 0) Af)) (eC (.int 2)))))
  (Cw (eC (.bl false)))
  FJ)
  (Cw (TQ (BK Dd (Aa (eOp oIx (Ab 0) (eC (.int 0))) Af)) (TQ (BK Dd (Aa (eOp oIx (Ab 0) (eC (.int 1))) Af)) (eOp oLt (eOp oIx (Ab 0) (eC (.int 0))) (eOp oIx (Ab 0) (eC (.int 1))))))))
def G5:Cy:=Ey 1 1 Q7
def Pn:Bg :=
 Ea 1 [] (Ec (Ab 1)) (Pat.sem (.nm 0)) Gh (BK G5 (Aa (Ab 0) Af))
def Wo:BL :=
 (Bq (sIf (tOr (Il (Bf (BK Dz (Aa (Ab 0) Af)))) (tOr (Il (Bf (eCB JX (Aa (Ab 1) (Aa (eC (.ty "tuple")) Af))))) (Bf (eOp (oEq true) (eCB Du (Aa (Ab 1) Af)) (Ab 0)))))
  (Cw (eC (.bl false)))
  FJ)
  (Cw (eCB Lj (Aa (Cg Pn) Af))))
def IK:Cy:=Ey 2 2 Wo
def O7:Bg :=
 Ea 1 [1] (Ec (Ab 2)) (Pat.sem (.nm 0)) Gh (BK IK (Aa (Ab 1) (Aa (Ab 0) Af)))
def Uy:BL :=
 (Bq (sIf (tOr (Il (Bf (eCB JX (Aa (Ab 0) (Aa (eC (.ty "tuple")) Af))))) (Bf (eOp (oEq true) (eCB Du (Aa (Ab 0) Af)) (eC (.int 2)))))
  (Cw (eC (.bl false)))
  FJ)
  (Bq (Bu 1 (eOp oIx (Ab 0) (eC (.int 0))))
  (Bq (Bu 2 (eOp oIx (Ab 0) (eC (.int 1))))
  (Bq (sIf (tOr (Il (Bf (BK Dz (Aa (Ab 1) Af)))) (tOr (Il (Bf (eCB JX (Aa (Ab 2) (Aa (eC (.ty "list")) Af))))) (Bf (eOp oGt (eCB Du (Aa (Ab 2) Af)) (eUn (S7 Bc.D3) (Ab 1))))))
  (Cw (eC (.bl false)))
  FJ)
  (Cw (eCB Lj (Aa (Cg O7) Af)))))))
def HF:Cy:=Ey 1 3 Uy
def Qq:BL :=
 (sIf (Il (Bf (BK HF (Aa (Ab 0) Af))))
  Ot
  FJ)
def Fp:Cy:=Ey 1 1 Qq
def Qp:BL :=
 (Bq (J8 (BK Fp (Aa (Ab 0) Af)))
  (sIf (Bf (eOp (oEq true) (eOp oIx (Ab 0) (eC (.int 0))) (Ab 1)))
  Ot
  FJ))
def Eb:Cy:=Ey 2 2 Qp
def N5:BL :=
 (Bu 1 (eOp HY (Ab 1) (eOp Im (Ab 3) (Ab 2))))
def Mz:BL :=
 Jv (Ec (Ab 0)) (Pat.sem (.tp [(.nm 2),(.nm 3)]))
  N5
def Sw:BL :=
 (Bq (Bu 1 (eC (.int 1)))
  (Bq Mz
  (Cw (Ab 1))))
def G9:Cy:=Ey 1 4 Sw
def Kf:Bg :=
 Ea 1 [1] (Ec (Ab 0)) (Pat.sem (.nm 0)) Gh (eOp oIx (eOp oIx (Ab 0) (Ab 1)) (eC (.int 0)))
def Ke:Bg :=
 Ea 1 [1] (Ec (Ab 0)) (Pat.sem (.nm 0)) Gh (eOp oIx (eOp oIx (Ab 0) (Ab 1)) (eC (.int 1)))
def Q8:BL :=
 (Cw (RV (eOp Bl (Cg Kf) (Cg Ke))))
def G6:Cy:=Ey 2 2 Q8
def Oc:BL :=
 (Bq (Bu 2 (BK G6 (Aa (Ab 0) (Aa (Ab 1) Af))))
  (Cw (RW (Aa (Ab 2) (Aa (eSl oSl (Ab 2) (Hr (eC (.int 1))) Hs) Af)))))
def Ep:Cy:=Ey 2 3 Oc
def J5(rec:Cy):Bg :=
 Ea 1 [0] (Ec (Ab 1)) (Pat.sem (.nm 0)) Gh (eOp oIx (Ab 1) (Ab 0))
def J4(rec:Cy):Bg :=
 Ea 1 [0,2,5] (Ec (Ab 1)) (Pat.sem (.nm 0)) (Bf (PB oLe oLt (eOp oIx (eOp oIx (eOp oIx (Ab 1) (Ab 0)) (Ab 2)) (eC (.int 0))) (Ab 3) (eOp oIx (eOp oIx (eOp oIx (Ab 1) (Ab 0)) (Ab 2)) (eC (.int 1))))) (Ab 0)
def J7(rec:Cy):BL :=
 (J8 (Hu GJ (Ab 4) (Aa (Bw (Aa (eOp Bl (Bw (Aa (Bw (Aa (Ab 5) (Aa (Ab 6) Af))) Af)) (Ab 8)) (Aa (Ab 9) Af))) Af)))
def Kh(rec:Cy):BL :=
 Jv (Ec (BK rec (Aa (Ab 0) (Aa (Ab 7) (Aa (eOp Bl (Ab 2) (eC (.int 1))) (Aa (Ab 3) Af)))))) (Pat.sem (.tp [(.nm 8),(.nm 9)]))
  (J7 rec)
def J6(rec:Cy):BL :=
 (Bq (Bu 7 (Cg (J4 rec)))
  (Kh rec))
def Kg(rec:Cy):BL :=
 Jv (Ec (BK Ep (Aa (Cg (J5 rec)) (Aa (Ab 2) Af)))) (Pat.sem (.tp [(.nm 5),(.nm 6)]))
  (J6 rec)
def Ju(rec:Cy):BL :=
 (Bq (sIf (Bf (eOp (oEq false) (eCB Du (Aa (Ab 1) Af)) (eC (.int 0))))
  (Cw (Cg Af))
  FJ)
  (Bq (sIf (Bf (eOp (oEq false) (Ab 2) (Ab 3)))
  (Cw (Cg (Aa (Bw (Aa (Bw Af) (Aa (Ab 1) Af))) Af)))
  FJ)
  (Bq (Bu 4 (Mv Af))
  (Bq (Kg rec)
  (Cw (Ab 4))))))
def Br:Nat->Cy
 |0=>fun _=>none
 |n+1=>Ey 4 10 (Ju (Br n))
def Sv:BL :=
 (Cw (BK (Br 4) (Aa (eOp oIx (Ab 0) (eC (.int 1))) (Aa (Jk (Aa (eCB Du (Aa (eOp oIx (Ab 0) (eC (.int 1))) Af)) Af)) (Aa (eC (.int 0)) (Aa (eOp oIx (Ab 0) (eC (.int 0))) Af))))))
def Dj:Cy:=Ey 1 1 Sv
def Fx:Bg :=
 Ea 2 [] (Ec (Ab 0)) (Pat.sem (.tp [(.nm 0),(.nm 1)])) Gh (eCB Du (Aa (Ab 1) Af))
def Gg:BL :=
 (Bq (Bu 4 (eCB Du (Aa (Ab 3) Af)))
  (Jd (eOp Bl (eOp oIx (Ab 1) (eOp Im (Ab 4) (eC (.int 1)))) (BK G9 (Aa (Ab 2) Af))) (Ab 1) (eOp Im (Ab 4) (eC (.int 1)))))
def Ip:BL :=
 Jv (Ec (Ab 0)) (Pat.sem (.tp [(.nm 2),(.nm 3)]))
  Gg
def MJ:BL :=
 (Bq (Bu 1 (Ro (Cg (Aa (eC (.int 0)) Af)) (Rq 0 (Cg Fx))))
  (Bq Ip
  (Cw (Ab 1))))
def Dr:Cy:=Ey 1 5 MJ
def Mh:BL :=
 (sIf (Nh (Bf (eOp oGt (eCB Du (Aa (Ab 1) Af)) (eC (.int 0)))) (Bf (eOp (oEq false) (eOp oIx (eOp oIx (Ab 1) (eUn FN (eC (.int 1)))) (eC (.int 1))) (Ab 2))))
  (Jd (Bw (Aa (eOp oIx (eOp oIx (Ab 1) (eUn FN (eC (.int 1)))) (eC (.int 0))) (Aa (Ab 3) Af))) (Ab 1) (eUn FN (eC (.int 1))))
  (J8 (Hu GJ (Ab 1) (Aa (Bw (Aa (Ab 2) (Aa (Ab 3) Af))) Af))))
def Ph:BL :=
 Jv (Ec (Ab 0)) (Pat.sem (.tp [(.nm 2),(.nm 3)]))
  Mh
def Wn:BL :=
 (Bq (Bu 1 (Mv Af))
  (Bq Ph
  (Cw (Ab 1))))
def Hz:Cy:=Ey 1 4 Wn
def K4:Bg :=
 Ea 2 [1] (Ec (BK Dj (Aa (Ab 0) Af))) (Pat.sem (.tp [(.nm 0),(.nm 1)])) (Bf (eOp oGe (eCB Du (Aa (Ab 1) Af)) (Ab 2))) (eOp oIx (Ab 0) (eC (.int 0)))
def Od:BL :=
 (Cw (BK Hz (Aa (Cg K4) Af)))
def Dw:Cy:=Ey 2 2 Od
def Ms:BL :=
 (Bq (J8 (BK Eb (Aa (Ab 0) (Aa (eC (.int 1)) Af))))
  (Cw (BK Dr (Aa (BK Dj (Aa (Ab 0) Af)) Af))))
def DW:Cy:=Ey 1 1 Ms
def Km:BL :=
 (Bq (J8 (BK Eb (Aa (Ab 0) (Aa (eC (.int 1)) Af))))
  (Bq (sIf (tOr (Il (Bf (BK Dd (Aa (Ab 1) Af)))) (Bf (eOp oLt (Ab 1) (eC (.int 1)))))
  Ot
  FJ)
  (Cw (BK Dw (Aa (Ab 0) (Aa (Ab 1) Af))))))
def Bb:Cy:=Ey 2 2 Km
def Qt:BL :=
 (Bq (Bu 2 (eOp oMod (eOp Bl (eOp Bl (eOp oMod (Ab 0) (eC (.int 2147483629))) (eOp HY (eOp HY (eC (.int 1000003)) (Ab 1)) (Ab 1))) (eOp HY (eC (.int 7919)) (Ab 1))) (eC (.int 2147483629))))
  (Bq (Bu 2 (eOp oMod (eOp HY (Ab 2) (Ab 2)) (eC (.int 2147483587))))
  (Cw (eOp oDiv (eOp oMod (eOp HY (Ab 2) (eOp Bl (Ab 2) (eC (.int 40961)))) (eC (.int 2147483563))) (eC (.int 4))))))
def GX:Cy:=Ey 2 3 Qt
def O8:BL :=
 (Cw (Cg (Aa (eOp HY (Ab 0) (eCB Nm (Aa (eOp oGe (Ab 0) (eOp Ka (eC (.int 10)) (eC (.int 18)))) Af))) (Aa (Ab 0) (Aa (eC (.int 0)) Af)))))
def Fd:Cy:=Ey 1 1 O8
def Kz:BL :=
 (Bq (sIf (Bf (eOp oGt (eOp oIx (Ab 0) (eC (.int 0))) (eC (.int 0))))
  (Bq (Bu 2 (eOp oMod (eOp oIx (Ab 0) (eC (.int 0))) (Ab 1)))
  (Bq (Jd (eOp oDiv (eOp oIx (Ab 0) (eC (.int 0))) (Ab 1)) (Ab 0) (eC (.int 0)))
  (Cw (Ab 2))))
  FJ)
  (Bq (Jd (eOp Bl (eOp oIx (Ab 0) (eC (.int 2))) (eC (.int 1))) (Ab 0) (eC (.int 2)))
  (Cw (eOp oMod (eOp HY (BK GX (Aa (eOp oIx (Ab 0) (eC (.int 1))) (Aa (eOp oIx (Ab 0) (eC (.int 2))) Af))) (eOp oIx (Cg (Aa (eC (.int 1)) (Aa (eC (.int 8191)) Af))) (eCB Nm (Aa (eOp oGt (Ab 1) (eOp Ka (eC (.int 10)) (eC (.int 6)))) Af)))) (Ab 1)))))
def Am:Ln:=runM 2 3 Kz
def Oe:BL :=
 (Bq (Bu 2 (eOp Bl (eOp oIx (Ab 1) (eC (.int 0))) (Bm Am (Aa (Ab 0) (Aa (eOp oIx (Ab 1) (eC (.int 1))) Af)))))
  (Bq (Bu 3 (eOp Bl (eOp oIx (Ab 1) (eC (.int 0))) (Bm Am (Aa (Ab 0) (Aa (eOp oIx (Ab 1) (eC (.int 1))) Af)))))
  (Bq (sIf (Bf (eOp (oEq false) (Ab 2) (Ab 3)))
  (Bu 3 (eOp Bl (Ab 2) (eC (.int 1))))
  FJ)
  (Cw (Bw (Aa (eCB Vj (Aa (Ab 2) (Aa (Ab 3) Af))) (Aa (eCB Vk (Aa (Ab 2) (Aa (Ab 3) Af))) Af)))))))
def Es:Ln:=runM 2 4 Oe
def Kw:Bg :=
 Ea 1 [0,2] (Hx (Aa (Ab 1) Af)) (Pat.sem (.nm 0)) Gh (Bm Es (Aa (Ab 1) (Aa (Ab 2) Af)))
def Pq:BL :=
 (Bq (Bu 4 (eCB Yy (Aa (Cg Kw) Af)))
  (Bq (Bu 5 (Bm Am (Aa (Ab 0) (Aa (eC (.int 6)) Af))))
  (Bq (sIf (tOr (Bf (eOp (oEq false) (Ab 3) (Cg Af))) (Bf (eOp oGt (Ab 5) (eC (.int 3)))))
  (Cw (Ab 4))
  FJ)
  (Bq (Bu 6 (eOp oIx (Ab 3) (Bm Am (Aa (Ab 0) (Aa (eCB Du (Aa (Ab 3) Af)) Af)))))
  (Bq (Bu 7 (Bm Am (Aa (Ab 0) (Aa (Ab 1) Af))))
  (Bq (Yt (eOp oIx (Ab 6) (Ab 7)) (Pat.sem (.tp [(.nm 8),(.nm 9)])))
  (Bq (Bu 10 (Cg (Aa (eOp oIx (Ab 6) (Ab 7)) (Aa (eOp oIx (Ab 4) (Ab 7)) (Aa (Bw (Aa (Ab 9) (Aa (eOp Bl (eOp Bl (Ab 9) (eC (.int 1))) (Bm Am (Aa (Ab 0) (Aa (eC (.int 4)) Af)))) Af))) (Aa (Bw (Aa (Ab 8) (Aa (eOp Bl (eOp Bl (Ab 8) (eC (.int 1))) (Bm Am (Aa (Ab 0) (Aa (eOp Im (Ab 9) (Ab 8)) Af)))) Af))) Af))))))
  (Bq (sIf (Bf (eOp oGt (eOp oIx (eOp oIx (Ab 10) (Ab 5)) (eC (.int 1))) (eOp Ka (eC (.int 10)) (eC (.int 9)))))
  (Cw (Ab 4))
  FJ)
  (Cw (eOp Bl (eOp Bl (eSl oSl (Ab 6) Hs (Hr (Ab 7))) (Bw (Aa (eOp oIx (Ab 10) (Ab 5)) Af))) (eSl oSl (Ab 6) (Hr (eOp Bl (Ab 7) (eC (.int 1)))) Hs)))))))))))
def FW:Ln:=runM 4 11 Pq
def Jt:BL :=
 (J8 (Hu GJ (Ab 5) (Aa (Bm FW (Aa (Ab 0) (Aa (Ab 1) (Aa (Ab 2) (Aa (Ab 5) Af))))) Af)))
def M8:BL :=
 Jv (Hx (Aa (Ab 4) Af)) (Pat.sem (.nm 6))
  Jt
def Qu:BL :=
 (Bq (Bu 4 (eOp oIx (Cg (Aa (Bm Am (Aa (Ab 0) (Aa (eC (.int 4)) Af))) (Aa (Bm Am (Aa (Ab 0) (Aa (eOp Bl (Ab 3) (eC (.int 1))) Af))) (Aa (Ab 3) Af)))) (Bm Am (Aa (Ab 0) (Aa (eC (.int 3)) Af)))))
  (Bq (Bu 5 (Mv Af))
  (Bq M8
  (Cw (Ab 5)))))
def Ew:Ln:=runM 4 7 Qu
def Jo:Bg :=
 Ea 1 [3] (Ec (Ab 0)) (Pat.sem (.nm 0)) (Bf (PB oLe oLt (eOp oIx (eOp oIx (Ab 0) (eC (.int 0))) (eC (.int 0))) (Ab 1) (eOp oIx (eOp oIx (Ab 0) (eC (.int 0))) (eC (.int 1))))) (eC (.int 1))
def Js:BL :=
 (VS.Rk (eCB Du (Aa (Cg Jo) Af)) (Ab 2) (Ab 3))
def M7:BL :=
 Jv (Gk (Aa (eUn FN (eC (.int 25))) (Aa (eC (.int 110)) Af))) (Pat.sem (.nm 3))
  Js
def Jm:Bg :=
 Ea 1 [2] (Gk (Aa (eC (.int 1)) (Aa (eOp Bl (Ab 4) (eC (.int 1))) Af))) (Pat.sem (.nm 0)) Gh (Hu Ow (JR (Ab 1)) (Aa (Ab 0) Af))
def Jr:BL :=
 (Bq (Bu 7 (KH DW (Aa (Ab 1) Af)))
  (Bq (sIf (Bf (eOp (Nj true) (eCB FT (Aa (Ab 7) Af)) (eCB FT (Aa (Ab 5) Af))))
  (Cw (eC (.bl false)))
  FJ)
  (J8 (Hu GJ (Ab 7) (Aa (eC (.int 7)) Af)))))
def M6:BL :=
 Jv (Hx (Aa (eC (.int 2)) Af)) (Pat.sem (.nm 6))
  Jr
def Jq:BL :=
 (sIf (Nh (Bf (eOp oGe (Iz (Ab 2) (Ab 3)) (Ab 8))) (Bf (eOp oLt (Iz (Ab 2) (eOp Im (Ab 3) (eC (.int 1)))) (Ab 8))))
  (J8 (Hu GJ (Ab 9) (Aa (Bw (Aa (Ab 3) (Aa (eOp Bl (Ab 3) (eC (.int 1))) Af))) Af)))
  (sIf (Bf (eOp oGe (Iz (Ab 2) (Ab 3)) (Ab 8)))
  (Jd (Bw (Aa (eOp oIx (eOp oIx (Ab 9) (eUn FN (eC (.int 1)))) (eC (.int 0))) (Aa (eOp Bl (Ab 3) (eC (.int 1))) Af))) (Ab 9) (eUn FN (eC (.int 1))))
  FJ))
def M5:BL :=
 Jv (Gk (Aa (eUn FN (eC (.int 24))) (Aa (eC (.int 110)) Af))) (Pat.sem (.nm 3))
  Jq
def Jp:BL :=
 (Bq (Bu 9 (Mv Af))
  (Bq M5
  (sIf (tOr (Bf (eOp (Nj true) (eCB FT (Aa (BK Bb (Aa (Ab 1) (Aa (Ab 8) Af))) Af)) (eCB FT (Aa (Ab 9) Af)))) (Bf (eOp (oEq true) (BK Bb (Aa (Ab 1) (Aa (Ab 8) Af))) (Ab 9))))
  (Cw (eC (.bl false)))
  FJ)))
def M4:BL :=
 Jv (Gk (Aa (eC (.int 1)) (Aa (eOp Bl (Ab 4) (eC (.int 2))) Af))) (Pat.sem (.nm 8))
  Jp
def Qs:BL :=
 (Bq (Bu 1 (Bw (Aa (eC (.int 1)) (Aa (Rp nList (Aa (Ab 0) Af)) Af))))
  (Bq (Bu 2 ZG)
  (Bq M7
  (Bq (Bu 4 (eCB QG (Aa (JR (Ab 2)) Af)))
  (Bq (Bu 5 (Cg Jm))
  (Bq M6
  (Bq M4
  (Cw (eOp (oEq false) (Ab 1) (Bw (Aa (eC (.int 1)) (Aa (Ab 0) Af))))))))))))
def Fq:Cy:=Ey 1 10 Qs
def S9:BL :=
 (Bq (Bu 2 (KH Fd (Aa (Ab 1) Af)))
  (Bq (Bu 3 (eOp oIx (Cg (Aa (Bw (Aa (eC (.int 0)) (Aa (eC (.int 6)) Af))) (Aa (Bw (Aa (eUn FN (eC (.int 3))) (Aa (eC (.int 8)) Af))) (Aa (Bw (Aa (eC (.int 0)) (Aa (eC (.int 13)) Af))) (Aa (Bw (Aa (eUn FN (eC (.int 20))) (Aa (eC (.int 41)) Af))) Af))))) (Bm Am (Aa (Ab 2) (Aa (eC (.int 4)) Af)))))
  (sIf (Il (Bf (BK Fq (Aa (Bm Ew (Aa (Ab 2) (Aa (eC (.int 1)) (Aa (Ab 3) (Aa (eC (.int 20)) Af))))) Af))))
  (Cw (eC (.bl false)))
  FJ)))
def Vw:BL :=
 Jv (Ec (eOp Bl (Cg (Aa (eC (.int 0)) Af)) (eSl oSl (Ab 0) Hs (Hr (eC (.int 12)))))) (Pat.sem (.nm 1))
  S9
def jF:BL :=
 (Bq Vw
  (Cw (eOp (oEq false) (BK Bb (Aa (Bw (Aa (eC (.int 1)) (Aa (Cg (Aa (Bw (Aa (Bw (Aa (eC (.int 0)) (Aa (eC (.int 4)) Af))) Af)) (Aa (Bw (Aa (Bw (Aa (eC (.int 2)) (Aa (eC (.int 6)) Af))) Af)) (Aa (Bw (Aa (Bw (Aa (eC (.int 3)) (Aa (eC (.int 4)) Af))) Af)) Af)))) Af))) (Aa (eC (.int 2)) Af))) (Cg (Aa (Bw (Aa (eC (.int 2)) (Aa (eC (.int 4)) Af))) Af)))))
def Te:Cy:=Ey 1 4 jF
end W09
end
section
namespace W09
open PySem PySem.Spec L2 VS
def top (i : Nat) : Stmt := PySem.Challenge.pw_boxcover_k09_how_often_one_by_one.main.body.getD i (.Pass ⟨0, 0, 0, 0⟩)
abbrev Ia:Stmt:=top 7
abbrev Ig:Stmt:=top 8
abbrev Gn:Stmt:=top 9
abbrev JH:Stmt:=top 10
abbrev Ho:Stmt:=top 11
abbrev HN:Stmt:=top 12
abbrev HJ:Stmt:=top 13
abbrev Ie:Stmt:=top 14
abbrev Fe:Stmt:=top 16
abbrev GZ:Stmt:=top 17
abbrev Fg:Stmt:=top 18
abbrev Ib:Stmt:=top 19
abbrev Ef:Stmt:=top 20
abbrev Jy:Stmt:=top 22
abbrev Fw:Stmt:=top 23
abbrev Fo:Stmt:=top 24
abbrev Eu:Stmt:=top 25
abbrev HS:Stmt:=top 27
abbrev IV:Stmt:=top 28
abbrev IW:Stmt:=top 29
abbrev Ga:Stmt:=top 31
abbrev Hl:Stmt:=top 32
abbrev HW:Stmt:=top 33
abbrev G4:Stmt:=top 34
abbrev Ko:Stmt:=top 35
theorem Xh:CV ["thing"] ["thing"] (Ak Ia):=⟨rfl,rfl,rfl,by decide +kernel,rfl,by decide +kernel,by decide +kernel⟩
theorem Xj:CV ["thing"] ["thing"] (Ak Ig):=⟨rfl,rfl,rfl,by decide +kernel,rfl,by decide +kernel,by decide +kernel⟩
theorem VG:CV ["thing"] ["thing"] (Ak Gn):=⟨rfl,rfl,rfl,by decide +kernel,rfl,by decide +kernel,by decide +kernel⟩
theorem bD:CV ["ways","thing"] ["ways","thing"] (Ak JH):=⟨rfl,rfl,rfl,by decide +kernel,rfl,by decide +kernel,by decide +kernel⟩
theorem O6:CV ["thing","ways","boxes"] ["thing"] (Ak Ho):=⟨rfl,rfl,rfl,by decide +kernel,rfl,by decide +kernel,by decide +kernel⟩
theorem X6:CV ["heap"] ["heap"] (Ak HN):=⟨rfl,rfl,rfl,by decide +kernel,rfl,by decide +kernel,by decide +kernel⟩
theorem X5:CV ["heap","ways"] ["heap","ways"] (Ak HJ):=⟨rfl,rfl,rfl,by decide +kernel,rfl,by decide +kernel,by decide +kernel⟩
theorem Iu:CV ["box","size","low","high"] ["box"] (Ak Ie):=⟨rfl,rfl,rfl,by decide +kernel,rfl,by decide +kernel,by decide +kernel⟩
theorem VH:CV ["boxes","way"] ["boxes","way"] (Ak Fe):=⟨rfl,rfl,rfl,by decide +kernel,rfl,by decide +kernel,by decide +kernel⟩
theorem Nf:CV ["boxes","way","ends"] ["boxes","way"] (Ak GZ):=⟨rfl,rfl,rfl,by decide +kernel,rfl,by decide +kernel,by decide +kernel⟩
theorem Fv:CV ["boxes","numbers","way","ways","cells","low","high","there","rest","held_by"] ["boxes","numbers","way","ways"] (Ak Fg):=⟨rfl,rfl,rfl,by decide +kernel,rfl,by decide +kernel,by decide +kernel⟩
theorem Xi:CV ["heap"] ["heap"] (Ak Ib):=⟨rfl,rfl,rfl,by decide +kernel,rfl,by decide +kernel,by decide +kernel⟩
theorem Fy:CV ["cells","sizes","cell","numbers","times"] ["cells"] (Ak Ef):=⟨rfl,rfl,rfl,by decide +kernel,rfl,by decide +kernel,by decide +kernel⟩
theorem Mf:CV ["stretches","pieces","low","high"] ["stretches"] (Ak Jy):=⟨rfl,rfl,rfl,by decide +kernel,rfl,by decide +kernel,by decide +kernel⟩
theorem UJ:CV ["heap","least"] ["heap","least"] (Ak Fw):=⟨rfl,rfl,rfl,by decide +kernel,rfl,by decide +kernel,by decide +kernel⟩
theorem Rg:CV ["heap"] ["heap"] (Ak Fo):=⟨rfl,rfl,rfl,by decide +kernel,rfl,by decide +kernel,by decide +kernel⟩
theorem Q9:CV ["heap","k"] ["heap","k"] (Ak Eu):=⟨rfl,rfl,rfl,by decide +kernel,rfl,by decide +kernel,by decide +kernel⟩
theorem Lz:CV ["cell","k","number"] ["cell","k"] (Ak HS):=⟨rfl,rfl,rfl,by decide +kernel,rfl,by decide +kernel,by decide +kernel⟩
theorem Xg:CV ["cell"] ["cell"] (Ak IV):=⟨rfl,rfl,rfl,by decide +kernel,rfl,by decide +kernel,by decide +kernel⟩
theorem Qi:CV ["well","many","got"] ["well","many"] (Ak IW):=⟨rfl,rfl,rfl,by decide +kernel,rfl,by decide +kernel,by decide +kernel⟩
theorem Ij:CV ["well","reach","one","other"] ["well","reach"] (Ak Ga):=⟨rfl,rfl,rfl,by decide +kernel,rfl,by decide +kernel,by decide +kernel⟩
theorem Gd:CV ["well","ways","reach","boxes","found","kind","here","at","low","high","there"] ["well","ways","reach","boxes"] (Ak Hl):=⟨rfl,rfl,rfl,by decide +kernel,rfl,by decide +kernel,by decide +kernel⟩
theorem Jl:CV ["well","ways","reach","most","many","found","k"] ["well","ways","reach","most"] (Ak HW):=⟨rfl,rfl,rfl,by decide +kernel,rfl,by decide +kernel,by decide +kernel⟩
theorem Dq:CV ["boxes","heap","often","number","most","due","turn","told","k","stretches"] ["boxes"] (Ak G4):=⟨rfl,rfl,rfl,by decide +kernel,rfl,by decide +kernel,by decide +kernel⟩
theorem Rz:CV ["script","cell","well","reach"] ["script"] (Ak Ko):=⟨rfl,rfl,rfl,by decide +kernel,rfl,by decide +kernel,by decide +kernel⟩
section
variable{P:Program}{w:World}{K:U0a}{mg:Str->Option Value}{base:Heap}
set_option maxHeartbeats 4000000 in
theorem Xp{f:Addr}{fd:FuncData}(F:Fun K "is_whole" "is_whole" Ia f fd)(B:Blt mg):DG P w K mg base CX0 1 f fd ["thing"] (spP K Dd 1) :=
 fnP F Xh fun cdv A outer s H E hr =>
  (Ax (Cd (SJ (CP K3 La rfl (B.is "isinstance") Gb (Ac (Ad 0) (Ac (QF (n:="int") rfl (B.is "int") W0) Ah))) (Vy (rH (CP K3 La rfl (B.is "isinstance") Gb (Ac (Ad 0) (Ac (QF (n:="bool") rfl (B.is "bool") nH) Ah))))))))
set_option maxHeartbeats 4000000 in
theorem Xu{f:Addr}{fd:FuncData}(F:Fun K "are_ways" "are_ways" Ig f fd)(B:Blt mg){d_MOST_BOXES:Addr}(M_MOST_BOXES:mg "MOST_BOXES"=some (.ref d_MOST_BOXES))(T_MOST_BOXES:∀h,K.In h->U5g P w h d_MOST_BOXES Bc.D3)(c_is_whole:CZ P w K mg base "is_whole" 1 Dd):DG P w K mg base CX0 2 f fd ["thing"] (spP K Dz 1) :=
 fnP F Xj fun cdv A outer s H E hr =>
  (Ax (Cd (SJ (CN c_is_whole hr (by omega) rfl (Ac (Ad 0) Ah)) (Vy (gk T_MOST_BOXES (Ad 0) rfl M_MOST_BOXES)))))
set_option maxHeartbeats 4000000 in
theorem VJ{f:Addr}{fd:FuncData}(F:Fun K "is_stretch" "is_stretch" Gn f fd)(B:Blt mg)(c_is_whole:CZ P w K mg base "is_whole" 1 Dd):DG P w K mg base CX0 2 f fd ["thing"] (spP K G5 1) :=
 fnP F VG fun cdv A outer s H E hr =>
  (Av (Fz (Kq (Kp (Jg (Jf (CP K3 La rfl (B.is "isinstance") Gb (Ac (Ad 0) (Ac (QF (n:="tuple") rfl (B.is "tuple") O4) Ah))))) (Ls (Dt (Lq hr) Om (CP Dk GD rfl (B.is "len") Gx (Ac (Ad 0) Ah)) Aj (DX _)))))
   (Ax (Cd Np))
   Ej)
   (Ax (Cd (SJ (CN c_is_whole hr (by omega) rfl (Ac (Bh BR BP (Ad 0) Aj (fun _ _=>rfl)) Ah)) (SJ (CN c_is_whole hr (by omega) rfl (Ac (Bh BR BP (Ad 0) Aj (fun _ _=>rfl)) Ah)) (Vy (Oz Rm Oo (Bh BR BP (Ad 0) Aj (fun _ _=>rfl)) (Bh BR BP (Ad 0) Aj (fun _ _=>rfl)) (DX _))))))))
set_option maxHeartbeats 4000000 in
theorem bQ{f:Addr}{fd:FuncData}(F:Fun K "is_box" "is_box" JH f fd)(B:Blt mg)(c_are_ways:CZ P w K mg base "are_ways" 2 Dz)(c_is_stretch:CZ P w K mg base "is_stretch" 2 G5):DG P w K mg base CX0 3 f fd ["ways","thing"] (spP K IK 2) :=
 fnP F bD fun cdv A outer s H E hr =>
  (Av (Fz (Kq (Kp (Jg (Jf (CN c_are_ways hr (by omega) rfl (Ac (Ad 0) Ah)))) (Kp (Jg (Jf (CP K3 La rfl (B.is "isinstance") Gb (Ac (Ad 1) (Ac (QF (n:="tuple") rfl (B.is "tuple") O4) Ah))))) (Ls (Dt (Lq hr) Om (CP Dk GD rfl (B.is "len") Gx (Ac (Ad 1) Ah)) (Ad 0) (DX _))))))
   (Ax (Cd Np))
   Ej)
   (Ax (Cd (CP (Wy rfl) YT rfl (B.is "all") aR (Ac (Gw rfl (Ez.of (sc:=Ak JH) (N:=["ways","thing"]) (N2:=["part"]) (k:=1) (caps:=[]) (by decide +kernel)) rfl (G7 (Ad 1)) ⟨fun _ _ _ _ _=>⟨(CK (i:=0) (show U3j (["part"]:List Str) by decide +kernel)),JM,(CN c_is_stretch hr (by omega) rfl (Ac (Ad 0) Ah))⟩⟩) Ah)))))
set_option maxHeartbeats 4000000 in
theorem Za{f:Addr}{fd:FuncData}(F:Fun K "is_heap" "is_heap" Ho f fd)(B:Blt mg){d_MOST_BOXES:Addr}(M_MOST_BOXES:mg "MOST_BOXES"=some (.ref d_MOST_BOXES))(T_MOST_BOXES:∀h,K.In h->U5g P w h d_MOST_BOXES Bc.D3)(c_are_ways:CZ P w K mg base "are_ways" 2 Dz)(c_is_box:CZ P w K mg base "is_box" 3 IK):DG P w K mg base CX0 4 f fd ["thing"] (spP K HF 1) :=
 fnP F O6 fun cdv A outer s H E hr =>
  (Av (Fz (Kq (Kp (Jg (Jf (CP K3 La rfl (B.is "isinstance") Gb (Ac (Ad 0) (Ac (QF (n:="tuple") rfl (B.is "tuple") O4) Ah))))) (Ls (Dt (Lq hr) Om (CP Dk GD rfl (B.is "len") Gx (Ac (Ad 0) Ah)) Aj (DX _)))))
   (Ax (Cd Np))
   Ej)
   (Av (DK (i:=1) O6.nd (Bh BR BP (Ad 0) Aj (fun _ _=>rfl)))
   (Av (DK (i:=2) O6.nd (Bh BR BP (Ad 0) Aj (fun _ _=>rfl)))
   (Av (Fz (Kq (Kp (Jg (Jf (CN c_are_ways hr (by omega) rfl (Ac (Ad 1) Ah)))) (Kp (Jg (Jf (CP K3 La rfl (B.is "isinstance") Gb (Ac (Ad 2) (Ac (QF (n:="list") rfl (B.is "list") Tz) Ah))))) (Ls (Dt QC N6 (CP Dk GD rfl (B.is "len") Gx (Ac (Ad 2) Ah)) (gj T_MOST_BOXES (Ad 1) rfl M_MOST_BOXES (fun _ _=>rfl)) (DX _))))))
   (Ax (Cd Np))
   Ej)
   (Ax (Cd (CP (Wy rfl) YT rfl (B.is "all") aR (Ac (Gw rfl (Ez.of (sc:=Ak Ho) (N:=["thing","ways","boxes"]) (N2:=["box","ways"]) (k:=1) (caps:=[1]) (by decide +kernel)) rfl (G7 (Ad 2)) ⟨fun _ _ _ _ _=>⟨(CK (i:=0) (show U3j (["box","ways"]:List Str) by decide +kernel)),JM,(CN c_is_box hr (by omega) rfl (Ac (Ad 1) (Ac (Ad 0) Ah)))⟩⟩) Ah))))))))
set_option maxHeartbeats 4000000 in
theorem XC{f:Addr}{fd:FuncData}(F:Fun K "need_heap" "need_heap" HN f fd)(B:Blt mg)(c_is_heap:CZ P w K mg base "is_heap" 4 HF):DG P w K mg base CX0 5 f fd ["heap"] (spP K Fp 1) :=
 fnP F X6 fun cdv A outer s H E hr =>
  (Ax (Fz (Jg (Jf (CN c_is_heap hr (by omega) rfl (Ac (Ad 0) Ah))))
   (Ax RM)
   Ej))
set_option maxHeartbeats 4000000 in
theorem X8{f:Addr}{fd:FuncData}(F:Fun K "need_ways" "need_ways" HJ f fd)(B:Blt mg)(c_need_heap:CZ P w K mg base "need_heap" 5 Fp):DG P w K mg base CX0 6 f fd ["heap","ways"] (spP K Eb 2) :=
 fnP F X5 fun cdv A outer s H E hr =>
  (Av (KC (CN c_need_heap hr (by omega) rfl (Ac (Ad 0) Ah)))
   (Ax (Fz (Dt (Lq hr) Om (Bh BR BP (Ad 0) Aj (fun _ _=>rfl)) (Ad 1) (DX _))
   (Ax RM)
   Ej)))
set_option maxHeartbeats 4000000 in
theorem Xr{f:Addr}{fd:FuncData}(F:Fun K "box_size" "box_size" Ie f fd)(B:Blt mg):DG P w K mg base CX0 1 f fd ["box"] (spP K G9 1) :=
 fnP F Iu fun cdv A outer s H E hr =>
  (Av (DK (i:=1) Iu.nd Aj)
   (Av (Hh rfl (G7 (Ad 0)) (KD rfl (Dv (CK (i:=2) Iu.nd) (Dv (CK (i:=3) Iu.nd) JN)))
   (Ax (DK (i:=1) Iu.nd (Bs JL JK (Ad 1) (Bs Ov NQ (Ad 3) (Ad 2))))) U20)
   (Ax (Cd (Ad 1)))))
set_option maxHeartbeats 4000000 in
theorem VL{f:Addr}{fd:FuncData}(F:Fun K "ends_along" "ends_along" Fe f fd)(B:Blt mg):DG P w K mg base CX0 1 f fd ["boxes","way"] (spP K G6 2) :=
 fnP F VH fun cdv A outer s H E hr =>
  (Ax (Cd (Zi rfl (Bs DQ DP (Gw rfl (Ez.of (sc:=Ak Fe) (N:=["boxes","way"]) (N2:=["box","way"]) (k:=1) (caps:=[1]) (by decide +kernel)) rfl (G7 (Ad 0)) ⟨fun _ _ _ _ _=>⟨(CK (i:=0) (show U3j (["box","way"]:List Str) by decide +kernel)),JM,(Bh BR BP (Bh BR BP (Ad 0) (Ad 1) (fun _ _=>rfl)) Aj (fun _ _=>rfl))⟩⟩) (Gw rfl (Ez.of (sc:=Ak Fe) (N:=["boxes","way"]) (N2:=["box","way"]) (k:=1) (caps:=[1]) (by decide +kernel)) rfl (G7 (Ad 0)) ⟨fun _ _ _ _ _=>⟨(CK (i:=0) (show U3j (["box","way"]:List Str) by decide +kernel)),JM,(Bh BR BP (Bh BR BP (Ad 0) (Ad 1) (fun _ _=>rfl)) Aj (fun _ _=>rfl))⟩⟩)) rfl (B.is "sorted") rfl (B.is "set"))))
set_option maxHeartbeats 4000000 in
theorem UL{f:Addr}{fd:FuncData}(F:Fun K "steps_along" "steps_along" GZ f fd)(B:Blt mg)(Bz:mg "zip"=none)(c_ends_along:CZ P w K mg base "ends_along" 1 G6):DG P w K mg base CX0 2 f fd ["boxes","way"] (spP K Ep 2) :=
 fnP F Nf fun cdv A outer s H E hr =>
  (Av (DK (i:=2) Nf.nd (CN c_ends_along hr (by omega) rfl (Ac (Ad 0) (Ac (Ad 1) Ah))))
   (Ax (Cd (Zj rfl (Ac (Ad 2) (Ac (Ny Rv Rw (Ad 2) (QX Aj) QZ) Ah)) rfl (B.is "list") rfl Bz))))
set_option maxHeartbeats 4000000 in
theorem J3{f:Addr}{fd:FuncData}(F:Fun K "cells_from" "cells_from" Fg f fd)(B:Blt mg)(c_steps_along:CZ P w K mg base "steps_along" 2 Ep){n k:Nat}(hk:2<=k)(c_cells_from:CZ P w K mg base "cells_from" k (Br n)):DG P w K mg base CX0 (k+1) f fd ["boxes","numbers","way","ways"] (spP K (Br (n+1)) 4) :=
 fnP F Fv fun cdv A outer s H E hr =>
  (Av (Fz (Dt (Lr hr) Lp (CP Dk GD rfl (B.is "len") Gx (Ac (Ad 1) Ah)) Aj (DX _))
   (Ax (Cd (GK Ah BX)))
   Ej)
   (Av (Fz (Dt (Lr hr) Lp (Ad 2) (Ad 3) (DX _))
   (Ax (Cd (GK (Ac (DY (Ac (DY Ah BX) (Ac (Ad 1) Ah)) (Al (Al BX))) Ah) (Al BX))))
   Ej)
   (Av (DK (i:=4) Fv.nd (Qa Ah BX))
   (Av (Hh rfl (G7 (CN c_steps_along hr (by omega) rfl (Ac (Gw rfl (Ez.of (sc:=Ak Fg) (N:=["boxes","numbers","way","ways","cells","low","high","there","rest","held_by"]) (N2:=["number","boxes"]) (k:=1) (caps:=[0]) (by decide +kernel)) rfl (G7 (Ad 1)) ⟨fun _ _ _ _ _=>⟨(CK (i:=0) (show U3j (["number","boxes"]:List Str) by decide +kernel)),JM,(Bh BR BP (Ad 1) (Ad 0) (fun _ _=>rfl))⟩⟩) (Ac (Ad 2) Ah)))) (KD rfl (Dv (CK (i:=5) Fv.nd) (Dv (CK (i:=6) Fv.nd) JN)))
   (Av (Qm (i:=7) rfl Fv.nd (Ez.of (sc:=Ak Fg) (N:=["boxes","numbers","way","ways","cells","low","high","there","rest","held_by"]) (N2:=["number","boxes","way","low"]) (k:=1) (caps:=[0,2,5]) (by decide +kernel)) rfl (G7 (Ad 1)) ⟨fun _ _ _ _ _=>⟨(CK (i:=0) (show U3j (["number","boxes","way","low"]:List Str) by decide +kernel)),(Ti (Wc jD Zv Rm Oo (Bh BR BP (Bh BR BP (Bh BR BP (Ad 1) (Ad 0) (fun _ _=>rfl)) (Ad 2) (fun _ _=>rfl)) Aj (fun _ _=>rfl)) (Ad 3) (Bh BR BP (Bh BR BP (Bh BR BP (Ad 1) (Ad 0) (fun _ _=>rfl)) (Ad 2) (fun _ _=>rfl)) Aj (fun _ _=>rfl)))),(Ad 0)⟩⟩)
   (Ax (Hh rfl (G7 (CN c_cells_from hr (by omega) rfl (Ac (Ad 0) (Ac (Ad 7) (Ac (Bs DQ DP (Ad 2) Aj) (Ac (Ad 3) Ah)))))) (KD rfl (Dv (CK (i:=8) Fv.nd) (Dv (CK (i:=9) Fv.nd) JN)))
   (Ax (KC (Lf U3e U3u U3v KR KN (Ad 4) (Ac (DY (Ac (Bs DQ DP (DY (Ac (DY (Ac (Ad 5) (Ac (Ad 6) Ah)) (Al (Al BX))) Ah) (Al BX)) (Ad 8)) (Ac (Ad 9) Ah)) (Al (Al BX))) Ah)))) U20))) U20)
   (Ax (Cd (Ad 4)))))))
set_option maxHeartbeats 4000000 in
theorem Xq{f:Addr}{fd:FuncData}(F:Fun K "cells_of" "cells_of" Ib f fd)(B:Blt mg)(c_cells_from:CZ P w K mg base "cells_from" 6 (Br 4)):DG P w K mg base CX0 7 f fd ["heap"] (spP K Dj 1) :=
 fnP F Xi fun cdv A outer s H E hr =>
  (Ax (Cd (CN c_cells_from hr (by omega) rfl (Ac (Bh BR BP (Ad 0) Aj (fun _ _=>rfl)) (Ac (XQ rfl (Ac (CP Dk GD rfl (B.is "len") Gx (Ac (Bh BR BP (Ad 0) Aj (fun _ _=>rfl)) Ah)) Ah) rfl (B.is "list") rfl (B.is "range")) (Ac Aj (Ac (Bh BR BP (Ad 0) Aj (fun _ _=>rfl)) Ah)))))))
set_option maxHeartbeats 4000000 in
theorem Qf{f:Addr}{fd:FuncData}(F:Fun K "sizes_by_times" "sizes_by_times" Ef f fd)(B:Blt mg)(c_box_size:CZ P w K mg base "box_size" 1 G9):DG P w K mg base CX0 2 f fd ["cells"] (spP K Dr 1) :=
 fnP F Fy fun cdv A outer s H E hr =>
  (Av (DK (i:=1) Fy.nd (mC (GK (Ac Aj Ah) (Al BX)) (mF rfl rfl (B.is "max") (Gw rfl (Ez.of (sc:=Ak Ef) (N:=["cells","sizes","cell","numbers","times"]) (N2:=["cell","numbers"]) (k:=2) (caps:=[]) (by decide +kernel)) rfl (G7 (Ad 0)) ⟨fun _ _ _ _ _=>⟨(KD rfl (Dv (CK (i:=0) (show U3j (["cell","numbers"]:List Str) by decide +kernel)) (Dv (CK (i:=1) (show U3j (["cell","numbers"]:List Str) by decide +kernel)) JN))),JM,(CP Dk GD rfl (B.is "len") Gx (Ac (Ad 1) Ah))⟩⟩))))
   (Av (Hh rfl (G7 (Ad 0)) (KD rfl (Dv (CK (i:=2) Fy.nd) (Dv (CK (i:=3) Fy.nd) JN)))
   (Av (DK (i:=4) Fy.nd (CP Dk GD rfl (B.is "len") Gx (Ac (Ad 3) Ah)))
   (Ax (Ly (Bs DQ DP (Bh BR BP (Ad 1) (Bs Ov NQ (Ad 4) Aj) (fun _ _=>rfl)) (CN c_box_size hr (by omega) rfl (Ac (Ad 2) Ah))) (Ad 1) (Bs Ov NQ (Ad 4) Aj)))) U20)
   (Ax (Cd (Ad 1)))))
set_option maxHeartbeats 4000000 in
theorem bO{f:Addr}{fd:FuncData}(F:Fun K "joined" "joined" Jy f fd)(B:Blt mg):DG P w K mg base CX0 1 f fd ["stretches"] (spP K Hz 1) :=
 fnP F Mf fun cdv A outer s H E hr =>
  (Av (DK (i:=1) Mf.nd (Qa Ah BX))
   (Av (Hh rfl (G7 (Ad 0)) (KD rfl (Dv (CK (i:=2) Mf.nd) (Dv (CK (i:=3) Mf.nd) JN)))
   (Ax (Fz (Kq (aJ (Dt QC N6 (CP Dk GD rfl (B.is "len") Gx (Ac (Ad 1) Ah)) Aj (DX _)) (Yg (Dt (Lr hr) Lp (Bh BR BP (Bh BR BP (Ad 1) (Kr Jc Hv Aj) (fun _ _=>rfl)) Aj (fun _ _=>rfl)) (Ad 2) (DX _)))))
   (Ax (Ly (DY (Ac (Bh BR BP (Bh BR BP (Ad 1) (Kr Jc Hv Aj) (fun _ _=>rfl)) Aj (fun _ _=>rfl)) (Ac (Ad 3) Ah)) (Al (Al BX))) (Ad 1) (Kr Jc Hv Aj)))
   (Ax (KC (Lf U3e U3u U3v KR KN (Ad 1) (Ac (DY (Ac (Ad 2) (Ac (Ad 3) Ah)) (Al (Al BX))) Ah)))))) U20)
   (Ax (Cd (Ad 1)))))
set_option maxHeartbeats 4000000 in
theorem UW{f:Addr}{fd:FuncData}(F:Fun K "pieces_held" "pieces_held" Fw f fd)(B:Blt mg)(c_joined:CZ P w K mg base "joined" 1 Hz)(c_cells_of:CZ P w K mg base "cells_of" 7 Dj):DG P w K mg base CX0 8 f fd ["heap","least"] (spP K Dw 2) :=
 fnP F UJ fun cdv A outer s H E hr =>
  (Ax (Cd (CN c_joined hr (by omega) rfl (Ac (Gw rfl (Ez.of (sc:=Ak Fw) (N:=["heap","least"]) (N2:=["cell","numbers","least"]) (k:=2) (caps:=[1]) (by decide +kernel)) rfl (G7 (CN c_cells_of hr (by omega) rfl (Ac (Ad 0) Ah))) ⟨fun _ _ _ _ _=>⟨(KD rfl (Dv (CK (i:=0) (show U3j (["cell","numbers","least"]:List Str) by decide +kernel)) (Dv (CK (i:=1) (show U3j (["cell","numbers","least"]:List Str) by decide +kernel)) JN))),(Ti (Dt Ve Rx (CP Dk GD rfl (B.is "len") Gx (Ac (Ad 1) Ah)) (Ad 2) (DX _))),(Bh BR BP (Ad 0) Aj (fun _ _=>rfl))⟩⟩) Ah))))
set_option maxHeartbeats 4000000 in
theorem Rh{f:Addr}{fd:FuncData}(F:Fun K "lengths_often" "lengths_often" Fo f fd)(B:Blt mg)(c_need_ways:CZ P w K mg base "need_ways" 6 Eb)(c_sizes_by_times:CZ P w K mg base "sizes_by_times" 2 Dr)(c_cells_of:CZ P w K mg base "cells_of" 7 Dj):DG P w K mg base CX0 8 f fd ["heap"] (spP K DW 1) :=
 fnP F Rg fun cdv A outer s H E hr =>
  (Av (KC (CN c_need_ways hr (by omega) rfl (Ac (Ad 0) (Ac Aj Ah))))
   (Ax (Cd (CN c_sizes_by_times hr (by omega) rfl (Ac (CN c_cells_of hr (by omega) rfl (Ac (Ad 0) Ah)) Ah)))))
set_option maxHeartbeats 4000000 in
theorem QB{f:Addr}{fd:FuncData}(F:Fun K "pieces_at_least" "pieces_at_least" Eu f fd)(B:Blt mg)(c_need_ways:CZ P w K mg base "need_ways" 6 Eb)(c_is_whole:CZ P w K mg base "is_whole" 1 Dd)(c_pieces_held:CZ P w K mg base "pieces_held" 8 Dw):DG P w K mg base CX0 9 f fd ["heap","k"] (spP K Bb 2) :=
 fnP F Q9 fun cdv A outer s H E hr =>
  (Av (KC (CN c_need_ways hr (by omega) rfl (Ac (Ad 0) (Ac Aj Ah))))
   (Av (Fz (Kq (Kp (Jg (Jf (CN c_is_whole hr (by omega) rfl (Ac (Ad 1) Ah)))) (Ls (Dt Rm Oo (Ad 1) Aj (DX _)))))
   (Ax RM)
   Ej)
   (Ax (Cd (CN c_pieces_held hr (by omega) rfl (Ac (Ad 0) (Ac (Ad 1) Ah)))))))
set_option maxHeartbeats 4000000 in
theorem XF{f:Addr}{fd:FuncData}(F:Fun K "_law_mixed" "_law_mixed" HS f fd)(B:Blt mg):DG P w K mg base CX0 1 f fd ["cell","k"] (spP K GX 2) :=
 fnP F Lz fun cdv A outer s H E hr =>
  (Av (DK (i:=2) Lz.nd (Bs N7 LR (Bs DQ DP (Bs DQ DP (Bs N7 LR (Ad 0) Aj) (Bs JL JK (Bs JL JK Aj (Ad 1)) (Ad 1))) (Bs JL JK Aj (Ad 1))) Aj))
   (Av (DK (i:=2) Lz.nd (Bs N7 LR (Bs JL JK (Ad 2) (Ad 2)) Aj))
   (Ax (Cd (Bs WW YS (Bs N7 LR (Bs JL JK (Ad 2) (Bs DQ DP (Ad 2) Aj)) Aj) Aj)))))
set_option maxHeartbeats 4000000 in
theorem Xn{f:Addr}{fd:FuncData}(F:Fun K "_law_well" "_law_well" IV f fd)(B:Blt mg):DG P w K mg base CX0 1 f fd ["cell"] (spP K Fd 1) :=
 fnP F Xg fun cdv A outer s H E hr =>
  (Ax (Cd (GK (Ac (Bs JL JK (Ad 0) (Pk V4 YQ rfl (B.is "int") W0 (Ac (Oz Ve Rx (Ad 0) (Bs Vv Td Aj Aj) (DX _)) Ah))) (Ac (Ad 0) (Ac Aj Ah))) (Al (Al (Al BX))))))
set_option maxHeartbeats 4000000 in
theorem Xo{f:Addr}{fd:FuncData}(F:Fun K "_law_draw" "_law_draw" IW f fd)(B:Blt mg)(c_law_mixed:CZ P w K mg base "_law_mixed" 1 GX):DG P w K mg base CX0 2 f fd ["well","many"] (spM K Am 2) :=
 fnM F Qi fun cdv A outer s H E hr =>
  (Av (Fz (Dt QC N6 (Bh BR BP (Ad 0) Aj (fun _ _=>rfl)) Aj (DX _))
   (Av (DK (i:=2) Qi.nd (Bs N7 LR (Bh BR BP (Ad 0) Aj (fun _ _=>rfl)) (Ad 1)))
   (Av (Ly (Bs WW YS (Bh BR BP (Ad 0) Aj (fun _ _=>rfl)) (Ad 1)) (Ad 0) Aj)
   (Ax (Cd (Ad 2)))))
   Ej)
   (Av (Ly (Bs DQ DP (Bh BR BP (Ad 0) Aj (fun _ _=>rfl)) Aj) (Ad 0) Aj)
   (Ax (Cd (Bs N7 LR (Bs JL JK (CN c_law_mixed hr (by omega) rfl (Ac (Bh BR BP (Ad 0) Aj (fun _ _=>rfl)) (Ac (Bh BR BP (Ad 0) Aj (fun _ _=>rfl)) Ah))) (Bh BR BP (GK (Ac Aj (Ac Aj Ah)) (Al (Al BX))) (Pk V4 YQ rfl (B.is "int") W0 (Ac (Oz QC N6 (Ad 1) (Bs Vv Td Aj Aj) (DX _)) Ah)) (fun _ _=>rfl))) (Ad 1))))))
set_option maxHeartbeats 4000000 in
theorem Ua{f:Addr}{fd:FuncData}(F:Fun K "_law_stretch" "_law_stretch" Ga f fd)(B:Blt mg)(c_law_draw:Kd P w K mg base "_law_draw" 2 Am):DG P w K mg base CX0 3 f fd ["well","reach"] (spM K Es 2) :=
 fnM F Ij fun cdv A outer s H E hr =>
  (Av (DK (i:=2) Ij.nd (Bs DQ DP (Bh BR BP (Ad 1) Aj (fun _ _=>rfl)) (En c_law_draw hr (by omega) rfl (Ac (Ad 0) (Ac (Bh BR BP (Ad 1) Aj (fun _ _=>rfl)) Ah)))))
   (Av (DK (i:=3) Ij.nd (Bs DQ DP (Bh BR BP (Ad 1) Aj (fun _ _=>rfl)) (En c_law_draw hr (by omega) rfl (Ac (Ad 0) (Ac (Bh BR BP (Ad 1) Aj (fun _ _=>rfl)) Ah)))))
   (Av (Fz (Dt (Lr hr) Lp (Ad 2) (Ad 3) (DX _))
   (Ax (DK (i:=3) Ij.nd (Bs DQ DP (Ad 2) Aj)))
   Ej)
   (Ax (Cd (DY (Ac (CP (cQ rfl) eX rfl (B.is "min") sJ (Ac (Ad 2) (Ac (Ad 3) Ah))) (Ac (CP (cU rfl) eZ rfl (B.is "max") aQ (Ac (Ad 2) (Ac (Ad 3) Ah))) Ah)) (Al (Al BX))))))))
set_option maxHeartbeats 4000000 in
theorem ZX{f:Addr}{fd:FuncData}(F:Fun K "_law_box" "_law_box" Hl f fd)(B:Blt mg)(c_law_stretch:Kd P w K mg base "_law_stretch" 3 Es)(c_law_draw:Kd P w K mg base "_law_draw" 2 Am):DG P w K mg base CX0 4 f fd ["well","ways","reach","boxes"] (spM K FW 4) :=
 fnM F Gd fun cdv A outer s H E hr =>
  (Av (DK (i:=4) Gd.nd (Pk Va aq rfl (B.is "tuple") O4 (Ac (Gw rfl (Ez.of (sc:=Ak Hl) (N:=["well","ways","reach","boxes","found","kind","here","at","low","high","there"]) (N2:=["way","well","reach"]) (k:=1) (caps:=[0,2]) (by decide +kernel)) rfl (Pj rfl (B.is "range") (Ac (Ad 1) Ah)) ⟨fun _ _ _ _ _=>⟨(CK (i:=0) (show U3j (["way","well","reach"]:List Str) by decide +kernel)),JM,(En c_law_stretch hr (by omega) rfl (Ac (Ad 1) (Ac (Ad 2) Ah)))⟩⟩) Ah)))
   (Av (DK (i:=5) Gd.nd (En c_law_draw hr (by omega) rfl (Ac (Ad 0) (Ac Aj Ah))))
   (Av (Fz (Kq (Kp (Dt (Lr hr) Lp (Ad 3) (GK Ah BX) (DX _)) (Ls (Dt QC N6 (Ad 5) Aj (DX _)))))
   (Ax (Cd (Ad 4)))
   Ej)
   (Av (DK (i:=6) Gd.nd (Bh BR BP (Ad 3) (En c_law_draw hr (by omega) rfl (Ac (Ad 0) (Ac (CP Dk GD rfl (B.is "len") Gx (Ac (Ad 3) Ah)) Ah))) (fun _ _=>rfl)))
   (Av (DK (i:=7) Gd.nd (En c_law_draw hr (by omega) rfl (Ac (Ad 0) (Ac (Ad 1) Ah))))
   (Av (rG (Bh BR BP (Ad 6) (Ad 7) (fun _ _=>rfl)) (KD rfl (Dv (CK (i:=8) Gd.nd) (Dv (CK (i:=9) Gd.nd) JN))))
   (Av (DK (i:=10) Gd.nd (GK (Ac (Bh BR BP (Ad 6) (Ad 7) (fun _ _=>rfl)) (Ac (Bh BR BP (Ad 4) (Ad 7) (fun _ _=>rfl)) (Ac (DY (Ac (Ad 9) (Ac (Bs DQ DP (Bs DQ DP (Ad 9) Aj) (En c_law_draw hr (by omega) rfl (Ac (Ad 0) (Ac Aj Ah)))) Ah)) (Al (Al BX))) (Ac (DY (Ac (Ad 8) (Ac (Bs DQ DP (Bs DQ DP (Ad 8) Aj) (En c_law_draw hr (by omega) rfl (Ac (Ad 0) (Ac (Bs Ov NQ (Ad 9) (Ad 8)) Ah)))) Ah)) (Al (Al BX))) Ah)))) (Al (Al (Al (Al BX))))))
   (Av (Fz (Dt QC N6 (Bh BR BP (Bh BR BP (Ad 10) (Ad 5) (fun _ _=>rfl)) Aj (fun _ _=>rfl)) (Bs Vv Td Aj Aj) (DX _))
   (Ax (Cd (Ad 4)))
   Ej)
   (Ax (Cd (Bs DQ DP (Bs DQ DP (Ny Rv Rw (Ad 6) QZ (QX (Ad 7))) (DY (Ac (Bh BR BP (Ad 10) (Ad 5) (fun _ _=>rfl)) Ah) (Al BX))) (Ny Rv Rw (Ad 6) (QX (Bs DQ DP (Ad 7) Aj)) QZ))))))))))))
set_option maxHeartbeats 4000000 in
theorem XH{f:Addr}{fd:FuncData}(F:Fun K "_law_boxes" "_law_boxes" HW f fd)(B:Blt mg)(c_law_draw:Kd P w K mg base "_law_draw" 2 Am)(c_law_box:Kd P w K mg base "_law_box" 4 FW):DG P w K mg base CX0 5 f fd ["well","ways","reach","most"] (spM K Ew 4) :=
 fnM F Jl fun cdv A outer s H E hr =>
  (Av (DK (i:=4) Jl.nd (Bh BR BP (GK (Ac (En c_law_draw hr (by omega) rfl (Ac (Ad 0) (Ac Aj Ah))) (Ac (En c_law_draw hr (by omega) rfl (Ac (Ad 0) (Ac (Bs DQ DP (Ad 3) Aj) Ah))) (Ac (Ad 3) Ah))) (Al (Al (Al BX)))) (En c_law_draw hr (by omega) rfl (Ac (Ad 0) (Ac Aj Ah))) (fun _ _=>rfl)))
   (Av (DK (i:=5) Jl.nd (Qa Ah BX))
   (Av (Hh rfl (Pj rfl (B.is "range") (Ac (Ad 4) Ah)) (CK (i:=6) Jl.nd)
   (Ax (KC (Lf U3e U3u U3v KR KN (Ad 5) (Ac (En c_law_box hr (by omega) rfl (Ac (Ad 0) (Ac (Ad 1) (Ac (Ad 2) (Ac (Ad 5) Ah))))) Ah)))) U20)
   (Ax (Cd (Ad 5))))))
set_option maxHeartbeats 4000000 in
theorem XD{f:Addr}{fd:FuncData}(F:Fun K "_law_right" "_law_right" G4 f fd)(B:Blt mg)(c_lengths_often:CZ P w K mg base "lengths_often" 8 DW)(c_pieces_at_least:CZ P w K mg base "pieces_at_least" 9 Bb):DG P w K mg base CX0 10 f fd ["boxes"] (spP K Fq 1) :=
 fnP F Dq fun cdv A outer s H E hr =>
  (Av (DK (i:=1) Dq.nd (DY (Ac Aj (Ac (mD Xc fB rfl (B.is "list") Tz (Ac (Ad 0) Ah)) Ah)) (Al (Al BX))))
   (Av (DK (i:=2) Dq.nd mG)
   (Av (Hh rfl (Mi rfl (B.is "range") (Ac (Kr Jc Hv Aj) (Ac Aj Ah))) (CK (i:=3) Dq.nd)
   (Ax (m6 (Vf hr) (CP Dk GD rfl (B.is "len") Gx (Ac (Gw rfl (Ez.of (sc:=Ak G4) (N:=["boxes","heap","often","number","most","due","turn","told","k","stretches"]) (N2:=["box","number"]) (k:=1) (caps:=[3]) (by decide +kernel)) rfl (G7 (Ad 0)) ⟨fun _ _ _ _ _=>⟨(CK (i:=0) (show U3j (["box","number"]:List Str) by decide +kernel)),(Ti (Wc jD Zv Rm Oo (Bh BR BP (Bh BR BP (Ad 0) Aj (fun _ _=>rfl)) Aj (fun _ _=>rfl)) (Ad 1) (Bh BR BP (Bh BR BP (Ad 0) Aj (fun _ _=>rfl)) Aj (fun _ _=>rfl)))),Aj⟩⟩) Ah)) (Ad 2) (Ad 3))) U20)
   (Av (DK (i:=4) Dq.nd (CP (cR rfl rfl) eY rfl (B.is "max") aQ (Ac (Qn rfl (Ad 2) rfl (B.is "list")) Ah)))
   (Av (Qm (i:=5) rfl Dq.nd (Ez.of (sc:=Ak G4) (N:=["boxes","heap","often","number","most","due","turn","told","k","stretches"]) (N2:=["many","often"]) (k:=1) (caps:=[2]) (by decide +kernel)) rfl (Mi rfl (B.is "range") (Ac Aj (Ac (Bs DQ DP (Ad 4) Aj) Ah))) ⟨fun _ _ _ _ _=>⟨(CK (i:=0) (show U3j (["many","often"]:List Str) by decide +kernel)),JM,(Lf U3e PySem.F.slot_list_count PySem.F.type_list_count gG eV (Qn rfl (Ad 1) rfl (B.is "list")) (Ac (Ad 0) Ah))⟩⟩)
   (Av (Hh rfl (Pj rfl (B.is "range") (Ac Aj Ah)) (CK (i:=6) Dq.nd)
   (Av (DK (i:=7) Dq.nd (Wf c_lengths_often hr (by omega) rfl (Ac (Ad 1) Ah)))
   (Av (Fz (Dt (Lq hr) YM (CP (LQ hr) Nt rfl (B.is "repr") Qc (Ac (Ad 7) Ah)) (CP (LQ hr) Nt rfl (B.is "repr") Qc (Ac (Ad 5) Ah)) (DX _))
   (Ax (Cd Np))
   Ej)
   (Ax (KC (Lf U3e U3u U3v KR KN (Ad 7) (Ac Aj Ah)))))) U20)
   (Av (Hh rfl (Mi rfl (B.is "range") (Ac Aj (Ac (Bs DQ DP (Ad 4) Aj) Ah))) (CK (i:=8) Dq.nd)
   (Av (DK (i:=9) Dq.nd (Qa Ah BX))
   (Av (Hh rfl (Mi rfl (B.is "range") (Ac (Kr Jc Hv Aj) (Ac Aj Ah))) (CK (i:=3) Dq.nd)
   (Ax (Fz (Kq (aJ (Dt Ve Rx (Tj (Vf hr) (Ad 2) (Ad 3) (fun _ _=>rfl)) (Ad 8) (DX _)) (Yg (Dt Rm Oo (Tj (Vf hr) (Ad 2) (Bs Ov NQ (Ad 3) Aj) (fun _ _=>rfl)) (Ad 8) (DX _)))))
   (Ax (KC (Lf U3e U3u U3v KR KN (Ad 9) (Ac (DY (Ac (Ad 3) (Ac (Bs DQ DP (Ad 3) Aj) Ah)) (Al (Al BX))) Ah))))
   (Ax (Fz (Dt Ve Rx (Tj (Vf hr) (Ad 2) (Ad 3) (fun _ _=>rfl)) (Ad 8) (DX _))
   (Ax (Ly (DY (Ac (Bh BR BP (Bh BR BP (Ad 9) (Kr Jc Hv Aj) (fun _ _=>rfl)) Aj (fun _ _=>rfl)) (Ac (Bs DQ DP (Ad 3) Aj) Ah)) (Al (Al BX))) (Ad 9) (Kr Jc Hv Aj)))
   Ej)))) U20)
   (Ax (Fz (Kq (Kp (Dt (Lq hr) YM (CP (LQ hr) Nt rfl (B.is "repr") Qc (Ac (CN c_pieces_at_least hr (by omega) rfl (Ac (Ad 1) (Ac (Ad 8) Ah))) Ah)) (CP (LQ hr) Nt rfl (B.is "repr") Qc (Ac (Ad 9) Ah)) (DX _)) (Ls (Dt (Lq hr) Om (CN c_pieces_at_least hr (by omega) rfl (Ac (Ad 1) (Ac (Ad 8) Ah))) (Ad 9) (DX _)))))
   (Ax (Cd Np))
   Ej)))) U20)
   (Ax (Cd (Oz (Lr hr) Lp (Ad 1) (DY (Ac Aj (Ac (Ad 0) Ah)) (Al (Al BX))) (DX _)))))))))))
set_option maxHeartbeats 4000000 in
theorem qt{f:Addr}{fd:FuncData}(F:Fun K "law" "law" Ko f fd)(B:Blt mg)(c_law_well:CZ P w K mg base "_law_well" 1 Fd)(c_law_draw:Kd P w K mg base "_law_draw" 2 Am)(c_law_right:CZ P w K mg base "_law_right" 10 Fq)(c_law_boxes:Kd P w K mg base "_law_boxes" 5 Ew)(c_pieces_at_least:CZ P w K mg base "pieces_at_least" 9 Bb):DG P w K mg base CX0 11 f fd ["script"] (spP K Te 1) :=
 fnP F Rz fun cdv A outer s H E hr =>
  (Av (Hh rfl (G7 (Bs DQ DP (GK (Ac Aj Ah) (Al BX)) (Ny Rv Rw (Ad 0) QZ (QX Aj)))) (CK (i:=1) Rz.nd)
   (Av (DK (i:=2) Rz.nd (Wf c_law_well hr (by omega) rfl (Ac (Ad 1) Ah)))
   (Av (DK (i:=3) Rz.nd (Bh BR BP (GK (Ac (DY (Ac Aj (Ac Aj Ah)) (Al (Al BX))) (Ac (DY (Ac (Kr Jc Hv Aj) (Ac Aj Ah)) (Al (Al BX))) (Ac (DY (Ac Aj (Ac Aj Ah)) (Al (Al BX))) (Ac (DY (Ac (Kr Jc Hv Aj) (Ac Aj Ah)) (Al (Al BX))) Ah)))) (Al (Al (Al (Al BX))))) (En c_law_draw hr (by omega) rfl (Ac (Ad 2) (Ac Aj Ah))) (fun _ _=>rfl)))
   (Ax (Fz (Jg (Jf (CN c_law_right hr (by omega) rfl (Ac (En c_law_boxes hr (by omega) rfl (Ac (Ad 2) (Ac Aj (Ac (Ad 3) (Ac Aj Ah))))) Ah))))
   (Ax (Cd Np))
   Ej)))) U20)
   (Ax (Cd (Oz (Lr hr) Lp (CN c_pieces_at_least hr (by omega) rfl (Ac (DY (Ac Aj (Ac (GK (Ac (DY (Ac (DY (Ac Aj (Ac Aj Ah)) (Al (Al BX))) Ah) (Al BX)) (Ac (DY (Ac (DY (Ac Aj (Ac Aj Ah)) (Al (Al BX))) Ah) (Al BX)) (Ac (DY (Ac (DY (Ac Aj (Ac Aj Ah)) (Al (Al BX))) Ah) (Al BX)) Ah))) (Al (Al (Al BX)))) Ah)) (Al (Al BX))) (Ac Aj Ah))) (GK (Ac (DY (Ac Aj (Ac Aj Ah)) (Al (Al BX))) Ah) (Al BX)) (DX _)))))
end
end W09
end
section
namespace W09
open PySem L2 VS
theorem M9(i:Int):Dd [.int i]=some (.bl true):=by
 simp[Dd,Ss,Ci,Ay,EY,CT,Aq,Eh,Tv,nF,Dg,den,-U0e,-U0f]
theorem Qy{n:Int}(h:n=1∨n=2∨n=3):Dz [.int n]=some (.bl true):=by
 have e:(Spec.lookup (.int n) Bc.D3).isSome=true:=by rw[Bc.uo];exact decide_eq_true h
 simp[Dz,Sx,Ci,Ay,rT,CT,Aq,Tv,G3,Dg,den,Cu,age,Bk,BW,Az,-U0e,-U0f,M9,Vn,e]
theorem VN(p:St2):G5 [Ag p]=some (.bl (decide (p.1<p.2))):=by
 have h:Ce [] (Ag p)=some (pS p):=bA [] p
 simp only[Ag] at h ⊢
 simp[G5,Q7,GF,Ci,Hg,Hw,Ay,EY,BJ,CT,Aq,Eh,Tv,Cr,Rt,QH,G3,oI,Ge,oLt,oEq,oIx,Du,VS.listOf,Bx,Dg,den,Cu,age,Bk,BW,Az,-U0e,-U0f,M9,h,pS]
theorem gn(n:Nat)(b:List St2)(hb:∀p∈b,p.1<p.2)(hl:b.length<=1000):Pn [some (.int n),some (Ae b)] []=some (b.map (fun _=>D.bl true),[]):=by
 unfold Pn Ea
 have e:Ec (Ab 1) [some (.int n),some (Ae b)] []=some ((b.map Ag,[]),[]):=by simp[Ay,VS.listOf,Bx,VS.idOf,Gz,-U0e,-U0f,Ae]
 rw[e]
 simp only[U0c]
 rw[Wu (by simp) (fun _=>.bl true) _ (by simp;omega)]
 .simp[Function.comp_def]
 .intro d hd
  obtain⟨p,hp,rfl⟩:=U12.mp hd
  refine⟨_,rfl,?_⟩
  have h1:=VN p
  rw[decide_eq_true (hb p hp)] at h1
  simp[Ay,CT,Aq,JB,G3,Cu,Bk,Az,U0x,-U0e,-U0f,h1]
theorem T6{α:Type}(l:List α):Lj.boolsOf (l.map fun _=>D.bl true)=some (l.map fun _=>true):=by
 have:=YB (l.map fun _=>true)
 rw[U0e] at this
 exact this
theorem cB{n:Nat}{b:List St2}(hn:n=1∨n=2∨n=3)(hb:∀p∈b,p.1<p.2)(hl:b.length=n):IK [.int n,Ae b]=some (.bl true):=by
 have hw:Dz [.int n]=some (.bl true):=Qy (by omega)
 have hc:=gn n b hb (by omega)
 have h:Ce [] (Ae b)=some (pB b):=bB [] b
 have hlen:Du [] [Ae b]=some (.int n):=by simp[Du,Ae,Bx,hl]
 simp[IK,Wo,Bq,sIf,Cw,FJ,VS.tOr,VS.Il,Bf,BK,eCB,Aa,Af,Ab,eC,eOp,Cg,Ey,den,Cu,age,Bk,BW,Az,hw,h,pB,hlen,oEq,hc,Lj,VS.listOf,T6]
theorem lQ{n:Nat}(h:n=1∨n=2∨n=3):S7 Bc.D3 [] (.int n)=some (.int ([0,20,10,6].getD n 0:Nat)):=by
 rcases h with h|h|h<;>subst h<;>rfl
theorem bw{n:Nat}{m:Bool}{bs:List (List St2)}(g:Good n bs):O7 [some (Ao m n bs),some (.int n),some (.lst m (bs.map Ae))] []=some (bs.map (fun _=>D.bl true),[]):=by
 have few:=g.few
 unfold O7 Ea
 have e:Ec (Ab 2) [some (Ao m n bs),some (.int n),some (.lst m (bs.map Ae))] []=some ((bs.map Ae,[]),[]):=by simp[Ay,VS.listOf,Bx,VS.idOf,Gz,-U0e,-U0f]
 rw[e]
 simp only[U0c]
 rw[Wu (by simp) (fun _=>.bl true) _ (by simp;omega)]
 .simp[Function.comp_def]
 .intro d hd
  obtain⟨b,hb,rfl⟩:=U12.mp hd
  refine⟨_,rfl,?_⟩
  have h1:=cB g.ways (fun p hp=>((g.box b hb).2 p hp).1) (g.box b hb).1
  simp[Ay,CT,Aq,JB,G3,den,Cu,age,Bk,BW,Az,U0x,-U0e,-U0f,h1]
theorem Zm{n:Nat}{m:Bool}{bs:List (List St2)}(g:Good n bs):HF [Ao m n bs]=some (.bl true):=by
 have hw:Dz [.int n]=some (.bl true):=Qy (by have:=g.ways;omega)
 have hc:=bw (m:=m) g
 have h:=PX [] m n bs
 have h2:=O5 [] m bs
 have hm:=lQ g.ways
 have hle:¬(([0,20,10,6].getD n 0:Nat):Int)<(bs.length:Int):=by have:=g.most;omega
 unfold Ao at h hc ⊢
 simp only[U0o] at hm hle
 simp[HF,Uy,Bq,sIf,Cw,FJ,Bu,VS.tOr,VS.Il,Bf,BK,eCB,Aa,Af,Ab,eC,eOp,eUn,Cg,Ey,den,Cu,age,Bk,BW,Az,hw,h,h2,hc,oEq,oIx,oGt,oI,Ge,Du,VS.Bx,VS.listOf,Lj,T6,hm,hle]
theorem XM{n:Nat}{m:Bool}{bs:List (List St2)}(g:Good n bs):Fp [Ao m n bs]=some .non:=by
 have h:=Zm (m:=false) g
 simp[Fp,Qq,Hg,Hw,bF,Ay,CT,Aq,Cr,QH,G3,Dg,Cu,Bk,Az,-U0e,-U0f,h]
end W09
end
section
namespace W09
open PySem L2 VS
theorem Dn{sem:Cy}{a:Bg}{env:VS.Env}{S S':Store}{ds es:List D}{r:D}(h:a env S=some (ds,S'))(hp:Az ds=true)(ha:Bk ds=es)(hr:sem es=some r):BK sem a env S=some (r,S'):=by
 rw[G3,h]
 simp only[U0c,Ck 0 S' hp,ha,hr,hp,U7v,if_true]
def K5(b:List St2):Int:=b.foldl (fun z p=>z*(p.2-p.1)) 1
def Fi(bs:List (List St2))(w:Nat):List Int:=bs.map fun b=>(b.getD w (0,0)).1
def Em(bs:List (List St2))(w:Nat):List Int:=bs.map fun b=>(b.getD w (0,0)).2
theorem col{bs:List (List St2)}{w:Nat}(hw:∀b∈bs,w<b.length)(hl:bs.length<=1000)(S:Store)(e0:VS.Env)(h0:∀d:D,(e0.set 0 (some d))[0]?=some (some d)/\(e0.set 0 (some d))[1]?=some (some (.int w))) :
  FQ [] e0 (Pat.sem (.nm 0)) Gh (eOp oIx (eOp oIx (Ab 0) (Ab 1)) (eC (.int 0))) (bs.map Ae) [] S=some ((Fi bs w).map .int,S) /\
  FQ [] e0 (Pat.sem (.nm 0)) Gh (eOp oIx (eOp oIx (Ab 0) (Ab 1)) (eC (.int 1))) (bs.map Ae) [] S=some ((Em bs w).map .int,S):=by
 have key:∀b∈bs,atI (b.map Ag) (w:Int)=some (Ag (b.getD w (0,0))):=fun b hb=>by
  have h:=hw b hb
  refine Lh ?_
  rw[U04,U0h h]
  simp[h]
 constructor
 .rw[Nb (by simp) Ae (fun b=>.int (b.getD w (0,0)).1) bs (by omega)]
  .rw[Fi,U0e];rfl
  .intro b hb
   refine⟨_,Dy _ _ _,?_⟩
   have ha:=key b hb
   simp only[Ag] at ha
   simp[Ay,EY,BJ,oIx,VS.listOf,Bx,-U0e,-U0f,h0,Ae,ha]
 .rw[Nb (by simp) Ae (fun b=>.int (b.getD w (0,0)).2) bs (by omega)]
  .rw[Em,U0e];rfl
  .intro b hb
   refine⟨_,Dy _ _ _,?_⟩
   have ha:=key b hb
   simp only[Ag] at ha
   simp[Ay,EY,BJ,oIx,VS.listOf,Bx,-U0e,-U0f,h0,Ae,ha]
theorem SQ:∀(b:List St2)(z:Int),b.foldl (fun z p=>z*(p.2-p.1)) z=z*Gv b
 |[],z=>by simp[Gv]
 |p::b,z=>by rw[U2z,SQ b,Gv,Int.mul_assoc]
theorem ji(b:List St2):K5 b=Gv b:=by rw[K5,SQ,Int.one_mul]
theorem Wr{cs:List (List St2)}{w:Nat}(hl:cs.length<=20):(SetP.once (Fi cs w++Em cs w)).length<64/\(Fi cs w++Em cs w).length<1000:=by
 have h1:=(SetP.Lx (Fi cs w++Em cs w)).2.1
 have h2:(Fi cs w++Em cs w).length=cs.length+cs.length:=by simp[Fi,Em]
 omega
theorem cH(a b:List Int):intsOf (a.map D.int++b.map D.int)=some (a++b):=by rw[←U11];exact Jj _
theorem nA{m:Bool}{cs:List (List St2)}{w:Nat}(hw:∀b∈cs,w<b.length)(hl:cs.length<=20):G6 [.lst m (cs.map Ae),.int w]=some (.lst true ((FP (Fi cs w++Em cs w)).map .int)):=by
 obtain⟨c1,c2⟩:=col hw (by omega) [] [none,some (.int w)] fun d=>⟨rfl,rfl⟩
 have e:Ec (Ab 0) [some (.lst m (cs.map Ae)),some (.int w)] []=some ((cs.map Ae,[]),[]):=by simp[Ay,VS.listOf,Bx,VS.idOf,Gz,-U0e,-U0f]
 have e1:Kf [some (.lst m (cs.map Ae)),some (.int w)] []=some ((Fi cs w).map .int,[]):=by
  unfold Kf Ea
  rw[e]
  exact c1
 have e2:Ke [some (.lst m (cs.map Ae)),some (.int w)] []=some ((Em cs w).map .int,[]):=by
  unfold Ke Ea
  rw[e]
  exact c2
 obtain⟨h1,h2⟩:=Wr (w:=w) hl
 have h3:(Fi cs w).length+(Em cs w).length<=1000000:=by simp at h2;omega
 have h4:(Fi cs w).length+(Em cs w).length<1000:=by simpa using h2
 simp[G6,Q8,Ci,BJ,Ds,Y0,Bl,VS.listOf,Dg,den,-U0e,-U0f,e1,e2,cH,h1,h3,h4]
theorem W2:∀a b:List Int,GC (a.map D.int) (b.map D.int)=(a.zip b).map Ag
 |[],_=>by simp[GC]
 |_::_,[]=>by simp[GC]
 |p::a,q::b=>by simp[GC,W2 a b,Ag]
theorem aj(E:List Int):GC (E.map D.int) (E.map D.int).tail=(steps E).map Ag:=by
 rw[←List.map_tail,W2];rfl
theorem PL(E:List Int):(steps E).length<=E.length:=by simp[steps]
theorem eN{m:Bool}{cs:List (List St2)}{w:Nat}(hw:∀b∈cs,w<b.length)(hl:cs.length<=20)(hne:cs≠[]):Ep [.lst m (cs.map Ae),.int w]=some (.lst true ((steps (FP (Fi cs w++Em cs w))).map Ag)):=by
 have h0:=nA (m:=false) hw hl
 have hl1:=PN (Fi cs w++Em cs w)
 obtain⟨_,h2⟩:=Wr (w:=w) hl
 have pos:1<=(FP (Fi cs w++Em cs w)).length:=by
  cases cs with
  |nil=>exact absurd rfl hne
  |cons b r =>
   have:(b.getD w (0,0)).1∈FP (Fi (b::r) w++Em (b::r) w):=Ma.mpr (by simp[Fi])
   exact List.length_pos_of_mem this
 generalize FP (Fi cs w++Em cs w)=E at *
 have c:=Wt (xs:=E.map D.int) (a:=1) (by decide) (by simp;omega)
 have z:=aj E
 have hz:(steps E).length<=1000000:=by have:=PL E;omega
 have c':cut (E.map D.int) (some 1) none=(E.map D.int).drop 1:=c
 have hd:∀(k:Nat)(S:Store),Cu k S ((steps E).map Ag)=some ((steps E).map Ag):=fun k S=>Ck k S (CG (Ek _ fun p _=>Dp p))
 simp[Ep,Oc,GF,Cm,Ci,Ay,EY,CT,Aq,gB,fu,rW,G3,Y4,oSl,VS.listOf,Bx,Dg,den,Cu,age,Bk,BW,Az,U0x,-U0e,-U0f,h0,c',z,hz,hd]
def Bt(m:Bool)(ns:List Nat):D:=.lst m (ns.map fun(i:Nat)=>D.int i)
def encC(c:List St2×List Nat):D:=.tup [Ae c.1,Bt false c.2]
theorem Mg(m:Bool)(ns:List Nat):BW (Bt m ns)=true:=by
 have:=Ji (ns.map fun(i:Nat)=>(i:Int))
 rw[U0e] at this
 rw[Bt,BW];exact this
theorem Rb(m:Bool)(ns:List Nat):age (Bt m ns)=Bt false ns:=by
 have:=cY (ns.map fun(i:Nat)=>(i:Int))
 rw[U0e] at this
 rw[Bt,age]
 exact congrArg (D.lst false) this
theorem bI(c:List St2×List Nat):BW (encC c)=true:=by
 rw[encC,BW,Az,Az,Az,Uo,Mg];rfl
theorem iy(c:List St2×List Nat):age (encC c)=encC c:=by
 rw[encC,age,Bk,Bk,Bk,O1 (Gq c.1),Rb]
theorem Jh:∀cs:List (List St2×List Nat),Az (cs.map encC)=true
 |[]=>rfl
 |c::r=>by rw[U0t,Az,bI,Jh r];rfl
theorem aU{n:Nat}{bs:List (List St2)}(hb:∀b∈bs,b.length=n){i w:Nat}(hi:i<bs.length)(hw:w<n):atI (bs.map Ae) (i:Int)=some (Ae (bs.getD i []))/\atI ((bs.getD i []).map Ag) (w:Int)=some (Ag (at1 bs i w)):=by
 have h1:bs[i]?=some bs[i]:=U0h hi
 have h2:bs.getD i []=bs[i]:=by rw[U0o,h1];rfl
 have h3:w<bs[i].length:=by rw[hb _ (U3a hi)];exact hw
 refine⟨Lh (by rw[U04,h1,h2];rfl),Lh ?_⟩
 rw[at1,h2,U04,U0h h3,U0o,U0h h3]
 rfl
theorem mY(rec:Cy){n:Nat}{m m':Bool}{bs:List (List St2)}(hb:∀b∈bs,b.length=n)(hn:0<n){ns:List Nat}(hi:∀i∈ns,i<bs.length)(hl:ns.length<=20)(r:VS.Env)(S:Store) :
  J5 rec (some (.lst m (bs.map Ae))::some (Bt m' ns)::r) S=some ((ns.map fun i=>bs.getD i []).map Ae,S):=by
 unfold J5 Ea
 have e:Ec (Ab 1) (some (.lst m (bs.map Ae))::some (Bt m' ns)::r) S=some ((ns.map fun(i:Nat)=>D.int i,[]),S):=by simp[Ay,VS.listOf,Bx,VS.idOf,Gz,-U0e,-U0f,Bt]
 rw[e]
 simp only[U0c]
 rw[Nb (by simp) (fun(i:Nat)=>D.int i) (fun i=>Ae (bs.getD i [])) ns (by omega)]
 .rw[U0e];rfl
 .intro i hi'
  obtain⟨h1,_⟩:=aU hb (hi i hi') hn
  exact⟨_,Dy _ _ _,by simp[Ay,BJ,JB,oIx,VS.listOf,Bx,U0x,-U0e,-U0f,h1]⟩
theorem mX(rec:Cy){n:Nat}{m m':Bool}{bs:List (List St2)}(hb:∀b∈bs,b.length=n){ns:List Nat}(hi:∀i∈ns,i<bs.length)(hl:ns.length<=20){w:Nat}(hw:w<n)(x:Int)(z3 z4:Option D)(r:VS.Env)(S:Store) :
  J4 rec (some (.lst m (bs.map Ae))::some (Bt m' ns)::some (.int w)::z3::z4::some (.int x)::r) S=some ((Dh bs w x ns).map (fun(i:Nat)=>D.int i),S):=by
 unfold J4 Ea
 have e:Ec (Ab 1) (some (.lst m (bs.map Ae))::some (Bt m' ns)::some (.int w)::z3::z4::some (.int x)::r) S=some ((ns.map fun(i:Nat)=>D.int i,[]),S):=by simp[Ay,VS.listOf,Bx,VS.idOf,Gz,-U0e,-U0f,Bt]
 rw[e]
 simp only[U0c]
 rw[Lg (by simp) (fun(i:Nat)=>D.int i) (fun i=>inS (at1 bs i w) x) (fun i=>.int i) _ _ (by simp;omega)]
 .rfl
 .intro i hi'
  obtain⟨h1,h2⟩:=aU hb (hi i hi') hw
  refine⟨_,Dy _ _ _,?_,fun _=>by simp[Ay,JB,U0x,-U0e,-U0f]⟩
  simp only[Ag] at h2
  generalize bs.getD i []=B at *
  generalize ((w:Nat):Int)=w' at *
  generalize ((i:Nat):Int)=i' at *
  by_cases g:(at1 bs i w).1<=x<;>simp[Ay,EY,BJ,Pr,Cr,JB,oI,Ge,oLt,oLe,oIx,VS.listOf,Bx,U0x,-U0e,-U0f,h1,h2,Ae,inS,g]
theorem Ii{bs:List (List St2)}:∀(k w:Nat)(ns:List Nat),ns.length<=20->(Ba bs k w ns).length<=40^k
 |0,w,ns,_=>by rw[Ba];split<;>simp
 |k+1,w,ns,hl=>by
  rw[Ba]
  split
  .simp
  .have h1:(steps (Cj bs w ns)).length<=40:=by
    have:=PL (Cj bs w ns)
    have h2:=PN (ns.map (fun i=>(at1 bs i w).1)++ns.map (fun i=>(at1 bs i w).2))
    rw[U0q,U0l,U0l] at h2
    unfold Cj at this ⊢
    omega
   have h2:∀l:List St2,(l.flatMap fun p=>(Ba bs k (w+1) (Dh bs w p.1 ns)).map fun c=>(p::c.1,c.2)).length<=l.length*40^k:=fun l=>by
    induction l with
    |nil=>simp
    |cons p l ih =>
     rw[U50,U0q,U0l,U0g,Nat.add_mul,Nat.one_mul]
     have:=Ii (bs:=bs) k (w+1) (Dh bs w p.1 ns) (U07 (U4a _ _) hl)
     omega
   have h3:=h2 (steps (Cj bs w ns))
   have h4:=U5b (40^k) h1
   rw[Nat.pow_succ,U6z]
   omega
end W09
end
section
namespace W09
open PySem L2 VS
theorem Y9(b:List St2)(hb:∀p∈b,p.1<p.2/\-1000000000<=p.1/\p.2<=1000000000):G9 [Ae b]=some (.int (K5 b)):=by
 have e:Ec (Ab 0) [some (Ae b),some (.int 1),none,none] []=some ((b.map Ag,[]),[]):=by simp[Ay,VS.listOf,Bx,VS.idOf,Gz,-U0e,-U0f,Ae]
 obtain⟨env',S',e2,hS,z2,z3,he⟩:=G8 (w:=[]) (g:=Pat.sem (.tp [(.nm 2),(.nm 3)])) (b:=N5) (ds:=b.map Ag) (env:=[some (Ae b),some (.int 1),none,none]) (S:=[])
  (fun i env S=>S=[]/\∃z2 z3,env=[some (Ae b),some (.int (K5 (b.take i))),z2,z3]) ⟨rfl,none,none,by rw[List.take_zero];rfl⟩ (fun i env S _=>by simp) (fun i d env S hd ⟨hS,z2,z3,he⟩=>by
   rw[U04] at hd
   obtain⟨p,hp,rfl⟩:=U26.mp hd
   subst hS he
   have hm:-18446744073709551616<p.2-p.1/\p.2-p.1<18446744073709551616:=by have:=hb p (U1j hp);omega
   refine⟨[some (Ae b),some (.int (K5 (b.take i))),some (.int p.1),some (.int p.2)],by simp[Dy,K9,Hi,Gp,-U0e,-U0f,Ag],[some (Ae b),some (.int (K5 (b.take i)*(p.2-p.1))),some (.int p.1),some (.int p.2)],[],by simp[N5,Cm,Ay,BJ,oI,Ge,Mw,Im,HY,VS.listOf,-U0e,-U0f,hm],rfl,some (.int p.1),some (.int p.2),?_⟩
   rw[U5u,hp,K5,K5,U6n,U4d]
   rfl)
 subst hS he
 have hlen:(b.map Ag).length=b.length:=by simp
 rw[hlen,U4s] at e2
 have s1:(Bu 1 (eC (.int 1))) [some (Ae b),none,none,none] []=some (.nx,[some (Ae b),some (.int 1),none,none],[]):=by simp[Cm,EY,-U0e,-U0f]
 have l1:Mz [some (Ae b),some (.int 1),none,none] []=some (.nx,[some (Ae b),some (.int (K5 b)),z2,z3],[]):=by
  unfold Mz
  rw[Gj,e]
  exact e2
 unfold G9
 rw[Dg]
 simp only[U0g,U1h,U0t,U1w,U2j,U2k,U0x,U1u,U2m,U16,if_true]
 unfold Sw
 rw[Bj s1,Bj l1]
 simp[Ci,Ay,den,-U0e,-U0f]
end W09
end
section
namespace W09
open PySem L2 VS
theorem mZ(rec:Cy)(e0 e1 e2 e3 z7:Option D)(p:St2)(c:List St2×List Nat)(acc:List D)(hl:acc.length<1000000)(hc:c.1.length<=3) :
  J7 rec [e0,e1,e2,e3,some (.ref 0),some (.int p.1),some (.int p.2),z7,some (Ae c.1),some (Bt false c.2)] [some acc]=some (.nx,[e0,e1,e2,e3,some (.ref 0),some (.int p.1),some (.int p.2),z7,some (Ae c.1),some (Bt false c.2)],[some (acc++[encC (p::c.1,c.2)])]):=by
 have h1:1+c.1.length<=1000000:=by omega
 have h2:c.1.length+1<=1000000:=by omega
 have h3:c.1.length<=999999:=by omega
 simp[J7,Lb,Ay,BJ,CT,Aq,GQ,Ws,Bl,VS.listOf,GJ,-U0e,-U0f,hl,h1,h2,h3,Ae,encC,Ag]
theorem mW(rec:Cy){n w:Nat}{bs:List (List St2)}{there:List Nat}{cs:List (List St2×List Nat)}(hrec:rec [.lst false (bs.map Ae),Bt false there,.int ((w:Int)+1),.int n]=some (.lst true (cs.map encC)))(hcs:∀c∈cs,c.1.length<=3)(NS:D)(p:St2)(z8 z9:Option D)(acc:List D)(hl:acc.length+cs.length<=999999) :
  ∃z8' z9',Kh rec [some (.lst false (bs.map Ae)),some NS,some (.int w),some (.int n),some (.ref 0),some (.int p.1),some (.int p.2),some (Bt true there),z8,z9] [some acc] =
   some (.nx,[some (.lst false (bs.map Ae)),some NS,some (.int w),some (.int n),some (.ref 0),some (.int p.1),some (.int p.2),some (Bt true there),z8',z9'],[some (acc++(cs.map fun c=>(p::c.1,c.2)).map encC)]):=by
 have e:Ec (BK rec (Aa (Ab 0) (Aa (Ab 7) (Aa (eOp Bl (Ab 2) (eC (.int 1))) (Aa (Ab 3) Af))))) [some (.lst false (bs.map Ae)),some NS,some (.int w),some (.int n),some (.ref 0),some (.int p.1),some (.int p.2),some (Bt true there),z8,z9] [some acc]=some ((cs.map encC,[]),[some acc]):=by
  rw[Gz,Dn (ds:=[.lst false (bs.map Ae),Bt true there,.int ((w:Int)+1),.int n]) (S':=[some acc]) (by simp[Ay,EY,BJ,CT,Aq,Bl,VS.listOf,-U0e,-U0f]) (by simp[Az,BW,Mg]) (by simp[Bk,age,Rb]) hrec]
  simp[Bx,VS.listOf,VS.idOf]
 unfold Kh
 rw[Gj,e]
 obtain⟨env',S',e2,z8',z9',he,hS⟩:=G8 (w:=[]) (g:=Pat.sem (.tp [(.nm 8),(.nm 9)])) (b:=J7 rec) (ds:=cs.map encC) (env:=[some (.lst false (bs.map Ae)),some NS,some (.int w),some (.int n),some (.ref 0),some (.int p.1),some (.int p.2),some (Bt true there),z8,z9]) (S:=[some acc])
  (fun i env S=>∃z8 z9,env=[some (.lst false (bs.map Ae)),some NS,some (.int w),some (.int n),some (.ref 0),some (.int p.1),some (.int p.2),some (Bt true there),z8,z9]/\S=[some (acc++((cs.take i).map fun c=>(p::c.1,c.2)).map encC)])
  ⟨z8,z9,rfl,by simp⟩ (fun i env S _=>by simp) (fun i d env S hd q=>by
   obtain⟨z8,z9,he,hS⟩:=q
   subst he hS
   rw[U04] at hd
   obtain⟨c,hc,rfl⟩:=U26.mp hd
   have hi:=(U0p.mp hc).1
   refine⟨_,by simp[Dy,K9,Hi,Gp,-U0e,-U0f,encC],_,_,mZ rec _ _ _ _ _ p c _ (by simp;omega) (hcs c (U1j hc)),_,_,rfl,?_⟩
   rw[U5u,hc]
   simp)
 subst he hS
 refine⟨z8',z9',e2.trans ?_⟩
 have:(cs.map encC).length=cs.length:=by simp
 rw[this,U4s]
theorem Mp{bs:List (List St2)}:∀(k w:Nat)(ns:List Nat)(c:List St2×List Nat),c∈Ba bs k w ns->c.1.length=k
 |0,w,ns,c,h=>by
  rw[Ba] at h
  split at h
  .simp at h
  .have:c=([],ns):=by simpa using h
   rw[this];rfl
 |k+1,w,ns,c,h=>by
  rw[Ba] at h
  split at h
  .simp at h
  .obtain⟨p,_,h2⟩:=List.mem_flatMap.mp h
   obtain⟨d,h3,rfl⟩:=U12.mp h2
   rw[U0g,Mp k (w+1) _ d h3]
theorem gK(bs:List (List St2))(w:Nat)(ns:List Nat):FP (Fi (ns.map fun i=>bs.getD i []) w++Em (ns.map fun i=>bs.getD i []) w)=Cj bs w ns:=by
 unfold Fi Em Cj at1
 rw[U0e,U0e];rfl
theorem mV(rec:Cy){n w k:Nat}{bs:List (List St2)}{ns:List Nat}(hb:∀b∈bs,b.length=n)(hi:∀i∈ns,i<bs.length)(hl:ns.length<=20)(hne:ns≠[])(hw:w<n)(hk:k<=2)
  (ih:∀ms:List Nat,(∀i∈ms,i<bs.length)->ms.length<=20->rec [.lst false (bs.map Ae),Bt false ms,.int ((w:Int)+1),.int n]=some (.lst true ((Ba bs k (w+1) ms).map encC))) :
  ∃z5 z6 z7 z8 z9,Kg rec [some (.lst false (bs.map Ae)),some (Bt false ns),some (.int w),some (.int n),some (.ref 0),none,none,none,none,none] [some []] =
   some (.nx,[some (.lst false (bs.map Ae)),some (Bt false ns),some (.int w),some (.int n),some (.ref 0),z5,z6,z7,z8,z9],[some ((Ba bs (k+1) w ns).map encC)]):=by
 have c1:=mY rec (m:=false) (m':=false) hb (by omega) hi hl [some (.int w),some (.int n),some (.ref 0),none,none,none,none,none] [some []]
 have h1:=eN (m:=false) (cs:=ns.map fun i=>bs.getD i []) (w:=w) (fun b hb'=>by
  obtain⟨i,hi',rfl⟩:=U12.mp hb'
  have h:=hi i hi'
  rw[U0o,U0h h]
  show w<bs[i].length
  rw[hb _ (U3a h)];exact hw) (by rw[U0l];exact hl) (by simpa using hne)
 rw[gK] at h1
 have e:Ec (BK Ep (Aa (Cg (J5 rec)) (Aa (Ab 2) Af))) [some (.lst false (bs.map Ae)),some (Bt false ns),some (.int w),some (.int n),some (.ref 0),none,none,none,none,none] [some []]=some (((steps (Cj bs w ns)).map Ag,[]),[some []]):=by
  rw[Gz,Dn (ds:=[.lst true ((ns.map fun i=>bs.getD i []).map Ae),.int w]) (S':=[some []]) (by simp only[Aq,CT,Ds,Ay,c1,U0c];rfl) (by rw[Az,BW,Xl];rfl) (by rw[Bk,age,Zr,Bk,Bk];rfl) h1]
  simp[Bx,VS.listOf,VS.idOf]
 have hst:(steps (Cj bs w ns)).length<=40:=by
  have:=PL (Cj bs w ns)
  have h2:=PN (ns.map (fun i=>(at1 bs i w).1)++ns.map (fun i=>(at1 bs i w).2))
  rw[U0q,U0l,U0l] at h2
  unfold Cj at this ⊢
  omega
 have hcl:∀x,(Ba bs k (w+1) (Dh bs w x ns)).length<=1600:=fun x=>by
  have:=Ii (bs:=bs) k (w+1) (Dh bs w x ns) (U07 (U4a _ _) hl)
  have h2:40^k<=40^2:=Nat.pow_le_pow_right (by decide) hk
  omega
 let f:St2->List (List St2×List Nat):=fun p=>(Ba bs k (w+1) (Dh bs w p.1 ns)).map fun c=>(p::c.1,c.2)
 have hf:∀l:List St2,(l.flatMap f).length<=l.length*1600:=fun l=>by
  induction l with
  |nil=>simp
  |cons p l ih =>
   rw[U50,U0q,U0g,Nat.add_mul,Nat.one_mul]
   have:(f p).length<=1600:=by rw[U0l];exact hcl p.1
   omega
 unfold Kg
 rw[Gj,e]
 obtain⟨env',S',e2,z5,z6,z7,z8,z9,he,hS⟩:=G8 (w:=[]) (g:=Pat.sem (.tp [(.nm 5),(.nm 6)])) (b:=J6 rec) (ds:=(steps (Cj bs w ns)).map Ag) (env:=[some (.lst false (bs.map Ae)),some (Bt false ns),some (.int w),some (.int n),some (.ref 0),none,none,none,none,none]) (S:=[some []])
  (fun i env S=>∃z5 z6 z7 z8 z9,env=[some (.lst false (bs.map Ae)),some (Bt false ns),some (.int w),some (.int n),some (.ref 0),z5,z6,z7,z8,z9]/\S=[some ((((steps (Cj bs w ns)).take i).flatMap f).map encC)])
  ⟨none,none,none,none,none,rfl,by simp⟩ (fun i env S _=>by simp) (fun i d env S hd q=>by
   obtain⟨z5,z6,z7,z8,z9,he,hS⟩:=q
   subst he hS
   rw[U04] at hd
   obtain⟨p,hp,rfl⟩:=U26.mp hd
   have hi':=(U0p.mp hp).1
   have h2:=hf ((steps (Cj bs w ns)).take i)
   rw[U24] at h2
   obtain⟨z8',z9',l1⟩:=mW rec (n:=n) (w:=w) (bs:=bs) (there:=Dh bs w p.1 ns) (cs:=Ba bs k (w+1) (Dh bs w p.1 ns)) (ih _ (fun i hi'=>hi i (U2h.mp hi').1) (U07 (U4a _ _) hl)) (fun c hc=>by rw[Mp _ _ _ _ hc];omega) (Bt false ns) p z8 z9 ((((steps (Cj bs w ns)).take i).flatMap f).map encC) (by
    have h3:=hcl p.1
    rw[U0l]
    have h4:min i (steps (Cj bs w ns)).length<=40:=by omega
    have h5:=U5b 1600 h4
    omega)
   have c2:=mX rec (m:=false) (m':=false) hb hi hl hw p.1 (some (.int n)) (some (.ref 0)) [some (.int p.2),z7,z8,z9] [some ((((steps (Cj bs w ns)).take i).flatMap f).map encC)]
   have s1:(Bu 7 (Cg (J4 rec))) [some (.lst false (bs.map Ae)),some (Bt false ns),some (.int w),some (.int n),some (.ref 0),some (.int p.1),some (.int p.2),z7,z8,z9] [some ((((steps (Cj bs w ns)).take i).flatMap f).map encC)]=some (.nx,[some (.lst false (bs.map Ae)),some (Bt false ns),some (.int w),some (.int n),some (.ref 0),some (.int p.1),some (.int p.2),some (Bt true (Dh bs w p.1 ns)),z8,z9],[some ((((steps (Cj bs w ns)).take i).flatMap f).map encC)]):=by
    rw[Cm,Ds,c2];rfl
   refine⟨_,by simp[Dy,K9,Hi,Gp,-U0e,-U0f,Ag];rfl,_,_,(show J6 rec _ _=_ by unfold J6;rw[Bj s1];exact l1),_,_,_,_,_,rfl,?_⟩
   rw[U5u,hp]
   simp[f])
 subst he hS
 refine⟨z5,z6,z7,z8,z9,e2.trans ?_⟩
 have:((steps (Cj bs w ns)).map Ag).length=(steps (Cj bs w ns)).length:=by simp
 rw[this,U4s,Ba,if_neg hne]
theorem mU{n:Nat}{bs:List (List St2)}(hb:∀b∈bs,b.length=n)(hn:n<=3):∀(k d w:Nat)(ns:List Nat),w+k=n->(∀i∈ns,i<bs.length)->ns.length<=20->Br (d+k+1) [.lst false (bs.map Ae),Bt false ns,.int w,.int n]=some (.lst true ((Ba bs k w ns).map encC)):=by
 have hlen:∀(ns:List Nat)(r:VS.Env)(S:Store),eCB Du (Aa (Ab 1) Af) (some (.lst false (bs.map Ae))::some (Bt false ns)::r) S=some (.int ns.length,S):=fun ns r S=>by simp[Ay,CT,Aq,Eh,Du,VS.listOf,Bx,-U0e,-U0f,Bt]
 have first:∀(ns:List Nat)(r:VS.Env),ns≠[]->(sIf (Bf (eOp (oEq false) (eCB Du (Aa (Ab 1) Af)) (eC (.int 0)))) (Cw (Cg Af)) FJ) (some (.lst false (bs.map Ae))::some (Bt false ns)::r) []=some (.nx,some (.lst false (bs.map Ae))::some (Bt false ns)::r,[]):=fun ns r h=>by
  have h0:¬((ns.length:Int)=0):=by have:=U32.mpr h;omega
  simp only[Hg,Cr,BJ,hlen,U0c,EY]
  simp[Ci,Hw,CT,Ds,oEq,-U0e,-U0f,h0]
  exact h
 have nil:∀(k w:Nat),Br (k+1) [.lst false (bs.map Ae),Bt false [],.int w,.int n]=some (.lst true []):=fun k w=>by
  simp[Br,Ju,GF,Cm,Ci,Hg,Hw,Ay,EY,BJ,CT,Aq,Eh,Cr,Ds,Tt,GQ,oEq,Du,VS.listOf,Bx,Dg,den,Cu,U0x,-U0e,-U0f,Bt]
 intro k
 induction k with
 |zero =>
  intro d w ns hw hi hl
  by_cases h:ns=[]
  .subst h
   rw[nil,Ba,if_pos rfl];rfl
  .rw[Ba,if_neg h]
   have hwn:w=n:=by omega
   subst hwn
   have f1:=first ns [some (.int w),some (.int w),none,none,none,none,none,none] h
   unfold Br
   rw[Dg]
   simp only[U0g,U1h,U0t,U1w,U2j,U2k,U0x,U1u,U2m,U16,if_true]
   unfold Ju
   rw[Bj f1]
   have hd:=Jz 0 [] (Mg false ns)
   simp[GF,Cm,Ci,Hg,Hw,Ay,BJ,CT,Aq,Cr,Ds,Tt,GQ,oEq,den,Cu,-U0e,-U0f,hd,encC,Ae]
 |succ k ih =>
  intro d w ns hw hi hl
  by_cases h:ns=[]
  .subst h
   rw[nil,Ba,if_pos rfl];rfl
  .have hwn:¬((w:Int)=(n:Int)):=by omega
   have f1:=first ns [some (.int w),some (.int n),none,none,none,none,none,none] h
   have f2:(sIf (Bf (eOp (oEq false) (Ab 2) (Ab 3))) (Cw (Cg (Aa (Bw (Aa (Bw Af) (Aa (Ab 1) Af))) Af))) FJ) [some (.lst false (bs.map Ae)),some (Bt false ns),some (.int w),some (.int n),none,none,none,none,none,none] []=some (.nx,[some (.lst false (bs.map Ae)),some (Bt false ns),some (.int w),some (.int n),none,none,none,none,none,none],[]):=by
    simp[Ci,Hg,Hw,Ay,BJ,CT,Aq,Cr,Ds,GQ,oEq,-U0e,-U0f,hwn]
   have f3:(Bu 4 (Mv Af)) [some (.lst false (bs.map Ae)),some (Bt false ns),some (.int w),some (.int n),none,none,none,none,none,none] []=some (.nx,[some (.lst false (bs.map Ae)),some (Bt false ns),some (.int w),some (.int n),some (.ref 0),none,none,none,none,none],[some []]):=by
    simp[Cm,CT,Tt,-U0e,-U0f]
   obtain⟨z5,z6,z7,z8,z9,f4⟩:=mV (Br (d+(k+1))) (w:=w) (k:=k) hb hi hl h (by omega) (by omega) fun ms h1 h2=>by
    have:=ih d (w+1) ms (by omega) h1 h2
    rw[show((w+1:Nat):Int)=(w:Int)+1 by omega] at this
    exact this
   rw[Br,Dg]
   simp only[U0g,U1h,U0t,U1w,U2j,U2k,U0x,U1u,U2m,U16,if_true]
   unfold Ju
   rw[Bj f1,Bj f2,Bj f3,Bj f4]
   have hd:∀(j:Nat)(S:Store),Cu j S ((Ba bs (k+1) w ns).map encC)=some ((Ba bs (k+1) w ns).map encC):=fun j S=>Ck j S (Jh (Ba bs (k+1) w ns))
   simp[Ci,Ay,den,-U0e,-U0f,hd,Jh]
theorem list_range{a:Bg}{env:VS.Env}{S S':Store}{n:Nat}(h:a env S=some ([.int n],S'))(hn:n<=1000):Jk a env S=some (Bt true (U0j n),S'):=by
 have hr:r62 (n:Int):=by unfold r62;omega
 have up:upD 0 n=(U0j n).map fun(i:Nat)=>D.int i:=by unfold upD;simp
 rw[VP,h,U0c]
 show(if r62 (n:Int)/\(n:Int).toNat<=1000 then _ else _)=_
 rw[if_pos ⟨hr,by omega⟩,U2w,up,Bt]
theorem Wv{n:Nat}{bs:List (List St2)}(g:Good n bs):Dj [Ao false n bs]=some (.lst true ((Ba bs n 0 (U0j bs.length)).map encC)):=by
 have n3:=g.n3
 have few:=g.few
 have h:=mU (bs:=bs) (fun b hb=>(g.box b hb).1) n3.2 n (3-n) 0 (U0j bs.length) (by omega) (fun i hi=>U2x.mp hi) (by simpa using few)
 rw[show 3-n+n+1=4 by omega] at h
 have hd:=fun(j:Nat) (S:Store)=>Ck j S (Jh (Ba bs n 0 (U0j bs.length)))
 have t1:(eOp oIx (Ab 0) (eC (.int 1))) [some (Ao false n bs)] []=some (.lst false (bs.map Ae),[]):=by simp[Ay,EY,BJ,oIx,VS.listOf,Bx,-U0e,-U0f,Ao]
 have t0:(eOp oIx (Ab 0) (eC (.int 0))) [some (Ao false n bs)] []=some (.int n,[]):=by simp[Ay,EY,BJ,oIx,VS.listOf,Bx,-U0e,-U0f,Ao]
 have t2:(Aa (eCB Du (Aa (eOp oIx (Ab 0) (eC (.int 1))) Af)) Af) [some (Ao false n bs)] []=some ([.int bs.length],[]):=by
  simp only[Aq,CT,Eh,t1,U0c]
  simp[Du,Bx,VS.listOf]
 have t3:=list_range t2 (by omega)
 have a1:(Aa (eOp oIx (Ab 0) (eC (.int 1))) (Aa (Jk (Aa (eCB Du (Aa (eOp oIx (Ab 0) (eC (.int 1))) Af)) Af)) (Aa (eC (.int 0)) (Aa (eOp oIx (Ab 0) (eC (.int 0))) Af)))) [some (Ao false n bs)] []=some ([.lst false (bs.map Ae),Bt true (U0j bs.length),.int 0,.int n],[]):=by
  rw[Aq,t1,U0c,Aq,t3,U0c,Aq,EY,U0c,Aq,t0]
  rfl
 have c:=Dn (sem:=Br 4) a1 (by simp[Az,BW,Mg]) (es:=[.lst false (bs.map Ae),Bt false (U0j bs.length),.int 0,.int n]) (by simp[Bk,age,Rb]) h
 unfold Dj
 rw[Dg]
 simp only[U0g,U1h,U0t,U1w,U2j,U2k,U1u,U2m,U16,if_true]
 unfold Sv
 rw[Ci,c]
 show den 0 [] (.lst true _)=_
 rw[den,hd];rfl
end W09
end
section
namespace W09
open PySem L2 VS
theorem gH(c k:Int)(h0:0<=k)(h1:k<1000000000000):∃v,GX [.int c,.int k]=some (.int v):=by
 have hk:-18446744073709551616<k/\k<18446744073709551616:=by omega
 have ha:∀t:Int,-18446744073709551616<t%2147483629/\t%2147483629<18446744073709551616:=fun t=>by omega
 have hb:∀t:Int,-18446744073709551616<t%2147483587/\t%2147483587<18446744073709551616:=fun t=>by omega
 simp[GX,Qt,GF,Cm,Ci,Ay,EY,BJ,oI,Mw,TX,TV,Bl,HY,oDiv,oMod,VS.listOf,Dg,den,U0x,-U0e,-U0f,hk,ha,hb]
theorem Gm(x y z m:Int)(h0:0<m)(h1:m<2^63)(z0:0<=z)(z1:z<100000000000):∃r x' z',Am [x,y,z] [.int m]=some (.int r,[x',y,z'])/\(0<=r/\r<m)/\z<=z'/\z'<=z+1:=by
 have hm:m<18446744073709551616:=by omega
 by_cases h:0<x
 .refine⟨x%m,x/m,z,?_,⟨U7c _ (by omega),U6o _ h0⟩,by omega,by omega⟩
  simp[Am,Kz,GF,Cm,Ci,Hg,Hw,JQ,Ay,EY,BJ,CT,Aq,Eh,Cr,Ds,G3,oI,Ge,Mw,TX,TV,R6,Bl,HY,oDiv,oMod,Ka,oGt,oIx,Nm,VS.listOf,Bx,Ld,intsOf,den,U0x,-U0e,-U0f,h,h0,hm]
 .obtain⟨v,hv⟩:=gH y (z+1) (by omega) (by omega)
  by_cases h6:1000000<m
  .refine⟨v*8191%m,x,z+1,?_,⟨U7c _ (by omega),U6o _ h0⟩,by omega,by omega⟩
   simp[Am,Kz,GF,Cm,Ci,Hg,Hw,JQ,Ay,EY,BJ,CT,Aq,Eh,Cr,Ds,G3,oI,Ge,Mw,TX,TV,R6,Bl,HY,oDiv,oMod,Ka,oGt,oIx,Nm,VS.listOf,Bx,Ld,intsOf,den,Cu,age,Bk,BW,Az,U0x,-U0e,-U0f,h,h0,hm,hv,h6]
  .refine⟨v*1%m,x,z+1,?_,⟨U7c _ (by omega),U6o _ h0⟩,by omega,by omega⟩
   simp[Am,Kz,GF,Cm,Ci,Hg,Hw,JQ,Ay,EY,BJ,CT,Aq,Eh,Cr,Ds,G3,oI,Ge,Mw,TX,TV,R6,Bl,HY,oDiv,oMod,Ka,oGt,oIx,Nm,VS.listOf,Bx,Ld,intsOf,den,Cu,age,Bk,BW,Az,U0x,-U0e,-U0f,h,h0,hm,hv,h6]
theorem jU(c:Int):∃x,Fd [.int c]=some (.lst true [.int x,.int c,.int 0]):=by
 by_cases h:(1000000000000000000:Int)<=c
 .simp[Fd,O8,Ci,Ay,EY,BJ,CT,Aq,Eh,Ds,oI,Ge,Mw,R6,HY,Ka,oGe,Nm,VS.listOf,Dg,den,Cu,-U0e,-U0f,h]
 .simp[Fd,O8,Ci,Ay,EY,BJ,CT,Aq,Eh,Ds,oI,Ge,Mw,R6,HY,Ka,oGe,Nm,VS.listOf,Dg,den,Cu,-U0e,-U0f,h]
end W09
end
section
namespace W09
open PySem L2 VS
theorem W8{sem:Cy}{a:Bg}{env:VS.Env}{S S':Store}{d d':D}{cs:List D}(h:BK sem a env S=some (d,S'))(ht:Oh S'.length d=some (d',cs)):KH sem a env S=some (d',S'++[some cs]):=by
 rw[cI,h,U0c]
 show(Oh S'.length d).bind _=_
 rw[ht];rfl
theorem O2{sem:Ln}{a:Bg}{env:VS.Env}{S S':Store}{i:Nat}{rest es:List D}{ns ms:List Int}{r:D}(h:a env S=some (.ref i::rest,S'))(hi:S'[i]?=some (some (ns.map D.int)))(hp:Az rest=true)(ha:Bk rest=es)(hr:sem ns es=some (r,ms)):Bm sem a env S=some (r,S'.set i (some (ms.map D.int))):=by
 rw[V1,h]
 simp only[U0c,hi,Jj,Ck 0 _ hp,ha,hr,hp,U7v,if_true]
theorem QT{g:Store->D->List D->Option (D×Store)}{o:Aw}{a:Bg}{env:VS.Env}{S S1 S2 S3:Store}{d r:D}{cs ds:List D}(h:o env S=some (d,S1))(hl:VS.listOf S1 d=some cs)(h2:a env S1=some (ds,S2))(h3:g S2 d ds=some (r,S3)):Hu g o a env S=some (r,S3):=by
 rw[Ws,h,U0c]
 show(if (VS.listOf S1 d).isSome=true then _ else _)=_
 rw[hl]
 show(a env S1).bind _=_
 rw[h2]
 exact h3
theorem Vp(S:Store)(a:Option (List D))(l:List (Option (List D))):(S++a::l)[S.length]?=some a:=by simp
theorem Vm(S:Store)(a c:Option (List D))(l:List (Option (List D))):(S++a::l).set S.length c=S++c::l:=by
 rw[U58 _ _ (by omega)]
 simp
end W09
end
section
namespace W09
open PySem L2 VS
theorem HD{x y z c r x' z':Int}{a:Aw}{env:VS.Env}{S:Store}{j:Nat}(h:Am [x,y,z] [.int c]=some (.int r,[x',y,z']))(h0:env[j]?=some (some (.ref 0)))(ha:a env (some [.int x,.int y,.int z]::S)=some (.int c,some [.int x,.int y,.int z]::S)):Bm Am (Aa (Ab j) (Aa a Af)) env (some [.int x,.int y,.int z]::S)=some (.int r,some [.int x',.int y,.int z']::S):=by
 have v0:Ab j env (some [.int x,.int y,.int z]::S)=some (.ref 0,some [.int x,.int y,.int z]::S):=by rw[Ay,h0];rfl
 exact O2 (ns:=[x,y,z]) (rest:=[.int c]) (es:=[.int c]) (i:=0) (S':=some [.int x,.int y,.int z]::S) (by rw[Aq,v0,U0c,Aq,ha];rfl) rfl (by simp[Az,BW]) (by simp[Bk,age]) h
theorem ZP(x y z r0 r1:Int)(h1:0<r1)(h2:r1<=2000000000)(z0:0<=z)(z1:z<10000000000):∃(p:St2)(x' z':Int),Es [x,y,z] [.tup [.int r0,.int r1]]=some (Ag p,[x',y,z'])/\(r0<=p.1/\p.1<p.2/\p.2<=r0+r1)/\z<=z'/\z'<=z+2:=by
 obtain⟨a,x1,z2,d1,⟨a0,a1⟩,k1,k2⟩:=Gm x y z r1 h1 (by omega) z0 (by omega)
 obtain⟨b,x2,z3,d2,⟨b0,b1⟩,k3,k4⟩:=Gm x1 y z2 r1 h1 (by omega) (by omega) (by omega)
 have v1:∀(e2 e3:Option D)(S:Store),eOp oIx (Ab 1) (eC (.int 0)) [some (.ref 0),some (.tup [.int r0,.int r1]),e2,e3] S=some (.int r0,S):=fun _ _ _=>rfl
 have v2:∀(e2 e3:Option D)(S:Store),eOp oIx (Ab 1) (eC (.int 1)) [some (.ref 0),some (.tup [.int r0,.int r1]),e2,e3] S=some (.int r1,S):=fun _ _ _=>rfl
 have s1:(Bu 2 (eOp Bl (eOp oIx (Ab 1) (eC (.int 0))) (Bm Am (Aa (Ab 0) (Aa (eOp oIx (Ab 1) (eC (.int 1))) Af))))) [some (.ref 0),some (.tup [.int r0,.int r1]),none,none] [some [.int x,.int y,.int z]]=some (.nx,[some (.ref 0),some (.tup [.int r0,.int r1]),some (.int (r0+a)),none],[some [.int x1,.int y,.int z2]]):=by
  rw[Cm,BJ,v1,U0c,HD d1 rfl (v2 _ _ _)];rfl
 have s2:(Bu 3 (eOp Bl (eOp oIx (Ab 1) (eC (.int 0))) (Bm Am (Aa (Ab 0) (Aa (eOp oIx (Ab 1) (eC (.int 1))) Af))))) [some (.ref 0),some (.tup [.int r0,.int r1]),some (.int (r0+a)),none] [some [.int x1,.int y,.int z2]]=some (.nx,[some (.ref 0),some (.tup [.int r0,.int r1]),some (.int (r0+a)),some (.int (r0+b))],[some [.int x2,.int y,.int z3]]):=by
  rw[Cm,BJ,v1,U0c,HD d2 rfl (v2 _ _ _)];rfl
 have ts:Bf (eOp (oEq false) (Ab 2) (Ab 3)) [some (.ref 0),some (.tup [.int r0,.int r1]),some (.int (r0+a)),some (.int (r0+b))] [some [.int x2,.int y,.int z3]]=some (decide (r0+a=r0+b),[some [.int x2,.int y,.int z3]]):=by
  simp[Ay,BJ,Cr,oEq,-U0e,-U0f]
 obtain⟨c,s3,c0,c1,c2⟩:∃c:Int,(sIf (Bf (eOp (oEq false) (Ab 2) (Ab 3))) (Bu 3 (eOp Bl (Ab 2) (eC (.int 1)))) FJ) [some (.ref 0),some (.tup [.int r0,.int r1]),some (.int (r0+a)),some (.int (r0+b))] [some [.int x2,.int y,.int z3]]=some (.nx,[some (.ref 0),some (.tup [.int r0,.int r1]),some (.int (r0+a)),some (.int c)],[some [.int x2,.int y,.int z3]])/\c≠r0+a/\r0<=c/\c<=r0+r1:=by
  by_cases h:r0+a=r0+b
  .rw[show decide (r0+a=r0+b)=true from decide_eq_true h] at ts
   exact⟨r0+a+1,by rw[N8 ts];rfl,by omega,by omega,by omega⟩
  .rw[show decide (r0+a=r0+b)=false from decide_eq_false h] at ts
   exact⟨r0+b,by rw[Ht ts];rfl,by omega,by omega,by omega⟩
 refine⟨(if c<r0+a then c else r0+a,if c>r0+a then c else r0+a),x2,z3,?_,?_,by omega,by omega⟩
 .unfold Es
  rw[Ld]
  simp only[U0g,U1h,U0t,U1w,U2j,U2k,U0x,U1u,U2m,U16,if_true]
  unfold Oe
  rw[Bj s1,Bj s2,Bj s3]
  simp[Ci,Ay,CT,Aq,Eh,GQ,Vk,Vj,intsOf,den,Cu,-U0e,-U0f,Ag]
 .simp only
  split<;>split<;>omega
def InR(r0 r1:Int)(k:Nat)(p:St2):Prop:=r0<=p.1/\p.1<p.2/\p.2<=1000000000/\p.2<=r0+r1+4*k
end W09
end
section
namespace W09
open PySem L2 VS
theorem sS(x y z r0 r1:Int)(n:Nat)(hn:n<=3)(h1:0<r1)(h2:r1<=2000000000)(z0:0<=z)(z1:z<1000000000)(e3:Option D)(es:VS.Env):∃(bx:List St2)(x' z':Int),
  Kw (some (.ref 0)::some (.int n)::some (.tup [.int r0,.int r1])::e3::es) [some [.int x,.int y,.int z]]=some (bx.map Ag,[some [.int x',.int y,.int z']])/\bx.length=n/\(∀p∈bx,r0<=p.1/\p.1<p.2/\p.2<=r0+r1)/\z<=z'/\z'<=z+2*n:=by
 have v1:Ab 1 (some (.ref 0)::some (.int n)::some (.tup [.int r0,.int r1])::e3::es) [some [.int x,.int y,.int z]]=some (.int n,[some [.int x,.int y,.int z]]):=rfl
 have e:Hx (Aa (Ab 1) Af) (some (.ref 0)::some (.int n)::some (.tup [.int r0,.int r1])::e3::es) [some [.int x,.int y,.int z]]=some ((upD 0 n,[]),[some [.int x,.int y,.int z]]):=Vu _ (by rw[Aq,v1];rfl) (by simp) (by omega) (by omega)
 have ec:JB 1 [0,2] (some (.ref 0)::some (.int n)::some (.tup [.int r0,.int r1])::e3::es)=[none,some (.ref 0),some (.tup [.int r0,.int r1])]:=rfl
 unfold Kw Ea
 rw[e,ec]
 simp only[U0c]
 obtain⟨ys,S',e2,bx,x',z',hy,hS,hl,hp,k1,k2⟩:=iR (w:=[]) (e0:=[none,some (.ref 0),some (.tup [.int r0,.int r1])]) (g:=Pat.sem (.nm 0)) (ds:=upD 0 n) (S:=[some [.int x,.int y,.int z]])
  (f:=Bm Es (Aa (Ab 1) (Aa (Ab 2) Af)))
  (fun i ys S=>∃(bx:List St2)(x' z':Int),ys=bx.map Ag/\S=[some [.int x',.int y,.int z']]/\bx.length=min i n/\(∀p∈bx,r0<=p.1/\p.1<p.2/\p.2<=r0+r1)/\z<=z'/\z'<=z+2*(min i n:Nat))
  ⟨[],x,z,rfl,rfl,by simp,(fun p h=>by cases h),by omega,by simp⟩ (fun i ys S q=>by obtain⟨bx,x',z',h1,h2,h3,_⟩:=q;exact⟨by simp,by rw[h1,U0l];omega⟩)
  (fun i d ys S hd q=>by
   obtain⟨bx,x',z',h3,h4,h5,h6,h7,h8⟩:=q
   obtain⟨hi,rfl⟩:=NP hd
   subst h3 h4
   obtain⟨p,x2,z2,e3,hp,k1,k2⟩:=ZP x' y z' r0 r1 h1 h2 (by omega) (by omega)
   refine⟨[some (.int (0+i)),some (.ref 0),some (.tup [.int r0,.int r1])],Ag p,[some [.int x2,.int y,.int z2]],by rw[Dy];rfl,?_,bx++[p],x2,z2,by rw[U11];rfl,rfl,by simp;omega,fun q hq=>?_,by omega,by omega⟩
   .exact O2 (ns:=[x',y,z']) (rest:=[.tup [.int r0,.int r1]]) (es:=[.tup [.int r0,.int r1]]) (i:=0) (S':=[some [.int x',.int y,.int z']]) rfl rfl (by simp[Az,BW]) (by simp[Bk,age]) e3
   .rcases U10.mp hq with h|h
    .exact h6 q h
    .rw[U0z.mp h];exact hp)
 rw[NK,Nat.min_self] at hl k2
 subst hy hS
 exact⟨bx,x',z',e2,hl,hp,k1,k2⟩
end W09
end
section
namespace W09
open PySem L2 VS
theorem ux{b:List St2}:Dm (b.map Ag)=true:=Ek b fun p _=>Dp p
theorem nil_eq(m:Bool)(bs:List (List St2))(S:Store):oEq false S (.lst m (bs.map Ae)) (.lst true [])=some (.bl bs.isEmpty):=by
 have q:=n8 (neg:=false) (S:=S) (m:=true) 3 (O5 S m bs) (Uu 0 bs) (by decide)
 rw[List.isEmpty_map,Bool.false_xor] at q
 exact q
theorem nJ{n:Nat}{here:List St2}(hl:here.length=n)(hn:n<=3){a:Int}(a0:0<=a)(a1:a<n)(p:St2)(e0 e1 e2 e3 e4 e8 e9:Option D)(T:D)(S:Store)(kd:Int)(f1:oIx S T (.int kd)=some (Ag p)) :
  eOp Bl (eOp Bl (eSl oSl (Ab 6) Hs (Hr (Ab 7))) (Bw (Aa (eOp oIx (Ab 10) (Ab 5)) Af))) (eSl oSl (Ab 6) (Hr (eOp Bl (Ab 7) (eC (.int 1)))) Hs) [e0,e1,e2,e3,e4,some (.int kd),some (Ae here),some (.int a),e8,e9,some T] S=some (Ae (here.take a.toNat++p::here.drop (a.toNat+1)),S):=by
 have c1:=sG (xs:=here.map Ag) (a:=a) a0 (by simp;omega)
 have c2:=Wt (xs:=here.map Ag) (a:=a+1) (by omega) (by simp;omega)
 have t1:(a+1).toNat=a.toNat+1:=by omega
 have hlen:min a.toNat here.length<=999999/\min a.toNat here.length+1+(here.length-(a.toNat+1))<=1000000/\min a.toNat here.length+(here.length-(a.toNat+1)+1)<=1000000/\min a.toNat here.length+(1+(here.length-(a.toNat+1)))<=1000000:=by omega
 have s1:eSl oSl (Ab 6) Hs (Hr (Ab 7)) [e0,e1,e2,e3,e4,some (.int kd),some (Ae here),some (.int a),e8,e9,some T] S=some (.tup ((here.take a.toNat).map Ag),S):=by
  show(some (D.tup (cut (here.map Ag) none (some a)),S):Option (D×Store))=_
  rw[c1,List.map_take]
 have s2:Bw (Aa (eOp oIx (Ab 10) (Ab 5)) Af) [e0,e1,e2,e3,e4,some (.int kd),some (Ae here),some (.int a),e8,e9,some T] S=some (.tup [Ag p],S):=by
  have:eOp oIx (Ab 10) (Ab 5) [e0,e1,e2,e3,e4,some (.int kd),some (Ae here),some (.int a),e8,e9,some T] S=some (Ag p,S):=by
   show U2n _ (oIx S T (.int kd))=_
   rw[f1];rfl
  rw[GQ,Aq,this];rfl
 have s3:eSl oSl (Ab 6) (Hr (eOp Bl (Ab 7) (eC (.int 1)))) Hs [e0,e1,e2,e3,e4,some (.int kd),some (Ae here),some (.int a),e8,e9,some T] S=some (.tup ((here.drop (a.toNat+1)).map Ag),S):=by
  show(some (D.tup (cut (here.map Ag) (some (a+1)) none),S):Option (D×Store))=_
  rw[c2,t1,List.map_drop]
 have s4:eOp Bl (eSl oSl (Ab 6) Hs (Hr (Ab 7))) (Bw (Aa (eOp oIx (Ab 10) (Ab 5)) Af)) [e0,e1,e2,e3,e4,some (.int kd),some (Ae here),some (.int a),e8,e9,some T] S=some (.tup ((here.take a.toNat++[p]).map Ag),S):=by
  rw[BJ,s1,U0c,s2]
  show U2n _ (if ((here.take a.toNat).map Ag).length+1<=1000000 then some (D.tup ((here.take a.toNat).map Ag++[Ag p])) else none)=_
  rw[if_pos (by simp;omega),U11];rfl
 rw[BJ,s4,U0c,s3]
 show U2n _ (if ((here.take a.toNat++[p]).map Ag).length+((here.drop (a.toNat+1)).map Ag).length<=1000000 then some (D.tup ((here.take a.toNat++[p]).map Ag++(here.drop (a.toNat+1)).map Ag)) else none)=_
 rw[if_pos (by simp;omega),←U11,U5x]
 rfl
def InB(r0 r1:Int)(k:Nat)(b:List St2):Prop:=∀p∈b,InR r0 r1 k p
theorem sO(x y z r0 r1:Int)(n k:Nat)(h0:1<=n)(hn:n<=3)(q0:-1000000000<=r0)(q1:0<r1)(q2:r0+r1<=1000000000)(bs:List (List St2))(hl:bs.length<=1000)(hb:∀b∈bs,b.length=n/\InB r0 r1 k b)(z0:0<=z)(z1:z<100000000):∃(b:List St2)(x' z':Int),
  FW [x,y,z] [.int n,.tup [.int r0,.int r1],.lst false (bs.map Ae)]=some (Ae b,[x',y,z'])/\b.length=n/\InB r0 r1 (k+1) b/\z<=z'/\z'<=z+11:=by
 obtain⟨bx,x1,z2,c1,bl,bp,k1,k2⟩:=sS x y z r0 r1 n hn q1 (by omega) z0 (by omega) (some (.lst false (bs.map Ae))) [none,none,none,none,none,none,none]
 obtain⟨kd,x2,z3,d1,⟨kd0,kd1⟩,k3,k4⟩:=Gm x1 y z2 6 (by decide) (by decide) (by omega) (by omega)
 have s1:(Bu 4 (eCB Yy (Aa (Cg Kw) Af))) [some (.ref 0),some (.int n),some (.tup [.int r0,.int r1]),some (.lst false (bs.map Ae)),none,none,none,none,none,none,none] [some [.int x,.int y,.int z]]=some (.nx,[some (.ref 0),some (.int n),some (.tup [.int r0,.int r1]),some (.lst false (bs.map Ae)),some (Ae bx),none,none,none,none,none,none],[some [.int x1,.int y,.int z2]]):=by
  rw[Cm,Eh,Aq,Ds,c1];rfl
 have s2:(Bu 5 (Bm Am (Aa (Ab 0) (Aa (eC (.int 6)) Af)))) [some (.ref 0),some (.int n),some (.tup [.int r0,.int r1]),some (.lst false (bs.map Ae)),some (Ae bx),none,none,none,none,none,none] [some [.int x1,.int y,.int z2]]=some (.nx,[some (.ref 0),some (.int n),some (.tup [.int r0,.int r1]),some (.lst false (bs.map Ae)),some (Ae bx),some (.int kd),none,none,none,none,none],[some [.int x2,.int y,.int z3]]):=by
  rw[Cm,HD d1 rfl rfl];rfl
 have inb:InB r0 r1 (k+1) bx:=fun p hp=>by
  have:=bp p hp
  exact⟨this.1,this.2.1,by omega,by omega⟩
 have ts:(VS.tOr (Bf (eOp (oEq false) (Ab 3) (Cg Af))) (Bf (eOp oGt (Ab 5) (eC (.int 3))))) [some (.ref 0),some (.int n),some (.tup [.int r0,.int r1]),some (.lst false (bs.map Ae)),some (Ae bx),some (.int kd),none,none,none,none,none] [some [.int x2,.int y,.int z3]]=some (bs.isEmpty||decide (3<kd),[some [.int x2,.int y,.int z3]]):=by
  have a1:Bf (eOp (oEq false) (Ab 3) (Cg Af)) [some (.ref 0),some (.int n),some (.tup [.int r0,.int r1]),some (.lst false (bs.map Ae)),some (Ae bx),some (.int kd),none,none,none,none,none] [some [.int x2,.int y,.int z3]]=some (bs.isEmpty,[some [.int x2,.int y,.int z3]]):=by
   rw[Cr,BJ]
   show(U2n _ (oEq false [some [.int x2,.int y,.int z3]] (.lst false (bs.map Ae)) (.lst true []))).bind _=_
   rw[nil_eq];rfl
  rw[Rt,a1]
  cases bs.isEmpty
  .rfl
  .rfl
 have go:∀(r:D)(S':Store)(env':VS.Env)(b:List St2)(x' z':Int),r=Ae b->S'=[some [.int x',.int y,.int z']]->Pq [some (.ref 0),some (.int n),some (.tup [.int r0,.int r1]),some (.lst false (bs.map Ae)),none,none,none,none,none,none,none] [some [.int x,.int y,.int z]]=some (.ret r,env',S')->FW [x,y,z] [.int n,.tup [.int r0,.int r1],.lst false (bs.map Ae)]=some (Ae b,[x',y,z']):=fun r S' env' b x' z' hr hS h=>by
  unfold FW
  rw[Ld]
  simp only[U0g,U1h,U0t,U1w,U2j,U2k,U0x,U1u,U2m,U16,if_true]
  rw[h,hS,hr]
  have hd:∀S:Store,Cu 1 S (b.map Ag)=some (b.map Ag):=fun S=>Ck 1 S (CG ux)
  simp[intsOf,den,-U0e,-U0f,Ae,hd]
 unfold Pq at go
 rw[Bj s1,Bj s2] at go
 by_cases h:bs.isEmpty=true∨3<kd
 .have e:(bs.isEmpty||decide (3<kd))=true:=by rw[U5l,decide_eq_true_eq];exact h
  rw[e] at ts
  refine⟨bx,x2,z3,go _ _ [some (.ref 0),some (.int n),some (.tup [.int r0,.int r1]),some (.lst false (bs.map Ae)),some (Ae bx),some (.int kd),none,none,none,none,none] bx x2 z3 rfl rfl ?_,bl,inb,by omega,by omega⟩
  rw[GF,N8 ts];rfl
 .have hne:bs.isEmpty=false:=by simpa using fun z=>h (.inl z)
  have h3:¬3<kd:=fun z=>h (.inr z)
  have e:(bs.isEmpty||decide (3<kd))=false:=by rw[hne,decide_eq_false h3];rfl
  rw[e] at ts
  have hpos:0<bs.length:=by
   rw[List.isEmpty_eq_false_iff] at hne
   exact U32.mpr hne
  obtain⟨j,x3,z4,d2,⟨j0,j1⟩,k5,k6⟩:=Gm x2 y z3 bs.length (by omega) (by omega) (by omega) (by omega)
  obtain⟨a,x4,z5,d3,⟨a0,a1⟩,k7,k8⟩:=Gm x3 y z4 n (by omega) (by omega) (by omega) (by omega)
  obtain⟨here,f1,g1⟩:=U8 (F:=Ae) (l:=bs) (i:=j) j0 j1
  obtain⟨hel,heb⟩:=hb here (U1j g1)
  obtain⟨⟨lo,hi⟩,f2,g2⟩:=U8 (F:=Ag) (l:=here) (i:=a) a0 (by omega)
  obtain⟨p1,p2,p3,p4⟩:=heb _ (U1j g2)
  simp only at p1 p2 p3 p4
  obtain⟨q,f3,g3⟩:=U8 (F:=Ag) (l:=bx) (i:=a) a0 (by omega)
  have hq:=inb _ (U1j g3)
  obtain⟨u,x5,z6,d4,⟨u0,u1⟩,k9,k10⟩:=Gm x4 y z5 4 (by decide) (by decide) (by omega) (by omega)
  obtain⟨w,x6,z7,d5,⟨w0,w1⟩,k11,k12⟩:=Gm x5 y z6 (hi-lo) (by omega) (by omega) (by omega) (by omega)
  have s3:(sIf (VS.tOr (Bf (eOp (oEq false) (Ab 3) (Cg Af))) (Bf (eOp oGt (Ab 5) (eC (.int 3))))) (Cw (Ab 4)) FJ) [some (.ref 0),some (.int n),some (.tup [.int r0,.int r1]),some (.lst false (bs.map Ae)),some (Ae bx),some (.int kd),none,none,none,none,none] [some [.int x2,.int y,.int z3]]=some (.nx,[some (.ref 0),some (.int n),some (.tup [.int r0,.int r1]),some (.lst false (bs.map Ae)),some (Ae bx),some (.int kd),none,none,none,none,none],[some [.int x2,.int y,.int z3]]):=by rw[Ht ts];rfl
  have s4:(Bu 6 (eOp oIx (Ab 3) (Bm Am (Aa (Ab 0) (Aa (eCB Du (Aa (Ab 3) Af)) Af))))) [some (.ref 0),some (.int n),some (.tup [.int r0,.int r1]),some (.lst false (bs.map Ae)),some (Ae bx),some (.int kd),none,none,none,none,none] [some [.int x2,.int y,.int z3]]=some (.nx,[some (.ref 0),some (.int n),some (.tup [.int r0,.int r1]),some (.lst false (bs.map Ae)),some (Ae bx),some (.int kd),some (Ae here),none,none,none,none],[some [.int x3,.int y,.int z4]]):=by
   have v3:Ab 3 [some (.ref 0),some (.int n),some (.tup [.int r0,.int r1]),some (.lst false (bs.map Ae)),some (Ae bx),some (.int kd),none,none,none,none,none] [some [.int x2,.int y,.int z3]]=some (.lst false (bs.map Ae),[some [.int x2,.int y,.int z3]]):=rfl
   rw[Cm,BJ,v3,U0c,HD d2 rfl (by
    rw[Eh,Aq,v3]
    show(some (D.int (((bs.map Ae).length:Nat)),_):Option (D×Store))=_
    rw[U0l])]
   show(U2n _ (atI (bs.map Ae) j)).bind _=_
   rw[f1];rfl
  have s5:(Bu 7 (Bm Am (Aa (Ab 0) (Aa (Ab 1) Af)))) [some (.ref 0),some (.int n),some (.tup [.int r0,.int r1]),some (.lst false (bs.map Ae)),some (Ae bx),some (.int kd),some (Ae here),none,none,none,none] [some [.int x3,.int y,.int z4]]=some (.nx,[some (.ref 0),some (.int n),some (.tup [.int r0,.int r1]),some (.lst false (bs.map Ae)),some (Ae bx),some (.int kd),some (Ae here),some (.int a),none,none,none],[some [.int x4,.int y,.int z5]]):=by
   rw[Cm,HD d3 rfl rfl];rfl
  have ih:∀(e8 e9 e10:Option D)(S:Store),eOp oIx (Ab 6) (Ab 7) [some (.ref 0),some (.int n),some (.tup [.int r0,.int r1]),some (.lst false (bs.map Ae)),some (Ae bx),some (.int kd),some (Ae here),some (.int a),e8,e9,e10] S=some (Ag (lo,hi),S):=fun e8 e9 e10 S=>by
   show U2n _ (atI (here.map Ag) a)=_
   rw[f2];rfl
  have ig:∀(e8 e9 e10:Option D)(S:Store),eOp oIx (Ab 4) (Ab 7) [some (.ref 0),some (.int n),some (.tup [.int r0,.int r1]),some (.lst false (bs.map Ae)),some (Ae bx),some (.int kd),some (Ae here),some (.int a),e8,e9,e10] S=some (Ag q,S):=fun e8 e9 e10 S=>by
   show U2n _ (atI (bx.map Ag) a)=_
   rw[f3];rfl
  have s6:(Yt (eOp oIx (Ab 6) (Ab 7)) (Pat.sem (.tp [(.nm 8),(.nm 9)]))) [some (.ref 0),some (.int n),some (.tup [.int r0,.int r1]),some (.lst false (bs.map Ae)),some (Ae bx),some (.int kd),some (Ae here),some (.int a),none,none,none] [some [.int x4,.int y,.int z5]]=some (.nx,[some (.ref 0),some (.int n),some (.tup [.int r0,.int r1]),some (.lst false (bs.map Ae)),some (Ae bx),some (.int kd),some (Ae here),some (.int a),some (.int lo),some (.int hi),none],[some [.int x4,.int y,.int z5]]):=by
   rw[jl,ih]
   simp[Dy,K9,Hi,Gp,-U0e,-U0f,Ag]
  have o1:eOp Bl (eOp Bl (Ab 9) (eC (.int 1))) (Bm Am (Aa (Ab 0) (Aa (eC (.int 4)) Af))) [some (.ref 0),some (.int n),some (.tup [.int r0,.int r1]),some (.lst false (bs.map Ae)),some (Ae bx),some (.int kd),some (Ae here),some (.int a),some (.int lo),some (.int hi),none] [some [.int x4,.int y,.int z5]]=some (.int (hi+1+u),[some [.int x5,.int y,.int z6]]):=by
   have:eOp Bl (Ab 9) (eC (.int 1)) [some (.ref 0),some (.int n),some (.tup [.int r0,.int r1]),some (.lst false (bs.map Ae)),some (Ae bx),some (.int kd),some (Ae here),some (.int a),some (.int lo),some (.int hi),none] [some [.int x4,.int y,.int z5]]=some (.int (hi+1),[some [.int x4,.int y,.int z5]]):=rfl
   rw[BJ,this,U0c,HD d4 rfl rfl];rfl
  have o2:eOp Bl (eOp Bl (Ab 8) (eC (.int 1))) (Bm Am (Aa (Ab 0) (Aa (eOp Im (Ab 9) (Ab 8)) Af))) [some (.ref 0),some (.int n),some (.tup [.int r0,.int r1]),some (.lst false (bs.map Ae)),some (Ae bx),some (.int kd),some (Ae here),some (.int a),some (.int lo),some (.int hi),none] [some [.int x5,.int y,.int z6]]=some (.int (lo+1+w),[some [.int x6,.int y,.int z7]]):=by
   have:eOp Bl (Ab 8) (eC (.int 1)) [some (.ref 0),some (.int n),some (.tup [.int r0,.int r1]),some (.lst false (bs.map Ae)),some (Ae bx),some (.int kd),some (Ae here),some (.int a),some (.int lo),some (.int hi),none] [some [.int x5,.int y,.int z6]]=some (.int (lo+1),[some [.int x5,.int y,.int z6]]):=rfl
   rw[BJ,this,U0c,HD d5 rfl rfl];rfl
  have t1:Bw (Aa (Ab 9) (Aa (eOp Bl (eOp Bl (Ab 9) (eC (.int 1))) (Bm Am (Aa (Ab 0) (Aa (eC (.int 4)) Af)))) Af)) [some (.ref 0),some (.int n),some (.tup [.int r0,.int r1]),some (.lst false (bs.map Ae)),some (Ae bx),some (.int kd),some (Ae here),some (.int a),some (.int lo),some (.int hi),none] [some [.int x4,.int y,.int z5]]=some (Ag (hi,hi+1+u),[some [.int x5,.int y,.int z6]]):=by
   have:Ab 9 [some (.ref 0),some (.int n),some (.tup [.int r0,.int r1]),some (.lst false (bs.map Ae)),some (Ae bx),some (.int kd),some (Ae here),some (.int a),some (.int lo),some (.int hi),none] [some [.int x4,.int y,.int z5]]=some (.int hi,[some [.int x4,.int y,.int z5]]):=rfl
   rw[GQ,Aq,this,U0c,Aq,o1];rfl
  have t2:Bw (Aa (Ab 8) (Aa (eOp Bl (eOp Bl (Ab 8) (eC (.int 1))) (Bm Am (Aa (Ab 0) (Aa (eOp Im (Ab 9) (Ab 8)) Af)))) Af)) [some (.ref 0),some (.int n),some (.tup [.int r0,.int r1]),some (.lst false (bs.map Ae)),some (Ae bx),some (.int kd),some (Ae here),some (.int a),some (.int lo),some (.int hi),none] [some [.int x5,.int y,.int z6]]=some (Ag (lo,lo+1+w),[some [.int x6,.int y,.int z7]]):=by
   have:Ab 8 [some (.ref 0),some (.int n),some (.tup [.int r0,.int r1]),some (.lst false (bs.map Ae)),some (Ae bx),some (.int kd),some (Ae here),some (.int a),some (.int lo),some (.int hi),none] [some [.int x5,.int y,.int z6]]=some (.int lo,[some [.int x5,.int y,.int z6]]):=rfl
   rw[GQ,Aq,this,U0c,Aq,o2];rfl
  have s7:(Bu 10 (Cg (Aa (eOp oIx (Ab 6) (Ab 7)) (Aa (eOp oIx (Ab 4) (Ab 7)) (Aa (Bw (Aa (Ab 9) (Aa (eOp Bl (eOp Bl (Ab 9) (eC (.int 1))) (Bm Am (Aa (Ab 0) (Aa (eC (.int 4)) Af)))) Af))) (Aa (Bw (Aa (Ab 8) (Aa (eOp Bl (eOp Bl (Ab 8) (eC (.int 1))) (Bm Am (Aa (Ab 0) (Aa (eOp Im (Ab 9) (Ab 8)) Af)))) Af))) Af)))))) [some (.ref 0),some (.int n),some (.tup [.int r0,.int r1]),some (.lst false (bs.map Ae)),some (Ae bx),some (.int kd),some (Ae here),some (.int a),some (.int lo),some (.int hi),none] [some [.int x4,.int y,.int z5]]=some (.nx,[some (.ref 0),some (.int n),some (.tup [.int r0,.int r1]),some (.lst false (bs.map Ae)),some (Ae bx),some (.int kd),some (Ae here),some (.int a),some (.int lo),some (.int hi),some (.lst true [Ag (lo,hi),Ag q,Ag (hi,hi+1+u),Ag (lo,lo+1+w)])],[some [.int x6,.int y,.int z7]]):=by
   rw[Cm,Ds,Aq,ih,U0c,Aq,ig,U0c,Aq,t1,U0c,Aq,t2];rfl
  obtain⟨p,fp,hp⟩:∃p:St2,(∀S:Store,oIx S (.lst true [Ag (lo,hi),Ag q,Ag (hi,hi+1+u),Ag (lo,lo+1+w)]) (.int kd)=some (Ag p))/\(r0<=p.1/\p.1<p.2/\p.2<=r0+r1+4*((k:Int)+1)):=by
   have:kd=0∨kd=1∨kd=2∨kd=3:=by omega
   rcases this with rfl|rfl|rfl|rfl
   .exact⟨(lo,hi),fun S=>rfl,by simp only;omega⟩
   .obtain⟨g1,g2,g3,g4⟩:=hq
    exact⟨q,fun S=>rfl,by omega⟩
   .exact⟨(hi,hi+1+u),fun S=>rfl,by simp only;omega⟩
   .exact⟨(lo,lo+1+w),fun S=>rfl,by simp only;omega⟩
  have tg:Bf (eOp oGt (eOp oIx (eOp oIx (Ab 10) (Ab 5)) (eC (.int 1))) (eOp Ka (eC (.int 10)) (eC (.int 9)))) [some (.ref 0),some (.int n),some (.tup [.int r0,.int r1]),some (.lst false (bs.map Ae)),some (Ae bx),some (.int kd),some (Ae here),some (.int a),some (.int lo),some (.int hi),some (.lst true [Ag (lo,hi),Ag q,Ag (hi,hi+1+u),Ag (lo,lo+1+w)])] [some [.int x6,.int y,.int z7]]=some (decide (1000000000<p.2),[some [.int x6,.int y,.int z7]]):=by
   have i1:eOp oIx (Ab 10) (Ab 5) [some (.ref 0),some (.int n),some (.tup [.int r0,.int r1]),some (.lst false (bs.map Ae)),some (Ae bx),some (.int kd),some (Ae here),some (.int a),some (.int lo),some (.int hi),some (.lst true [Ag (lo,hi),Ag q,Ag (hi,hi+1+u),Ag (lo,lo+1+w)])] [some [.int x6,.int y,.int z7]]=some (Ag p,[some [.int x6,.int y,.int z7]]):=by
    show U2n _ (oIx [some [.int x6,.int y,.int z7]] (.lst true [Ag (lo,hi),Ag q,Ag (hi,hi+1+u),Ag (lo,lo+1+w)]) (.int kd))=_
    rw[fp];rfl
   have i2:eOp oIx (eOp oIx (Ab 10) (Ab 5)) (eC (.int 1)) [some (.ref 0),some (.int n),some (.tup [.int r0,.int r1]),some (.lst false (bs.map Ae)),some (Ae bx),some (.int kd),some (Ae here),some (.int a),some (.int lo),some (.int hi),some (.lst true [Ag (lo,hi),Ag q,Ag (hi,hi+1+u),Ag (lo,lo+1+w)])] [some [.int x6,.int y,.int z7]]=some (.int p.2,[some [.int x6,.int y,.int z7]]):=by rw[BJ,i1];rfl
   have i3:eOp Ka (eC (.int 10)) (eC (.int 9)) [some (.ref 0),some (.int n),some (.tup [.int r0,.int r1]),some (.lst false (bs.map Ae)),some (Ae bx),some (.int kd),some (Ae here),some (.int a),some (.int lo),some (.int hi),some (.lst true [Ag (lo,hi),Ag q,Ag (hi,hi+1+u),Ag (lo,lo+1+w)])] [some [.int x6,.int y,.int z7]]=some (.int 1000000000,[some [.int x6,.int y,.int z7]]):=rfl
   rw[Cr,BJ,i2,U0c,i3];rfl
  rw[Bj s3,Bj s4,Bj s5,Bj s6,Bj s7] at go
  by_cases h9:1000000000<p.2
  .rw[decide_eq_true h9] at tg
   refine⟨bx,x6,z7,go _ _ [some (.ref 0),some (.int n),some (.tup [.int r0,.int r1]),some (.lst false (bs.map Ae)),some (Ae bx),some (.int kd),some (Ae here),some (.int a),some (.int lo),some (.int hi),some (.lst true [Ag (lo,hi),Ag q,Ag (hi,hi+1+u),Ag (lo,lo+1+w)])] bx x6 z7 rfl rfl ?_,bl,inb,by omega,by omega⟩
   rw[GF,N8 tg];rfl
  .rw[decide_eq_false h9] at tg
   have s8:(sIf (Bf (eOp oGt (eOp oIx (eOp oIx (Ab 10) (Ab 5)) (eC (.int 1))) (eOp Ka (eC (.int 10)) (eC (.int 9))))) (Cw (Ab 4)) FJ) [some (.ref 0),some (.int n),some (.tup [.int r0,.int r1]),some (.lst false (bs.map Ae)),some (Ae bx),some (.int kd),some (Ae here),some (.int a),some (.int lo),some (.int hi),some (.lst true [Ag (lo,hi),Ag q,Ag (hi,hi+1+u),Ag (lo,lo+1+w)])] [some [.int x6,.int y,.int z7]]=some (.nx,[some (.ref 0),some (.int n),some (.tup [.int r0,.int r1]),some (.lst false (bs.map Ae)),some (Ae bx),some (.int kd),some (Ae here),some (.int a),some (.int lo),some (.int hi),some (.lst true [Ag (lo,hi),Ag q,Ag (hi,hi+1+u),Ag (lo,lo+1+w)])],[some [.int x6,.int y,.int z7]]):=by rw[Ht tg];rfl
   refine⟨here.take a.toNat++p::here.drop (a.toNat+1),x6,z7,go _ _ [some (.ref 0),some (.int n),some (.tup [.int r0,.int r1]),some (.lst false (bs.map Ae)),some (Ae bx),some (.int kd),some (Ae here),some (.int a),some (.int lo),some (.int hi),some (.lst true [Ag (lo,hi),Ag q,Ag (hi,hi+1+u),Ag (lo,lo+1+w)])] _ x6 z7 rfl rfl ?_,by simp;omega,fun r hr=>?_,by omega,by omega⟩
   .rw[Bj s8,Ci,nJ hel hn a0 a1 p _ _ _ _ _ _ _ _ _ _ (fp _)];rfl
   .have old:∀r∈here,InR r0 r1 (k+1) r:=fun r hr=>by
     obtain⟨g1,g2,g3,g4⟩:=heb r hr
     exact⟨g1,g2,g3,by omega⟩
    rcases U10.mp hr with z|z
    .exact old r (List.mem_of_mem_take z)
    .rcases U0w.mp z with z|z
     .rw[z];exact⟨hp.1,hp.2.1,by omega,by omega⟩
     .exact old r (List.mem_of_mem_drop z)
end W09
end
section
namespace W09
open PySem L2 VS
theorem iu(x y z r0 r1:Int)(n k:Nat)(h0:1<=n)(hn:n<=3)(q0:-1000000000<=r0)(q1:0<r1)(q2:r0+r1<=1000000000)(bs:List (List St2))(hl:bs.length<=100)(hb:∀b∈bs,b.length=n/\InB r0 r1 k b)(z0:0<=z)(z1:z<10000000)(e3 e4 e6:Option D):∃(b:List St2)(x' z':Int),(b.length=n/\InB r0 r1 (k+1) b)/\(z<=z'/\z'<=z+11) /\
  Jt [some (.ref 0),some (.int n),some (.tup [.int r0,.int r1]),e3,e4,some (.ref 1),e6] [some [.int x,.int y,.int z],some (bs.map Ae)]=some (.nx,[some (.ref 0),some (.int n),some (.tup [.int r0,.int r1]),e3,e4,some (.ref 1),e6],[some [.int x',.int y,.int z'],some ((bs++[b]).map Ae)]):=by
 obtain⟨b,x',z',e,bl,bi,k1,k2⟩:=sO x y z r0 r1 n k h0 hn q0 q1 q2 bs (by omega) hb z0 (by omega)
 refine⟨b,x',z',⟨bl,bi⟩,⟨k1,k2⟩,?_⟩
 have hd:Cu 0 [none,some (bs.map Ae)] [.int n,.tup [.int r0,.int r1],.ref 1]=some [.int n,.tup [.int r0,.int r1],.lst true (bs.map Ae)]:=by
  have hp:=CG (Cq bs)
  simp[Cu,den,hp]
 have ha:Bk [.int n,.tup [.int r0,.int r1],.lst true (bs.map Ae)]=[.int n,.tup [.int r0,.int r1],.lst false (bs.map Ae)]:=by
  have:=Gs (Cq bs)
  simp[Bk,age]
 have hnew:newD (Ae b)=true:=Nz (Gq b)
 have c1:Bm FW (Aa (Ab 0) (Aa (Ab 1) (Aa (Ab 2) (Aa (Ab 5) Af)))) [some (.ref 0),some (.int n),some (.tup [.int r0,.int r1]),e3,e4,some (.ref 1),e6] [some [.int x,.int y,.int z],some (bs.map Ae)]=some (Ae b,[some [.int x',.int y,.int z'],some (bs.map Ae)]):=by
  have a:Aa (Ab 0) (Aa (Ab 1) (Aa (Ab 2) (Aa (Ab 5) Af))) [some (.ref 0),some (.int n),some (.tup [.int r0,.int r1]),e3,e4,some (.ref 1),e6] [some [.int x,.int y,.int z],some (bs.map Ae)]=some ([.ref 0,.int n,.tup [.int r0,.int r1],.ref 1],[some [.int x,.int y,.int z],some (bs.map Ae)]):=rfl
  rw[V1,a]
  show((Cu 0 [none,some (bs.map Ae)] [.int n,.tup [.int r0,.int r1],.ref 1]).bind fun ds=>(FW [x,y,z] (Bk ds)).bind fun r=>if (Az [.int n,.tup [.int r0,.int r1],.ref 1]||newD r.1)=true then some (r.1,[some (r.2.map D.int),some (bs.map Ae)]) else none)=_
  rw[hd,U0c,ha,e,U0c,hnew,Bool.or_true]
  rfl
 unfold Jt
 rw[Lb,QT (d:=.ref 1) (cs:=bs.map Ae) (ds:=[Ae b]) (r:=.non) (S1:=[some [.int x,.int y,.int z],some (bs.map Ae)]) (S2:=[some [.int x',.int y,.int z'],some (bs.map Ae)]) (S3:=[some [.int x',.int y,.int z'],some ((bs++[b]).map Ae)]) rfl rfl (by rw[Aq,c1];rfl) (by
  show(if (bs.map Ae).length<1000000 then some (D.non,[some [.int x',.int y,.int z'],some (bs.map Ae++[Ae b])]) else none)=_
  rw[if_pos (by rw[U0l];omega),U11]
  rfl)]
 rfl
theorem iZ(x y z r0 r1:Int)(n most:Nat)(h0:1<=n)(hn:n<=3)(hm:most<=20)(h3:3<=most)(q0:-1000000000<=r0)(q1:0<r1)(q2:r0+r1<=1000000000)(z0:0<=z)(z1:z<1000000):∃(bs:List (List St2))(x' z':Int),
  Ew [x,y,z] [.int n,.tup [.int r0,.int r1],.int most]=some (.lst true (bs.map Ae),[x',y,z'])/\bs.length<=most/\(∀b∈bs,b.length=n/\InB r0 r1 most b)/\z<=z'/\z'<=z+300:=by
 obtain⟨a,x1,z2,d1,⟨a0,a1⟩,k1,k2⟩:=Gm x y z 4 (by decide) (by decide) z0 (by omega)
 obtain⟨b,x2,z3,d2,⟨b0,b1⟩,k3,k4⟩:=Gm x1 y z2 ((most:Int)+1) (by omega) (by omega) (by omega) (by omega)
 obtain⟨c,x3,z4,d3,⟨c0,c1⟩,k5,k6⟩:=Gm x2 y z3 3 (by decide) (by decide) (by omega) (by omega)
 obtain⟨m,f1,hmm⟩:∃m:Nat,atI [D.int a,D.int b,D.int most] c=some (.int m)/\m<=most:=by
  have:c=0∨c=1∨c=2:=by omega
  rcases this with rfl|rfl|rfl
  .exact⟨a.toNat,by rw[show((a.toNat:Nat):Int)=a by omega];rfl,by omega⟩
  .exact⟨b.toNat,by rw[show((b.toNat:Nat):Int)=b by omega];rfl,by omega⟩
  .exact⟨most,rfl,U0s _⟩
 have s1:(Bu 4 (eOp oIx (Cg (Aa (Bm Am (Aa (Ab 0) (Aa (eC (.int 4)) Af))) (Aa (Bm Am (Aa (Ab 0) (Aa (eOp Bl (Ab 3) (eC (.int 1))) Af))) (Aa (Ab 3) Af)))) (Bm Am (Aa (Ab 0) (Aa (eC (.int 3)) Af))))) [some (.ref 0),some (.int n),some (.tup [.int r0,.int r1]),some (.int most),none,none,none] [some [.int x,.int y,.int z]]=some (.nx,[some (.ref 0),some (.int n),some (.tup [.int r0,.int r1]),some (.int most),some (.int m),none,none],[some [.int x3,.int y,.int z4]]):=by
  have o1:Bm Am (Aa (Ab 0) (Aa (eC (.int 4)) Af)) [some (.ref 0),some (.int n),some (.tup [.int r0,.int r1]),some (.int most),none,none,none] [some [.int x,.int y,.int z]]=some (.int a,[some [.int x1,.int y,.int z2]]):=HD d1 rfl rfl
  have o2:Bm Am (Aa (Ab 0) (Aa (eOp Bl (Ab 3) (eC (.int 1))) Af)) [some (.ref 0),some (.int n),some (.tup [.int r0,.int r1]),some (.int most),none,none,none] [some [.int x1,.int y,.int z2]]=some (.int b,[some [.int x2,.int y,.int z3]]):=HD d2 rfl rfl
  have o3:Bm Am (Aa (Ab 0) (Aa (eC (.int 3)) Af)) [some (.ref 0),some (.int n),some (.tup [.int r0,.int r1]),some (.int most),none,none,none] [some [.int x2,.int y,.int z3]]=some (.int c,[some [.int x3,.int y,.int z4]]):=HD d3 rfl rfl
  have o4:Cg (Aa (Bm Am (Aa (Ab 0) (Aa (eC (.int 4)) Af))) (Aa (Bm Am (Aa (Ab 0) (Aa (eOp Bl (Ab 3) (eC (.int 1))) Af))) (Aa (Ab 3) Af))) [some (.ref 0),some (.int n),some (.tup [.int r0,.int r1]),some (.int most),none,none,none] [some [.int x,.int y,.int z]]=some (.lst true [.int a,.int b,.int most],[some [.int x2,.int y,.int z3]]):=by
   rw[Ds,Aq,o1,U0c,Aq,o2];rfl
  rw[Cm,BJ,o4,U0c,o3,U0c]
  show(U2n _ (atI [D.int a,D.int b,D.int most] c)).bind _=_
  rw[f1];rfl
 have s2:(Bu 5 (Mv Af)) [some (.ref 0),some (.int n),some (.tup [.int r0,.int r1]),some (.int most),some (.int m),none,none] [some [.int x3,.int y,.int z4]]=some (.nx,[some (.ref 0),some (.int n),some (.tup [.int r0,.int r1]),some (.int most),some (.int m),some (.ref 1),none],[some [.int x3,.int y,.int z4],some []]):=rfl
 have e:Hx (Aa (Ab 4) Af) [some (.ref 0),some (.int n),some (.tup [.int r0,.int r1]),some (.int most),some (.int m),some (.ref 1),none] [some [.int x3,.int y,.int z4],some []]=some ((upD 0 m,[]),[some [.int x3,.int y,.int z4],some []]):=Vu _ rfl (by simp) (by omega) (by omega)
 obtain⟨env',S',e5,bs,x',z',y6,he,hS,hl,hb,k7,k8⟩:=G8 (w:=[]) (g:=Pat.sem (.nm 6)) (b:=Jt) (ds:=upD 0 m) (env:=[some (.ref 0),some (.int n),some (.tup [.int r0,.int r1]),some (.int most),some (.int m),some (.ref 1),none]) (S:=[some [.int x3,.int y,.int z4],some []])
  (fun i env S=>∃(bs:List (List St2))(x' z':Int)(y6:Option D),env=[some (.ref 0),some (.int n),some (.tup [.int r0,.int r1]),some (.int most),some (.int m),some (.ref 1),y6]/\S=[some [.int x',.int y,.int z'],some (bs.map Ae)]/\bs.length=min i m/\(∀b∈bs,b.length=n/\InB r0 r1 (min i m) b)/\z4<=z'/\z'<=z4+11*(min i m:Nat))
  ⟨[],x3,z4,none,rfl,rfl,by simp,(fun b h=>by cases h),by omega,by simp⟩ (fun i env S _=>by simp) (fun i d env S hd q=>by
   obtain⟨bs,x',z',y6,he,hS,hl,hb,k7,k8⟩:=q
   obtain⟨hi,rfl⟩:=NP hd
   have hmi:min i m=i:=by omega
   rw[hmi] at hl hb k8
   subst he hS
   obtain⟨b,x5,z5,hb5,⟨k9,k10⟩,e6⟩:=iu x' y z' r0 r1 n i h0 hn q0 q1 q2 bs (by omega) hb (by omega) (by omega) (some (.int most)) (some (.int m)) (some (.int (0+i)))
   have hmi2:min (i+1) m=i+1:=by omega
   refine⟨_,Dy _ _ _,_,_,e6,bs++[b],x5,z5,_,rfl,rfl,by simp;omega,?_,by omega,by rw[hmi2];omega⟩
   rw[hmi2]
   intro c hc
   rcases U10.mp hc with h|h
   .refine⟨(hb c h).1,fun p hp=>?_⟩
    obtain⟨g1,g2,g3,g4⟩:=(hb c h).2 p hp
    exact⟨g1,g2,g3,by omega⟩
   .rw[U0z.mp h];exact hb5)
 rw[NK,Nat.min_self] at hl hb k8
 subst he hS
 have l1:M8 [some (.ref 0),some (.int n),some (.tup [.int r0,.int r1]),some (.int most),some (.int m),some (.ref 1),none] [some [.int x3,.int y,.int z4],some []]=some (.nx,[some (.ref 0),some (.int n),some (.tup [.int r0,.int r1]),some (.int most),some (.int m),some (.ref 1),y6],[some [.int x',.int y,.int z'],some (bs.map Ae)]):=by
  unfold M8
  rw[Gj,e]
  exact e5
 refine⟨bs,x',z',?_,by omega,fun b h=>⟨(hb b h).1,fun p hp=>?_⟩,by omega,by omega⟩
 .unfold Ew
  rw[Ld]
  simp only[U0g,U1h,U0t,U1w,U2j,U2k,U0x,U1u,U2m,U16,if_true]
  unfold Qu
  rw[Bj s1,Bj s2,Bj l1]
  have hp:=CG (Cq bs)
  simp[Ci,Ay,intsOf,den,-U0e,-U0f,hp]
 .obtain⟨g1,g2,g3,g4⟩:=(hb b h).2 p hp
  exact⟨g1,g2,g3,by omega⟩
end W09
end
section
namespace W09
open PySem L2 VS
theorem cG{n:Nat}{bs:List (List St2)}(g:Good n bs):Wide bs (-1000000000) 2000000000 0 n (U0j bs.length):=fun i hi v _ hv=>by
 have h:=U2x.mp hi
 have hb:=g.box bs[i] (U3a h)
 have h2:v<bs[i].length:=by rw[hb.1];omega
 have e0:bs.getD i []=bs[i]:=by rw[U0o,U0h h];rfl
 have e:at1 bs i v=bs[i][v]:=by
  rw[at1,e0,U0o,U0h h2];rfl
 have:=hb.2 bs[i][v] (U3a h2)
 rw[e]
 omega
theorem Ww{bs:List (List St2)}{A:Int}{N:Nat}:∀(k w:Nat)(ns:List Nat),Wide bs A N w k ns->∀c∈Ba bs k w ns,(∀p∈c.1,p.1<p.2/\A<=p.1/\p.2<=A+N)/\1<=c.2.length/\c.2.length<=ns.length
 |0,w,ns,_,c,h=>by
  rw[Ba] at h
  split at h
  .simp at h
  .rename_i hn
   have:c=([],ns):=by simpa using h
   rw[this]
   exact⟨fun p hp=>by simp at hp,U32.mpr hn,U0s _⟩
 |k+1,w,ns,hw,c,h=>by
  rw[Ba] at h
  split at h
  .simp at h
  .obtain⟨p,h1,h2⟩:=List.mem_flatMap.mp h
   obtain⟨d,h3,rfl⟩:=U12.mp h2
   obtain⟨q1,q2,q3⟩:=Ww k (w+1) _ (hw.sub fun i hi=>(U2h.mp hi).1) d h3
   obtain⟨s1,s2,s3,_⟩:=MP (Ku _) p h1
   refine⟨fun p' hp=>?_,q2,U07 q3 (U4a ..)⟩
   rcases U0w.mp hp with z|z
   .rw[z];exact⟨s1,(Mx hw _ s2).1,(Mx hw _ s3).2⟩
   .exact q1 p' z
def pK(k:Nat)(cs:List (List St2×List Nat)):Prop:=∀c∈cs,(∀p∈c.1,p.1<p.2/\-1000000000<=p.1/\p.2<=1000000000)/\1<=c.2.length/\c.2.length<=k
theorem LK{n:Nat}{bs:List (List St2)}(g:Good n bs):pK bs.length (Ba bs n 0 (U0j bs.length)):=fun c hc=>by
 obtain⟨h1,h2,h3⟩:=Ww n 0 _ (cG g) c hc
 exact⟨fun p hp=>by have:=h1 p hp;omega,h2,by simpa using h3⟩
def maxLen(cs:List (List St2×List Nat)):Nat:=((Hf (cs.map fun c=>(c.2.length:Int))).getD 0).toNat
theorem Pg(cs:List (List St2×List Nat)):(∀c∈cs,c.2.length<=maxLen cs)/\(maxLen cs=0∨∃c∈cs,c.2.length=maxLen cs)/\(Hf (cs.map fun c=>(c.2.length:Int))).getD 0=maxLen cs:=by
 unfold maxLen
 cases h:Hf (cs.map fun c=>(c.2.length:Int)) with
 |none =>
  have:cs=[]:=by
   cases cs with
   |nil=>rfl
   |cons a r=>simp[Hf] at h
  subst this
  exact⟨(fun c hc=>by cases hc),.inl rfl,rfl⟩
 |some m =>
  obtain⟨g1,g2⟩:=QW h
  obtain⟨c,hc,e⟩:=U12.mp g1
  refine⟨fun d hd=>?_,.inr ⟨c,hc,?_⟩,?_⟩
  .have:=g2 _ (U6g (f:=fun c:List St2×List Nat=>(c.2.length:Int)) hd)
   show d.2.length<=m.toNat
   omega
  .show c.2.length=m.toNat
   omega
  .show m=(m.toNat:Int)
   omega
theorem nM{acc:List Int}{i:Nat}(hi:i<acc.length):atI (acc.map D.int) (i:Int)=some (.int (acc.getD i 0)):=by
 refine Lh ?_
 rw[U04,U0h hi,U0o,U0h hi];rfl
theorem dz(C:D)(acc:List Int)(c:List St2×List Nat)(hc:∀p∈c.1,p.1<p.2/\-1000000000<=p.1/\p.2<=1000000000)(h1:1<=c.2.length)(h2:c.2.length<=acc.length)(z4:Option D) :
  Gg [some C,some (.ref 0),some (Ae c.1),some (Bt false c.2),z4] [some (acc.map .int)]=some (.nx,[some C,some (.ref 0),some (Ae c.1),some (Bt false c.2),some (.int c.2.length)],[some ((Dl acc c).map .int)]):=by
 have s1:(Bu 4 (eCB Du (Aa (Ab 3) Af))) [some C,some (.ref 0),some (Ae c.1),some (Bt false c.2),z4] [some (acc.map .int)]=some (.nx,[some C,some (.ref 0),some (Ae c.1),some (Bt false c.2),some (.int c.2.length)],[some (acc.map .int)]):=by
  simp[Cm,Ay,CT,Aq,Eh,Du,VS.listOf,Bx,-U0e,-U0f,Bt]
 have hs:=Y9 c.1 hc
 rw[ji] at hs
 have hi:c.2.length-1<acc.length:=by omega
 have e1:((c.2.length:Int)-1)=((c.2.length-1:Nat):Int):=by omega
 have i0:eOp Im (Ab 4) (eC (.int 1)) [some C,some (.ref 0),some (Ae c.1),some (Bt false c.2),some (.int c.2.length)] [some (acc.map .int)]=some (.int (c.2.length-1:Nat),[some (acc.map .int)]):=by
  rw[←e1];rfl
 have v1:Ab 1 [some C,some (.ref 0),some (Ae c.1),some (Bt false c.2),some (.int c.2.length)] [some (acc.map .int)]=some (.ref 0,[some (acc.map .int)]):=rfl
 have i1:eOp oIx (Ab 1) (eOp Im (Ab 4) (eC (.int 1))) [some C,some (.ref 0),some (Ae c.1),some (Bt false c.2),some (.int c.2.length)] [some (acc.map .int)]=some (.int (acc.getD (c.2.length-1) 0),[some (acc.map .int)]):=by
  rw[BJ,v1,U0c,i0,U0c]
  show U2n _ (atI (acc.map D.int) ((c.2.length-1:Nat):Int))=_
  rw[nM hi];rfl
 have c1:BK G9 (Aa (Ab 2) Af) [some C,some (.ref 0),some (Ae c.1),some (Bt false c.2),some (.int c.2.length)] [some (acc.map .int)]=some (.int (Gv c.1),[some (acc.map .int)]) :=
  Dn (ds:=[Ae c.1]) (es:=[Ae c.1]) rfl (by simp[Az,Uo]) (by simp[Bk]) hs
 unfold Gg
 rw[Bj s1,JQ,BJ,i1,U0c,c1,U0c]
 simp only[Bl,U7d,U0c]
 rw[v1,U0c,i0,U0c]
 show(ixN (acc.map D.int).length ((c.2.length-1:Nat):Int)).bind _=_
 rw[U0l,NZ hi]
 show some (Fl.nx,_,[some ((acc.map D.int).set (c.2.length-1) (.int (acc.getD (c.2.length-1) 0+Gv c.1)))])=_
 rw[←List.map_set];rfl
theorem fK(n:Nat):(U0m n [D.int 0]).flatten=(U0m n (0:Int)).map D.int:=by
 rw[List.map_replicate]
 induction n with
 |zero=>rfl
 |succ n ih=>rw[U0x,U3x,ih,U0x];rfl
theorem e63:((2^63:Nat):Int)=(2:Int)^63:=(Int.natCast_pow 2 63).trans (congrArg (fun z:Int=>z^63) (show((2:Nat):Int)=2 from rfl))
theorem qG{n:Nat}(hn:n<=1000):n<2^63:=U3o hn (by decide)
theorem qF{n:Nat}(hn:n<=1000):(n:Int)<(2:Int)^63:=by rw[←e63];exact Int.ofNat_lt.mpr (qG hn)
theorem qC{n:Nat}:-(2:Int)^63<=(n:Int):=by rw[←e63];exact Int.le_trans (Int.neg_nonpos_of_nonneg (Int.natCast_nonneg _)) (Int.natCast_nonneg _)
theorem uJ{n:Nat}{ds:List D}{r:Option (D×Store)}(hl:ds.length*n<=1000000)(hn:n<=1000):(if -(2^63)<=(n:Int)/\(n:Int)<2^63/\ds.length*(n:Int).toNat<=1000000 then r else none)=r:=if_pos ⟨qC,qF hn,by rw[U2w];exact hl⟩
theorem pq{a b:Aw}{env:VS.Env}{S S1 S2:Store}{n:Nat}{ds:List D}{d:D}(ha:a env S=some (d,S1))(hd:VS.listOf S2 d=some ds)(hb:b env S1=some (.int n,S2))(hl:ds.length*n<=1000000)(hn:n<=1000):Ro a b env S=some (.ref S2.length,S2++[some (U0m n ds).flatten]):=by
 rw[iG,ha,U0c,hb,U0c]
 show(VS.listOf S2 d).bind _=_
 rw[hd,U0c,uJ hl hn,U2w]
theorem V9:∀cs:List (List St2×List Nat),Bk (cs.map encC)=cs.map encC
 |[]=>by rw[U1w,Bk]
 |c::r=>by rw[U0t,Bk,iy,V9 r]
theorem dw(cs:List (List St2×List Nat))(hl:cs.length<=100000)(e1 e2 e3 e4:Option D)(S:Store):Fx [some (.lst false (cs.map encC)),e1,e2,e3,e4] S=some ((cs.map fun c=>(c.2.length:Int)).map .int,S):=by
 have e:Ec (Ab 0) [some (.lst false (cs.map encC)),e1,e2,e3,e4] S=some ((cs.map encC,[]),S):=rfl
 unfold Fx Ea
 rw[e]
 simp only[U0c]
 rw[Nb (by simp) encC (fun c=>.int c.2.length) cs (by omega),U0e]
 .rfl
 .intro c hc
  exact⟨[some (Ae c.1),some (Bt false c.2)],by simp[JB,Dy,K9,Hi,Gp,U0x,-U0e,-U0f,encC],by simp[Ay,CT,Aq,Eh,Du,VS.listOf,Bx,-U0e,-U0f,Bt]⟩
theorem dj(cs:List (List St2×List Nat))(k:Nat)(hk:k<=20)(hl:cs.length<=100000)(hf:pK k cs):Dr [.lst false (cs.map encC)]=some (.lst true ((cs.foldl Dl (U0m (maxLen cs) 0)).map .int)):=by
 obtain⟨m1,m2,m3⟩:=Pg cs
 have mk:maxLen cs<=20:=by
  rcases m2 with h|⟨c,hc,h⟩
  .omega
  .have:=(hf c hc).2.2;omega
 have c1:=dw cs hl none none none none []
 have t1:Rq 0 (Cg Fx) [some (.lst false (cs.map encC)),none,none,none,none] []=some (.int (maxLen cs),[]):=by
  rw[iI,Ds,c1]
  show((intsOf ((cs.map fun c=>(c.2.length:Int)).map D.int)).map _)=_
  rw[Jj]
  show some (D.int ((Hf (cs.map fun c=>(c.2.length:Int))).getD 0),([]:Store))=_
  rw[m3]
 have t2:(Cg (Aa (eC (.int 0)) Af)) [some (.lst false (cs.map encC)),none,none,none,none] []=some (.lst true [.int 0],[]):=rfl
 have s1:(Bu 1 (Ro (Cg (Aa (eC (.int 0)) Af)) (Rq 0 (Cg Fx)))) [some (.lst false (cs.map encC)),none,none,none,none] []=some (.nx,[some (.lst false (cs.map encC)),some (.ref 0),none,none,none],[some ((U0m (maxLen cs) (0:Int)).map .int)]):=by
  rw[Cm,pq t2 rfl t1 (by simp;omega) (by omega),fK]
  rfl
 have l1:∃z2 z3 z4,Ip [some (.lst false (cs.map encC)),some (.ref 0),none,none,none] [some ((U0m (maxLen cs) (0:Int)).map .int)]=some (.nx,[some (.lst false (cs.map encC)),some (.ref 0),z2,z3,z4],[some ((cs.foldl Dl (U0m (maxLen cs) 0)).map .int)]):=by
  have e:Ec (Ab 0) [some (.lst false (cs.map encC)),some (.ref 0),none,none,none] [some ((U0m (maxLen cs) (0:Int)).map .int)]=some ((cs.map encC,[]),[some ((U0m (maxLen cs) (0:Int)).map .int)]):=rfl
  unfold Ip
  rw[Gj,e]
  obtain⟨env',S',e2,z2,z3,z4,he,hS⟩:=G8 (w:=[]) (g:=Pat.sem (.tp [(.nm 2),(.nm 3)])) (b:=Gg) (ds:=cs.map encC) (env:=[some (.lst false (cs.map encC)),some (.ref 0),none,none,none]) (S:=[some ((U0m (maxLen cs) (0:Int)).map .int)])
   (fun i env S=>∃z2 z3 z4,env=[some (.lst false (cs.map encC)),some (.ref 0),z2,z3,z4]/\S=[some (((cs.take i).foldl Dl (U0m (maxLen cs) 0)).map .int)])
   ⟨none,none,none,rfl,rfl⟩ (fun i env S _=>by simp) (fun i d env S hd q=>by
    obtain⟨z2,z3,z4,he,hS⟩:=q
    subst he hS
    rw[U04] at hd
    obtain⟨c,hc,rfl⟩:=U26.mp hd
    have hm:=U1j hc
    obtain⟨q1,q2,_⟩:=hf c hm
    refine⟨[some (.lst false (cs.map encC)),some (.ref 0),some (Ae c.1),some (Bt false c.2),z4],by simp[Dy,K9,Hi,Gp,-U0e,-U0f,encC],_,_,dz _ _ c q1 q2 (by rw[KJ,U1e];exact m1 c hm) z4,_,_,_,rfl,?_⟩
    rw[U5u,hc,U6n,U4d]
    rfl)
  subst he hS
  refine⟨z2,z3,z4,e2.trans ?_⟩
  have:(cs.map encC).length=cs.length:=by simp
  rw[this,U4s]
 obtain⟨z2,z3,z4,l1⟩:=l1
 unfold Dr
 rw[Dg]
 simp only[U0g,U1h,U0t,U1w,U2j,U2k,U0x,U1u,U2m,U16,if_true]
 unfold MJ
 rw[Bj s1,Bj l1]
 generalize cs.foldl Dl (U0m (maxLen cs) 0)=l
 simp[Ci,Ay,den,-U0e,-U0f]
end W09
end
section
namespace W09
open PySem L2 VS
theorem XJ{n:Nat}{bs:List (List St2)}(g:Good n bs):Eb [Ao false n bs,.int n]=some .non:=by
 have h1:=XM (m:=false) g
 have s1:(J8 (BK Fp (Aa (Ab 0) Af))) [some (Ao false n bs),some (.int n)] []=some (.nx,[some (Ao false n bs),some (.int n)],[]):=by
  rw[Lb,Dn (ds:=[Ao false n bs]) (es:=[Ao false n bs]) (S':=[]) rfl (by simp[Az,BW,Ao]) (by simp[Bk,age,Ao]) h1];rfl
 have t2:Bf (eOp (oEq true) (eOp oIx (Ab 0) (eC (.int 0))) (Ab 1)) [some (Ao false n bs),some (.int n)] []=some (false,[]):=by
  simp[Ay,EY,BJ,Cr,oEq,oIx,VS.listOf,Bx,-U0e,-U0f,Ao]
 unfold Eb
 rw[Dg]
 simp only[U0g,U1h,U0t,U1w,U2j,U2k,U1u,U3f,if_true]
 unfold Qp
 rw[Bj s1,Ht t2];rfl
theorem aF{n:Nat}{bs:List (List St2)}(g:Good n bs){r:VS.Env}{a:Aw}(h0:r[0]?=some (some (Ao false n bs)))(ha:a r []=some (.int n,[])):(J8 (BK Eb (Aa (Ab 0) (Aa a Af)))) r []=some (.nx,r,[]):=by
 rw[Lb,Dn (ds:=[Ao false n bs,.int n]) (es:=[Ao false n bs,.int n]) (S':=[]) (by simp[Aq,CT,Ay,h0,ha]) (by simp[Az,BW,Ao]) (by simp[Bk,age,Ao]) (XJ g)];rfl
end W09
end
section
namespace W09
open PySem L2 VS
theorem RN{n:Nat}:ixN (n+1) (-1)=some n:=by
 unfold ixN
 rw[if_neg (by omega),if_pos (by omega)]
 congr 1
 omega
theorem Ra{α:Type}(l:List α)(a:α):atI (l++[a]) (-1)=some a:=by
 unfold atI
 rw[U0q,U0g,U1h,RN,U0c]
 simp
theorem sU{b:List St2}{w:Nat}(h:w<b.length):atI (b.map Ag) (w:Int)=some (Ag (b.getD w (0,0))):=by
 refine Lh ?_
 rw[U04,U0h h,U0o,U0h h];rfl
end W09
end
section
namespace W09
open PySem L2 VS
theorem lY{r:VS.Env}{L:List D}{d:D}(h1:r[1]?=some (some (.ref 0))):eOp oIx (Ab 1) (eUn FN (eC (.int 1))) r [some (L++[d])]=some (d,[some (L++[d])]):=by
 have v1:Ab 1 r [some (L++[d])]=some (.ref 0,[some (L++[d])]):=by simp[Ay,h1]
 rw[BJ,v1,U0c]
 show U2n _ (atI (L++[d]) (-1))=_
 rw[Ra];rfl
theorem gW{r:VS.Env}{L:List D}{d e:D}{v:Aw}(h1:r[1]?=some (some (.ref 0)))(hv:v r [some (L++[d])]=some (e,[some (L++[d])])):Jd v (Ab 1) (eUn FN (eC (.int 1))) r [some (L++[d])]=some (.nx,r,[some (L++[e])]):=by
 have v1:Ab 1 r [some (L++[d])]=some (.ref 0,[some (L++[d])]):=by simp[Ay,h1]
 rw[JQ,hv,U0c,v1,U0c]
 show(ixN (L++[d]).length (-1)).bind _=_
 rw[U0q,U0g,U1h,RN]
 show some (Fl.nx,r,[some ((L++[d]).set L.length e)])=_
 rw[U58 _ _ (U0s _)];simp
theorem sW{r:VS.Env}{L:List D}{d:D}{a:Aw}{j:Nat}(h1:r[j]?=some (some (.ref 0)))(ha:a r [some L]=some (d,[some L]))(hl:L.length<1000000):J8 (Hu GJ (Ab j) (Aa a Af)) r [some L]=some (.nx,r,[some (L++[d])]):=by
 rw[Lb,QT (d:=.ref 0) (cs:=L) (ds:=[d]) (r:=.non) (S1:=[some L]) (S2:=[some L]) (S3:=[some (L++[d])]) (by simp[Ay,h1]) rfl (by rw[Aq,ha];rfl) (by
  show(if L.length<1000000 then some (D.non,[some (L++[d])]) else none)=_
  rw[if_pos hl])]
 rfl
theorem rA{r:VS.Env}{L:List D}(h1:r[1]?=some (some (.ref 0))):Bf (eOp oGt (eCB Du (Aa (Ab 1) Af)) (eC (.int 0))) r [some L]=some (decide (0<(L.length:Int)),[some L]):=by
 have v1:Ab 1 r [some L]=some (.ref 0,[some L]):=by simp[Ay,h1]
 rw[Cr,BJ,Eh,Aq,v1]
 rfl
theorem m9(C:D)(acc:List St2)(p:St2)(hl:acc.length<1000000):Mh [some C,some (.ref 0),some (.int p.1),some (.int p.2)] [some (acc.map Ag)]=some (.nx,[some C,some (.ref 0),some (.int p.1),some (.int p.2)],[some ((Bp acc p).map Ag)]):=by
 have a1:∀S,(Bw (Aa (Ab 2) (Aa (Ab 3) Af))) [some C,some (.ref 0),some (.int p.1),some (.int p.2)] S=some (Ag p,S):=fun S=>rfl
 have add:=sW (r:=[some C,some (.ref 0),some (.int p.1),some (.int p.2)]) (j:=1) rfl (a1 [some (acc.map Ag)]) (by rw[U0l];exact hl)
 have lg:=rA (r:=[some C,some (.ref 0),some (.int p.1),some (.int p.2)]) (L:=acc.map Ag) rfl
 unfold Mh
 rcases U5 acc with rfl|⟨l,q,rfl⟩
 .rw[Ht (by rw[QJ,lg];rfl),add];rfl
 .rw[U5a] at *
  rw[U11] at *
  have la:=lY (r:=[some C,some (.ref 0),some (.int p.1),some (.int p.2)]) (L:=l.map Ag) (d:=Ag q) rfl
  have t2:Bf (eOp (oEq false) (eOp oIx (eOp oIx (Ab 1) (eUn FN (eC (.int 1)))) (eC (.int 1))) (Ab 2)) [some C,some (.ref 0),some (.int p.1),some (.int p.2)] [some (l.map Ag++[Ag q])]=some (decide (q.2=p.1),[some (l.map Ag++[Ag q])]):=by
   rw[Cr,BJ,BJ,la]
   simp[Ay,EY,oEq,oIx,VS.listOf,Bx,-U0e,-U0f,Ag]
  have t1:Nh (Bf (eOp oGt (eCB Du (Aa (Ab 1) Af)) (eC (.int 0)))) (Bf (eOp (oEq false) (eOp oIx (eOp oIx (Ab 1) (eUn FN (eC (.int 1)))) (eC (.int 1))) (Ab 2))) [some C,some (.ref 0),some (.int p.1),some (.int p.2)] [some (l.map Ag++[q].map Ag)]=some (decide (q.2=p.1),[some (l.map Ag++[q].map Ag)]):=by
   rw[QJ,lg,decide_eq_true (by simp)]
   exact t2
  have v1:(Bw (Aa (eOp oIx (eOp oIx (Ab 1) (eUn FN (eC (.int 1)))) (eC (.int 0))) (Aa (Ab 3) Af))) [some C,some (.ref 0),some (.int p.1),some (.int p.2)] [some (l.map Ag++[Ag q])]=some (Ag (q.1,p.2),[some (l.map Ag++[Ag q])]):=by
   rw[GQ,Aq,BJ,la]
   simp[Ay,EY,CT,Aq,oIx,VS.listOf,Bx,-U0e,-U0f,Ag]
  unfold Bp
  rw[List.getLast?_append]
  by_cases h:q.2=p.1
  .rw[N8 (by rw[t1,decide_eq_true h])]
   show _=some (Fl.nx,_,[some ((if q.2=p.1 then (l++[q]).dropLast++[(q.1,p.2)] else l++[q]++[p]).map Ag)])
   rw[if_pos h,List.dropLast_concat,U11]
   exact gW rfl v1
  .rw[Ht (by rw[t1,decide_eq_false h]),add]
   show _=some (Fl.nx,_,[some ((if q.2=p.1 then (l++[q]).dropLast++[(q.1,p.2)] else l++[q]++[p]).map Ag)])
   rw[if_neg h,U11,U11];rfl
theorem Q5(acc:List St2)(p:St2):(Bp acc p).length<=acc.length+1:=by
 unfold Bp
 split
 .split
  .rw[U0q,List.length_dropLast];simp
  .simp
 .simp
theorem Wd:∀l:List St2,(l.foldl Bp []).length<=l.length:=by
 have:∀(l acc:List St2),(l.foldl Bp acc).length<=acc.length+l.length:=by
  intro l
  induction l with
  |nil=>intro acc;simp
  |cons p r ih=>intro acc;have:=ih (Bp acc p);have:=Q5 acc p;simp only[U2z,U0g];omega
 intro l
 simpa using this l []
theorem bf(l:List St2)(hl:l.length<=100000):Hz [.lst false (l.map Ag)]=some (.lst true ((l.foldl Bp []).map Ag)):=by
 have s1:(Bu 1 (Mv Af)) [some (.lst false (l.map Ag)),none,none,none] []=some (.nx,[some (.lst false (l.map Ag)),some (.ref 0),none,none],[some []]):=rfl
 have l1:∃z2 z3,Ph [some (.lst false (l.map Ag)),some (.ref 0),none,none] [some []]=some (.nx,[some (.lst false (l.map Ag)),some (.ref 0),z2,z3],[some ((l.foldl Bp []).map Ag)]):=by
  have e:Ec (Ab 0) [some (.lst false (l.map Ag)),some (.ref 0),none,none] [some []]=some ((l.map Ag,[]),[some []]):=rfl
  unfold Ph
  rw[Gj,e]
  obtain⟨env',S',e2,z2,z3,he,hS⟩:=G8 (w:=[]) (g:=Pat.sem (.tp [(.nm 2),(.nm 3)])) (b:=Mh) (ds:=l.map Ag) (env:=[some (.lst false (l.map Ag)),some (.ref 0),none,none]) (S:=[some []])
   (fun i env S=>∃z2 z3,env=[some (.lst false (l.map Ag)),some (.ref 0),z2,z3]/\S=[some (((l.take i).foldl Bp []).map Ag)])
   ⟨none,none,rfl,rfl⟩ (fun i env S _=>by simp) (fun i d env S hd q=>by
    obtain⟨z2,z3,he,hS⟩:=q
    subst he hS
    rw[U04] at hd
    obtain⟨p,hp,rfl⟩:=U26.mp hd
    have:=Wd (l.take i)
    rw[U24] at this
    refine⟨[some (.lst false (l.map Ag)),some (.ref 0),some (.int p.1),some (.int p.2)],by simp[Dy,K9,Hi,Gp,-U0e,-U0f,Ag],_,_,m9 _ _ p (by omega),_,_,rfl,?_⟩
    rw[U5u,hp,U6n,U4d]
    rfl)
  subst he hS
  refine⟨z2,z3,e2.trans ?_⟩
  have:(l.map Ag).length=l.length:=by simp
  rw[this,U4s]
 obtain⟨z2,z3,l1⟩:=l1
 unfold Hz
 rw[Dg]
 simp only[U0g,U1h,U0t,U1w,U2j,U2k,U0x,U1u,U2m,U16,if_true]
 unfold Wn
 rw[Bj s1,Bj l1]
 generalize l.foldl Bp []=k
 have hd:∀(n:Nat)(S:Store),Cu n S (k.map Ag)=some (k.map Ag):=fun n S=>Ck n S (CG (Ek _ fun p _=>Dp p))
 have hp:Az (k.map Ag)=true:=CG (Ek _ fun p _=>Dp p)
 simp[Ci,Ay,den,-U0e,-U0f,hd,hp]
end W09
end
section
namespace W09
open PySem L2 VS
abbrev Ai(ps:List St2):List (List St2):=ps.map fun p=>[p]
theorem Yi{ps:List St2}(hf:ps.length<=20)(h:∀p∈ps,p.1<p.2/\-1000000000<=p.1/\p.2<=1000000000):Good 1 (Ai ps) :=
 ⟨.inl rfl,by rw[U0l];exact hf,fun b hb=>by
  obtain⟨p,hp,rfl⟩:=U12.mp hb
  exact⟨rfl,fun q hq=>by rw[U0z.mp hq];exact h p hp⟩⟩
theorem aV{ps:List St2}{i:Nat}(hi:i<ps.length):at1 (Ai ps) i 0=ps[i]:=by
 have e:(Ai ps).getD i []=[ps[i]]:=by rw[U0o,U04,U0h hi];rfl
 rw[at1,e];rfl
theorem Wm(ps:List St2)(x:Int):(Dh (Ai ps) 0 x (U0j (Ai ps).length)).length=(ps.filter fun p=>inS p x).length:=by
 have e:ps=(U0j ps.length).map fun i=>ps.getD i (0,0):=by
  refine List.ext_getElem (by simp) fun i h1 h2=>?_
  simp[U0h h1]
 have h:(ps.filter fun p=>inS p x)=((U0j ps.length).filter fun i=>inS (ps.getD i (0,0)) x).map fun i=>ps.getD i (0,0):=by
  conv=>lhs;rw[e]
  rw[List.filter_map];rfl
 rw[h,U0l,U0l]
 unfold Dh
 congr 1
 refine U6x fun i hi=>?_
 have hl:=U2x.mp hi
 rw[aV hl,U0o,U0h hl];rfl
end W09
end
section
namespace W09
open PySem L2 VS
theorem Tp(ws:List Nat)(w:Nat)(xs:List PyData)(hl:xs.length<=w)(h:∀x∈xs,fit ws x=true):fit (w::ws) (.list xs)=true/\fit (w::ws) (.tuple xs)=true:=by
 have a:xs.all (fit ws)=true:=U3l.mpr h
 simp[fit,hl,a]
theorem QL{S:Store}{d:D}{p:PyData}{ws:List Nat}(h:Ce S d=some p)(hf:fit ws p=true)(hw:ws.length<=50)(hb:bnd ws<=1000000):FT S [d]=some (.str p.shown):=by
 obtain⟨f1,f2,f3⟩:=aN ws p hf
 show(Ce S d).bind _=_
 rw[h,U0c]
 have:(p.showable&&decide (p.depth<=60)&&decide (p.shown.length<=1000000))=true:=by
  rw[U00,U00]
  exact⟨⟨f1,decide_eq_true (by omega)⟩,decide_eq_true (by omega)⟩
 rw[if_pos this]
theorem uy{p:St2}(h:-10000000000<=p.1/\p.1<=10000000000/\-10000000000<=p.2/\p.2<=10000000000):fit [2] (pS p)=true:=by
 have lf:∀a:Int,-10000000000<=a->a<=10000000000->fit [] (.int a)=true:=fun a h1 h2=>decide_eq_true (by
  show a.natAbs<10^41
  exact U3o (m:=10000000000) (by omega) (by decide))
 refine(Tp [] 2 [.int p.1,.int p.2] (by simp) fun x hx=>?_).2
 rcases U0w.mp hx with z|z
 .rw[z];exact lf _ h.1 h.2.1
 .rw[U0z.mp z];exact lf _ h.2.2.1 h.2.2.2
def jK(l:List St2):Prop:=∀p∈l,-10000000000<=p.1/\p.1<=10000000000/\-10000000000<=p.2/\p.2<=10000000000
theorem rQ{l:List St2}(hl:l.length<=200)(h:jK l):fit [200,2] (.list (l.map pS))=true:=by
 refine(Tp [2] 200 _ (by simpa using hl) fun x hx=>?_).1
 obtain⟨p,hp,rfl⟩:=U12.mp hx
 exact uy (h p hp)
theorem Oq(S:Store)(m:Bool)(l:List St2):Ce S (.lst m (l.map Ag))=some (.list (l.map pS)):=by
 have hp:Az (l.map Ag)=true:=CG (Ek _ fun p _=>Dp p)
 have:HX (l.map Ag)=some (l.map pS):=by
  induction l with
  |nil=>rfl
  |cons p r ih=>rw[U0t,HX,RD,ih (CG (Ek _ fun p _=>Dp p))];rfl
 rw[Ce,den,Ck 0 S hp]
 show toP (.lst m (l.map Ag))=_
 rw[toP,this];rfl
theorem Zw{S:Store}{i:Nat}{l:List St2}(h:S[i]?=some (some (l.map Ag))):Ce S (.ref i)=some (.list (l.map pS)):=by
 have hp:Az (l.map Ag)=true:=CG (Ek _ fun p _=>Dp p)
 have:=Oq S true l
 rw[Ce,den,Ck 0 S hp] at this
 rw[Ce,den,if_neg (by omega),h]
 show(if Az (l.map Ag)=true then some (D.lst true (l.map Ag)) else none).bind toP=_
 rw[if_pos hp]
 exact this
theorem aH(l:List St2):lev 2 (.list (l.map pS))=true:=by
 show(l.map pS).all (lev 1)=true
 rw[U3l]
 intro x hx
 obtain⟨p,_,rfl⟩:=U12.mp hx
 exact aG 0 p
def pck(ps:List St2)(k:Nat):List St2:=(Iw (Ai ps) (U0j (Ai ps).length) k).foldl Bp []
theorem mQ{bs:List (List St2)}(g:Good 1 bs)(k:Nat)(hk:1<=k):K4 [some (Ao false 1 bs),some (.int k)] []=some ((Iw bs (U0j bs.length) k).map Ag,[]):=by
 have few:=g.few
 have hl:=Ii (bs:=bs) 1 0 (U0j bs.length) (by simpa using few)
 have hf:=LK g
 have hd:=fun c=>Mp (bs:=bs) 1 0 (U0j bs.length) c
 have hh:=OD bs (U0j bs.length) k hk
 have c2:BK Dj (Aa (Ab 0) Af) [some (Ao false 1 bs),some (.int k)] []=some (.lst true ((Ba bs 1 0 (U0j bs.length)).map encC),[]) :=
  Dn (ds:=[Ao false 1 bs]) (es:=[Ao false 1 bs]) (S':=[]) rfl (by simp[Az,BW,Ao]) (by simp[Bk,age,Ao]) (Wv g)
 rw[←hh]
 generalize Ba bs 1 0 (U0j bs.length)=cs at *
 have e:Ec (BK Dj (Aa (Ab 0) Af)) [some (Ao false 1 bs),some (.int k)] []=some ((cs.map encC,[]),[]):=by
  rw[Gz,c2];rfl
 have ec:JB 2 [1] [some (Ao false 1 bs),some (.int k)]=[none,none,some (.int k)]:=rfl
 unfold K4 Ea
 rw[e,ec]
 simp only[U0c]
 rw[Lg (by simp) encC (fun c=>decide (k<=c.2.length)) (fun c=>Ag (c.1.getD 0 (0,0))) cs [] (by simp;omega)]
 .rw[U16,U0e];rfl
 .intro c hc
  have h2:=hd c hc
  refine⟨[some (Ae c.1),some (Bt false c.2),some (.int k)],by simp[Dy,K9,Hi,Gp,-U0e,-U0f,encC],?_,fun _=>?_⟩
  .simp[Ay,BJ,CT,Aq,Eh,Cr,oI,Ge,oGe,Du,VS.listOf,Bx,-U0e,-U0f,Bt]
  .show U2n _ (atI (c.1.map Ag) ((0:Nat):Int))=_
   rw[sU (by omega)];rfl
theorem Wi{bs:List (List St2)}(g:Good 1 bs)(k:Nat)(hk:1<=k):(Iw bs (U0j bs.length) k).length<=40:=by
 have few:=g.few
 have hl:=Ii (bs:=bs) 1 0 (U0j bs.length) (by simpa using few)
 rw[←OD bs (U0j bs.length) k hk,U0l]
 exact U07 (U4a ..) (by omega)
theorem RJ(m:Bool)(n:Nat)(bs:List (List St2))(k:Int):Az [Ao m n bs,.int k]=true:=by simp[Az,BW,Ao,CG (Cq bs)]
theorem UG(m:Bool)(n:Nat)(bs:List (List St2))(k:Int):Bk [Ao m n bs,.int k]=[Ao false n bs,.int k]:=by simp[Bk,age,Ao]
theorem Wb{ps:List St2}(g:Good 1 (Ai ps))(k:Nat)(hk:1<=k):Bb [Ao false 1 (Ai ps),.int k]=some (.lst true ((pck ps k).map Ag)):=by
 have c1:=mQ g k hk
 have s1:=aF g (r:=[some (Ao false 1 (Ai ps)),some (.int k)]) (a:=eC (.int 1)) rfl rfl
 have hf:=Wi g k hk
 unfold pck
 generalize Iw (Ai ps) (U0j (Ai ps).length) k=l at *
 have h3:=bf l (by omega)
 have hp:∀k:List St2,Az (k.map Ag)=true:=fun k=>CG (Ek _ fun p _=>Dp p)
 have ag:∀k:List St2,Bk (k.map Ag)=k.map Ag:=fun k=>Gs (Ek _ fun p _=>Dp p)
 have h4:Dw [Ao false 1 (Ai ps),.int k]=some (.lst true ((l.foldl Bp []).map Ag)):=by
  unfold Dw
  rw[Dg]
  simp only[U0g,U1h,U0t,U1w,U2j,U2k,U1u,U3f,if_true]
  unfold Od
  rw[Ci,Dn (ds:=[.lst true (l.map Ag)]) (es:=[.lst false (l.map Ag)]) (S':=[]) (by rw[Aq,Ds,c1];rfl) (by rw[Az,BW,hp,Az];rfl) (by rw[Bk,age,ag,Bk]) h3]
  show den 0 _ (.lst true _)=_
  rw[den,Ck 0 _ (hp _)];rfl
 have c4:BK Dw (Aa (Ab 0) (Aa (Ab 1) Af)) [some (Ao false 1 (Ai ps)),some (.int k)] []=some (.lst true ((l.foldl Bp []).map Ag),[]) :=
  Dn (ds:=[Ao false 1 (Ai ps),.int k]) (es:=[Ao false 1 (Ai ps),.int k]) (S':=[]) rfl (RJ ..) (UG ..) h4
 have cw:BK Dd (Aa (Ab 1) Af) [some (Ao false 1 (Ai ps)),some (.int k)] []=some (.bl true,[]) :=
  Dn (ds:=[.int k]) (es:=[.int k]) (S':=[]) rfl (by simp[Az,BW]) (by simp[Bk,age]) (M9 k)
 have ts:(VS.tOr (VS.Il (Bf (BK Dd (Aa (Ab 1) Af)))) (Bf (eOp oLt (Ab 1) (eC (.int 1))))) [some (Ao false 1 (Ai ps)),some (.int k)] []=some (false,[]):=by
  have:Bf (eOp oLt (Ab 1) (eC (.int 1))) [some (Ao false 1 (Ai ps)),some (.int k)] []=some (decide ((k:Int)<1),[]):=rfl
  rw[Rt,QH,Cr,cw]
  simp only[U0c,U4w,U1n,if_false]
  show Bf (eOp oLt (Ab 1) (eC (.int 1))) [some (Ao false 1 (Ai ps)),some (.int k)] []=_
  rw[this,decide_eq_false (by omega)]
 unfold Bb
 rw[Dg]
 simp only[U0g,U1h,U0t,U1w,U2j,U2k,U1u,U3f,if_true]
 unfold Km
 rw[Bj s1,GF,Ht ts]
 show((Cw (BK Dw (Aa (Ab 0) (Aa (Ab 1) Af)))) [some (Ao false 1 (Ai ps)),some (.int k)] []).bind _=_
 rw[Ci,c4]
 show den 0 _ (.lst true _)=_
 rw[den,Ck 0 _ (hp _)];rfl
theorem PK:∀is:List Int,HX (is.map D.int)=some (is.map .int)
 |[]=>rfl
 |i::r=>by rw[U0t,HX,toP,PK r];rfl
theorem au(S:Store)(m:Bool)(is:List Int):Ce S (.lst m (is.map .int))=some (.list (is.map .int)):=by
 rw[Ce,den,Ck 0 S (Ji is)]
 show toP (.lst m (is.map .int))=_
 rw[toP,PK];rfl
def oft(ps:List St2):List Int:=(Ba (Ai ps) 1 0 (U0j (Ai ps).length)).foldl Dl (U0m (maxLen (Ba (Ai ps) 1 0 (U0j (Ai ps).length))) 0)
theorem Zf{ps:List St2}(g:Good 1 (Ai ps)):DW [Ao false 1 (Ai ps)]=some (.lst true ((oft ps).map .int)):=by
 have few:=g.few
 have hl:=Ii (bs:=Ai ps) 1 0 (U0j (Ai ps).length) (by simpa using few)
 have h2:=Wv g
 have h3:=dj _ _ few (by omega) (LK g)
 have s1:=aF g (r:=[some (Ao false 1 (Ai ps))]) (a:=eC (.int 1)) rfl rfl
 unfold oft
 generalize Ai ps=bs at *
 have c2:BK Dj (Aa (Ab 0) Af) [some (Ao false 1 bs)] []=some (.lst true ((Ba bs 1 0 (U0j bs.length)).map encC),[]) :=
  Dn (ds:=[Ao false 1 bs]) (es:=[Ao false 1 bs]) (S':=[]) rfl (by simp[Az,BW,Ao]) (by simp[Bk,age,Ao]) h2
 generalize Ba bs 1 0 (U0j bs.length)=cs at *
 have c3:BK Dr (Aa (BK Dj (Aa (Ab 0) Af)) Af) [some (Ao false 1 bs)] []=some (.lst true ((cs.foldl Dl (U0m (maxLen cs) 0)).map .int),[]) :=
  Dn (ds:=[.lst true (cs.map encC)]) (es:=[.lst false (cs.map encC)]) (S':=[]) (by rw[Aq,c2];rfl) (by rw[Az,BW,Jh,Az];rfl) (by rw[Bk,age,V9,Bk]) h3
 unfold DW
 rw[Dg]
 simp only[U0g,U1h,U0t,U1w,U2j,U2k,U1u,U3f,if_true]
 unfold Ms
 rw[Bj s1,Ci,c3]
 show den 0 _ (.lst true _)=_
 rw[den,Ck 0 _ (Ji _)];rfl
theorem mz(k:List Int):Dm (k.map D.int)=true:=Ek _ fun p _=>rfl
theorem mR{n:Nat}{bs:List (List St2)}(neg m m':Bool)(S:Store):eqP neg S (Ao m n bs) (Ao m' n bs)=some (.bl (neg ^^ true)):=RT 4 (PX S m n bs) (PX S m' n bs) (gQ 0 n bs) (by decide)
theorem ju(n:Nat)(bs:List (List St2)):Az [Ao true n bs]=true:=by simp[Az,BW,Ao,CG (Cq bs)]
theorem sX(n:Nat)(bs:List (List St2)):Bk [Ao true n bs]=[Ao false n bs]:=by simp[Bk,age,Ao]
structure Far(ps:List St2):Prop where
 few:ps.length<=20
 all:∀p∈ps,p.1<p.2/\-1000000000<=p.1/\p.2<=1000000000
theorem Far.good{ps:List St2}(h:Far ps):Good 1 (Ai ps):=Yi h.few h.all
theorem lE{ps:List St2}(h:Far ps)(k:Nat)(hk:1<=k):(pck ps k).length<=40:=by
 have h1:=Wi h.good k hk
 have h2:=Wd (Iw (Ai ps) (U0j (Ai ps).length) k)
 unfold pck
 omega
theorem KY{ps:List St2}{x:Int}(h:1<=(Dh (Ai ps) 0 x (U0j (Ai ps).length)).length):∃p∈ps,p.1<=x/\x<p.2:=by
 rw[Wm] at h
 obtain⟨p,hp⟩:=List.exists_mem_of_ne_nil _ (U32.mp h)
 obtain⟨h1,h2⟩:=U2h.mp hp
 exact⟨p,h1,GP.mp h2⟩
theorem fZ{ps:List St2}(h:Far ps)(k:Nat)(hk:1<=k):jK (pck ps k):=by
 obtain⟨n1,n2⟩:=Qo (Ai ps) (U0j (Ai ps).length) k hk
 intro p hp
 have hp1:=n1.pos p hp
 have c1:cov (pck ps k) p.1=true:=GR.mpr ⟨p,hp,U4k _,hp1⟩
 have c2:cov (pck ps k) (p.2-1)=true:=GR.mpr ⟨p,hp,by omega,by omega⟩
 unfold pck at c1 c2
 rw[n2,decide_eq_true_eq] at c1 c2
 obtain⟨a,ha,a1,a2⟩:=KY (U07 hk c1)
 obtain⟨b,hb,b1,b2⟩:=KY (U07 hk c2)
 have:=h.all a ha
 have:=h.all b hb
 omega
theorem Ug{Bd:Int}(hB:0<=Bd):∀(cs:List (List St2×List Nat))(acc:List Int)(M:Int),(∀c∈cs,0<=Gv c.1/\Gv c.1<=Bd)->0<=M->(∀x∈acc,0<=x/\x<=M)->∀x∈cs.foldl Dl acc,0<=x/\x<=M+Bd*cs.length
 |[],acc,M,_,hM,h=>fun x hx=>by have:=h x hx;simp;omega
 |c::cs,acc,M,hc,hM,h=>fun x hx=>by
  have h1:=hc c U0i
  have hg:∀i:Nat,0<=acc.getD i 0/\acc.getD i 0<=M:=fun i=>by
   rw[U0o]
   cases e:acc[i]? with
   |none=>exact⟨U4k _,hM⟩
   |some v=>exact h v (U1j e)
  have h2:=Ug hB cs (Dl acc c) (M+Bd) (fun d hd=>hc d (U0y _ hd)) (by omega) (fun y hy=>by
   unfold Dl at hy
   rcases List.mem_or_eq_of_mem_set hy with z|z
   .have:=h y z;omega
   .have:=hg (c.2.length-1);omega) x hx
  rw[U0g]
  have:Bd*((cs.length+1:Nat):Int)=Bd*cs.length+Bd:=by rw[Int.natCast_add,Int.mul_add];simp
  omega
theorem WX{ps:List St2}(h:Far ps):(oft ps).length<=20/\∀x∈oft ps,0<=x/\x<=100000000000:=by
 have g:=h.good
 have few:=g.few
 have hf:=LK g
 have hd:=fun c=>Mp (bs:=Ai ps) 1 0 (U0j (Ai ps).length) c
 have hl:=Ii (bs:=Ai ps) 1 0 (U0j (Ai ps).length) (by simpa using few)
 obtain⟨m1,m2,_⟩:=Pg (Ba (Ai ps) 1 0 (U0j (Ai ps).length))
 constructor
 .unfold oft
  rw[KJ,U1e]
  rcases m2 with h|⟨c,hc,h⟩
  .omega
  .have:=(hf c hc).2.2;omega
 .intro x hx
  have:=Ug (Bd:=2000000000) (by decide) (Ba (Ai ps) 1 0 (U0j (Ai ps).length)) (U0m (maxLen (Ba (Ai ps) 1 0 (U0j (Ai ps).length))) 0) 0 (fun c hc=>by
   obtain⟨p,hp⟩:=U54.mp (hd c hc)
   have hb:=(hf c hc).1 p (by rw[hp];exact U0i)
   have e:Gv c.1=p.2-p.1:=by rw[hp];exact U7w _
   omega) (by decide) (fun y hy=>by rw[(List.mem_replicate.mp hy).2];decide) x hx
  omega
theorem pX{S:Store}{i:Nat}{l:List Int}(h:S[i]?=some (some (l.map .int))):Ce S (.ref i)=some (.list (l.map .int)):=by
 rw[Ce,den,if_neg (by omega),h]
 show(if Az (l.map D.int)=true then some (D.lst true (l.map .int)) else none).bind toP=_
 rw[if_pos (Ji l)]
 show toP (.lst true (l.map .int))=_
 rw[toP,PK];rfl
theorem Yq{env:VS.Env}{S S':Store}{o:Aw}{i:Nat}{l:List D}{d:D}{a:Aw}(ho:o env S=some (.ref i,S))(hi:S[i]?=some (some l))(ha:a env S=some (d,S))(hl:l.length<1000000)(hS:S.set i (some (l++[d]))=S'):J8 (Hu GJ o (Aa a Af)) env S=some (.nx,env,S'):=by
 rw[Lb,QT (d:=.ref i) (cs:=l) (ds:=[d]) (r:=.non) (S1:=S) (S2:=S) (S3:=S') ho (by rw[VS.listOf,hi];rfl) (by rw[Aq,ha];rfl) (by
  unfold GJ
  simp only[hi]
  rw[if_pos hl,hS])]
 rfl
theorem add_lists{a b:Aw}{env:VS.Env}{S:Store}{xs ys:List D}(ha:a env S=some (.lst true xs,S))(hb:b env S=some (.lst true ys,S))(hl:xs.length+ys.length<=1000000):eOp Bl a b env S=some (.lst true (xs++ys),S):=by
 rw[BJ,ha,U0c,hb,U0c]
 show(U2n _ (if xs.length+ys.length<=1000000 then some (D.lst true (xs++ys)) else none))=_
 rw[if_pos hl];rfl
theorem YW(P:Int->Bool):∀(l:List Int)(acc:List St2),(l.foldl (Et P) acc).length<=acc.length+l.length
 |[],acc=>by simp
 |n::l,acc=>by
  have h:=YW P l (Et P acc n)
  have:(Et P acc n).length<=acc.length+1:=by
   unfold Et
   split
   .exact Q5 acc _
   .omega
  rw[U2z,U0g]
  omega
theorem qp{bs:List (List St2)}(h:∀b∈bs,b.length=1):bs=Ai (bs.map fun b=>b.getD 0 (0,0)):=by
 unfold Ai
 rw[U0e]
 refine(U7y bs).symm.trans (U6h fun b hb=>?_)
 obtain⟨p,hp⟩:=U54.mp (h b hb)
 rw[hp];rfl
theorem qH(r:Int)(h0:0<=r)(h1:r<4):∃r0 r1:Int,atI [D.tup [.int 0,.int 6],.tup [.int (-3),.int 8],.tup [.int 0,.int 13],.tup [.int (-20),.int 41]] r=some (.tup [.int r0,.int r1])/\-20<=r0/\0<r1/\r0+r1<=21:=by
 have:r=0∨r=1∨r=2∨r=3:=by omega
 rcases this with rfl|rfl|rfl|rfl
 .exact⟨0,6,rfl,by decide⟩
 .exact⟨-3,8,rfl,by decide⟩
 .exact⟨0,13,rfl,by decide⟩
 .exact⟨-20,41,rfl,by decide⟩
end W09
end
section
namespace W09
open PySem L2 VS
structure Jb(ps:List St2):Prop where
 few:ps.length<=20
 all:∀p∈ps,-24<=p.1/\p.1<p.2/\p.2<=110
theorem Jb.far{ps:List St2}(h:Jb ps):Far ps:=⟨h.few,fun p hp=>by have:=h.all p hp;omega⟩
def tab(ps:List St2)(n:Nat):List (Int×Int):=(ups (-25) n).map fun x=>(x,cnt ps x)
theorem jc(ps:List St2)(n:Nat):(tab ps n).length=n:=by simp[tab,ups]
theorem eF(ps:List St2)(n:Nat):(tab ps n).map (·.1)=ups (-25) n:=by
 unfold tab
 rw[U0e]
 exact U7y _
theorem eE(ps:List St2)(n:Nat):Yr (tab ps n) (-25+n) (cnt ps (-25+n))=tab ps (n+1):=by
 unfold Yr
 rw[eF,if_neg (fun z=>by have:=Tc.mp z;omega)]
 unfold tab
 rw[RB,U11];rfl
theorem jd{ps:List St2}{n:Nat}{x:Int}(h:x∈ups (-25) n):Ik (encA (tab ps n)) (.inl x)=some (.int (cnt ps x)):=by
 rw[dY]
 cases e:(tab ps n).find? (fun q=>decide (q.1=x)) with
 |none=>exact absurd (decide_eq_true rfl) (List.find?_eq_none.mp e (x,cnt ps x) (U12.mpr ⟨x,h,rfl⟩))
 |some r =>
  have h1:r.1=x:=of_decide_eq_true (List.find?_some (p:=fun q:Int×Int=>decide (q.1=x)) e)
  obtain⟨y,_,rfl⟩:=U12.mp (List.mem_of_find?_eq_some e)
  simp only at h1
  subst h1
  rfl
theorem sH(ps:List St2)(hl:ps.length<=20)(x:Int)(S:Store)(e1 e2 e4 e5 e6 e7 e8 e9:Option D):Jo [some (.lst false ((Ai ps).map Ae)),e1,e2,some (.int x),e4,e5,e6,e7,e8,e9] S=some ((ps.filter fun p=>inS p x).map fun _=>D.int 1,S):=by
 have e:Ec (Ab 0) [some (.lst false ((Ai ps).map Ae)),e1,e2,some (.int x),e4,e5,e6,e7,e8,e9] S=some ((ps.map fun p=>Ae [p],[]),S):=by
  show(some ((((Ai ps).map Ae),[]),S):Option _)=_
  rw[U0e];rfl
 have ec:JB 1 [3] [some (.lst false ((Ai ps).map Ae)),e1,e2,some (.int x),e4,e5,e6,e7,e8,e9]=[none,some (.int x)]:=rfl
 unfold Jo Ea
 rw[e,ec]
 simp only[U0c]
 rw[Lg (by simp) (fun p=>Ae [p]) (fun p=>inS p x) (fun _=>D.int 1) ps [] (by simp;omega)]
 .rfl
 .intro p hp
  refine⟨_,Dy _ _ _,?_,fun _=>rfl⟩
  by_cases g:p.1<=x
  .have:inS p x=decide (x<p.2):=by unfold inS;rw[decide_eq_true g,U7p]
   rw[this]
   show(match (some (D.bl (decide (p.1<=x))):Option D) with|_=>(_:Option (Bool×Store)))=_
   simp[Ay,EY,BJ,Pr,Cr,oI,Ge,oLt,oLe,oIx,VS.listOf,Bx,-U0e,-U0f,Ae,Ag,g]
  .have:inS p x=false:=by unfold inS;rw[decide_eq_false g,U7h]
   rw[this]
   simp[Ay,EY,BJ,Pr,Cr,oI,Ge,oLt,oLe,oIx,VS.listOf,Bx,-U0e,-U0f,Ae,Ag,g]
theorem qb(ps:List St2)(hl:ps.length<=20)(n:Nat)(hn:n<1000)(e1 e4 e5 e6 e7 e8 e9:Option D):Js [some (.lst false ((Ai ps).map Ae)),e1,some (.dref 0),some (.int (-25+n)),e4,e5,e6,e7,e8,e9] [some [.dcm (encA (tab ps n))]]=some (.nx,[some (.lst false ((Ai ps).map Ae)),e1,some (.dref 0),some (.int (-25+n)),e4,e5,e6,e7,e8,e9],[some [.dcm (encA (tab ps (n+1)))]]):=by
 have hv:eCB Du (Aa (Cg Jo) Af) [some (.lst false ((Ai ps).map Ae)),e1,some (.dref 0),some (.int (-25+n)),e4,e5,e6,e7,e8,e9] [some [.dcm (encA (tab ps n))]]=some (.int (cnt ps (-25+n)),[some [.dcm (encA (tab ps n))]]):=by
  rw[Eh,Aq,Ds,sH ps hl]
  show(some (D.int (((ps.filter fun p=>inS p (-25+n)).map fun _=>D.int 1).length:Nat),_):Option (D×Store))=_
  rw[U0l,T3]
 have v1:Ab 2 [some (.lst false ((Ai ps).map Ae)),e1,some (.dref 0),some (.int (-25+n)),e4,e5,e6,e7,e8,e9] [some [.dcm (encA (tab ps n))]]=some (.dref 0,[some [.dcm (encA (tab ps n))]]):=rfl
 have v2:Ab 3 [some (.lst false ((Ai ps).map Ae)),e1,some (.dref 0),some (.int (-25+n)),e4,e5,e6,e7,e8,e9] [some [.dcm (encA (tab ps n))]]=some (.int (-25+n),[some [.dcm (encA (tab ps n))]]):=rfl
 unfold Js
 rw[fC,hv,U0c,v1,U0c,v2]
 show(if (encA (tab ps n)).length<1000000 then some (Fl.nx,_,[some [D.dcm (putK (encA (tab ps n)) (.inl (-25+n)) (.int (cnt ps (-25+n))))]]) else none)=_
 rw[if_pos (by unfold encA;rw[U0l,jc];omega),fM,eE]
theorem qZ(ps:List St2)(hl:ps.length<=20)(e1:Option D):∃y3:Option D,M7 [some (.lst false ((Ai ps).map Ae)),e1,some (.dref 0),none,none,none,none,none,none,none] [some [.dcm []]]=some (.nx,[some (.lst false ((Ai ps).map Ae)),e1,some (.dref 0),y3,none,none,none,none,none,none],[some [.dcm (encA (tab ps 135))]]):=by
 have e:Gk (Aa (eUn FN (eC (.int 25))) (Aa (eC (.int 110)) Af)) [some (.lst false ((Ai ps).map Ae)),e1,some (.dref 0),none,none,none,none,none,none,none] [some [.dcm []]]=some ((upD (-25) 135,[]),[some [.dcm []]]):=S6 (i:=-25) (j:=110) 135 rfl (by decide) (by unfold r62;omega) (by unfold r62;omega)
 obtain⟨env',S',e2,y3,he,hS⟩:=G8 (w:=[]) (g:=Pat.sem (.nm 3)) (b:=Js) (ds:=upD (-25) 135) (env:=[some (.lst false ((Ai ps).map Ae)),e1,some (.dref 0),none,none,none,none,none,none,none]) (S:=[some [.dcm []]])
  (fun i env S=>∃y3:Option D,env=[some (.lst false ((Ai ps).map Ae)),e1,some (.dref 0),y3,none,none,none,none,none,none]/\S=[some [.dcm (encA (tab ps i))]])
  ⟨none,rfl,rfl⟩ (fun i env S _=>by simp) (fun i d env S hd q=>by
   obtain⟨y3,he,hS⟩:=q
   obtain⟨hi,rfl⟩:=NP hd
   subst he hS
   exact⟨_,Dy _ _ _,_,_,qb ps hl i (by omega) _ _ _ _ _ _ _,_,rfl,rfl⟩)
 subst he hS
 rw[NK] at e2
 refine⟨y3,?_⟩
 unfold M7
 rw[Gj,e]
 exact e2
def vals(ps:List St2):List Int:=(ups (-25) 135).map (cnt ps)
theorem WY:∀l:List Int,Ni (l.map V.int)=some (l.map D.int)
 |[]=>rfl
 |i::l=>by
  rw[U0t,Ni,WY l];rfl
theorem YJ(ps:List St2){env:VS.Env}{S:Store}{j:Nat}(hj:env[j]?=some (some (.dref 0)))(hS:S[0]?=some (some [.dcm (encA (tab ps 135))])):JR (Ab j) env S=some (.lst true ((vals ps).map .int),S):=by
 have v1:Ab j env S=some (.dref 0,S):=by rw[Ay,hj];rfl
 have d0:dictOf S (.dref 0)=some (encA (tab ps 135)):=by simp only[dictOf,hS]
 have e:(encA (tab ps 135)).map (·.2)=(vals ps).map V.int:=by
  unfold encA tab vals
  rw[U0e,U0e,U0e];rfl
 rw[Xa,v1,U0c]
 simp only[d0,U0c,e,WY,U7d]
theorem count_filter(f:Int->Int)(m:Int):∀l:List Int,(l.map f).count m=(l.filter fun x=>decide (f x=m)).length
 |[]=>rfl
 |x::l=>by
  rw[U0t,List.count_cons,count_filter f m l,U64]
  by_cases h:f x=m
  .simp[h]
  .simp[h]
def mst(ps:List St2):Nat:=maxLen (Ba (Ai ps) 1 0 (U0j (Ai ps).length))
theorem Jx(ps:List St2)(x:Int):cnt ps x=((Dh (Ai ps) 0 x (U0j (Ai ps).length)).length:Nat):=by rw[T3,Wm]
theorem lO{ps:List St2}(h:Jb ps):Hf (vals ps)=some (mst ps:Int):=by
 obtain⟨m1,m2,_⟩:=Pg (Ba (Ai ps) 1 0 (U0j (Ai ps).length))
 have inr:∀x:Int,1<=(Dh (Ai ps) 0 x (U0j (Ai ps).length)).length->x∈ups (-25) 135:=fun x hx=>by
  obtain⟨p,hp,k1,k2⟩:=KY hx
  have:=h.all p hp
  exact Tc.mpr (by omega)
 cases e:Hf (vals ps) with
 |none =>
  unfold vals at e
  rw[show(135:Nat)=134+1 from rfl,show ups (-25) (134+1)=-25::(U0j 134).map (fun(i:Nat)=>(-25:Int)+((i+1:Nat):Int)) by
   unfold ups
   rw[List.range_succ_eq_map,U0t,U0e];rfl] at e
  rw[U0t] at e
  simp[Hf] at e
 |some m =>
  obtain⟨g1,g2⟩:=QW e
  congr 1
  obtain⟨x,hx,hm⟩:=U12.mp g1
  have le1:(mst ps:Int)<=m:=by
   unfold mst
   rcases m2 with z|⟨c,hc,z⟩
   .rw[z,←hm,Jx];omega
   .rw[←z]
    rw[Px] at hc
    obtain⟨p,hp,rfl⟩:=U12.mp hc
    have hne:=of_decide_eq_true (U2h.mp hp).2
    have hx:=inr p.1 (U32.mpr hne)
    have:=g2 _ (U12.mpr ⟨p.1,hx,rfl⟩)
    rw[Jx] at this
    exact this
  have le2:m<=(mst ps:Int):=by
   rw[←hm,Jx]
   by_cases z:1<=(Dh (Ai ps) 0 x (U0j (Ai ps).length)).length
   .have hc:=Wj (bs:=Ai ps) (ns:=U0j (Ai ps).length) z x
    rw[decide_eq_true (U0s _)] at hc
    obtain⟨p,hp,_,_⟩:=GR.mp hc
    obtain⟨p1,p2⟩:=U2h.mp hp
    have p2:=of_decide_eq_true p2
    have hin:([p],Dh (Ai ps) 0 p.1 (U0j (Ai ps).length))∈Ba (Ai ps) 1 0 (U0j (Ai ps).length):=by
     rw[Px]
     exact U12.mpr ⟨p,U2h.mpr ⟨p1,decide_eq_true (fun w=>by rw[w] at p2;exact absurd (U07 z p2) (by simp))⟩,rfl⟩
    have:=m1 _ hin
    unfold mst
    simp only at this
    omega
   .omega
  omega
theorem rY{ps:List St2}(h:Jb ps):((U0j (mst ps)).map fun(i:Nat)=>(((vals ps).count (1+(i:Int)):Nat):Int))=oft ps:=by
 have hf:=LK h.far.good
 have wd:Wide (Ai ps) (-25) 135 0 1 (U0j (Ai ps).length):=fun i hi v h1 h2=>by
  have hl:i<ps.length:=by simpa using U2x.mp hi
  have hv:v=0:=by omega
  subst hv
  rw[aV hl]
  have:=h.all ps[i] (U3a hl)
  omega
 have hlen:(oft ps).length=mst ps:=by unfold oft;rw[KJ,U1e];rfl
 refine iD (by rw[hlen];simp) fun t ht=>?_
 have ht':t<mst ps:=by simpa using ht
 have l1:((U0j (mst ps)).map fun(i:Nat)=>(((vals ps).count (1+(i:Int)):Nat):Int)).getD t 0=(((vals ps).count (1+(t:Int)):Nat):Int):=by
  rw[U0o,U04,U0h (by simpa using ht'),List.getElem_range];rfl
 rw[l1]
 unfold oft
 rw[W7 _ _ (fun c hc=>(hf c hc).2.1) (by rw[U1e];exact ht'),iC,T5 rfl 1 0 _ wd,canon,Int.zero_add]
 have e:(fun x=>canon (Ai ps) (Ft t) (-25) 135 0 (0+1) (Dh (Ai ps) 0 x (U0j (Ai ps).length)))=fun x=>if decide (cnt ps x=1+(t:Int))=true then 1 else 0:=by
  funext x
  rw[canon]
  unfold Ft
  have k:=Jx ps x
  by_cases z:(Dh (Ai ps) 0 x (U0j (Ai ps).length)).length=t+1
  .rw[if_pos z,if_pos (decide_eq_true (by omega))]
  .rw[if_neg z,if_neg (fun w=>z (by have:=of_decide_eq_true w;omega))]
 rw[e,Sg]
 unfold vals
 rw[count_filter]
end W09
end
section
namespace W09
open PySem L2 VS
theorem gY{o:Aw}{r:VS.Env}{S:Store}{i:Nat}{L:List D}{d:D}(ho:o r S=some (.ref i,S))(hi:S[i]?=some (some (L++[d]))):eOp oIx o (eUn FN (eC (.int 1))) r S=some (d,S):=by
 have n1:eUn FN (eC (.int 1)) r S=some (.int (-1),S):=rfl
 rw[BJ,ho,U0c,n1,U0c]
 have:oIx S (.ref i) (.int (-1))=atI (L++[d]) (-1):=by
  unfold oIx
  simp[VS.Bx,VS.listOf,hi]
 rw[this,Ra];rfl
theorem iQ(S:Store)(vs:List Int)(m:Int):Ow S (.lst true (vs.map .int)) [.int m]=some (.int (vs.count m:Nat),S):=by
 unfold Ow
 simp[VS.listOf,Jj]
theorem qx(S:Store)(vs:List Int):QG S [.lst true (vs.map .int)]=(Hf vs).map .int:=by
 unfold QG
 simp[VS.listOf,Jj]
theorem bW{v o:Aw}{r:VS.Env}{S S':Store}{i:Nat}{L:List D}{d e:D}(hv:v r S=some (e,S))(ho:o r S=some (.ref i,S))(hi:S[i]?=some (some (L++[d])))(hS:S.set i (some (L++[e]))=S'):Jd v o (eUn FN (eC (.int 1))) r S=some (.nx,r,S'):=by
 have n1:eUn FN (eC (.int 1)) r S=some (.int (-1),S):=rfl
 rw[JQ,hv,U0c,ho,U0c,n1,U0c]
 simp only[hi]
 rw[U0q,U0g,U1h,RN,U0c,U58 _ _ (U0s _)]
 rw[show L++[d].set (L.length-L.length) e=L++[e] by rw[Nat.sub_self];rfl,hS]
theorem Yj{ps:List St2}{o f:Aw}{r:VS.Env}{S:Store}{x:Int}(ho:o r S=some (.dref 0,S))(hf:f r S=some (.int x,S))(hS:S[0]?=some (some [.dcm (encA (tab ps 135))]))(hx:-25<=x/\x<110):Iz o f r S=some (.int (cnt ps x),S):=by
 have d0:dictOf S (.dref 0)=some (encA (tab ps 135)):=by simp only[dictOf,hS]
 rw[iJ,ho,U0c,hf,U0c]
 simp only[d0,U0c]
 rw[jd (Tc.mpr (by omega))];rfl
theorem jo{ps:List St2}(k:Nat)(acc:List St2)(n:Int)(hn:-24<=n/\n<110)(hl:acc.length<1000)(hN:Norm acc)(he:∀q∈acc,q.2<=n)(hc:cov acc (n-1)=decide ((k:Int)<=cnt ps (n-1)))(T:Store)(hT:(T++[some (acc.map Ag)])[0]?=some (some [.dcm (encA (tab ps 135))]))(e0 e1 e4 e5 e6 e7:Option D) :
  Jq [e0,e1,some (.dref 0),some (.int n),e4,e5,e6,e7,some (.int k),some (.ref T.length)] (T++[some (acc.map Ag)])=some (.nx,[e0,e1,some (.dref 0),some (.int n),e4,e5,e6,e7,some (.int k),some (.ref T.length)],T++[some (((Et fun x=>decide ((k:Int)<=cnt ps x)) acc n).map Ag)]):=by
 obtain⟨r,hr⟩:∃r:VS.Env,r=[e0,e1,some (.dref 0),some (.int n),e4,e5,e6,e7,some (.int k),some (.ref T.length)]:=⟨_,rfl⟩
 obtain⟨S,hS⟩:∃S:Store,S=T++[some (acc.map Ag)]:=⟨_,rfl⟩
 have i0:S[T.length]?=some (some (acc.map Ag)):=by rw[hS];exact Vp T _ []
 rw[←hr,←hS]
 rw[←hS] at hT
 have v2:Ab 2 r S=some (.dref 0,S):=by rw[hr];rfl
 have v3:Ab 3 r S=some (.int n,S):=by rw[hr];rfl
 have v8:Ab 8 r S=some (.int k,S):=by rw[hr];rfl
 have v9:Ab 9 r S=some (.ref T.length,S):=by rw[hr];rfl
 have w3:eOp Im (Ab 3) (eC (.int 1)) r S=some (.int (n-1),S):=by rw[BJ,v3];rfl
 have w4:eOp Bl (Ab 3) (eC (.int 1)) r S=some (.int (n+1),S):=by rw[BJ,v3];rfl
 have g1:=Yj v2 v3 hT (by omega)
 have g2:=Yj v2 w3 hT (by omega)
 have t1:Bf (eOp oGe (Iz (Ab 2) (Ab 3)) (Ab 8)) r S=some (decide ((k:Int)<=cnt ps n),S):=by
  rw[Cr,BJ,g1,U0c,v8];rfl
 have t2:Bf (eOp oLt (Iz (Ab 2) (eOp Im (Ab 3) (eC (.int 1)))) (Ab 8)) r S=some (decide (cnt ps (n-1)<(k:Int)),S):=by
  rw[Cr,BJ,g2,U0c,v8];rfl
 have hj:=Xz hN he
 rw[hc] at hj
 unfold Jq Et
 by_cases h:(k:Int)<=cnt ps n
 .rw[decide_eq_true h] at t1
  rw[if_pos (decide_eq_true h)]
  have ts:Nh (Bf (eOp oGe (Iz (Ab 2) (Ab 3)) (Ab 8))) (Bf (eOp oLt (Iz (Ab 2) (eOp Im (Ab 3) (eC (.int 1)))) (Ab 8))) r S=some (decide (cnt ps (n-1)<(k:Int)),S):=by
   rw[QJ,t1]
   simp only[U0c,if_true]
   exact t2
  by_cases h1:cnt ps (n-1)<(k:Int)
  .rw[decide_eq_true h1] at ts
   have e:Bp acc (n,n+1)=acc++[(n,n+1)]:=by
    unfold Bp
    rcases U5 acc with z|⟨l,q,z⟩
    .rw[z];rfl
    .rw[U5a] at z
     subst z
     rw[Nv]
     have:q.2≠n:=fun w=>by
      have:=of_decide_eq_true (hj.mpr ⟨l,q,rfl,w⟩)
      omega
     simp[this]
   rw[N8 ts,e,U11]
   refine Yq v9 i0 (d:=Ag (n,n+1)) ?_ (by rw[U0l];omega) (by rw[hS];exact Vm ..)
   rw[GQ,Aq,v3,U0c,Aq,w4];rfl
  .rw[decide_eq_false h1] at ts
   obtain⟨l,q,rfl,hq⟩:=hj.mp (decide_eq_true (by omega))
   have e:Bp (l++[q]) (n,n+1)=l++[(q.1,n+1)]:=by
    unfold Bp
    rw[Nv]
    simp[hq]
   rw[U11] at i0
   have a:=gY (L:=l.map Ag) (d:=Ag q) v9 i0
   have a0:eOp oIx (eOp oIx (Ab 9) (eUn FN (eC (.int 1)))) (eC (.int 0)) r S=some (.int q.1,S):=by rw[BJ,a];rfl
   rw[Ht ts,N8 t1,e,U11]
   refine bW (L:=l.map Ag) (d:=Ag q) (e:=Ag (q.1,n+1)) ?_ v9 i0 (by rw[hS];exact Vm ..)
   rw[GQ,Aq,a0,U0c,Aq,w4];rfl
 .rw[decide_eq_false h] at t1
  have ts:Nh (Bf (eOp oGe (Iz (Ab 2) (Ab 3)) (Ab 8))) (Bf (eOp oLt (Iz (Ab 2) (eOp Im (Ab 3) (eC (.int 1)))) (Ab 8))) r S=some (false,S):=by
   rw[QJ,t1];rfl
  rw[Ht ts,Ht t1,if_neg (show ¬decide ((k:Int)<=cnt ps n)=true by rw[decide_eq_false h];decide),←hS]
  rfl
theorem n6{ps:List St2}(h:Jb ps){x:Int}(hx:x < -24):cnt ps x=0:=by
 rw[Jx]
 by_cases z:1<=(Dh (Ai ps) 0 x (U0j (Ai ps).length)).length
 .obtain⟨p,hp,k1,k2⟩:=KY z
  have:=h.all p hp
  omega
 .omega
theorem jm{ps:List St2}(h:Jb ps)(k:Nat)(hk:1<=k)(T:Store)(hT:T[0]?=some (some [.dcm (encA (tab ps 135))]))(e0 e1 z3 e4 e5 e6 e7:Option D):∃y3:Option D,
  M5 [e0,e1,some (.dref 0),z3,e4,e5,e6,e7,some (.int k),some (.ref T.length)] (T++[some []])=some (.nx,[e0,e1,some (.dref 0),y3,e4,e5,e6,e7,some (.int k),some (.ref T.length)],T++[some (((ups (-24) 134).foldl (Et fun x=>decide ((k:Int)<=cnt ps x)) []).map Ag)]):=by
 have e:Gk (Aa (eUn FN (eC (.int 24))) (Aa (eC (.int 110)) Af)) [e0,e1,some (.dref 0),z3,e4,e5,e6,e7,some (.int k),some (.ref T.length)] (T++[some []])=some ((upD (-24) 134,[]),T++[some []]):=S6 (i:=-24) (j:=110) 134 rfl (by decide) (by unfold r62;omega) (by unfold r62;omega)
 have hT':∀c:Option (List D),(T++[c])[0]?=some (some [.dcm (encA (tab ps 135))]):=fun c=>by
  cases T with
  |nil=>simp at hT
  |cons a T=>exact hT
 obtain⟨env',S',e2,y3,he,hS⟩:=G8 (w:=[]) (g:=Pat.sem (.nm 3)) (b:=Jq) (ds:=upD (-24) 134) (env:=[e0,e1,some (.dref 0),z3,e4,e5,e6,e7,some (.int k),some (.ref T.length)]) (S:=T++[some []])
  (fun i env S=>∃y3:Option D,env=[e0,e1,some (.dref 0),y3,e4,e5,e6,e7,some (.int k),some (.ref T.length)]/\S=T++[some (((ups (-24) i).foldl (Et fun x=>decide ((k:Int)<=cnt ps x)) []).map Ag)])
  ⟨z3,rfl,rfl⟩ (fun i env S _=>by simp) (fun i d env S hd q=>by
   obtain⟨y3,he,hS⟩:=q
   obtain⟨hi,rfl⟩:=NP hd
   subst he hS
   obtain⟨n1,n2,n3⟩:=RG (fun x=>decide ((k:Int)<=cnt ps x)) (-24) i
   have few:=YW (fun x=>decide ((k:Int)<=cnt ps x)) (ups (-24) i) []
   have hu:(ups (-24) i).length=i:=by simp[ups]
   rw[hu] at few
   have b1:=jo (ps:=ps) k ((ups (-24) i).foldl (Et fun x=>decide ((k:Int)<=cnt ps x)) []) (-24+i) (by omega) (by simp at few;omega) n1 n3 (by
    show cov (((U0j i).map fun(k:Nat)=>(-24:Int)+k).foldl (Et fun x=>decide ((k:Int)<=cnt ps x)) []) (-24+(i:Int)-1)=_
    rw[n2]
    by_cases z:(k:Int)<=cnt ps (-24+(i:Int)-1)
    .have:1<=i:=by
      by_cases w:1<=i
      .exact w
      .have:=n6 h (x:=-24+(i:Int)-1) (by omega)
       omega
     rw[decide_eq_true z,Bool.and_true]
     exact decide_eq_true (by omega)
    .rw[decide_eq_false z,Bool.and_false]) T (hT' _) e0 e1 e4 e5 e6 e7
   refine⟨_,Dy _ _ _,_,_,b1,_,rfl,?_⟩
   rw[RB,U4d]
   rfl)
 subst he hS
 rw[NK] at e2
 refine⟨y3,?_⟩
 unfold M5
 rw[Gj,e]
 exact e2
theorem qY{ps:List St2}(h:Jb ps)(k:Nat)(hk:1<=k):(ups (-24) 134).foldl (Et fun x=>decide ((k:Int)<=cnt ps x)) []=pck ps k:=by
 obtain⟨n1,n2⟩:=Qo (Ai ps) (U0j (Ai ps).length) k hk
 obtain⟨m1,m2,_⟩:=RG (fun x=>decide ((k:Int)<=cnt ps x)) (-24) 134
 refine Us m1 n1 fun x=>(m2 x).trans ((n2 x).trans ?_).symm
 have e:decide (k<=(Dh (Ai ps) 0 x (U0j (Ai ps).length)).length)=decide ((k:Int)<=cnt ps x):=by
  rw[Jx,U2i,decide_eq_true_eq,decide_eq_true_eq];omega
 rw[e]
 by_cases z:(k:Int)<=cnt ps x
 .rw[Jx] at z
  obtain⟨p,hp,k1,k2⟩:=KY (ps:=ps) (x:=x) (by omega)
  have:=h.all p hp
  rw[show decide (-24<=x/\x < -24+((134:Nat):Int))=true from decide_eq_true (by omega),U7p]
 .rw[decide_eq_false z,Bool.and_false]
theorem fH{ps:List St2}(h:Jb ps)(k:Nat)(hk:1<=k)(T:Store)(hT:T[0]?=some (some [.dcm (encA (tab ps 135))]))(z3 e4 e5 e6 e7 z9:Option D):∃(y3 y9:Option D)(T':Store),Jp [some (.lst false ((Ai ps).map Ae)),some (Ao true 1 (Ai ps)),some (.dref 0),z3,e4,e5,e6,e7,some (.int k),z9] T=some (.nx,[some (.lst false ((Ai ps).map Ae)),some (Ao true 1 (Ai ps)),some (.dref 0),y3,e4,e5,e6,e7,some (.int k),y9],T')/\T'[0]?=some (some [.dcm (encA (tab ps 135))]):=by
 have g:=h.far.good
 have h1:=Wb g k hk
 have few:=lE h.far k hk
 have nr:=fZ h.far k hk
 have s1:(Bu 9 (Mv Af)) [some (.lst false ((Ai ps).map Ae)),some (Ao true 1 (Ai ps)),some (.dref 0),z3,e4,e5,e6,e7,some (.int k),z9] T=some (.nx,[some (.lst false ((Ai ps).map Ae)),some (Ao true 1 (Ai ps)),some (.dref 0),z3,e4,e5,e6,e7,some (.int k),some (.ref T.length)],T++[some []]):=rfl
 obtain⟨y3,l3⟩:=jm h k hk T hT (some (.lst false ((Ai ps).map Ae))) (some (Ao true 1 (Ai ps))) z3 e4 e5 e6 e7
 rw[qY h k hk] at l3
 generalize pck ps k=Q at *
 have c0:BK Bb (Aa (Ab 1) (Aa (Ab 8) Af)) [some (.lst false ((Ai ps).map Ae)),some (Ao true 1 (Ai ps)),some (.dref 0),y3,e4,e5,e6,e7,some (.int k),some (.ref T.length)] (T++[some (Q.map Ag)])=some (.lst true (Q.map Ag),T++[some (Q.map Ag)]) :=
  Dn (ds:=[Ao true 1 (Ai ps),.int k]) (es:=[Ao false 1 (Ai ps),.int k]) rfl (RJ ..) (UG ..) h1
 have u0:=Vp T (some (Q.map Ag)) []
 have ft:=rQ (l:=Q) (by omega) nr
 have r1:=QL (Zw u0) ft (by decide) (by decide)
 have r2:=QL (Oq (T++[some (Q.map Ag)]) true Q) ft (by decide) (by decide)
 have k1:Bf (eOp (Nj true) (eCB FT (Aa (BK Bb (Aa (Ab 1) (Aa (Ab 8) Af))) Af)) (eCB FT (Aa (Ab 9) Af))) [some (.lst false ((Ai ps).map Ae)),some (Ao true 1 (Ai ps)),some (.dref 0),y3,e4,e5,e6,e7,some (.int k),some (.ref T.length)] (T++[some (Q.map Ag)])=some (false,T++[some (Q.map Ag)]):=by
  have d1:eCB FT (Aa (Ab 9) Af) [some (.lst false ((Ai ps).map Ae)),some (Ao true 1 (Ai ps)),some (.dref 0),y3,e4,e5,e6,e7,some (.int k),some (.ref T.length)] (T++[some (Q.map Ag)])=some (.str (U4t (.list (Q.map pS))),T++[some (Q.map Ag)]):=by
   show U2n _ (FT (T++[some (Q.map Ag)]) [.ref T.length])=_
   rw[r1];rfl
  have d2:eCB FT (Aa (BK Bb (Aa (Ab 1) (Aa (Ab 8) Af))) Af) [some (.lst false ((Ai ps).map Ae)),some (Ao true 1 (Ai ps)),some (.dref 0),y3,e4,e5,e6,e7,some (.int k),some (.ref T.length)] (T++[some (Q.map Ag)])=some (.str (U4t (.list (Q.map pS))),T++[some (Q.map Ag)]):=by
   rw[Eh,Aq,c0]
   show U2n _ (FT (T++[some (Q.map Ag)]) [.lst true (Q.map Ag)])=_
   rw[r2];rfl
  rw[Cr,BJ,d2,U0c,d1,U0c]
  simp[Nj]
 have k2:Bf (eOp (oEq true) (BK Bb (Aa (Ab 1) (Aa (Ab 8) Af))) (Ab 9)) [some (.lst false ((Ai ps).map Ae)),some (Ao true 1 (Ai ps)),some (.dref 0),y3,e4,e5,e6,e7,some (.int k),some (.ref T.length)] (T++[some (Q.map Ag)])=some (false,T++[some (Q.map Ag)]):=by
  have q:=RT (neg:=true) 2 (Oq (T++[some (Q.map Ag)]) true Q) (Zw u0) (aH Q) (by decide)
  have v9:Ab 9 [some (.lst false ((Ai ps).map Ae)),some (Ao true 1 (Ai ps)),some (.dref 0),y3,e4,e5,e6,e7,some (.int k),some (.ref T.length)] (T++[some (Q.map Ag)])=some (.ref T.length,T++[some (Q.map Ag)]):=rfl
  rw[Cr,BJ,c0,U0c,v9,U0c]
  have q':oEq true (T++[some (Q.map Ag)]) (.lst true (Q.map Ag)) (.ref T.length)=some (.bl false):=q
  rw[q'];rfl
 refine⟨y3,some (.ref T.length),T++[some (Q.map Ag)],?_,?_⟩
 .unfold Jp
  rw[Bj s1,Bj l3,Ht (by
   rw[Rt,k1]
   simp only[U0c,U1n,if_false]
   exact k2)]
  rfl
 .cases T with
  |nil=>simp at hT
  |cons a T=>exact hT
theorem rR{O:List Int}(h3:O.length<=20)(h4:∀x∈O,0<=x/\x<=100000000000):fit [200,2] (.list (O.map .int))=true:=by
 refine(Tp [2] 200 _ (by rw[U0l];omega) fun x hx=>?_).1
 obtain⟨i,hi,rfl⟩:=U12.mp hx
 have:=h4 i hi
 have:Le (.int i)=true:=decide_eq_true (by
  show i.natAbs<10^41
  exact U3o (m:=1000000000000) (by omega) (by decide))
 exact this
theorem fJ{ps:List St2}(h:Jb ps)(T:Store)(hT:T[0]?=some (some [.dcm (encA (tab ps 135))]))(z3 e4 e6 z7 e8 e9:Option D):∃(y7:Option D)(T':Store),Jr [some (.lst false ((Ai ps).map Ae)),some (Ao true 1 (Ai ps)),some (.dref 0),z3,e4,some (.lst true ((oft ps).map .int)),e6,z7,e8,e9] T=some (.nx,[some (.lst false ((Ai ps).map Ae)),some (Ao true 1 (Ai ps)),some (.dref 0),z3,e4,some (.lst true ((oft ps).map .int)),e6,y7,e8,e9],T')/\T'[0]?=some (some [.dcm (encA (tab ps 135))]):=by
 have h1:=Zf h.far.good
 have on:=WX h.far
 generalize oft ps=O at *
 have c0:BK DW (Aa (Ab 1) Af) [some (.lst false ((Ai ps).map Ae)),some (Ao true 1 (Ai ps)),some (.dref 0),z3,e4,some (.lst true (O.map .int)),e6,z7,e8,e9] T=some (.lst true (O.map .int),T) :=
  Dn (ds:=[Ao true 1 (Ai ps)]) (es:=[Ao false 1 (Ai ps)]) rfl (ju ..) (sX ..) h1
 have a1:KH DW (Aa (Ab 1) Af) [some (.lst false ((Ai ps).map Ae)),some (Ao true 1 (Ai ps)),some (.dref 0),z3,e4,some (.lst true (O.map .int)),e6,z7,e8,e9] T=some (.ref T.length,T++[some (O.map .int)]):=W8 c0 (by rw[Oh,if_pos (mz O)])
 have s1:(Bu 7 (KH DW (Aa (Ab 1) Af))) [some (.lst false ((Ai ps).map Ae)),some (Ao true 1 (Ai ps)),some (.dref 0),z3,e4,some (.lst true (O.map .int)),e6,z7,e8,e9] T=some (.nx,[some (.lst false ((Ai ps).map Ae)),some (Ao true 1 (Ai ps)),some (.dref 0),z3,e4,some (.lst true (O.map .int)),e6,some (.ref T.length),e8,e9],T++[some (O.map .int)]):=by rw[Cm,a1];rfl
 have u0:=Vp T (some (O.map D.int)) []
 have ft:=rR on.1 on.2
 have r1:=QL (pX u0) ft (by decide) (by decide)
 have r2:=QL (au (T++[some (O.map .int)]) true O) ft (by decide) (by decide)
 have k1:Bf (eOp (Nj true) (eCB FT (Aa (Ab 7) Af)) (eCB FT (Aa (Ab 5) Af))) [some (.lst false ((Ai ps).map Ae)),some (Ao true 1 (Ai ps)),some (.dref 0),z3,e4,some (.lst true (O.map .int)),e6,some (.ref T.length),e8,e9] (T++[some (O.map .int)])=some (false,T++[some (O.map .int)]):=by
  have d1:eCB FT (Aa (Ab 7) Af) [some (.lst false ((Ai ps).map Ae)),some (Ao true 1 (Ai ps)),some (.dref 0),z3,e4,some (.lst true (O.map .int)),e6,some (.ref T.length),e8,e9] (T++[some (O.map .int)])=some (.str (U4t (.list (O.map .int))),T++[some (O.map .int)]):=by
   show U2n _ (FT (T++[some (O.map .int)]) [.ref T.length])=_
   rw[r1];rfl
  have d2:eCB FT (Aa (Ab 5) Af) [some (.lst false ((Ai ps).map Ae)),some (Ao true 1 (Ai ps)),some (.dref 0),z3,e4,some (.lst true (O.map .int)),e6,some (.ref T.length),e8,e9] (T++[some (O.map .int)])=some (.str (U4t (.list (O.map .int))),T++[some (O.map .int)]):=by
   show U2n _ (FT (T++[some (O.map .int)]) [.lst true (O.map .int)])=_
   rw[r2];rfl
  rw[Cr,BJ,d1,U0c,d2,U0c]
  simp[Nj]
 have s2:(sIf (Bf (eOp (Nj true) (eCB FT (Aa (Ab 7) Af)) (eCB FT (Aa (Ab 5) Af)))) (Cw (eC (.bl false))) FJ) [some (.lst false ((Ai ps).map Ae)),some (Ao true 1 (Ai ps)),some (.dref 0),z3,e4,some (.lst true (O.map .int)),e6,some (.ref T.length),e8,e9] (T++[some (O.map .int)])=some (.nx,[some (.lst false ((Ai ps).map Ae)),some (Ao true 1 (Ai ps)),some (.dref 0),z3,e4,some (.lst true (O.map .int)),e6,some (.ref T.length),e8,e9],T++[some (O.map .int)]):=by rw[Ht k1];rfl
 have s3:(J8 (Hu GJ (Ab 7) (Aa (eC (.int 7)) Af))) [some (.lst false ((Ai ps).map Ae)),some (Ao true 1 (Ai ps)),some (.dref 0),z3,e4,some (.lst true (O.map .int)),e6,some (.ref T.length),e8,e9] (T++[some (O.map .int)])=some (.nx,[some (.lst false ((Ai ps).map Ae)),some (Ao true 1 (Ai ps)),some (.dref 0),z3,e4,some (.lst true (O.map .int)),e6,some (.ref T.length),e8,e9],T++[some (O.map .int++[.int 7])]):=Yq (i:=T.length) rfl u0 rfl (by rw[U0l];omega) (Vm ..)
 refine⟨some (.ref T.length),T++[some (O.map .int++[.int 7])],?_,?_⟩
 .unfold Jr
  rw[Bj s1,Bj s2,s3]
 .cases T with
  |nil=>simp at hT
  |cons a T=>exact hT
theorem rZ(ps:List St2)(M:Nat)(hM:M<=20)(y3:Option D):Jm [some (.lst false ((Ai ps).map Ae)),some (Ao true 1 (Ai ps)),some (.dref 0),y3,some (.int M),none,none,none,none,none] [some [.dcm (encA (tab ps 135))]]=some (((U0j M).map fun(i:Nat)=>(((vals ps).count (1+(i:Int)):Nat):Int)).map .int,[some [.dcm (encA (tab ps 135))]]):=by
 have e:Gk (Aa (eC (.int 1)) (Aa (eOp Bl (Ab 4) (eC (.int 1))) Af)) [some (.lst false ((Ai ps).map Ae)),some (Ao true 1 (Ai ps)),some (.dref 0),y3,some (.int M),none,none,none,none,none] [some [.dcm (encA (tab ps 135))]]=some ((upD 1 M,[]),[some [.dcm (encA (tab ps 135))]]):=S6 (i:=1) (j:=(M:Int)+1) M rfl (by omega) (by unfold r62;omega) (by unfold r62;omega)
 have ec:JB 1 [2] [some (.lst false ((Ai ps).map Ae)),some (Ao true 1 (Ai ps)),some (.dref 0),y3,some (.int M),none,none,none,none,none]=[none,some (.dref 0)]:=rfl
 unfold Jm Ea
 rw[e,ec]
 simp only[U0c]
 unfold upD
 rw[Nb (by simp) (fun(i:Nat)=>D.int (1+(i:Int))) (fun i=>.int ((vals ps).count (1+(i:Int)):Nat)) (U0j M) (by simp;omega),U0e]
 .rfl
 .intro i hi
  refine⟨_,Dy _ _ _,?_⟩
  refine QT (d:=.lst true ((vals ps).map .int)) (cs:=(vals ps).map .int) (ds:=[.int (1+(i:Int))]) (S1:=[some [.dcm (encA (tab ps 135))]]) (S2:=[some [.dcm (encA (tab ps 135))]]) (YJ ps rfl rfl) rfl rfl (iQ ..)
theorem fG{ps:List St2}(h:Jb ps):Fq [.lst false ((Ai ps).map Ae)]=some (.bl true):=by
 have on:=WX h.far
 have hM:mst ps<=20:=by
  have:(oft ps).length=mst ps:=by unfold oft;rw[KJ,U1e];rfl
  omega
 have s1:(Bu 1 (Bw (Aa (eC (.int 1)) (Aa (Rp nList (Aa (Ab 0) Af)) Af)))) [some (.lst false ((Ai ps).map Ae)),none,none,none,none,none,none,none,none,none] []=some (.nx,[some (.lst false ((Ai ps).map Ae)),some (Ao true 1 (Ai ps)),none,none,none,none,none,none,none,none],[]):=by
  simp[Cm,Ay,EY,CT,Aq,GQ,iH,nList,VS.listOf,Bx,-U0e,-U0f,Ao]
 have s2:(Bu 2 ZG) [some (.lst false ((Ai ps).map Ae)),some (Ao true 1 (Ai ps)),none,none,none,none,none,none,none,none] []=some (.nx,[some (.lst false ((Ai ps).map Ae)),some (Ao true 1 (Ai ps)),some (.dref 0),none,none,none,none,none,none,none],[some [.dcm []]]):=rfl
 obtain⟨y3,l1⟩:=qZ ps h.few (some (Ao true 1 (Ai ps)))
 have s3:(Bu 4 (eCB QG (Aa (JR (Ab 2)) Af))) [some (.lst false ((Ai ps).map Ae)),some (Ao true 1 (Ai ps)),some (.dref 0),y3,none,none,none,none,none,none] [some [.dcm (encA (tab ps 135))]]=some (.nx,[some (.lst false ((Ai ps).map Ae)),some (Ao true 1 (Ai ps)),some (.dref 0),y3,some (.int (mst ps)),none,none,none,none,none],[some [.dcm (encA (tab ps 135))]]):=by
  rw[Cm,Eh,Aq,YJ ps (j:=2) (env:=[some (.lst false ((Ai ps).map Ae)),some (Ao true 1 (Ai ps)),some (.dref 0),y3,none,none,none,none,none,none]) (S:=[some [.dcm (encA (tab ps 135))]]) rfl rfl]
  simp only[U0c,CT,qx,lO h,U7d]
  rfl
 have s4:(Bu 5 (Cg Jm)) [some (.lst false ((Ai ps).map Ae)),some (Ao true 1 (Ai ps)),some (.dref 0),y3,some (.int (mst ps)),none,none,none,none,none] [some [.dcm (encA (tab ps 135))]]=some (.nx,[some (.lst false ((Ai ps).map Ae)),some (Ao true 1 (Ai ps)),some (.dref 0),y3,some (.int (mst ps)),some (.lst true ((oft ps).map .int)),none,none,none,none],[some [.dcm (encA (tab ps 135))]]):=by
  rw[Cm,Ds,rZ ps (mst ps) hM,rY h];rfl
 have ea:Hx (Aa (eC (.int 2)) Af) [some (.lst false ((Ai ps).map Ae)),some (Ao true 1 (Ai ps)),some (.dref 0),y3,some (.int (mst ps)),some (.lst true ((oft ps).map .int)),none,none,none,none] [some [.dcm (encA (tab ps 135))]]=some ((upD 0 2,[]),[some [.dcm (encA (tab ps 135))]]):=Vu (j:=2) 2 rfl (by decide) (by decide) (by decide)
 obtain⟨env',T,e2,z6,z7,he,hT⟩:=G8 (w:=[]) (g:=Pat.sem (.nm 6)) (b:=Jr) (ds:=upD 0 2) (env:=[some (.lst false ((Ai ps).map Ae)),some (Ao true 1 (Ai ps)),some (.dref 0),y3,some (.int (mst ps)),some (.lst true ((oft ps).map .int)),none,none,none,none]) (S:=[some [.dcm (encA (tab ps 135))]])
  (fun _ env S=>∃z6 z7:Option D,env=[some (.lst false ((Ai ps).map Ae)),some (Ao true 1 (Ai ps)),some (.dref 0),y3,some (.int (mst ps)),some (.lst true ((oft ps).map .int)),z6,z7,none,none]/\S[0]?=some (some [.dcm (encA (tab ps 135))])) ⟨none,none,rfl,rfl⟩ (fun i env S _=>by simp) (fun i d env S hd q=>by
   obtain⟨z6,z7,he,hT⟩:=q
   subst he
   obtain⟨y7,T',b,hT'⟩:=fJ h S hT y3 (some (.int (mst ps))) (some d) z7 none none
   exact⟨_,Dy _ _ _,_,_,b,_,_,rfl,hT'⟩)
 subst he
 have l2:M6 [some (.lst false ((Ai ps).map Ae)),some (Ao true 1 (Ai ps)),some (.dref 0),y3,some (.int (mst ps)),some (.lst true ((oft ps).map .int)),none,none,none,none] [some [.dcm (encA (tab ps 135))]]=some (.nx,[some (.lst false ((Ai ps).map Ae)),some (Ao true 1 (Ai ps)),some (.dref 0),y3,some (.int (mst ps)),some (.lst true ((oft ps).map .int)),z6,z7,none,none],T):=by
  unfold M6
  rw[Gj,ea]
  exact e2
 have eb:Gk (Aa (eC (.int 1)) (Aa (eOp Bl (Ab 4) (eC (.int 2))) Af)) [some (.lst false ((Ai ps).map Ae)),some (Ao true 1 (Ai ps)),some (.dref 0),y3,some (.int (mst ps)),some (.lst true ((oft ps).map .int)),z6,z7,none,none] T=some ((upD 1 (mst ps+1),[]),T):=S6 (i:=1) (j:=(mst ps:Int)+2) _ rfl (by omega) (by unfold r62;omega) (by unfold r62;omega)
 obtain⟨env',U,e3,w3,w8,w9,he,hU⟩:=G8 (w:=[]) (g:=Pat.sem (.nm 8)) (b:=Jp) (ds:=upD 1 (mst ps+1)) (env:=[some (.lst false ((Ai ps).map Ae)),some (Ao true 1 (Ai ps)),some (.dref 0),y3,some (.int (mst ps)),some (.lst true ((oft ps).map .int)),z6,z7,none,none]) (S:=T)
  (fun _ env S=>∃w3 w8 w9:Option D,env=[some (.lst false ((Ai ps).map Ae)),some (Ao true 1 (Ai ps)),some (.dref 0),w3,some (.int (mst ps)),some (.lst true ((oft ps).map .int)),z6,z7,w8,w9]/\S[0]?=some (some [.dcm (encA (tab ps 135))])) ⟨y3,none,none,rfl,hT⟩ (fun i env S _=>by simp) (fun i d env S hd q=>by
   obtain⟨w3,w8,w9,he,hT⟩:=q
   obtain⟨hi,rfl⟩:=NP hd
   subst he
   have ek:(1:Int)+i=((i+1:Nat):Int):=by omega
   obtain⟨x3,x9,T',b,hT'⟩:=fH h (i+1) (by omega) S hT w3 (some (.int (mst ps))) (some (.lst true ((oft ps).map .int))) z6 z7 w9
   rw[←ek] at b
   exact⟨_,Dy _ _ _,_,_,b,_,_,_,rfl,hT'⟩)
 subst he
 have l4:M4 [some (.lst false ((Ai ps).map Ae)),some (Ao true 1 (Ai ps)),some (.dref 0),y3,some (.int (mst ps)),some (.lst true ((oft ps).map .int)),z6,z7,none,none] T=some (.nx,[some (.lst false ((Ai ps).map Ae)),some (Ao true 1 (Ai ps)),some (.dref 0),w3,some (.int (mst ps)),some (.lst true ((oft ps).map .int)),z6,z7,w8,w9],U):=by
  unfold M4
  rw[Gj,eb]
  exact e3
 unfold Fq
 rw[Dg]
 simp only[U0g,U1h,U0t,U1w,U2j,U2k,U0x,U1u,U2m,U16,if_true]
 unfold Qs
 rw[Bj s1,Bj s2,Bj l1,Bj s3,Bj s4,Bj l2,Bj l4,Ci,BJ]
 show((U2n _ (eqP false U (Ao true 1 (Ai ps)) (Ao false 1 (Ai ps)))).bind _).bind _=_
 rw[mR];rfl
end W09
end
section
namespace W09
open PySem L2 VS
def ins(x:Int):List Int->List Int
 |[]=>[x]
 |y::r=>if x<=y then x::y::r else y::ins x r
def Rn:List Int->List Int
 |[]=>[]
 |x::r=>ins x (Rn r)
theorem RQ(x:Int):∀l:List Int,(ins x l).Perm (x::l)
 |[]=>.refl _
 |y::r=>by
  rw[ins]
  split
  .exact .refl _
  .exact((RQ x r).cons y).trans (.swap ..)
theorem Sq:∀l:List Int,(Rn l).Perm l
 |[]=>.refl _
 |x::r=>(RQ x _).trans ((Sq r).cons x)
theorem Wh(x:Int):∀{l:List Int},l.Pairwise (·<=·)->(ins x l).Pairwise (·<=·)
 |[],_=>by simp[ins]
 |y::r,h=>by
  obtain⟨h1,h2⟩:=U1m.mp h
  rw[ins]
  split
  .rename_i q
   refine U1m.mpr ⟨fun z hz=>?_,h⟩
   rcases U0w.mp hz with e|e
   .omega
   .have:=h1 z e;omega
  .refine U1m.mpr ⟨fun z hz=>?_,Wh x h2⟩
   rcases U0w.mp ((RQ x r).mem_iff.mp hz) with e|e
   .omega
   .exact h1 z e
theorem Sh:∀l:List Int,(Rn l).Pairwise (·<=·)
 |[]=>.nil
 |x::r=>Wh x (Sh r)
theorem eU(ns:List Int):FP ns=Rn (SetP.once ns):=(SM (Sq _) (Sh _)).symm
def Vz(bs:List (List St2)):Nat->Nat->List Nat->List (List St2×List Nat)
 |0,_,ns=>if ns=[] then [] else [([],ns)]
 |k+1,w,ns=>if ns=[] then [] else (steps (Rn (SetP.once (ns.map (fun i=>(at1 bs i w).1)++ns.map (fun i=>(at1 bs i w).2))))).flatMap fun p=>(Vz bs k (w+1) (Dh bs w p.1 ns)).map fun c=>(p::c.1,c.2)
theorem V3(bs:List (List St2)):∀(k w:Nat)(ns:List Nat),Ba bs k w ns=Vz bs k w ns
 |0,_,_=>rfl
 |k+1,w,ns=>by
  rw[Ba,Vz,Cj,eU]
  simp only[V3 bs k]
end W09
end
section
namespace W09
open PySem L2 VS
theorem lK{bs:List (List St2)}{r0 r1:Int}(h1:-20<=r0)(h2:r0+r1<=21)(hl:bs.length<=20)(hb:∀b∈bs,b.length=1/\InB r0 r1 20 b):Jb (bs.map fun b=>b.getD 0 (0,0)):=by
 refine⟨by rw[U0l];exact hl,fun p hp=>?_⟩
 obtain⟨b,hb',rfl⟩:=U12.mp hp
 obtain⟨b1,b2⟩:=hb b hb'
 obtain⟨q,rfl⟩:=U54.mp b1
 obtain⟨g1,g2,g3,g4⟩:=b2 q U0i
 show -24<=q.1/\q.1<q.2/\q.2<=110
 omega
theorem jY(ns:List Int)(c:Int)(z2 z3:Option D)(S:Store):∃(S':Store)(y2 y3:Option D),S9 [some (.scr ns),some (.int c),z2,z3] S=some (.nx,[some (.scr ns),some (.int c),y2,y3],S'):=by
 obtain⟨x0,p0⟩:=jU c
 have s1:(Bu 2 (KH Fd (Aa (Ab 1) Af))) [some (.scr ns),some (.int c),z2,z3] S=some (.nx,[some (.scr ns),some (.int c),some (.ref S.length),z3],S++[some [.int x0,.int c,.int 0]]):=by
  rw[Cm,W8 (d':=.ref S.length) (cs:=[.int x0,.int c,.int 0]) (Dn (ds:=[.int c]) (es:=[.int c]) (S':=S) rfl (by simp[Az,BW]) (by simp[Bk,age]) p0) (by simp[Oh,Dm,CJ])]
  rfl
 obtain⟨r,x1,z5,d1,⟨r0',r1'⟩,k1,k2⟩:=Gm x0 c 0 4 (by decide) (by decide) (by decide) (by decide)
 obtain⟨r0,r1,f1,h1,h2,h3⟩:=qH r r0' r1'
 obtain⟨bs,x2,z6,e1,bl,bb,k3,k4⟩:=iZ x1 c z5 r0 r1 1 20 (by decide) (by decide) (by decide) (by decide) (by omega) h2 (by omega) (by omega) (by omega)
 have hone:=qp fun b hb=>(bb b hb).1
 have hn:=lK h1 h3 bl bb
 have hr:=fG hn
 rw[←hone] at hr
 have c1:Bm Am (Aa (Ab 2) (Aa (eC (.int 4)) Af)) [some (.scr ns),some (.int c),some (.ref S.length),z3] (S++[some [.int x0,.int c,.int 0]])=some (.int r,S++[some [.int x1,.int c,.int z5]]):=by
  rw[O2 (ns:=[x0,c,0]) (rest:=[.int 4]) (es:=[.int 4]) (i:=S.length) (S':=S++[some [.int x0,.int c,.int 0]]) rfl (Vp S _ []) (by simp[Az,BW]) (by simp[Bk,age]) d1,Vm];rfl
 have s2:(Bu 3 (eOp oIx (Cg (Aa (Bw (Aa (eC (.int 0)) (Aa (eC (.int 6)) Af))) (Aa (Bw (Aa (eUn FN (eC (.int 3))) (Aa (eC (.int 8)) Af))) (Aa (Bw (Aa (eC (.int 0)) (Aa (eC (.int 13)) Af))) (Aa (Bw (Aa (eUn FN (eC (.int 20))) (Aa (eC (.int 41)) Af))) Af))))) (Bm Am (Aa (Ab 2) (Aa (eC (.int 4)) Af))))) [some (.scr ns),some (.int c),some (.ref S.length),z3] (S++[some [.int x0,.int c,.int 0]])=some (.nx,[some (.scr ns),some (.int c),some (.ref S.length),some (.tup [.int r0,.int r1])],S++[some [.int x1,.int c,.int z5]]):=by
  have q0:(Cg (Aa (Bw (Aa (eC (.int 0)) (Aa (eC (.int 6)) Af))) (Aa (Bw (Aa (eUn FN (eC (.int 3))) (Aa (eC (.int 8)) Af))) (Aa (Bw (Aa (eC (.int 0)) (Aa (eC (.int 13)) Af))) (Aa (Bw (Aa (eUn FN (eC (.int 20))) (Aa (eC (.int 41)) Af))) Af))))) [some (.scr ns),some (.int c),some (.ref S.length),z3] (S++[some [.int x0,.int c,.int 0]])=some (.lst true [.tup [.int 0,.int 6],.tup [.int (-3),.int 8],.tup [.int 0,.int 13],.tup [.int (-20),.int 41]],S++[some [.int x0,.int c,.int 0]]):=rfl
  rw[Cm,BJ,q0,U0c,c1,U0c]
  show(U2n _ (atI [D.tup [.int 0,.int 6],.tup [.int (-3),.int 8],.tup [.int 0,.int 13],.tup [.int (-20),.int 41]] r)).bind _=_
  rw[f1];rfl
 have c2:Bm Ew (Aa (Ab 2) (Aa (eC (.int 1)) (Aa (Ab 3) (Aa (eC (.int 20)) Af)))) [some (.scr ns),some (.int c),some (.ref S.length),some (.tup [.int r0,.int r1])] (S++[some [.int x1,.int c,.int z5]])=some (.lst true (bs.map Ae),S++[some [.int x2,.int c,.int z6]]):=by
  rw[O2 (ns:=[x1,c,z5]) (rest:=[.int 1,.tup [.int r0,.int r1],.int 20]) (es:=[.int 1,.tup [.int r0,.int r1],.int 20]) (i:=S.length) (S':=S++[some [.int x1,.int c,.int z5]]) rfl (Vp S _ []) (by simp[Az,BW]) (by simp[Bk,age]) e1,Vm];rfl
 have pB:=CG (Cq bs)
 have aB:Bk (bs.map Ae)=bs.map Ae:=Gs (Cq bs)
 have c3:BK Fq (Aa (Bm Ew (Aa (Ab 2) (Aa (eC (.int 1)) (Aa (Ab 3) (Aa (eC (.int 20)) Af))))) Af) [some (.scr ns),some (.int c),some (.ref S.length),some (.tup [.int r0,.int r1])] (S++[some [.int x1,.int c,.int z5]])=some (.bl true,S++[some [.int x2,.int c,.int z6]]) :=
  Dn (ds:=[.lst true (bs.map Ae)]) (es:=[.lst false (bs.map Ae)]) (by rw[Aq,c2];rfl) (by rw[Az,BW,pB,Az];rfl) (by rw[Bk,age,aB,Bk]) hr
 refine⟨S++[some [.int x2,.int c,.int z6]],some (.ref S.length),some (.tup [.int r0,.int r1]),?_⟩
 unfold S9
 rw[Bj s1,Bj s2,Ht (by rw[QH,Cr,c3];rfl)]
 rfl
theorem gR:∀ns:List Int,ns.length<=63->Te [.scr ns]=some (.bl true):=by
 intro ns hns
 obtain⟨l,e⟩:∃l:List Int,Ec (eOp Bl (Cg (Aa (eC (.int 0)) Af)) (eSl oSl (Ab 0) Hs (Hr (eC (.int 12))))) [some (.scr ns),none,none,none] []=some ((l.map .int,[]),[]):=by
  obtain⟨cs,hc,hl⟩:∃cs:List Int,cut (ns.map D.int) none (some 12)=cs.map D.int/\cs.length<=63:=by
   unfold cut
   rw[←List.map_drop,←List.map_take]
   exact⟨_,rfl,by rw[U24,U6y];omega⟩
  refine⟨0::cs,?_⟩
  have a1:eSl oSl (Ab 0) Hs (Hr (eC (.int 12))) [some (.scr ns),none,none,none] []=some (.lst true (cs.map .int),[]):=by
   show(some (D.lst true (cut (ns.map D.int) none (some 12)),([]:Store)):Option (D×Store))=_
   rw[hc]
  have a2:Cg (Aa (eC (.int 0)) Af) [some (.scr ns),none,none,none] []=some (.lst true [.int 0],[]):=rfl
  rw[Gz,add_lists a2 a1 (by rw[U0l];simp;omega)]
  rfl
 have l1:∃env' S',Vw [some (.scr ns),none,none,none] []=some (.nx,env',S')/\∃y1 y2 y3,env'=[some (.scr ns),y1,y2,y3]:=by
  unfold Vw
  rw[Gj,e]
  exact G8 (w:=[]) (g:=Pat.sem (.nm 1)) (b:=S9) (ds:=l.map .int) (env:=[some (.scr ns),none,none,none]) (S:=[])
   (fun _ env S=>∃y1 y2 y3,env=[some (.scr ns),y1,y2,y3]) ⟨_,_,_,rfl⟩ (fun i env S _=>by simp) (fun j d env S hd q=>by
    obtain⟨y1,y2,y3,he⟩:=q
    rw[U04] at hd
    obtain⟨c,hc,rfl⟩:=U26.mp hd
    subst he
    obtain⟨S',w2,w3,e3⟩:=jY ns c y2 y3 S
    exact⟨_,Dy _ _ _,_,_,e3,_,_,_,rfl⟩)
 obtain⟨env',S',l1,y1,y2,y3,he⟩:=l1
 subst he
 have gA:Good 1 (Ai [(0,4),(2,6),(3,4)]):=Yi (by decide) (by decide)
 have vA:pck [((0:Int),(4:Int)),(2,6),(3,4)] 2=[(2,4)]:=by
  unfold pck
  rw[←OD _ _ 2 (by decide),V3]
  decide +kernel
 have hA:=Wb gA 2 (by decide)
 rw[vA] at hA
 have cA:BK Bb (Aa (Bw (Aa (eC (.int 1)) (Aa (Cg (Aa (Bw (Aa (Bw (Aa (eC (.int 0)) (Aa (eC (.int 4)) Af))) Af)) (Aa (Bw (Aa (Bw (Aa (eC (.int 2)) (Aa (eC (.int 6)) Af))) Af)) (Aa (Bw (Aa (Bw (Aa (eC (.int 3)) (Aa (eC (.int 4)) Af))) Af)) Af)))) Af))) (Aa (eC (.int 2)) Af)) [some (.scr ns),y1,y2,y3] S'=some (.lst true ([((2:Int),(4:Int))].map Ag),S') :=
  Dn (ds:=[Ao true 1 (Ai [(0,4),(2,6),(3,4)]),.int 2]) (es:=[Ao false 1 (Ai [(0,4),(2,6),(3,4)]),.int 2]) (S':=S') rfl (RJ ..) (UG ..) hA
 have f0:(Cg (Aa (Bw (Aa (eC (.int 2)) (Aa (eC (.int 4)) Af))) Af)) [some (.scr ns),y1,y2,y3] S'=some (.lst true ([((2:Int),(4:Int))].map Ag),S'):=rfl
 have eqS:oEq false S' (.lst true ([((2:Int),(4:Int))].map Ag)) (.lst true ([((2:Int),(4:Int))].map Ag))=some (.bl (false ^^ true)):=RT 2 (Oq S' true _) (Oq S' true _) (aH _) (by decide)
 unfold Te
 rw[Dg]
 simp only[U0g,U1h,U0t,U1w,U2j,U2k,U0x,U1u,U2m,U16,if_true]
 unfold jF
 rw[Bj l1,Ci,BJ,cA,U0c,f0,U0c,eqS]
 simp[den]
end W09
end
section
namespace W09
open PySem PySem.Spec L2 VS
theorem KZ:∀{us:List Value},us.length=1->∃a0,us=[a0]
 |[a0],_=>⟨a0,rfl⟩
theorem Ng:∀{us:List Value},us.length=2->∃a0 a1,us=[a0,a1]
 |[a0,a1],_=>⟨a0,a1,rfl⟩
theorem cj:∀{us:List Value},us.length=4->∃a0 a1 a2 a3,us=[a0,a1,a2,a3]
 |[a0,a1,a2,a3],_=>⟨a0,a1,a2,a3,rfl⟩
theorem tops{l:U6a}{w:World}{K:U0a}{h:Heap}{mg:Str->Option Value}{fa dM:Addr}{f1 f2 f3 f4 f5 f6 f7 f8 f9 f10 f11 f12 f13 f14 f15 f16 f17 f18 f19 f20 f21 f22 f23 f24 f25:Addr}(X:K.In h)(G:h.Ns mainGlobals mg)(hfa:mg "law"=some (.ref fa))
  {od1 an1 od2 an2 od3 an3 od4 an4 od5 an5 od6 an6 od7 an7 od8 an8 od9 an9 od10 an10 od11 an11 od12 an12 od13 an13 od14 an14 od15 an15 od16 an16 od17 an17 od18 an18 od19 an19 od20 an20 od21 an21 od22 an22 od23 an23 od24 an24 od25 an25:Option Addr} {sl1 sl2 sl3 sl4 sl5 sl6 sl7 sl8 sl9 sl10 sl11 sl12 sl13 sl14 sl15 sl16 sl17 sl18 sl19 sl20 sl21 sl22 sl23 sl24 sl25:Array (Option Value)} {oc1 kV1 dc1 pm1 cd1 ct1 oc2 kV2 dc2 pm2 cd2 ct2 oc3 kV3 dc3 pm3 cd3 ct3 oc4 kV4 dc4 pm4 cd4 ct4 oc5 kV5 dc5 pm5 cd5 ct5 oc6 kV6 dc6 pm6 cd6 ct6 oc7 kV7 dc7 pm7 cd7 ct7 oc8 kV8 dc8 pm8 cd8 ct8 oc9 kV9 dc9 pm9 cd9 ct9 oc10 kV10 dc10 pm10 cd10 ct10 oc11 kV11 dc11 pm11 cd11 ct11 oc12 kV12 dc12 pm12 cd12 ct12 oc13 kV13 dc13 pm13 cd13 ct13 oc14 kV14 dc14 pm14 cd14 ct14 oc15 kV15 dc15 pm15 cd15 ct15 oc16 kV16 dc16 pm16 cd16 ct16 oc17 kV17 dc17 pm17 cd17 ct17 oc18 kV18 dc18 pm18 cd18 ct18 oc19 kV19 dc19 pm19 cd19 ct19 oc20 kV20 dc20 pm20 cd20 ct20 oc21 kV21 dc21 pm21 cd21 ct21 oc22 kV22 dc22 pm22 cd22 ct22 oc23 kV23 dc23 pm23 cd23 ct23 oc24 kV24 dc24 pm24 cd24 ct24 oc25 kV25 dc25 pm25 cd25 ct25:Value}
  (a1:U01 K mainGlobals "is_whole"=some (some (.ref f1))) (l1:K.lookup f1=some ⟨oc1,od1,.func (U1b "is_whole" "is_whole" (CQ Ia) (Bv Ia) (Ak Ia) .none kV1 dc1 pm1 an1 cd1 ct1),sl1⟩) (c1:U09 K cd1 "is_whole"=true) (k1:U08 K (.ref f1)=true)
  (a2:U01 K mainGlobals "are_ways"=some (some (.ref f2))) (l2:K.lookup f2=some ⟨oc2,od2,.func (U1b "are_ways" "are_ways" (CQ Ig) (Bv Ig) (Ak Ig) .none kV2 dc2 pm2 an2 cd2 ct2),sl2⟩) (c2:U09 K cd2 "are_ways"=true) (k2:U08 K (.ref f2)=true)
  (a3:U01 K mainGlobals "is_stretch"=some (some (.ref f3))) (l3:K.lookup f3=some ⟨oc3,od3,.func (U1b "is_stretch" "is_stretch" (CQ Gn) (Bv Gn) (Ak Gn) .none kV3 dc3 pm3 an3 cd3 ct3),sl3⟩) (c3:U09 K cd3 "is_stretch"=true) (k3:U08 K (.ref f3)=true)
  (a4:U01 K mainGlobals "is_box"=some (some (.ref f4))) (l4:K.lookup f4=some ⟨oc4,od4,.func (U1b "is_box" "is_box" (CQ JH) (Bv JH) (Ak JH) .none kV4 dc4 pm4 an4 cd4 ct4),sl4⟩) (c4:U09 K cd4 "is_box"=true) (k4:U08 K (.ref f4)=true)
  (a5:U01 K mainGlobals "is_heap"=some (some (.ref f5))) (l5:K.lookup f5=some ⟨oc5,od5,.func (U1b "is_heap" "is_heap" (CQ Ho) (Bv Ho) (Ak Ho) .none kV5 dc5 pm5 an5 cd5 ct5),sl5⟩) (c5:U09 K cd5 "is_heap"=true) (k5:U08 K (.ref f5)=true)
  (a6:U01 K mainGlobals "need_heap"=some (some (.ref f6))) (l6:K.lookup f6=some ⟨oc6,od6,.func (U1b "need_heap" "need_heap" (CQ HN) (Bv HN) (Ak HN) .none kV6 dc6 pm6 an6 cd6 ct6),sl6⟩) (c6:U09 K cd6 "need_heap"=true) (k6:U08 K (.ref f6)=true)
  (a7:U01 K mainGlobals "need_ways"=some (some (.ref f7))) (l7:K.lookup f7=some ⟨oc7,od7,.func (U1b "need_ways" "need_ways" (CQ HJ) (Bv HJ) (Ak HJ) .none kV7 dc7 pm7 an7 cd7 ct7),sl7⟩) (c7:U09 K cd7 "need_ways"=true) (k7:U08 K (.ref f7)=true)
  (a8:U01 K mainGlobals "box_size"=some (some (.ref f8))) (l8:K.lookup f8=some ⟨oc8,od8,.func (U1b "box_size" "box_size" (CQ Ie) (Bv Ie) (Ak Ie) .none kV8 dc8 pm8 an8 cd8 ct8),sl8⟩) (c8:U09 K cd8 "box_size"=true) (k8:U08 K (.ref f8)=true)
  (a9:U01 K mainGlobals "ends_along"=some (some (.ref f9))) (l9:K.lookup f9=some ⟨oc9,od9,.func (U1b "ends_along" "ends_along" (CQ Fe) (Bv Fe) (Ak Fe) .none kV9 dc9 pm9 an9 cd9 ct9),sl9⟩) (c9:U09 K cd9 "ends_along"=true) (k9:U08 K (.ref f9)=true)
  (a10:U01 K mainGlobals "steps_along"=some (some (.ref f10))) (l10:K.lookup f10=some ⟨oc10,od10,.func (U1b "steps_along" "steps_along" (CQ GZ) (Bv GZ) (Ak GZ) .none kV10 dc10 pm10 an10 cd10 ct10),sl10⟩) (c10:U09 K cd10 "steps_along"=true) (k10:U08 K (.ref f10)=true)
  (a11:U01 K mainGlobals "cells_from"=some (some (.ref f11))) (l11:K.lookup f11=some ⟨oc11,od11,.func (U1b "cells_from" "cells_from" (CQ Fg) (Bv Fg) (Ak Fg) .none kV11 dc11 pm11 an11 cd11 ct11),sl11⟩) (c11:U09 K cd11 "cells_from"=true) (k11:U08 K (.ref f11)=true)
  (a12:U01 K mainGlobals "cells_of"=some (some (.ref f12))) (l12:K.lookup f12=some ⟨oc12,od12,.func (U1b "cells_of" "cells_of" (CQ Ib) (Bv Ib) (Ak Ib) .none kV12 dc12 pm12 an12 cd12 ct12),sl12⟩) (c12:U09 K cd12 "cells_of"=true) (k12:U08 K (.ref f12)=true)
  (a13:U01 K mainGlobals "sizes_by_times"=some (some (.ref f13))) (l13:K.lookup f13=some ⟨oc13,od13,.func (U1b "sizes_by_times" "sizes_by_times" (CQ Ef) (Bv Ef) (Ak Ef) .none kV13 dc13 pm13 an13 cd13 ct13),sl13⟩) (c13:U09 K cd13 "sizes_by_times"=true) (k13:U08 K (.ref f13)=true)
  (a14:U01 K mainGlobals "joined"=some (some (.ref f14))) (l14:K.lookup f14=some ⟨oc14,od14,.func (U1b "joined" "joined" (CQ Jy) (Bv Jy) (Ak Jy) .none kV14 dc14 pm14 an14 cd14 ct14),sl14⟩) (c14:U09 K cd14 "joined"=true) (k14:U08 K (.ref f14)=true)
  (a15:U01 K mainGlobals "pieces_held"=some (some (.ref f15))) (l15:K.lookup f15=some ⟨oc15,od15,.func (U1b "pieces_held" "pieces_held" (CQ Fw) (Bv Fw) (Ak Fw) .none kV15 dc15 pm15 an15 cd15 ct15),sl15⟩) (c15:U09 K cd15 "pieces_held"=true) (k15:U08 K (.ref f15)=true)
  (a16:U01 K mainGlobals "lengths_often"=some (some (.ref f16))) (l16:K.lookup f16=some ⟨oc16,od16,.func (U1b "lengths_often" "lengths_often" (CQ Fo) (Bv Fo) (Ak Fo) .none kV16 dc16 pm16 an16 cd16 ct16),sl16⟩) (c16:U09 K cd16 "lengths_often"=true) (k16:U08 K (.ref f16)=true)
  (a17:U01 K mainGlobals "pieces_at_least"=some (some (.ref f17))) (l17:K.lookup f17=some ⟨oc17,od17,.func (U1b "pieces_at_least" "pieces_at_least" (CQ Eu) (Bv Eu) (Ak Eu) .none kV17 dc17 pm17 an17 cd17 ct17),sl17⟩) (c17:U09 K cd17 "pieces_at_least"=true) (k17:U08 K (.ref f17)=true)
  (a18:U01 K mainGlobals "_law_mixed"=some (some (.ref f18))) (l18:K.lookup f18=some ⟨oc18,od18,.func (U1b "_law_mixed" "_law_mixed" (CQ HS) (Bv HS) (Ak HS) .none kV18 dc18 pm18 an18 cd18 ct18),sl18⟩) (c18:U09 K cd18 "_law_mixed"=true) (k18:U08 K (.ref f18)=true)
  (a19:U01 K mainGlobals "_law_well"=some (some (.ref f19))) (l19:K.lookup f19=some ⟨oc19,od19,.func (U1b "_law_well" "_law_well" (CQ IV) (Bv IV) (Ak IV) .none kV19 dc19 pm19 an19 cd19 ct19),sl19⟩) (c19:U09 K cd19 "_law_well"=true) (k19:U08 K (.ref f19)=true)
  (a20:U01 K mainGlobals "_law_draw"=some (some (.ref f20))) (l20:K.lookup f20=some ⟨oc20,od20,.func (U1b "_law_draw" "_law_draw" (CQ IW) (Bv IW) (Ak IW) .none kV20 dc20 pm20 an20 cd20 ct20),sl20⟩) (c20:U09 K cd20 "_law_draw"=true) (k20:U08 K (.ref f20)=true)
  (a21:U01 K mainGlobals "_law_stretch"=some (some (.ref f21))) (l21:K.lookup f21=some ⟨oc21,od21,.func (U1b "_law_stretch" "_law_stretch" (CQ Ga) (Bv Ga) (Ak Ga) .none kV21 dc21 pm21 an21 cd21 ct21),sl21⟩) (c21:U09 K cd21 "_law_stretch"=true) (k21:U08 K (.ref f21)=true)
  (a22:U01 K mainGlobals "_law_box"=some (some (.ref f22))) (l22:K.lookup f22=some ⟨oc22,od22,.func (U1b "_law_box" "_law_box" (CQ Hl) (Bv Hl) (Ak Hl) .none kV22 dc22 pm22 an22 cd22 ct22),sl22⟩) (c22:U09 K cd22 "_law_box"=true) (k22:U08 K (.ref f22)=true)
  (a23:U01 K mainGlobals "_law_boxes"=some (some (.ref f23))) (l23:K.lookup f23=some ⟨oc23,od23,.func (U1b "_law_boxes" "_law_boxes" (CQ HW) (Bv HW) (Ak HW) .none kV23 dc23 pm23 an23 cd23 ct23),sl23⟩) (c23:U09 K cd23 "_law_boxes"=true) (k23:U08 K (.ref f23)=true)
  (a24:U01 K mainGlobals "_law_right"=some (some (.ref f24))) (l24:K.lookup f24=some ⟨oc24,od24,.func (U1b "_law_right" "_law_right" (CQ G4) (Bv G4) (Ak G4) .none kV24 dc24 pm24 an24 cd24 ct24),sl24⟩) (c24:U09 K cd24 "_law_right"=true) (k24:U08 K (.ref f24)=true)
  (a25:U01 K mainGlobals "law"=some (some (.ref f25))) (l25:K.lookup f25=some ⟨oc25,od25,.func (U1b "law" "law" (CQ Ko) (Bv Ko) (Ak Ko) .none kV25 dc25 pm25 an25 cd25 ct25),sl25⟩) (c25:U09 K cd25 "law"=true) (k25:U08 K (.ref f25)=true)
  (z1:U01 K mainGlobals "len"=some none)
  (z2:U01 K mainGlobals "isinstance"=some none)
  (z3:U01 K mainGlobals "all"=some none)
  (z4:U01 K mainGlobals "sorted"=some none)
  (z5:U01 K mainGlobals "min"=some none)
  (z6:U01 K mainGlobals "max"=some none)
  (z7:U01 K mainGlobals "abs"=some none)
  (z8:U01 K mainGlobals "repr"=some none)
  (z9:U01 K mainGlobals "set"=some none)
  (z10:U01 K mainGlobals "list"=some none)
  (z11:U01 K mainGlobals "tuple"=some none)
  (z12:U01 K mainGlobals "range"=some none)
  (z13:U01 K mainGlobals "int"=some none)
  (z14:U01 K mainGlobals "bool"=some none)
  (z15:U01 K mainGlobals "str"=some none)
  (zBz:U01 K mainGlobals "zip"=some none)
  {ep:Nat} {h1 h2 h3:Int} {t1 t2 t3 u1 u2 u3:Tok} (aM:U01 K mainGlobals "MOST_BOXES"=some (some (.ref dM))) (hM:(dM==sysModules)=false)
  (lM:K.lookup dM=some { cls:=.type "dict",data:=.dict #[⟨h1,.int 1 t1,.int 20 u1⟩,⟨h2,.int 2 t2,.int 10 u2⟩,⟨h3,.int 3 t3,.int 6 u3⟩] ep }) (e1:h1=hashInt 1) (e2:h2=hashInt 2) (e3:h3=hashInt 3)
  : ∃fd:FuncData,(∀(s:Shared)(v:Value),BindsTo s fd ⟨[v],[]⟩ [("script",v)])/\∀base:Heap,K.In base->base.Ns mainGlobals mg->DG l.prog w K mg base CX0 11 fa fd ["script"] (Ru K):=by
 have e:=hfa.symm.trans (U1a X G a25)
 cases e
 have F1:=Di (st:=Ia) l1 c1 k1
 have b1:=F1.binds (ps:=["thing"]) fun _ _ _ _ _ _ us hl=>by obtain⟨_,rfl⟩:=KZ hl;rfl
 have F2:=Di (st:=Ig) l2 c2 k2
 have b2:=F2.binds (ps:=["thing"]) fun _ _ _ _ _ _ us hl=>by obtain⟨_,rfl⟩:=KZ hl;rfl
 have F3:=Di (st:=Gn) l3 c3 k3
 have b3:=F3.binds (ps:=["thing"]) fun _ _ _ _ _ _ us hl=>by obtain⟨_,rfl⟩:=KZ hl;rfl
 have F4:=Di (st:=JH) l4 c4 k4
 have b4:=F4.binds (ps:=["ways","thing"]) fun _ _ _ _ _ _ us hl=>by obtain⟨_,_,rfl⟩:=Ng hl;rfl
 have F5:=Di (st:=Ho) l5 c5 k5
 have b5:=F5.binds (ps:=["thing"]) fun _ _ _ _ _ _ us hl=>by obtain⟨_,rfl⟩:=KZ hl;rfl
 have F6:=Di (st:=HN) l6 c6 k6
 have b6:=F6.binds (ps:=["heap"]) fun _ _ _ _ _ _ us hl=>by obtain⟨_,rfl⟩:=KZ hl;rfl
 have F7:=Di (st:=HJ) l7 c7 k7
 have b7:=F7.binds (ps:=["heap","ways"]) fun _ _ _ _ _ _ us hl=>by obtain⟨_,_,rfl⟩:=Ng hl;rfl
 have F8:=Di (st:=Ie) l8 c8 k8
 have b8:=F8.binds (ps:=["box"]) fun _ _ _ _ _ _ us hl=>by obtain⟨_,rfl⟩:=KZ hl;rfl
 have F9:=Di (st:=Fe) l9 c9 k9
 have b9:=F9.binds (ps:=["boxes","way"]) fun _ _ _ _ _ _ us hl=>by obtain⟨_,_,rfl⟩:=Ng hl;rfl
 have F10:=Di (st:=GZ) l10 c10 k10
 have b10:=F10.binds (ps:=["boxes","way"]) fun _ _ _ _ _ _ us hl=>by obtain⟨_,_,rfl⟩:=Ng hl;rfl
 have F11:=Di (st:=Fg) l11 c11 k11
 have b11:=F11.binds (ps:=["boxes","numbers","way","ways"]) fun _ _ _ _ _ _ us hl=>by obtain⟨_,_,_,_,rfl⟩:=cj hl;rfl
 have F12:=Di (st:=Ib) l12 c12 k12
 have b12:=F12.binds (ps:=["heap"]) fun _ _ _ _ _ _ us hl=>by obtain⟨_,rfl⟩:=KZ hl;rfl
 have F13:=Di (st:=Ef) l13 c13 k13
 have b13:=F13.binds (ps:=["cells"]) fun _ _ _ _ _ _ us hl=>by obtain⟨_,rfl⟩:=KZ hl;rfl
 have F14:=Di (st:=Jy) l14 c14 k14
 have b14:=F14.binds (ps:=["stretches"]) fun _ _ _ _ _ _ us hl=>by obtain⟨_,rfl⟩:=KZ hl;rfl
 have F15:=Di (st:=Fw) l15 c15 k15
 have b15:=F15.binds (ps:=["heap","least"]) fun _ _ _ _ _ _ us hl=>by obtain⟨_,_,rfl⟩:=Ng hl;rfl
 have F16:=Di (st:=Fo) l16 c16 k16
 have b16:=F16.binds (ps:=["heap"]) fun _ _ _ _ _ _ us hl=>by obtain⟨_,rfl⟩:=KZ hl;rfl
 have F17:=Di (st:=Eu) l17 c17 k17
 have b17:=F17.binds (ps:=["heap","k"]) fun _ _ _ _ _ _ us hl=>by obtain⟨_,_,rfl⟩:=Ng hl;rfl
 have F18:=Di (st:=HS) l18 c18 k18
 have b18:=F18.binds (ps:=["cell","k"]) fun _ _ _ _ _ _ us hl=>by obtain⟨_,_,rfl⟩:=Ng hl;rfl
 have F19:=Di (st:=IV) l19 c19 k19
 have b19:=F19.binds (ps:=["cell"]) fun _ _ _ _ _ _ us hl=>by obtain⟨_,rfl⟩:=KZ hl;rfl
 have F20:=Di (st:=IW) l20 c20 k20
 have b20:=F20.binds (ps:=["well","many"]) fun _ _ _ _ _ _ us hl=>by obtain⟨_,_,rfl⟩:=Ng hl;rfl
 have F21:=Di (st:=Ga) l21 c21 k21
 have b21:=F21.binds (ps:=["well","reach"]) fun _ _ _ _ _ _ us hl=>by obtain⟨_,_,rfl⟩:=Ng hl;rfl
 have F22:=Di (st:=Hl) l22 c22 k22
 have b22:=F22.binds (ps:=["well","ways","reach","boxes"]) fun _ _ _ _ _ _ us hl=>by obtain⟨_,_,_,_,rfl⟩:=cj hl;rfl
 have F23:=Di (st:=HW) l23 c23 k23
 have b23:=F23.binds (ps:=["well","ways","reach","most"]) fun _ _ _ _ _ _ us hl=>by obtain⟨_,_,_,_,rfl⟩:=cj hl;rfl
 have F24:=Di (st:=G4) l24 c24 k24
 have b24:=F24.binds (ps:=["boxes"]) fun _ _ _ _ _ _ us hl=>by obtain⟨_,rfl⟩:=KZ hl;rfl
 have F25:=Di (st:=Ko) l25 c25 k25
 have mM:=U1a X G aM
 have B:Blt mg:=fun x hx=>by
  simp only[RZ,U0w,U2t,or_false] at hx
  rcases hx with rfl|rfl|rfl|rfl|rfl|rfl|rfl|rfl|rfl|rfl|rfl|rfl|rfl|rfl|rfl
  .exact U1t X G z1
  .exact U1t X G z2
  .exact U1t X G z3
  .exact U1t X G z4
  .exact U1t X G z5
  .exact U1t X G z6
  .exact U1t X G z7
  .exact U1t X G z8
  .exact U1t X G z9
  .exact U1t X G z10
  .exact U1t X G z11
  .exact U1t X G z12
  .exact U1t X G z13
  .exact U1t X G z14
  .exact U1t X G z15
 have Bz:mg "zip"=none:=U1t X G zBz
 refine⟨U1b "law" "law" (CQ Ko) (Bv Ko) (Ak Ko) .none kV25 dc25 pm25 an25 cd25 ct25,fun s v=>.of_eq rfl,fun base _ _=>?_⟩
 have C_is_whole:CZ l.prog w K mg base "is_whole" 1 Dd:=⟨⟨["thing"],⟨_,_,Xp F1 B,b1,k1,U1a X G a1⟩,fun ds r h=>Dc h⟩⟩
 have C_are_ways:CZ l.prog w K mg base "are_ways" 2 Dz:=⟨⟨["thing"],⟨_,_,Xu F2 B mM (oH hM lM e1 e2 e3 (by decide)) C_is_whole,b2,k2,U1a X G a2⟩,fun ds r h=>Dc h⟩⟩
 have C_is_stretch:CZ l.prog w K mg base "is_stretch" 2 G5:=⟨⟨["thing"],⟨_,_,VJ F3 B C_is_whole,b3,k3,U1a X G a3⟩,fun ds r h=>Dc h⟩⟩
 have C_is_box:CZ l.prog w K mg base "is_box" 3 IK:=⟨⟨["ways","thing"],⟨_,_,bQ F4 B C_are_ways C_is_stretch,b4,k4,U1a X G a4⟩,fun ds r h=>Dc h⟩⟩
 have C_is_heap:CZ l.prog w K mg base "is_heap" 4 HF:=⟨⟨["thing"],⟨_,_,Za F5 B mM (oH hM lM e1 e2 e3 (by decide)) C_are_ways C_is_box,b5,k5,U1a X G a5⟩,fun ds r h=>Dc h⟩⟩
 have C_need_heap:CZ l.prog w K mg base "need_heap" 5 Fp:=⟨⟨["heap"],⟨_,_,XC F6 B C_is_heap,b6,k6,U1a X G a6⟩,fun ds r h=>Dc h⟩⟩
 have C_need_ways:CZ l.prog w K mg base "need_ways" 6 Eb:=⟨⟨["heap","ways"],⟨_,_,X8 F7 B C_need_heap,b7,k7,U1a X G a7⟩,fun ds r h=>Dc h⟩⟩
 have C_box_size:CZ l.prog w K mg base "box_size" 1 G9:=⟨⟨["box"],⟨_,_,Xr F8 B,b8,k8,U1a X G a8⟩,fun ds r h=>Dc h⟩⟩
 have C_ends_along:CZ l.prog w K mg base "ends_along" 1 G6:=⟨⟨["boxes","way"],⟨_,_,VL F9 B,b9,k9,U1a X G a9⟩,fun ds r h=>Dc h⟩⟩
 have C_steps_along:CZ l.prog w K mg base "steps_along" 2 Ep:=⟨⟨["boxes","way"],⟨_,_,UL F10 B Bz C_ends_along,b10,k10,U1a X G a10⟩,fun ds r h=>Dc h⟩⟩
 have C_cells_from0:CZ l.prog w K mg base "cells_from" 2 (Br 0):=⟨⟨["boxes","numbers","way","ways"],⟨_,_,mq (f:=f11) rfl,b11,k11,U1a X G a11⟩,fun ds r h=>by cases h⟩⟩
 have C_cells_from1:CZ l.prog w K mg base "cells_from" 3 (Br 1):=⟨⟨["boxes","numbers","way","ways"],⟨_,_,J3 F11 B C_steps_along (by decide) C_cells_from0,b11,k11,U1a X G a11⟩,fun ds r h=>Dc h⟩⟩
 have C_cells_from2:CZ l.prog w K mg base "cells_from" 4 (Br 2):=⟨⟨["boxes","numbers","way","ways"],⟨_,_,J3 F11 B C_steps_along (by decide) C_cells_from1,b11,k11,U1a X G a11⟩,fun ds r h=>Dc h⟩⟩
 have C_cells_from3:CZ l.prog w K mg base "cells_from" 5 (Br 3):=⟨⟨["boxes","numbers","way","ways"],⟨_,_,J3 F11 B C_steps_along (by decide) C_cells_from2,b11,k11,U1a X G a11⟩,fun ds r h=>Dc h⟩⟩
 have C_cells_from4:CZ l.prog w K mg base "cells_from" 6 (Br 4):=⟨⟨["boxes","numbers","way","ways"],⟨_,_,J3 F11 B C_steps_along (by decide) C_cells_from3,b11,k11,U1a X G a11⟩,fun ds r h=>Dc h⟩⟩
 have C_cells_from:=C_cells_from4
 have C_cells_of:CZ l.prog w K mg base "cells_of" 7 Dj:=⟨⟨["heap"],⟨_,_,Xq F12 B C_cells_from,b12,k12,U1a X G a12⟩,fun ds r h=>Dc h⟩⟩
 have C_sizes_by_times:CZ l.prog w K mg base "sizes_by_times" 2 Dr:=⟨⟨["cells"],⟨_,_,Qf F13 B C_box_size,b13,k13,U1a X G a13⟩,fun ds r h=>Dc h⟩⟩
 have C_joined:CZ l.prog w K mg base "joined" 1 Hz:=⟨⟨["stretches"],⟨_,_,bO F14 B,b14,k14,U1a X G a14⟩,fun ds r h=>Dc h⟩⟩
 have C_pieces_held:CZ l.prog w K mg base "pieces_held" 8 Dw:=⟨⟨["heap","least"],⟨_,_,UW F15 B C_joined C_cells_of,b15,k15,U1a X G a15⟩,fun ds r h=>Dc h⟩⟩
 have C_lengths_often:CZ l.prog w K mg base "lengths_often" 8 DW:=⟨⟨["heap"],⟨_,_,Rh F16 B C_need_ways C_sizes_by_times C_cells_of,b16,k16,U1a X G a16⟩,fun ds r h=>Dc h⟩⟩
 have C_pieces_at_least:CZ l.prog w K mg base "pieces_at_least" 9 Bb:=⟨⟨["heap","k"],⟨_,_,QB F17 B C_need_ways C_is_whole C_pieces_held,b17,k17,U1a X G a17⟩,fun ds r h=>Dc h⟩⟩
 have C_law_mixed:CZ l.prog w K mg base "_law_mixed" 1 GX:=⟨⟨["cell","k"],⟨_,_,XF F18 B,b18,k18,U1a X G a18⟩,fun ds r h=>Dc h⟩⟩
 have C_law_well:CZ l.prog w K mg base "_law_well" 1 Fd:=⟨⟨["cell"],⟨_,_,Xn F19 B,b19,k19,U1a X G a19⟩,fun ds r h=>Dc h⟩⟩
 have C_law_draw:Kd l.prog w K mg base "_law_draw" 2 Am:=⟨⟨["well","many"],⟨_,_,Xo F20 B C_law_mixed,b20,k20,U1a X G a20⟩,fun ns ds r h=>QK h⟩⟩
 have C_law_stretch:Kd l.prog w K mg base "_law_stretch" 3 Es:=⟨⟨["well","reach"],⟨_,_,Ua F21 B C_law_draw,b21,k21,U1a X G a21⟩,fun ns ds r h=>QK h⟩⟩
 have C_law_box:Kd l.prog w K mg base "_law_box" 4 FW:=⟨⟨["well","ways","reach","boxes"],⟨_,_,ZX F22 B C_law_stretch C_law_draw,b22,k22,U1a X G a22⟩,fun ns ds r h=>QK h⟩⟩
 have C_law_boxes:Kd l.prog w K mg base "_law_boxes" 5 Ew:=⟨⟨["well","ways","reach","most"],⟨_,_,XH F23 B C_law_draw C_law_box,b23,k23,U1a X G a23⟩,fun ns ds r h=>QK h⟩⟩
 have C_law_right:CZ l.prog w K mg base "_law_right" 10 Fq:=⟨⟨["boxes"],⟨_,_,XD F24 B C_lengths_often C_pieces_at_least,b24,k24,U1a X G a24⟩,fun ds r h=>Dc h⟩⟩
 exact(qt F25 B C_law_well C_law_draw C_law_right C_law_boxes C_pieces_at_least).imp (rB gR)
theorem walk{l:U6a}{q:Program}{loose:List Str}{XP:(Str->Option Value)->Heap->Prop}{YP:World->Heap->Prop}{d:DefRec}{K:Params->U0a}(hn:l.most=some 63)(hdf:d.params.defaults=[])
  (hY:∀(w:World)(h:Heap),YP w h->(K w.params).In h)
  (F:∀(w:World)(mg:Str->Option Value)(fa:Addr)(h:Heap),(K w.params).In h->h.Ns mainGlobals mg->mg d.name=some (.ref fa) ->
   ∃fd:FuncData,(∀(s:Shared)(u:Value),BindsTo s fd ⟨[u],[]⟩ [("script",u)])/\∀base:Heap,(K w.params).In base->base.Ns mainGlobals mg->DG l.prog w (K w.params) mg base CX0 11 fa fd ["script"] (Ru (K w.params))) :
  U7o q loose XP YP l.row.toRowW d [] (fun f vs=>U7l f vs) :=
 L2.dX (n:=63) (k:=11) (x:="script") (CX:=CX0) (sp:=Ru) hn (by decide) hdf ⟨rfl,by decide,by decide,rfl⟩ hY F (fun _ _ a ns hl hO hS=>⟨a,ns,rfl,hO,hl,hS,fun _=>rfl⟩) fun _ _ _ _ z=>z
end W09
open PySem PySem.W PyProof.Rows
set_option maxRecDepth 100000 in
set_option maxHeartbeats 0 in
theorem PySem.Challenge.cw_boxcover_k09_how_often_one_by_one_holds : PySem.Challenge.rw_boxcover_k09_how_often_one_by_one.Holds := by
 w_on;o_law;k_head;(case hw=>w_witness2)
 k_fill
 refine W09.walk (l := PySem.Challenge.rw_boxcover_k09_how_often_one_by_one) rfl rfl (fun w h Y => PySem.W.kIn_of Y) ?F
 case F =>
  intro w mg fa h KX G hmg
  refine' W09.tops KX G hmg ?a1 ?l1 ?c1 ?k1 ?a2 ?l2 ?c2 ?k2 ?a3 ?l3 ?c3 ?k3 ?a4 ?l4 ?c4 ?k4 ?a5 ?l5 ?c5 ?k5 ?a6 ?l6 ?c6 ?k6 ?a7 ?l7 ?c7 ?k7 ?a8 ?l8 ?c8 ?k8 ?a9 ?l9 ?c9 ?k9 ?a10 ?l10 ?c10 ?k10 ?a11 ?l11 ?c11 ?k11 ?a12 ?l12 ?c12 ?k12 ?a13 ?l13 ?c13 ?k13 ?a14 ?l14 ?c14 ?k14 ?a15 ?l15 ?c15 ?k15 ?a16 ?l16 ?c16 ?k16 ?a17 ?l17 ?c17 ?k17 ?a18 ?l18 ?c18 ?k18 ?a19 ?l19 ?c19 ?k19 ?a20 ?l20 ?c20 ?k20 ?a21 ?l21 ?c21 ?k21 ?a22 ?l22 ?c22 ?k22 ?a23 ?l23 ?c23 ?k23 ?a24 ?l24 ?c24 ?k24 ?a25 ?l25 ?c25 ?k25 ?z1 ?z2 ?z3 ?z4 ?z5 ?z6 ?z7 ?z8 ?z9 ?z10 ?z11 ?z12 ?z13 ?z14 ?z15 ?zBz ?aM ?hM ?lM ?e1 ?e2 ?e3
  (case a1=>k_is);(case l1=>k_is);(case c1=>k_is);(case k1=>k_is)
  (case a2=>k_is);(case l2=>k_is);(case c2=>k_is);(case k2=>k_is)
  (case a3=>k_is);(case l3=>k_is);(case c3=>k_is);(case k3=>k_is)
  (case a4=>k_is);(case l4=>k_is);(case c4=>k_is);(case k4=>k_is)
  (case a5=>k_is);(case l5=>k_is);(case c5=>k_is);(case k5=>k_is)
  (case a6=>k_is);(case l6=>k_is);(case c6=>k_is);(case k6=>k_is)
  (case a7=>k_is);(case l7=>k_is);(case c7=>k_is);(case k7=>k_is)
  (case a8=>k_is);(case l8=>k_is);(case c8=>k_is);(case k8=>k_is)
  (case a9=>k_is);(case l9=>k_is);(case c9=>k_is);(case k9=>k_is)
  (case a10=>k_is);(case l10=>k_is);(case c10=>k_is);(case k10=>k_is)
  (case a11=>k_is);(case l11=>k_is);(case c11=>k_is);(case k11=>k_is)
  (case a12=>k_is);(case l12=>k_is);(case c12=>k_is);(case k12=>k_is)
  (case a13=>k_is);(case l13=>k_is);(case c13=>k_is);(case k13=>k_is)
  (case a14=>k_is);(case l14=>k_is);(case c14=>k_is);(case k14=>k_is)
  (case a15=>k_is);(case l15=>k_is);(case c15=>k_is);(case k15=>k_is)
  (case a16=>k_is);(case l16=>k_is);(case c16=>k_is);(case k16=>k_is)
  (case a17=>k_is);(case l17=>k_is);(case c17=>k_is);(case k17=>k_is)
  (case a18=>k_is);(case l18=>k_is);(case c18=>k_is);(case k18=>k_is)
  (case a19=>k_is);(case l19=>k_is);(case c19=>k_is);(case k19=>k_is)
  (case a20=>k_is);(case l20=>k_is);(case c20=>k_is);(case k20=>k_is)
  (case a21=>k_is);(case l21=>k_is);(case c21=>k_is);(case k21=>k_is)
  (case a22=>k_is);(case l22=>k_is);(case c22=>k_is);(case k22=>k_is)
  (case a23=>k_is);(case l23=>k_is);(case c23=>k_is);(case k23=>k_is)
  (case a24=>k_is);(case l24=>k_is);(case c24=>k_is);(case k24=>k_is)
  (case a25=>k_is);(case l25=>k_is);(case c25=>k_is);(case k25=>k_is)
  (case z1=>k_is);(case z2=>k_is);(case z3=>k_is);(case z4=>k_is);(case z5=>k_is);(case z6=>k_is);(case z7=>k_is);(case z8=>k_is);(case z9=>k_is);(case z10=>k_is);(case z11=>k_is);(case z12=>k_is);(case z13=>k_is);(case z14=>k_is);(case z15=>k_is)
  (case zBz=>k_is)
  (case aM=>k_is);(case lM=>k_is)
  (case hM=>rfl);(case e1=>rfl);(case e2=>rfl);(case e3=>rfl)
end
