import PyProof.Rows.All
import Wide.All
import OpenK.AllK
import Wide.FinOn
import Lean
import PyProof.EqAt
import PyProof.EqKinds
import PyProof.TupleCall
import PyProof.SetKind
import PyProof.SetNew
import PyProof.SetRoads
import PyProof.Walks
import PyProof.Rows.SetListFold
import PyProof.Seq
import PyProof.Rows.SortShell
import PyProof.TupleIter
import PyProof.CollectWalk
import PyProof.ReprRoads
import PyProof.EqLayable
import PyProof.ReprLen
import PyProof.WalkInts
import PyProof.SeqI3
import PyProof.ListMulRoad
import PyProof.ZipIter
import PyProof.EnumFor
import PyProof.EnumMake
import PyProof.Draws
import PyProof.Rows.ZipGen
import PyProof.LayNew
import PyProof.WalksMore
import PyProof.IsiTupleAll
import PyProof.Rows.Range3
import PyProof.Rows.SumAny
import PyProof.Rows.CallKwBuiltin
import PyProof.MinMaxWalk
import PySem.Challenge.RW_boxcover_k13_areas_told
open PySem renaming wpAny_bind → U0, wpAny_pure → U0f, wpAny_newObj_type → U2i, wpAny_holding → U2j, wpAny_field → U2l, wpAny_call_entry → U2p, wpAny_seqItems → U2q, mem_of_lookup → U3, wpAny_setField → U3g, wpAny_truthy_bool → U3h, wpAny_updateSeq → U3q, wpAny_setField_rec → U3w, wpAny_passesOwn → U4a, wpAny_setState_of → U4j, wpAny_askSetting → U4w, wpAny_Call_Name_kw → U42, wpAny_rule → U45, wpAny_letGo → U48, wpAny_pyIter_list → U5b, wpAny_isInstance → U5f, wpAny_attempt → U5h, wpAny_typeOf → U5v, wpAny_getItem_list_slice → U5w, wpAny_pyIter_tuple → U5y, wpAny_mono → U51, wpAny_tryCatch → U55, wpAny_onRaise → U6h, wpAny_execs_nil → U6o, wpAny_updateSeq_pair → U6v, wpAny_setEntries_of → U6y, wpAny_pyIter_slot → U7f, wpAny_specialOf → U7q, wpAny_ite_false → U7r, call → U7y
open Option renaming bind_some → U0a, map_bind → U0e, some → U1p, map_eq_some_iff → U10, map → U2g, toList_some → U29, isSome_iff_exists → U4s, getD_some → U4z, map_some → U5t
open PySem.W renaming Frag → U0b, nsIn → U0u, keepIn → U0z, codeIn → U01, mg_of → U02, fnOf → U04, mg_none_of → U1t, kia_one → U3d, kitOne → U3n, findIn → U52, cellsFrom_some → U6b, OpenLaw → U6r, methodObj → U7c, instObj → U7o, lookIn → U7v, WalkO → U72
open List renaming map_map → U0c, range → U0g, getD_eq_getElem?_getD → U0h, getElem?_eq_getElem → U0i, length_cons → U0j, length_map → U0k, replicate → U0l, map_cons → U0m, getElem?_eq_some_iff → U0n, replicate_succ → U0o, mem_cons_of_mem → U0p, length_append → U0r, size_toArray → U0s, getElem?_map → U0w, mem_cons_self → U0x, mem_cons → U00, length_nil → U05, replicate_zero → U06, mem_singleton → U07, map_nil → U08, map_append → U09, getElem?_append_left → U1e, length_replicate → U1f, mem_of_getElem? → U1k, not_mem_nil → U1l, nil_append → U1n, mem_append_right → U1q, getElem_mem → U1s, Nodup → U1w, cons_append → U11, mem_append → U12, foldl_cons → U13, append_nil → U15, length_take → U19, lookup_cons → U2a, getElem?_append_right → U2d, mem_range → U2h, sum_cons → U2k, length_eq_zero_iff → U2n, mem_map → U2o, take_length → U2r, length_range → U2s, getElem?_set_self → U2u, pairwise_cons → U2x, getElem?_set_ne → U2y, drop_eq_getElem_cons → U20, take_succ → U28, filterMap_cons_some → U3b, length_filter_le → U3c, foldl_append → U3i, map_congr_left → U3j, mem_filter → U3k, dropLast_concat → U3o, length_singleton → U3v, mem_append_left → U3y, of_mem_zip → U3z, length_set → U30, pairwise_append → U31, flatten_cons → U32, getElem?_replicate → U36, all_eq_true → U37, zip_cons_cons → U4, mem_iff_getElem? → U4b, getElem?_eq_none → U4c, forIn_cons → U4d, length_zip → U4e, eq_nil_or_concat → U4f, concat_eq_append → U4g, flatMap_cons → U4k, Perm → U4p, filterMap_cons_none → U40, filterMap_map → U43, lookup_append → U46, append_assoc → U5, getElem?_toArray → U5c, getLast?_append → U5g, all_cons → U5i, length → U5j, filterMap_cons → U5l, getElem?_range → U5m, mergeSort_perm → U5o, filter_eq_self → U5p, nodup_cons → U5q, pairwise_iff_getElem → U5s, forIn_nil → U53, drop_zero → U54, filter_cons_of_pos → U57, filter_cons_of_neg → U58, filter_congr → U6a, take_of_length_le → U6d, filter_eq_nil_iff → U6e, Pairwise → U6f, length_drop → U6j, zipIdx_cons → U6k, ext_getElem → U6l, mem_flatMap → U6m, set_append_right → U6n, foldl → U6p, length_dropLast → U6q, mem_map_of_mem → U61, length_pos_iff → U62, length_zipIdx → U7a, isEmpty_nil → U7k, all_map → U7l, map_flatMap → U7n, sum_append → U7s, lookup → U7u, sum → U71, map_drop → U74, map_take → U75, toArray → U79, cons → U8a, flatMap → U8c, map_set → U8d, range' → U8e
open PySem.Heap renaming get?_push_of_some → U0d, lt_size → U0q, get?_push_size → U0v, SameBut → U1b, get?_update_other → U1d, get?_update_self → U18, size_push → U2e, ExtBut → U5k, IsTuple → U5x, IsSliceOf → U7w
open Nat renaming le_refl → U0t, lt_of_lt_of_le → U0y, ne_of_lt → U03, le_trans → U1a, reduceAdd → U1i, reduceSub → U1j, le_add_right → U1r, ne_of_gt → U1x, le_of_lt → U2w, lt_succ_of_lt → U3a, lt_trans → U3f, zero_le → U3x, lt_irrefl → U33, le_succ → U4o, lt_succ_self → U4v, lt_of_le_of_lt → U44, min_self → U50, pow_le_pow_right → U6x, add_lt_add_left → U60, mul_comm → U7h, zero_add → U7j, not_lt_zero → U7p, not_lt → U7z, succ_mul → U76, le_of_eq → U77, le_zero → U8g
open Option.some renaming inj → U1c
open Bool renaming false_ne_true → U1g, and_eq_true → U1h, false_eq_true → U1o, eq_iff_iff → U3l, not_true → U4h, or_eq_true → U6s
open PySem.Builtin.SmallTypes renaming nextOf → U1m, ownedTupleIsFree → U17
open Array renaming length_toList → U1u, getElem?_eq_getElem → U2f, getElem?_toList → U24, getD_eq_getD_getElem? → U3e
open PySem.F renaming plainAttrs_list → U1v, slot_list_append → U2b, type_list_append → U2c, slot_zip_next → U25, slot_tuple_iterator_next → U3u, plain_max_loop → U38, plain_extend_loop → U4n, called_set → U4x, args_zip_next_1 → U41, slot_tuple_mul → U47, entry_zip_next → U49, args_tuple_add_2 → U5u, entry_tuple_add → U56, slot_tuple_add → U6c, entry_max_loop → U7m
open Ne renaming symm → U1y
open PySem.SetTable renaming below → U1z, grown → U4q, probe → U65
open PySem.PassesOwn renaming never → U14
open PySem.Heap.SameBut renaming update → U16
open PySem.Obj renaming mapSeq → U2m, mapFields → U34
open PySem.NameKind renaming free → U2t, cell → U3t
open PySem.Value renaming ref → U2v, none → U22, int → U3m, type → U3s, bool → U5e
open PySem.Around renaming under_plainId → U2z
open PySem.SeqAt renaming shaped → U21
open PyProof.Rows renaming callWith_type1 → U23, slot_tuple_getitem → U27, IntTab → U5n
open Int renaming toNat_natCast → U26, zero_add → U5z, add_assoc → U6i, toNat_of_nonneg → U6z, mul_one → U67, emod_lt_of_pos → U7, emod_nonneg → U7t, mul_assoc → U73, le_of_lt → U8, mul_zero → U8b, one_mul → U8f, pow_add → U8h
open PySem.Builtin.List renaming listExtendWith → U3p, listTooLong → U4u, listSameRef → U4y, listLengthHint → U5d
open PySem.Str renaming ofString → U3r
open PySem.Builtin.Range renaming rangeSize → U35
open PySem.Manifest renaming ParamKind → U39, Receiver → U59
open PySem.Manifest.ParamKind renaming posOnly → U4i
open False renaming elim → U4l
open PySem.Builtin.Slice renaming slicePlaces → U4m, sliceAdjust → U5r
open PySem.PyData renaming canLay0 → U4r, canLayAll0 → U6, depthAll → U6u, depth → U6w, eqv → U70
open PySem.Builtin.Tuple renaming tupleExact → U4t
open PySem.SetTable.below renaming go → U5a
open PySem.Shared renaming TypeIs → U6g, heap → U68
open ForInStep renaming yield → U6t
open Sum renaming inl → U63, inr → U64
open List.Perm renaming refl → U66, cons → U7x
open PySem.Heap.IsSliceOf renaming new → U69
open List.cons renaming inj → U7b
open List.Pairwise renaming nil → U7d
open PySem.SetTable.probe renaming go → U7e
open True renaming intro → U7g
open Or renaming inr → U7i, inl → U78
noncomputable section
set_option Elab.async false
set_option maxRecDepth 10000
set_option linter.all false
set_option maxHeartbeats 4000000
namespace PySem.W.Fast
def tw7967848771197273371:=0
def tw968440655394935321:=0
def tw1378192276210662804:=0
def tw11785936414050530140:=0
def tw8360428120430445398:=0
def tw8434536072181766940:=0
def tw4065199358955852086:=0
def tw8676916668255599428:=0
def tw13945275358125909929:=0
def tw14515010380469666898:=0
def tw8250574717449359977:=0
def tw6542201678895127336:=0
def tw5844544616003726554:=0
def tw15179505780164243070:=0
def tw2159711824678483029:=0
def tw6031329485463709159:=0
def tw15068451511370160520:=0
def tw6071129886462478693:=0
def tw2116053174225450290:=0
def tw10201412516868270994:=0
def tw14335404729272355163:=0
def tw5049773341583408804:=0
def tw15300917841100017019:=0
def tw15162881667433072955:=0
def tw13892412078926322632:=0
def tw2714115686182578470:=0
def tw13701021125962790532:=0
def tw8522030667023086529:=0
def tw526025561183996758:=0
def tw1537512952356514351:=0
def tw7357655928909540588:=0
def tw5400960559080536042:=0
def tw13581146047015607945:=0
def tw16707874407107332861:=0
def tw14008727592547602741:=0
def tw6043025473147036411:=0
def tw17161374897394666617:=0
def tw12905430313763346596:=0
def tw3011034107626864394:=0
def tw5914351785721979439:=0
def tw15529505193420271276:=0
def tw6495296142635420814:=0
def tw14131216434025574112:=0
def tw2362153284353794345:=0
def tw17758344266468343396:=0
def tw3412377709552642573:=0
def tw10165901413673186455:=0
def tw3906767939152385736:=0
def tw14337038361417951733:=0
def tw7733302463741645271:=0
def tw11605245131544157076:=0
def tw12050558194411010981:=0
def tw9768599678636431545:=0
def tw14063120279900493993:=0
def tw6705914632699498582:=0
def tw12379780165682999260:=0
def tw3496656197777975940:=0
def tw13087232393049093115:=0
def tw528555606393740016:=0
def tw1948473834947657697:=0
def tw904014394922081450:=0
def tw12955023864807090568:=0
def tw17761013292273539274:=0
def tw12402792764771485849:=0
def tw5885643044975001380:=0
def tw17707407348712382676:=0
def tw6650610254134716246:=0
def tw2358127935123047711:=0
def tw12259238226130269258:=0
def tw18370258109117479043:=0
def tw14781814593763316393:=0
def tw2100792416061514910:=0
def tw4828656875024724542:=0
def tw8173055901512217347:=0
def tw4248050520985158645:=0
def tw13410548242449080634:=0
def tw9889307998441749992:=0
def tw17606952256970232075:=0
def tw17732758005834148917:=0
def tw8423406137084338492:=0
def tw3484342876111569187:=0
def tw16082880503839833002:=0
def tw2738877636476258800:=0
def tw17602290152124831571:=0
def tw2788192929013585738:=0
def tw7959385477577079556:=0
def tw9247135631472335526:=0
def tw9744084273907738021:=0
def tw5450071797952101674:=0
def tw3741760348826427796:=0
def tw14406229985316906618:=0
def tw6953104294957645494:=0
def tw1148326617317286126:=0
def tw14579188900875517987:=0
def tw7109860844423018463:=0
def tw5917630594276416981:=0
def tw934895188309239648:=0
def tw53840837611079882:=0
def tw17099696425864439217:=0
def tw7863261219193676516:=0
def tw10415948653289529316:=0
def tw488448211497655161:=0
def tw10421987113688142700:=0
def tw3707204150583525189:=0
def tw14219272024540648455:=0
def tw18369256847739184897:=0
def tw2523487049702179817:=0
def tw3700528344370130826:=0
def tw15180729840542891466:=0
def tw11638980861311940845:=0
end PySem.W.Fast
section
set_option maxRecDepth 100000
namespace L2
open PySem PySem.Spec PyProof.Rows
abbrev Key:=Sum Int Str
def sI:Key->Value->Bool
 |.inl k,v=>Value.isInt k v
 |.inr x,v=>Value.isStrOf x v
def Jcj(w:World):Key->Int
 |.inl k=>hashInt k
 |.inr x=>hashStr w x
theorem Gz:∀{k:Key} {v:Value},sI k v=true->(∃i t,k=U63 i/\v=U3m i t)∨(∃x t,k=U64 x/\v=Value.str x t)
 |.inl i,v,h=>by
  obtain⟨t,e⟩:=Value.isInt_shape (k:=i) (v:=v) h
  exact .inl ⟨i,t,rfl,e⟩
 |.inr x,v,h=>by
  obtain⟨t,e⟩:=Value.isStrOf_shape (x:=x) (v:=v) h
  exact .inr ⟨x,t,rfl,e⟩
theorem zU(a b:Int):decide ((U63 a:Key)=U63 b)=(a==b):=by
 by_cases e:a=b
 .subst e;simp
 .have h:¬(U63 a:Key)=U63 b:=fun q=>e (U63.inj q)
  rw[decide_eq_false h]
  exact(beq_eq_false_iff_ne.mpr e).symm
theorem zQ(a b:Str):decide ((U64 a:Key)=U64 b)=decide (a=b):=by
 by_cases e:a=b
 .subst e;simp
 .have h:¬(U64 a:Key)=U64 b:=fun q=>e (U64.inj q)
  rw[decide_eq_false h,decide_eq_false e]
theorem zT(a:Int)(b:Str):decide ((U63 a:Key)=U64 b)=false:=decide_eq_false (fun q=>nomatch q)
theorem zR(a:Str)(b:Int):decide ((U64 a:Key)=U63 b)=false:=decide_eq_false (fun q=>nomatch q)
def Xy(prog:Program)(w:World):PySem.KeyKind prog w Key where
 is:=sI
 hash:=Jcj w
 inj:=fun v a b ha hb=>by
  rcases Gz ha with ⟨i,t,rfl,rfl⟩|⟨x,t,rfl,rfl⟩
  .rcases Gz hb with ⟨j,u,rfl,e⟩|⟨y,u,rfl,e⟩
   .injection e with e1 _;rw[e1]
   .exact nomatch e
  .rcases Gz hb with ⟨j,u,rfl,e⟩|⟨y,u,rfl,e⟩
   .exact nomatch e
   .injection e with e1 _;rw[e1]
 byValue:=fun k v h=>by
  rcases Gz h with ⟨i,t,rfl,rfl⟩|⟨x,t,rfl,rfl⟩<;>rfl
 pyHash:=fun hv h=>by
  rcases Gz hv with ⟨i,t,rfl,rfl⟩|⟨x,t,rfl,rfl⟩
  .exact wpAny_pyHash_int h
  .exact wpAny_pyHash_str h
 eqBool:=fun hu hv h=>by
  rcases Gz hu with ⟨i,t,rfl,rfl⟩|⟨x,t,rfl,rfl⟩
  .rcases Gz hv with ⟨j,u,rfl,rfl⟩|⟨y,u,rfl,rfl⟩
   .rw[zU] at h;exact wpAny_eqBool_int h
   .rw[zT] at h;exact SeqAt.EqAt.int_str i t y u _ _ _ _ h
  .rcases Gz hv with ⟨j,u,rfl,rfl⟩|⟨y,u,rfl,rfl⟩
   .rw[zR] at h;exact SeqAt.EqAt.str_int x t j u _ _ _ _ h
   .rw[zQ] at h;exact wpAny_eqBool_str h
 «strs»:=fun k x t v h=>by
  rcases Gz h with ⟨i,u,rfl,e⟩|⟨y,u,rfl,e⟩
  .exact nomatch e
  .injection e with e1 _
   subst e1
   cases v<;>rfl
end L2
namespace L2
open PySem PySem.Spec PyProof.Rows
inductive V where
 |non|bl (b:Bool)|int (i:Int)|str (x:Str)|byt (b:Array UInt8)|flt (b:UInt64)|ref (a:Addr)|ty (n:String)
 deriving DecidableEq
def RelV:V->Value->Prop
 |.non,u=>u=U22
 |.bl b,u=>u=U5e b
 |.int i,u=>∃t,u=U3m i t
 |.str x,u=>∃t,u=Value.str x t
 |.byt b,u=>∃t,u=Value.bytes b t
 |.flt b,u=>∃t,u=Value.float b t
 |.ref a,u=>u=U2v a
 |.ty n,u=>u=U3s n
abbrev Vals:List V->List Value->Prop:=Paired RelV
theorem Vals.length{xs:List V}{us:List Value}(r:Vals xs us):xs.length=us.length:=Paired.length r
theorem Vals.get:∀{xs:List V} {us:List Value} {i:Nat} {x:V},Vals xs us->xs[i]?=some x->∃u,us[i]?=some u/\RelV x u
 |_,_,_,_,.nil,e=>by simp at e
 |_,_,0,_,.cons r _,e=>by simp at e;subst e;exact⟨_,rfl,r⟩
 |_,_,i+1,x,.cons _ t,e=>by
  obtain⟨u,h1,h2⟩:=Vals.get (i:=i) (x:=x) t (by simpa using e)
  exact⟨u,by simpa using h1,h2⟩
theorem Vals.set{x:V}{u:Value}(r:RelV x u):∀{xs:List V} {us:List Value} (i:Nat),Vals xs us->Vals (xs.set i x) (us.set i u)
 |_,_,_,.nil=>.nil
 |_,_,0,.cons _ t=>.cons r t
 |_,_,i+1,.cons q t=>.cons q (Vals.set r i t)
theorem Vals.append:∀{xs ys:List V} {us ws:List Value},Vals xs us->Vals ys ws->Vals (xs++ys) (us++ws)
 |_,_,_,_,.nil,s=>s
 |_,_,_,_,.cons r t,s=>.cons r (Vals.append t s)
theorem Vals.take:∀{xs:List V} {us:List Value} (n:Nat),Vals xs us->Vals (xs.take n) (us.take n)
 |_,_,0,_=>.nil
 |_,_,_+1,.nil=>.nil
 |_,_,n+1,.cons r t=>.cons r (Vals.take n t)
theorem Vals.drop:∀{xs:List V} {us:List Value} (n:Nat),Vals xs us->Vals (xs.drop n) (us.drop n)
 |_,_,0,r=>r
 |_,_,_+1,.nil=>.nil
 |_,_,n+1,.cons _ t=>Vals.drop n t
def oA:Option V->Option Value->Prop
 |some v,some u=>RelV v u
 |none,none=>True
 |_,_=>False
def KV{κ:Type}:List (κ×V)->List (κ×Value)->Prop:=Paired fun(p:κ×V) (q:κ×Value)=>p.1=q.1/\RelV p.2 q.2
def kV:Key->V
 |.inl i=>.int i
 |.inr x=>.str x
inductive HO where
  /-- a list -/
 |lst (xs:List V)
  /-- a tuple (never changes) -/
 |tup (xs:List V)
  /-- a dict whose keys are ints and texts; one whose keys are tuples of ints and texts (the empty one is both) -/
 |dK (kvs:List (Key×V))|dT (kvs:List (List Key×V))
  /-- a set of ints: its members, its size -/
 |set (S:Int->Bool) (n:Nat)
  /-- an instance of the class at C, its dict at dx, its attributes -/
 |ins (C dx:Addr) (fs:List (Str×V))
  /-- the dict of the instance at x -/
 |own (x:Addr)
  /-- the dict of an exception -/
 |xd (fs:List (Str×V))
  /-- a bound method, f of x -/
 |met (f x:Addr)
  /-- a range object lo, lo + 1, .. below hi -/
 |rng (lo hi:Int)
  /-- a thing that is known to the object (the script; a dict while a loop walks it): read, never written while it is so -/
 |frz (o:Obj) (u:HO)
  /-- a code object's table -/
 |tbl (ps:Array Value)
  /-- any other thing, by what is true of its one object (a def of one's own: SetO a S n := HO.ext fun h => ..) -/
 |ext (φ:Heap->Prop)
abbrev Hp:=Addr->Option HO
def upd(H:Hp)(a:Addr)(o:HO):Hp:=fun b=>if b=a then some o else H b
theorem Cq{H:Hp}{a:Addr}{o:HO}:upd H a o a=some o:=by unfold upd;rw[if_pos rfl]
theorem CK{H:Hp}{a b:Addr}{o:HO}(h:b≠a):upd H a o b=H b:=by unfold upd;rw[if_neg h]
theorem Ec{H:Hp}{a b:Addr}{o:HO}(h:H a=some o)(h':H b=none):a≠b:=by
 intro e;subst e;rw[h] at h';cases h'
section
variable(P:Program)(w:World)
def FJ(H:Hp)(h:Heap)(a:Addr):HO->Prop
 |.lst xs=>xs.length<=sizeLine/\∃(its:List Value)(n:Nat),Vals xs its/\h.get? a=some { cls:=.type "list",data:=.seq its.toArray n }
 |.tup xs=>xs.length<=sizeLine/\∃its:List Value,Vals xs its/\IsTup h a its.toArray
 |.dK kvs=>kvs.length<=sizeLine/\(a==sysModules)=false/\∃vs,KV kvs vs/\h.DictOf (Xy P w) a vs
 |.dT kvs=>kvs.length<=sizeLine/\(a==sysModules)=false/\∃xs:List (List Key×Addr×Value),
   Paired (fun(p:List Key×V) (q:List Key×Addr×Value)=>p.1=q.1/\H q.2.1=some (.tup (p.1.map kV))/\RelV p.2 q.2.2) kvs xs /\
   ∃o es ep,h.get? a=some o/\o.ExactDict/\o.data=.dict es ep/\es.toList=xs.map (entryOfKey (tupleKind (Xy P w)))/\(xs.map (·.1)).Nodup
 |.set S n=>h.SetOf (intKind P w) a S n
 |.ins C dx fs=>H dx=some (.own a)/\fs.length<=1000/\dx≠a/\h.get? a=some (U7o C dx) /\
   ∃mA,h.Ns1 dx mA/\(∀f,oA (fs.lookup f) (mA f))/\PySem.Within mA (fs.map (·.1))
 |.own _=>∃o,h.get? a=some o
 |.xd fs=>∃mA,h.Ns1 a mA/\∀f,oA (fs.lookup f) (mA f)
 |.rng lo hi=>∃t u v,h.get? a=some { cls:=.type "range",data:=.fields #[.int lo t,.int hi u,.int 1 v] }
 |.frz o u=>h.get? a=some o/\FJ H h a u
 |.tbl ps=>h.get? a=some { cls:=.none,data:=.fields ps }
 |.met f x=>h.get? a=some (U7c (.ref f) (.ref x))
 |.ext φ=>φ h/\(∃o,h.get? a=some o)/\∀h1 h2:Heap,φ h1->(∀o,h1.get? a=some o->h2.get? a=some o)->φ h2
def HOk(H:Hp)(h:Heap):Prop:=∀a o,H a=some o->FJ P w H h a o
end
section
variable{P:Program}{w:World}{H H':Hp}{h h':Heap}{a:Addr}{o:HO}
theorem FJ.lt(x:FJ P w H h a o):a<h.objs.size:=by
 cases o with
 |lst xs=>obtain⟨_,_,_,_,e⟩:=x;exact U0q e
 |tup xs=>obtain⟨_,_,_,p⟩:=x;exact p.lt
 |dK kvs=>obtain⟨_,_,_,_,o,_,_,e,_⟩:=x;exact U0q e
 |dT kvs=>obtain⟨_,_,_,_,o,_,_,e,_⟩:=x;exact U0q e
 |set S n=>obtain⟨o,_,_,_,e,_⟩:=x;exact U0q e
 |ins C dx fs=>obtain⟨_,_,_,e,_⟩:=x;exact U0q e
 |own y=>obtain⟨_,e⟩:=x;exact U0q e
 |xd fs=>obtain⟨_,⟨_,_,_,e,_⟩,_⟩:=x;exact U0q e
 |rng lo hi=>obtain⟨_,_,_,e⟩:=x;exact U0q e
 |frz ob u=>obtain⟨e,_⟩:=x;exact U0q e
 |tbl ps=>exact U0q (show h.get? a=some _ from x)
 |met f y=>exact U0q (show h.get? a=some _ from x)
 |ext φ=>obtain⟨_,⟨_,e⟩,_⟩:=x;exact U0q e
theorem Paired.xg{α β:Type}{F G:α->β->Prop}:∀{l₁:List α} {l₂:List β},Paired F l₁ l₂->(∀a b,F a b->G a b)->Paired G l₁ l₂
 |_,_,.nil,_=>.nil
 |_,_,.cons r t,f=>.cons (f _ _ r) (Paired.xg t f)
theorem FJ.stay(x:FJ P w H h a o)(k:∀b u,(b=a∨H b=some (.own a))->h.get? b=some u->h'.get? b=some u)
  (ho:∀b,H b=some (.own a)->H' b=some (.own a)) (ht:∀b xs,H b=some (.tup xs)->H' b=some (.tup xs)):FJ P w H' h' a o:=by
 induction o with
 |lst xs=>obtain⟨z,its,n,r,e⟩:=x;exact⟨z,its,n,r,k _ _ (.inl rfl) e⟩
 |tup xs=>obtain⟨z,its,r,ob,e,c⟩:=x;exact⟨z,its,r,ob,k _ _ (.inl rfl) e,c⟩
 |dK kvs=>obtain⟨z,y,vs,r,ob,es,ep,e,c⟩:=x;exact⟨z,y,vs,r,ob,es,ep,k _ _ (.inl rfl) e,c⟩
 |dT kvs =>
  obtain⟨z,y,xs,r,ob,es,ep,e,c⟩:=x
  exact⟨z,y,xs,Paired.xg r fun p q z=>⟨z.1,ht _ _ z.2.1,z.2.2⟩,ob,es,ep,k _ _ (.inl rfl) e,c⟩
 |set S n=>obtain⟨ob,es,ep,t,e,c⟩:=x;exact⟨ob,es,ep,t,k _ _ (.inl rfl) e,c⟩
 |ins C dx fs =>
  obtain⟨d,z,ne,e,mA,⟨od,es,ep,e2,c⟩,r⟩:=x
  exact⟨ho _ d,z,ne,k _ _ (.inl rfl) e,mA,⟨od,es,ep,k _ _ (.inr d) e2,c⟩,r⟩
 |own y=>obtain⟨ob,e⟩:=x;exact⟨ob,k _ _ (.inl rfl) e⟩
 |xd fs=>obtain⟨mA,⟨od,es,ep,e,c⟩,r⟩:=x;exact⟨mA,⟨od,es,ep,k _ _ (.inl rfl) e,c⟩,r⟩
 |rng lo hi=>obtain⟨t,u,v,e⟩:=x;exact⟨t,u,v,k _ _ (.inl rfl) e⟩
 |frz ob u ih=>obtain⟨e,q⟩:=x;exact⟨k _ _ (.inl rfl) e,ih q⟩
 |tbl ps =>
  have e:h.get? a=some { cls:=.none,data:=.fields ps }:=x
  show h'.get? a=some { cls:=.none,data:=.fields ps }
  exact k a _ (.inl rfl) e
 |met f y =>
  have e:h.get? a=some (U7c (.ref f) (.ref y)):=x
  show h'.get? a=some (U7c (.ref f) (.ref y))
  exact k a _ (.inl rfl) e
 |ext φ=>obtain⟨p,⟨o,e⟩,st⟩:=x;exact⟨st _ _ p fun o q=>k _ _ (.inl rfl) q,⟨o,k _ _ (.inl rfl) e⟩,st⟩
theorem HOk.lt(x:HOk P w H h)(e:H a=some o):a<h.objs.size:=(x a o e).lt
theorem HOk.fresh(x:HOk P w H h)(e:h.objs.size<=a):H a=none:=by
 cases q:H a with
 |none=>rfl
 |some u=>exact absurd (U0y (x.lt q) e) (U33 _)
theorem HOk.kept(x:HOk P w H h)(k:∀b u,h.get? b=some u->h'.get? b=some u):HOk P w H h':=fun a o e =>
 (x a o e).stay (fun b u _ q=>k b u q) (fun _ q=>q) fun _ _ q=>q
theorem HOk.laid(x:HOk P w H h)(k:∀b u,h.get? b=some u->h'.get? b=some u)(hp:h.objs.size<=a)(new:FJ P w (upd H a o) h' a o):HOk P w (upd H a o) h':=fun b u e=>by
 have hn:=x.fresh hp
 by_cases hb:b=a
 .subst hb;rw[Cq] at e;cases e;exact new
 .rw[CK hb] at e
  exact(x b u e).stay (fun c v _ q=>k c v q) (fun c q=>by rw[CK (Ec q hn)];exact q) fun c xs q=>by rw[CK (Ec q hn)];exact q
end
def Rd(H:Hp)(a:Addr)(u:HO):Prop:=H a=some u∨∃o,H a=some (.frz o u)
theorem Rd.ok{P:Program}{w:World}{H:Hp}{h:Heap}{a:Addr}{u:HO}(r:Rd H a u)(x:HOk P w H h):FJ P w H h a u:=by
 rcases r with r|⟨o,r⟩
 .exact x a u r
 .obtain⟨_,q⟩:=x a _ r
  exact q
def Mut:Option HO->Prop
 |some (.lst _)=>True
 |some (.dK _)=>True
 |some (.dT _)=>True
 |some (.set _ _)=>True
 |some (.ins _ _ _)=>True
 |some (.ext _)=>True
 |_=>False
section
variable{P:Program}{w:World}{H:Hp}{h h':Heap}{x e:Addr}{o':HO}
theorem HOk.write(ok:HOk P w H h)(mu:Mut (H x))(he:e=x∨H e=some (.own x))(k:∀b u,b≠e->h.get? b=some u->h'.get? b=some u)(heo:∃u,h'.get? e=some u)
  (new:FJ P w (upd H x o') h' x o'):HOk P w (upd H x o') h':=fun b u q=>by
 have nown:∀c y,H c=some (.own y)->c≠x:=fun c y r z=>by subst z;rw[r] at mu;exact mu
 have ntup:∀c xs,H c=some (.tup xs)->c≠x:=fun c xs r z=>by subst z;rw[r] at mu;exact mu
 by_cases hb:b=x
 .subst hb;rw[Cq] at q;cases q;exact new
 .rw[CK hb] at q
  by_cases hbe:b=e
  .have q':H b=some (.own x):=by
    rcases he with z|z
    .exact absurd (hbe.trans z) hb
    .rw[hbe];exact z
   rw[q] at q';cases q'
   obtain⟨v,hv⟩:=heo
   exact⟨v,by rw[hbe];exact hv⟩
  .refine(ok b u q).stay (fun c v hc r=>k c v ?_ r) (fun c r=>by rw[CK (nown c b r)];exact r) fun c xs r=>by rw[CK (ntup c xs r)];exact r
   rcases hc with rfl|hc
   .exact hbe
   .rintro rfl
    rcases he with z|z
    .exact nown c b hc z
    .rw[hc] at z;cases z;exact hb rfl
end
structure Un(fs ex:List Addr)(H H':Hp)(h h':Heap):Prop where
 keep:∀b o,h.get? b=some o->H b=none->b ∉ fs->b ∉ ex->h'.get? b=some o
 slot:∀b o,h.get? b=some o->H b=none->b∈fs->b ∉ ex->∃sl,h'.get? b=some { o with slots:=sl }
 free:∀b o,h.get? b=some o->H b=none->b ∉ ex->H' b=none
 there:∀b o,h.get? b=some o->b ∉ ex->∃o',h'.get? b=some o'
 tups:∀b xs,H b=some (.tup xs)->H' b=some (.tup xs)
 frzs:∀b o u,H b=some (.frz o u)->H' b=some (.frz o u)
 tbls:∀b ps,H b=some (.tbl ps)->∃more,H' b=some (.tbl (ps++more))
 sy:H sysModules=none->H' sysModules=none
section
variable{fs fs' ex ex':List Addr}{H H1 H2:Hp}{h h1 h2 h':Heap}{a x e:Addr}{o:HO}
theorem Un.any(u:Un fs ex H H1 h h1){b:Addr}{ob:Obj}(q:h.get? b=some ob)(n:H b=none)(hx:b ∉ ex):∃sl,h1.get? b=some { ob with slots:=sl }:=by
 by_cases hb:b∈fs
 .exact u.slot b ob q n hb hx
 .exact⟨ob.slots,u.keep b ob q n hb hx⟩
theorem Un.kept(k:∀b u,h.get? b=some u->h'.get? b=some u):Un fs ex H H h h' :=
 ⟨fun b ob q _ _ _=>k b ob q,fun b ob q _ _ _=>⟨ob.slots,k b ob q⟩,fun _ _ _ n _=>n,fun b ob q _=>⟨ob,k b ob q⟩,fun _ _ q=>q,fun _ _ _ q=>q,fun _ ps q=>⟨#[],by rw[q];simp⟩,id⟩
theorem Un.refl:Un fs ex H H h h:=Un.kept fun _ _ q=>q
theorem Un.laid(k:∀b u,h.get? b=some u->h'.get? b=some u)(hp:h.objs.size<=a)(hn:H a=none)(hsy:sysModules≠a):Un fs ex H (upd H a o) h h' where
 sy:=fun n=>by rw[CK hsy];exact n
 keep:=fun b u q _ _ _=>k b u q
 slot:=fun b u q _ _ _=>⟨u.slots,k b u q⟩
 free:=fun b u q n _=>by rw[CK (U03 (U0y (U0q q) hp))];exact n
 there:=fun b u q _=>⟨u,k b u q⟩
 tups:=fun b xs q=>by rw[CK (Ec q hn)];exact q
 frzs:=fun b u xs q=>by rw[CK (Ec q hn)];exact q
 tbls:=fun b ps q=>⟨#[],by rw[CK (Ec q hn),q];simp⟩
theorem Un.write(mu:Mut (H x))(he:e=x∨H e=some (.own x))(k:∀b u,b≠e->h.get? b=some u->h'.get? b=some u)(heo:∃u,h'.get? e=some u):Un fs ex H (upd H x o) h h':=by
 have hx:∀b,H b=none->b≠x:=fun b n z=>by subst z;rw[n] at mu;exact mu
 have hb:∀b,H b=none->b≠e:=fun b n z=>by
  subst z
  rcases he with r|r
  .exact hx b n r
  .rw[n] at r;cases r
 have hm:∀b u,H b=some u->¬Mut (some u)->b≠x:=fun b u q nm z=>by subst z;rw[q] at mu;exact nm mu
 refine⟨fun b u q n _ _=>k b u (hb b n) q,fun b u q n _ _=>⟨u.slots,k b u (hb b n) q⟩,fun b u q n _=>by rw[CK (hx b n)];exact n,fun b u q _=>?_,
  fun b xs q=>by rw[CK (hm b _ q fun z=>z)];exact q,fun b u xs q=>by rw[CK (hm b _ q fun z=>z)];exact q,fun b ps q=>⟨#[],by rw[CK (hm b _ q fun z=>z),q];simp⟩,fun n=>by rw[CK (hx _ n)];exact n⟩
 by_cases hbe:b=e
 .subst hbe;exact heo
 .exact⟨u,k b u hbe q⟩
end
def trk(h:Heap)(H:Hp):List Addr:=(U0g h.objs.size).filter fun a=>(H a).isSome
def Rp(h:Heap)(H:Hp):Heap:=PySem.W.hideAll h (trk h H)
theorem n6(h:Heap)(H:Hp):(Rp h H).objs.size=h.objs.size:=PySem.W.hideAll_size _ _
theorem qy{h:Heap}{H:Hp}{b:Addr}{o:Obj}(e:h.get? b=some o)(n:H b=none):(Rp h H).get? b=some o :=
 PySem.W.hideAll_get _ e fun hm=>by
  have q:(H b).isSome=true:=(U3k.mp hm).2
  rw[n] at q;simp at q
theorem uW{h:Heap}{H:Hp}{b:Addr}{o:Obj}(e:(Rp h H).get? b=some o):h.get? b=some o/\H b=none:=by
 have e':h.get? b=some o:=PySem.W.of_hideAll (trk h H) e
 refine⟨e',?_⟩
 cases q:H b with
 |none=>rfl
 |some x =>
  have hm:b∈trk h H:=U3k.mpr ⟨U2h.mpr (U0q e'),by simp[q]⟩
  have z:(Rp h H).get? b=none:=PySem.W.hideAll_none (trk h H) hm
  rw[z] at e;cases e
def wA(g h:Heap)(L:Addr):List (Addr×Obj):=(U0g h.objs.size).filterMap fun a=>if a=L∨(g.get? a).isSome=true then none else (h.get? a).map fun o=>(a,o)
def rest(g h:Heap)(L d:Addr):List (Addr×Obj):=(wA g h L).filter fun p=>decide (p.1≠d)
end L2
namespace L2
open PySem PySem.Spec PyProof.Rows
structure Mod(K:U0b)(mg:Str->Option Value)(base:Heap):Prop where
 kin:K.In base
 glob:base.Ns mainGlobals mg
 blt:∃mb,base.Ns builtinsNs mb/\∀x:Str,x≠"__name__"->mb x=bootBuiltins x
 nolimit:base.NoLimit
/-- the context: a def's body (or a comprehension's block) running. base: fixed through the whole law; s₀, H₀: the entry; outer: the frames whose slots others may change (a def's callers); stack: all frames that run;
   ex: iterators that were made ahead of the entry and are walked here (a comprehension's); fn: the names whose cells were made at the entry (a def: all; a comprehension's block: its own); calm: not within an except suite; pn: pins that every state bears; xe: what is wanted of an exception that leaves the code -/
structure Cx where
 prog:Program
 w:World
 K:U0b
 mg:Str->Option Value
 base:Heap
 A:Around
 N:List Str
 s₀:Shared
 H₀:Hp
 env:Env
 outer:List Env
 stack:List Env
 ex:List Addr
 fn:Str->Bool
 calm:Bool
 pn:List (Addr×Obj)
 xe:Value->Shared->Prop
def frs(l:List Env):List Addr:=l.filterMap (·.frame)
abbrev Cx.fs(X:Cx):List Addr:=frs X.outer
def Vis(sc:Scope)(x:Str):Prop:=sc.names.lookup x=some .local∨sc.names.lookup x=some .cell∨sc.names.lookup x=some .free
def Loc(sc:Scope)(x:Str):Prop:=sc.names.lookup x=some .local∨sc.names.lookup x=some .cell
def Look(env:Env)(h:Heap)(m:Str->Option Value)(x:Str)(u:Value):Prop :=
 (env.kindOf x=some .local/\m x=some u)∨((env.kindOf x=some .cell∨env.kindOf x=some .free)/\∃c,env.cells.lookup x=some c/\h.IsCell c (some u))
structure Cx.Ok(X:Cx):Prop where
 mod:Mod X.K X.mg X.base
 kind:X.env.scope.kind=.function
 glob:X.env.globals=mainGlobals
 blt:X.env.builtins=builtinsNs
 above:X.s₀.heap.objs.size<=X.env.locals
 inj:∀x y c,X.env.cells.lookup x=some c->X.env.cells.lookup y=some c->x=y
 has:∀x,(X.env.kindOf x=some .cell∨X.env.kindOf x=some .free)->∃c,X.env.cells.lookup x=some c
 cab:∀x c,X.fn x=true->X.env.cells.lookup x=some c->X.s₀.heap.objs.size<=c
 hd:X.calm=true->X.A.handled=none
 frames:X.A.frames=some X.stack
 stk:X.stack=X.outer∨(X.stack=X.env::X.outer/\X.env.frame=some X.env.locals)
 exf:∀b∈X.ex,b≠X.env.locals/\∀x c,X.env.cells.lookup x=some c->c≠b
 bs:∀b o,X.base.get? b=some o->X.s₀.heap.get? b=some o/\X.H₀ b=none
 bsz:X.base.objs.size<=X.s₀.heap.objs.size
 noex:∀b o,X.base.get? b=some o->b ∉ X.ex
 exfs:∀b∈X.ex,b ∉ X.fs
 Pn:X.s₀.heap.FunFrames X.base X.outer
 frf:∀b∈X.fs,X.H₀ b=none
 sy:X.H₀ sysModules=none
structure Inv(X:Cx)(pins:List (Addr×Obj))(σ:List (Option V))(H:Hp)(s:Shared):Prop where
 ok:X.Ok
 os:s.os=X.s₀.os
 bare:AllBare s.gens
 base:Un X.fs X.ex X.H₀ H X.s₀.heap s.heap
 loc:∃m,s.heap.Ns X.env.locals m/\∀(i:Nat)(x:Str)(v:V),X.N[i]?=some x->σ[i]?=some (some v)->Vis X.env.scope x->∃u,RelV v u/\Look X.env s.heap m x u
 cell:∀x c,X.env.cells.lookup x=some c->∃v,s.heap.IsCell c v
 free:H X.env.locals=none
 freeC:∀x c,X.env.cells.lookup x=some c->H c=none
 pin:∀p∈X.pn++pins,s.heap.get? p.1=some p.2/\H p.1=none/\p.1≠X.env.locals/\p.1 ∉ X.fs/\∀v,p.2.data≠.cell v
 hok:HOk X.prog X.w H s.heap
 len:σ.length=X.N.length
section
variable{X:Cx}{pins:List (Addr×Obj)}{σ:List (Option V)}{H H':Hp}{s:Shared}{h':Heap}
theorem Cx.Ok.Jch(ok:X.Ok){b:Addr}{o:Obj}(e:X.base.get? b=some o):b ∉ X.fs:=fun hb=>by
 have:=(ok.Pn.mem hb).1
 rw[e] at this;cases this
theorem Inv.bs(I:Inv X pins σ H s):∀b o,X.base.get? b=some o->s.heap.get? b=some o/\H b=none:=fun b o e =>
 ⟨I.base.keep b o (I.ok.bs b o e).1 (I.ok.bs b o e).2 (I.ok.Jch e) (I.ok.noex b o e),I.base.free b o (I.ok.bs b o e).1 (I.ok.bs b o e).2 (I.ok.noex b o e)⟩
theorem Inv.bk(I:Inv X pins σ H s):∀b o,X.base.get? b=some o->s.heap.get? b=some o:=fun b o e=>(I.bs b o e).1
theorem Inv.mod(I:Inv X pins σ H s):Mod X.K X.mg X.base:=I.ok.mod
theorem Inv.kIn(I:Inv X pins σ H s):X.K.In s.heap:=I.ok.mod.kin.keeps I.bk
theorem Inv.fr(I:Inv X pins σ H s):∃m,Fr X.base X.env.locals s.heap m :=
 let ⟨m,hn,_⟩:=I.loc
 ⟨m,hn,I.bk,U1a I.ok.bsz I.ok.above⟩
theorem Inv.lt(I:Inv X pins σ H s):X.env.locals<s.heap.objs.size:=let ⟨_,hn,_⟩:=I.loc;hn.lt
theorem Inv.sz(I:Inv X pins σ H s):X.s₀.heap.objs.size<=s.heap.objs.size:=U1a I.ok.above (U2w I.lt)
theorem Inv.nj(I:Inv X pins σ H s){a:Addr}(h:s.heap.objs.size<=a):a ∉ X.fs:=fun hb=>by
 obtain⟨_,o,ho,_⟩:=I.ok.Pn.mem hb
 exact absurd (U0y (U0q ho) (U1a I.sz h)) (U33 _)
theorem Inv.cne(I:Inv X pins σ H s):∀x c,X.env.cells.lookup x=some c->c≠X.env.locals:=fun x c e z=>by
 obtain⟨v,o,ho,hd⟩:=I.cell x c e
 obtain⟨m,⟨o',es,ep,ho',hd',_⟩,_⟩:=I.loc
 rw[z,ho'] at ho;cases ho;rw[hd'] at hd;cases hd
theorem Inv.Pn(I:Inv X pins σ H s):s.heap.FunFrames X.base X.outer:=by
 have all:∀(l:List Env),(∀b∈frs l,b∈X.fs)->X.s₀.heap.FunFrames X.base l->s.heap.FunFrames X.base l:=by
  intro l
  induction l with
  |nil=>intro _ _;trivial
  |cons env r ih =>
   intro hs hl
   obtain⟨hk,⟨L,o,hf,hn,ho,hd⟩,hr⟩:=hl
   have hL:L∈X.fs:=hs L (by unfold frs;rw[U5l,hf];exact U0x)
   obtain⟨sl,e⟩:=I.base.slot L o ho (I.ok.frf L hL) hL fun z=>I.ok.exfs L z hL
   exact⟨hk,⟨L,_,hf,hn,e,hd⟩,ih (fun b hb=>hs b (by unfold frs;rw[U5l,hf];exact U0p _ hb)) hr⟩
 exact all X.outer (fun _ hb=>hb) I.ok.Pn
theorem Inv.stack(I:Inv X pins σ H s):s.heap.FunFrames X.base X.stack:=by
 rcases I.ok.stk with e|⟨e,hf⟩
 .rw[e];exact I.Pn
 .rw[e]
  obtain⟨m,hn,_⟩:=I.loc
  refine .cons (by rw[I.ok.kind];decide) hf hn ?_ I.Pn
  exact Heap.get?_none_of_le (U1a I.ok.bsz I.ok.above)
theorem Inv.TX(I:Inv X pins σ H s):∀b∈frs X.stack,b∈X.env.locals::X.fs:=fun b hb=>by
 rcases I.ok.stk with e|⟨e,hf⟩
 .rw[e] at hb;exact U0p _ hb
 .rw[e] at hb
  unfold frs at hb
  rw[U5l,hf] at hb
  exact hb
theorem Inv.fU(I:Inv X pins σ H s):∀b∈frs X.stack,H b=none:=fun b hb=>by
 rcases U00.mp (I.TX b hb) with e|hb
 .rw[e];exact I.free
 .obtain⟨_,o,ho,_⟩:=I.ok.Pn.mem hb
  exact I.base.free b o ho (I.ok.frf b hb) fun z=>I.ok.exfs b z hb
theorem Inv.iK(I:Inv X pins σ H s):sysModules<s.heap.objs.size:=by
 obtain⟨o,_,_,e,_⟩:=I.ok.mod.glob
 exact U3f (by decide:(1:Nat)<3) (U0q (I.bk _ _ e))
theorem Inv.Xo(I:Inv X pins σ H s):H sysModules=none:=I.base.sy I.ok.sy
theorem Inv.step{g':Array GenState}{t':Nat}{d':Drawn}{ch:List Addr}(I:Inv X pins σ H s)
  (hch:∀b∈ch,(b∈X.ex∨X.s₀.heap.objs.size<=b)/\b≠X.env.locals/\(∀x c,X.env.cells.lookup x=some c->c≠b)/\∀p∈X.pn++pins,p.1≠b)
  (keep:∀b o,b≠X.env.locals->b ∉ X.fs->b ∉ ch->s.heap.get? b=some o->H b=none->h'.get? b=some o)
  (slot:∀b o,b≠X.env.locals->b∈X.fs->b ∉ ch->s.heap.get? b=some o->H b=none->∃sl,h'.get? b=some { o with slots:=sl }) (free:∀b o,b ∉ ch->s.heap.get? b=some o->H b=none->H' b=none)
  (there:∀b o,b ∉ ch->s.heap.get? b=some o->∃o',h'.get? b=some o')
  (tups:∀b xs,H b=some (.tup xs)->H' b=some (.tup xs)) (frzs:∀b o u,H b=some (.frz o u)->H' b=some (.frz o u)) (tbls:∀b ps,H b=some (.tbl ps)->∃more,H' b=some (.tbl (ps++more)))
  (ns:∀m,s.heap.Ns X.env.locals m->h'.Ns X.env.locals m) (hok:HOk X.prog X.w H' h') (hg:AllBare g') (sy:H sysModules=none->H' sysModules=none) :
  Inv X pins σ H' { s with heap:=h',gens:=g',drawn:=d',toks:=t' }:=by
 have neL:∀b o,X.s₀.heap.get? b=some o->b≠X.env.locals:=fun b o e=>U03 (U0y (U0q e) I.ok.above)
 have neC:∀b o,X.s₀.heap.get? b=some o->b ∉ X.ex->b ∉ ch:=fun b o e hx hb=>by
  rcases(hch b hb).1 with z|z
  .exact hx z
  .exact absurd (U0y (U0q e) z) (U33 _)
 have cellK:∀x c,X.env.cells.lookup x=some c->∀v,s.heap.IsCell c v->h'.IsCell c v:=fun x c e v ⟨o,ho,hd⟩=>by
  have nch:c ∉ ch:=fun z=>(hch c z).2.2.1 x c e rfl
  by_cases hc:c∈X.fs
  .obtain⟨sl,q⟩:=slot c o (I.cne x c e) hc nch ho (I.freeC x c e)
   exact⟨_,q,hd⟩
  .exact⟨o,keep c o (I.cne x c e) hc nch ho (I.freeC x c e),hd⟩
 refine⟨I.ok,I.os,hg,⟨fun b o e n hb hx=>?_,fun b o e n hb hx=>?_,fun b o e n hx=>?_,fun b o e hx=>?_,fun b xs e=>tups b xs (I.base.tups b xs e),fun b o xs e=>frzs b o xs (I.base.frzs b o xs e),fun b ps e=>?_,fun n=>sy (I.base.sy n)⟩,?_,fun x c e=>?_,?_,fun x c e=>?_,fun p hp=>?_,hok,I.len⟩
 .exact keep b o (neL b o e) hb (neC b o e hx) (I.base.keep b o e n hb hx) (I.base.free b o e n hx)
 .obtain⟨sl,e1⟩:=I.base.slot b o e n hb hx
  obtain⟨sl',e2⟩:=slot b _ (neL b o e) hb (neC b o e hx) e1 (I.base.free b o e n hx)
  exact⟨sl',e2⟩
 .obtain⟨o',e1⟩:=I.base.there b o e hx
  exact free b o' (neC b o e hx) e1 (I.base.free b o e n hx)
 .obtain⟨o',e1⟩:=I.base.there b o e hx
  exact there b o' (neC b o e hx) e1
 .obtain⟨m1,e1⟩:=I.base.tbls b ps e
  obtain⟨m2,e2⟩:=tbls b _ e1
  exact⟨m1++m2,by rw[e2,Array.append_assoc]⟩
 .obtain⟨m,hn,hl⟩:=I.loc
  refine⟨m,ns m hn,fun i x v e1 e2 e3=>?_⟩
  obtain⟨u,r,l⟩:=hl i x v e1 e2 e3
  refine⟨u,r,?_⟩
  rcases l with l|⟨k,c,e,z⟩
  .exact .inl l
  .exact .inr ⟨k,c,e,cellK x c e _ z⟩
 .obtain⟨v,z⟩:=I.cell x c e
  exact⟨v,cellK x c e v z⟩
 .obtain⟨m,⟨o,_,_,ho,_⟩,_⟩:=I.loc
  exact free _ o (fun z=>(hch _ z).2.1 rfl) ho I.free
 .obtain⟨v,o,ho,hd⟩:=I.cell x c e
  exact free c o (fun z=>(hch c z).2.2.1 x c e rfl) ho (I.freeC x c e)
 .obtain⟨e,n,ne,nf,d⟩:=I.pin p hp
  have nch:p.1 ∉ ch:=fun z=>(hch p.1 z).2.2.2 p hp rfl
  exact⟨keep p.1 p.2 ne nf nch e n,free p.1 p.2 nch e n,ne,nf,d⟩
theorem Inv.un{t':Nat}(I:Inv X pins σ H s)(u:Un X.fs [] H H' s.heap h')(hok:HOk X.prog X.w H' h'):Inv X pins σ H' { s with heap:=h',toks:=t' }:=by
 obtain⟨m,⟨o,es,ep,ho,r⟩,_⟩:=id I.loc
 obtain⟨sl,hL⟩:=u.any ho I.free (by simp)
 exact I.step (g':=s.gens) (d':=s.drawn) (ch:=[]) (fun _ z=>nomatch z) (fun b o _ hb _ e n=>u.keep b o e n hb (by simp)) (fun b o _ hb _ e n=>u.slot b o e n hb (by simp)) (fun b o _ e n=>u.free b o e n (by simp)) (fun b o _ e=>u.there b o e (by simp)) u.tups u.frzs u.tbls (fun m' hm=>by
  obtain⟨o',es',ep',ho',r'⟩:=hm
  rw[ho] at ho';cases ho'
  exact⟨_,es',ep',hL,r'⟩) hok I.bare u.sy
theorem Inv.call{g':Array GenState}{t':Nat}{d':Drawn}{ch:List Addr}(I:Inv X pins σ H s)(u:Un (frs X.stack) ch H H' s.heap h')(hok:HOk X.prog X.w H' h')(hg:AllBare g')
  (hch:∀b∈ch,(b∈X.ex∨X.s₀.heap.objs.size<=b)/\b≠X.env.locals/\(∀x c,X.env.cells.lookup x=some c->c≠b)/\∀p∈X.pn++pins,p.1≠b) :
  Inv X pins σ H' { s with heap:=h',gens:=g',drawn:=d',toks:=t' }:=by
 obtain⟨m,⟨o,es,ep,ho,r⟩,_⟩:=id I.loc
 obtain⟨sl,hL⟩:=u.any ho I.free fun z=>(hch _ z).2.1 rfl
 exact I.step (ch:=ch) hch (fun b o hL hb hc e n=>u.keep b o e n (fun z=>(U00.mp (I.TX b z)).elim hL hb) hc) (fun b o _ _ hc e n=>u.any e n hc) (fun b o hc e n=>u.free b o e n hc) (fun b o hc e=>u.there b o e hc) u.tups u.frzs u.tbls (fun m' hm=>by
  obtain⟨o',es',ep',ho',r'⟩:=hm
  rw[ho] at ho';cases ho'
  exact⟨_,es',ep',hL,r'⟩) hok hg u.sy
theorem Inv.turned{t':Nat}{it:Addr}(I:Inv X pins σ H s)(k:∀b o,b≠it->s.heap.get? b=some o->h'.get? b=some o)(hn:H it=none)(hL:it≠X.env.locals)
  (h1:it∈X.ex∨X.s₀.heap.objs.size<=it) (h2:∀x c,X.env.cells.lookup x=some c->c≠it) (h3:∀p∈X.pn++pins,p.1≠it):Inv X pins σ H { s with heap:=h',toks:=t' }:=by
 have nit:∀b u,H b=some u->b≠it:=fun b u e z=>by rw[z,hn] at e;cases e
 refine I.step (g':=s.gens) (d':=s.drawn) (ch:=[it]) (fun b hb=>?_) (fun b o _ _ hc e _=>k b o (fun z=>hc (by simp[z])) e) (fun b o _ _ hc e _=>⟨o.slots,k b o (fun z=>hc (by simp[z])) e⟩) (fun _ _ _ _ n=>n)
  (fun b o hc e=>⟨o,k b o (fun z=>hc (by simp[z])) e⟩) (fun _ _ e=>e) (fun _ _ _ e=>e) (fun b ps e=>⟨#[],by rw[e];simp⟩) (fun m hm=>?_) (fun b u e=>?_) I.bare id
 .have e:b=it:=by simpa using hb
  subst e
  exact⟨h1,hL,h2,h3⟩
 .obtain⟨o,es,ep,ho,r⟩:=hm
  exact⟨o,es,ep,k _ o (U1y hL) ho,r⟩
 .refine(I.hok b u e).stay (fun c v hc q=>k c v ?_ q) (fun _ q=>q) fun _ _ q=>q
  rcases hc with z|z
  .rw[z];exact nit b u e
  .exact nit c _ z
theorem Inv.tok(I:Inv X pins σ H s)(t:Nat):Inv X pins σ H { s with toks:=t }:=I.un (h':=s.heap) (t':=t) Un.refl I.hok
theorem Inv.kept{t':Nat}(I:Inv X pins σ H s)(k:∀b u,s.heap.get? b=some u->h'.get? b=some u):Inv X pins σ H { s with heap:=h',toks:=t' }:=I.un (Un.kept k) (I.hok.kept k)
theorem Inv.laid{a:Addr}{o:HO}{t':Nat}(I:Inv X pins σ H s)(k:∀b u,s.heap.get? b=some u->h'.get? b=some u)(hp:s.heap.objs.size<=a)(new:FJ X.prog X.w (upd H a o) h' a o) :
  Inv X pins σ (upd H a o) { s with heap:=h',toks:=t' }:=I.un (Un.laid k hp (I.hok.fresh hp) (U03 (U0y I.iK hp))) (I.hok.laid k hp new)
theorem Inv.write{x e:Addr}{o:HO}{t':Nat}(I:Inv X pins σ H s)(mu:Mut (H x))(he:e=x∨H e=some (.own x))(k:∀b u,b≠e->s.heap.get? b=some u->h'.get? b=some u)(heo:∃u,h'.get? e=some u)
  (new:FJ X.prog X.w (upd H x o) h' x o):Inv X pins σ (upd H x o) { s with heap:=h',toks:=t' }:=I.un (Un.write mu he k heo) (I.hok.write mu he k heo new)
theorem Inv.weak{σ':List (Option V)}(I:Inv X pins σ H s)(hl:σ'.length=σ.length)(w:∀(i:Nat) v,σ'[i]?=some (some v)->σ[i]?=some (some v)):Inv X pins σ' H s :=
 ⟨I.ok,I.os,I.bare,I.base,let ⟨m,hn,hl'⟩:=I.loc;⟨m,hn,fun i x v e1 e2 e3=>hl' i x v e1 (w i v e2) e3⟩,I.cell,I.free,I.freeC,I.pin,I.hok,hl.trans I.len⟩
theorem Inv.Uz{pins':List (Addr×Obj)}(I:Inv X pins σ H s)(h:∀p∈pins',s.heap.get? p.1=some p.2/\H p.1=none/\p.1≠X.env.locals/\p.1 ∉ X.fs/\∀v,p.2.data≠.cell v):Inv X pins' σ H s :=
 ⟨I.ok,I.os,I.bare,I.base,I.loc,I.cell,I.free,I.freeC,fun p hp=>(U12.mp hp).elim (fun z=>I.pin p (U3y _ z)) (h p),I.hok,I.len⟩
theorem aq{N:List Str}(hN:N.Nodup){i j:Nat}{x:Str}(a:N[i]?=some x)(b:N[j]?=some x):i=j:=by
 obtain⟨h1,e1⟩:=U0n.mp a
 obtain⟨h2,e2⟩:=U0n.mp b
 exact(List.getElem_inj hN).mp (e1.trans e2.symm)
theorem YJ{M:Model}{A:Around}{E:Value->Shared->Prop}{i:Nat}{x:Str}{v:V}{u:Value}{Q:Unit->Shared->Prop}(I:Inv X pins σ H s)(hN:X.N.Nodup)(hi:X.N[i]?=some x)(hx:Loc X.env.scope x)(r:RelV v u)
  (h:∀s',Inv X pins (σ.set i (some v)) H s'->(∃a,U1b a s.heap s'.heap/\(a=X.env.locals∨X.env.cells.lookup x=some a))->Q () s') (hf:X.fn x=true∨X.env.scope.names.lookup x=some .local:=by first|exact .inl rfl|exact .inr rfl|assumption):wpAny M A (storeName X.env x u) Q E s:=by
 obtain⟨m,hn,hl⟩:=id I.loc
 have hcls:(X.env.scope.kind==.class||(X.env.scope.kind==.module&&X.env.locals != X.env.globals))=false:=by rw[I.ok.kind];rfl
 have hiσ:i<σ.length:=by rw[I.len];exact(U0n.mp hi).1
 have cne:=I.cne
 have tracked:∀{a:Addr} {h':Heap},(∃o,s.heap.get? a=some o/\H a=none)->U1b a s.heap h'->HOk X.prog X.w H h':=fun {a h'} ha hs b ob e=>by
  obtain⟨_,_,hfree⟩:=ha
  refine(I.hok b ob e).stay (fun c w' hc q=>(hs.2 c ?_).trans q) (fun _ q=>q) fun _ _ q=>q
  rintro rfl
  rcases hc with rfl|hc
  .rw[hfree] at e;cases e
  .rw[hfree] at hc;cases hc
 rcases hx with hk|hk
 .refine wpAny_storeName_local hk hn (fun h' hn' hs=>?_) hcls
  obtain⟨oL,_,_,hoL,_⟩:=id hn
  refine h _ ⟨I.ok,I.os,I.bare,⟨fun b o e n hb hx=>?_,fun b o e n hb hx=>?_,I.base.free,fun b o e hx=>?_,I.base.tups,I.base.frzs,I.base.tbls,I.base.sy⟩,⟨_,hn',fun j y v' e1 e2 e3=>?_⟩,fun y c e=>?_,I.free,I.freeC,fun p hp=>?_,tracked ⟨oL,hoL,I.free⟩ hs,by simpa using I.len⟩ ⟨_,hs,.inl rfl⟩
  .exact(hs.2 b (U03 (U0y (U0q e) I.ok.above))).trans (I.base.keep b o e n hb hx)
  .obtain⟨sl,e1⟩:=I.base.slot b o e n hb hx
   exact⟨sl,(hs.2 b (U03 (U0y (U0q e) I.ok.above))).trans e1⟩
  .obtain⟨o',e1⟩:=I.base.there b o e hx
   exact⟨o',(hs.2 b (U03 (U0y (U0q e) I.ok.above))).trans e1⟩
  .by_cases hj:j=i
   .subst hj
    rw[hi] at e1;cases e1
    rw[U2u hiσ] at e2
    cases e2
    exact⟨u,r,.inl ⟨hk,by simp⟩⟩
   .rw[U2y (U1y hj)] at e2
    obtain⟨u',r',q⟩:=hl j y v' e1 e2 e3
    refine⟨u',r',?_⟩
    rcases q with ⟨k,e⟩|⟨k,c,e,z⟩
    .refine .inl ⟨k,?_⟩
     have:y≠x:=fun e=>hj (aq hN e1 (e ▸ hi))
     simp[this,e]
    .exact .inr ⟨k,c,e,z.sameBut hs (cne y c e)⟩
  .obtain⟨w',z⟩:=I.cell y c e
   exact⟨w',z.sameBut hs (cne y c e)⟩
  .obtain⟨e,n,ne,nf,d⟩:=I.pin p hp
   exact⟨(hs.2 p.1 ne).trans e,n,ne,nf,d⟩
 .have hfn:X.fn x=true:=by
   rcases hf with z|z
   .exact z
   .rw[z] at hk;cases hk
  obtain⟨c,hc⟩:=I.ok.has x (.inl hk)
  obtain⟨w',z⟩:=I.cell x c hc
  refine wpAny_storeName_cell I.ok.kind hk hc z (fun h' hc' hs=>?_)
  obtain⟨oc,hoc,hocd⟩:=id z
  refine h { s with heap:=h' } ⟨I.ok,I.os,I.bare,⟨fun b o e n hb hx=>?_,fun b o e n hb hx=>?_,I.base.free,fun b o e hx=>?_,I.base.tups,I.base.frzs,I.base.tbls,I.base.sy⟩,⟨m,hn.sameBut hs (U1y (cne x c hc)),fun j y v' e1 e2 e3=>?_⟩,fun y c' e=>?_,I.free,I.freeC,fun p hp=>?_,tracked ⟨oc,hoc,I.freeC x c hc⟩ hs,by simpa using I.len⟩ ⟨c,hs,.inr hc⟩
  .exact(hs.2 b (U03 (U0y (U0q e) (I.ok.cab x c hfn hc)))).trans (I.base.keep b o e n hb hx)
  .obtain⟨sl,e1⟩:=I.base.slot b o e n hb hx
   exact⟨sl,(hs.2 b (U03 (U0y (U0q e) (I.ok.cab x c hfn hc)))).trans e1⟩
  .obtain⟨o',e1⟩:=I.base.there b o e hx
   exact⟨o',(hs.2 b (U03 (U0y (U0q e) (I.ok.cab x c hfn hc)))).trans e1⟩
  .by_cases hj:j=i
   .subst hj
    rw[hi] at e1;cases e1
    rw[U2u hiσ] at e2
    cases e2
    exact⟨u,r,.inr ⟨.inl hk,c,hc,hc'⟩⟩
   .rw[U2y (U1y hj)] at e2
    obtain⟨u',r',q⟩:=hl j y v' e1 e2 e3
    refine⟨u',r',?_⟩
    rcases q with q|⟨k,c',e,z'⟩
    .exact .inl q
    .refine .inr ⟨k,c',e,z'.sameBut hs ?_⟩
     rintro rfl
     exact hj (aq hN e1 (I.ok.inj _ _ _ e hc ▸ hi))
  .by_cases hcc:c'=c
   .subst hcc;exact⟨_,hc'⟩
   .obtain⟨w2,z2⟩:=I.cell y c' e
    exact⟨w2,z2.sameBut hs hcc⟩
  .obtain⟨e,n,ne,nf,d⟩:=I.pin p hp
   refine⟨(hs.2 p.1 ?_).trans e,n,ne,nf,d⟩
   intro q
   rw[q,hoc] at e
   have q':oc=p.2:=U1c e
   exact d w' (by rw[←q'];exact hocd)
theorem aO{M:Model}{A:Around}{E:Value->Shared->Prop}{i:Nat}{x:Str}{v:V}{u:Value}{Q:Unit->Shared->Prop}(I:Inv X pins σ H s)(hN:X.N.Nodup)(hi:X.N[i]?=some x)(hx:Loc X.env.scope x)(r:RelV v u)
  (h:∀s',Inv X pins (σ.set i (some v)) H s'->Q () s') (hf:X.fn x=true∨X.env.scope.names.lookup x=some .local:=by first|exact .inl rfl|exact .inr rfl|assumption):wpAny M A (storeName X.env x u) Q E s :=
 YJ I hN hi hx r (fun s' I' _=>h s' I') hf
theorem Inv.call'{s':Shared}{ch:List Addr}(I:Inv X pins σ H s)(ho:s'.os=s.os)(u:Un (frs X.stack) ch H H' s.heap s'.heap)(hok:HOk X.prog X.w H' s'.heap)(hg:AllBare s'.gens)
  (hch:∀b∈ch,(b∈X.ex∨X.s₀.heap.objs.size<=b)/\b≠X.env.locals/\(∀x c,X.env.cells.lookup x=some c->c≠b)/\∀p∈X.pn++pins,p.1≠b):Inv X pins σ H' s':=by
 obtain⟨h',g',d',t',o'⟩:=s'
 have e:o'=s.os:=ho
 subst e
 exact I.call (g':=g') (t':=t') (d':=d') u hok hg hch
end
abbrev XK:=Value->Option Addr->Hp->Prop
abbrev St:=List (Option V)
abbrev VK:=V->Hp->Prop
abbrev TE:=St->Hp->VK->Prop
abbrev TT:=St->Hp->(Bool->Hp->Prop)->Prop
abbrev TA:=St->Hp->(List V->Hp->Prop)->Prop
structure Ends where
 nx:St->Hp->Prop
 rt:VK
 bk:St->Hp->Prop:=fun _ _=>False
 ct:St->Hp->Prop:=fun _ _=>False
abbrev TS:=Ends->St->Hp->Prop
def EP(X:Cx)(pins:List (Addr×Obj))(σ:St)(Q:VK)(u:Value)(s':Shared):Prop:=∃v H',Inv X pins σ H' s'/\RelV v u/\Q v H'
def TP(X:Cx)(pins:List (Addr×Obj))(σ:St)(Q:Bool->Hp->Prop)(b:Bool)(s':Shared):Prop:=∃H',Inv X pins σ H' s'/\Q b H'
def AP(X:Cx)(pins:List (Addr×Obj))(σ:St)(Q:List V->Hp->Prop)(us:List Value)(s':Shared):Prop:=∃vs H',Inv X pins σ H' s'/\Vals vs us/\Q vs H'
def SP(X:Cx)(pins:List (Addr×Obj))(D:Ends)(f:Flow)(s':Shared):Prop :=
 match f with
 |.next=>∃σ' H',Inv X pins σ' H' s'/\D.nx σ' H'
 |.brk=>∃σ' H',Inv X pins σ' H' s'/\D.bk σ' H'
 |.cont=>∃σ' H',Inv X pins σ' H' s'/\D.ct σ' H'
 |.ret u=>∃v σ' H',Inv X pins σ' H' s'/\RelV v u/\D.rt v H'
def PE(X:Cx)(e:Expr)(t:TE):Prop :=
 ∀(pins:List (Addr×Obj))(s:Shared)(σ:St)(H:Hp)(Q:VK),Inv X pins σ H s->t σ H Q->wpAny (model X.prog X.w) X.A (eval e X.env) (EP X pins σ Q) X.xe s
def PT(X:Cx)(e:Expr)(t:TT):Prop :=
 ∀(pins:List (Addr×Obj))(s:Shared)(σ:St)(H:Hp)(Q:Bool->Hp->Prop),Inv X pins σ H s->t σ H Q->wpAny (model X.prog X.w) X.A (isTrue e X.env (eval e X.env)) (TP X pins σ Q) X.xe s
def PW(X:Cx)(e:Expr)(t:TT):Prop :=
 ∀(whole:Sem Value)(pins:List (Addr×Obj))(s:Shared)(σ:St)(H:Hp)(Q:Bool->Hp->Prop),Inv X pins σ H s->t σ H Q->wpAny (model X.prog X.w) X.A (isTrue e X.env whole) (TP X pins σ Q) X.xe s
theorem PW.pt{X:Cx}{e:Expr}{t:TT}(h:PW X e t):PT X e t:=h _
def PA(X:Cx)(es:List Expr)(t:TA):Prop :=
 ∀(pos:Pos)(pins:List (Addr×Obj))(s:Shared)(σ:St)(H:Hp)(Q:List V->Hp->Prop),Inv X pins σ H s->t σ H Q->wpAny (model X.prog X.w) X.A (spliced (backTo pos (starEach es X.env))) (AP X pins σ Q) X.xe s
def PS(X:Cx)(st:Stmt)(t:TS):Prop :=
 ∀(pins:List (Addr×Obj))(s:Shared)(σ:St)(H:Hp)(D:Ends),Inv X pins σ H s->t D σ H->wpAny (model X.prog X.w) X.A (exec st X.env) (SP X pins D) X.xe s
def PSs(X:Cx)(st:List Stmt)(t:TS):Prop :=
 ∀(pins:List (Addr×Obj))(s:Shared)(σ:St)(H:Hp)(D:Ends),Inv X pins σ H s->t D σ H->wpAny (model X.prog X.w) X.A (execs st X.env) (SP X pins D) X.xe s
theorem thn{α:Type}{t:Sem α}{Q Q':α->Shared->Prop}{M:Model}{A:Around}{E:Value->Shared->Prop}{s:Shared}(h:wpAny M A t Q E s)(hQ:∀a s,Q a s->Q' a s):wpAny M A t Q' E s:=U51 h hQ fun _ _ x=>x
end L2
namespace L2
open PySem PySem.Spec PyProof.Rows
section
variable{X:Cx}
theorem bin{a b:Expr}{ta tb:TE}(ha:PE X a ta)(hb:PE X b tb){pins:List (Addr×Obj)}{s:Shared}{σ:St}{H:Hp}{R:V->V->Hp->Prop}(I:Inv X pins σ H s)(h:ta σ H fun x H1=>tb σ H1 fun y H2=>R x y H2)
  {α:Type} {Q:α->Shared->Prop} {f:Value->Value->Sem α}
  (hf:∀v u s2 x y H2,Inv X pins σ H2 s2->RelV x v->RelV y u->R x y H2->wpAny (model X.prog X.w) X.A (f v u) Q X.xe s2) :
  wpAny (model X.prog X.w) X.A (eval a X.env) (fun v s₁=>wpAny (model X.prog X.w) X.A (eval b X.env) (fun u s₂=>wpAny (model X.prog X.w) X.A (f v u) Q X.xe s₂) X.xe s₁) X.xe s:=by
 refine thn (ha pins s σ H _ I h) fun v s1 ⟨x,H1,I1,r1,q1⟩=>?_
 refine thn (hb pins s1 σ H1 _ I1 q1) fun u s2 ⟨y,H2,I2,r2,q2⟩=>?_
 exact hf v u s2 x y H2 I2 r1 r2 q2
def wg(i:Nat):TE:=fun σ H Q=>∃v,σ[i]?=some (some v)/\Q v H
def tC(v:V):TE:=fun _ H Q=>Q v H
theorem jj{i:Nat}{x:Str}{pos:Pos}(hN:X.N[i]?=some x)(hv:Vis X.env.scope x)(hd:(x==("__debug__":Str))=false:=by decide)(hcd:(x==("__classdict__":Str))=false:=by decide):PE X (.Name x pos) (wg i):=by
 intro pins s σ H Q I h
 obtain⟨v,e,h⟩:=h
 obtain⟨m,hn,hl⟩:=I.loc
 obtain⟨u,r,l⟩:=hl i x v hN e hv
 have fin:EP X pins σ Q u s:=⟨v,H,I,r,h⟩
 rcases l with ⟨hk,hm⟩|⟨hk,c,hc,hcell⟩
 .exact wpAny_Name (wpAny_loadName_local I.ok.kind hk hn hm fin) hd
 .rcases hk with hk|hk
  .exact wpAny_Name (wpAny_loadName_cell I.ok.kind hk hc hcell fin) hd
  .exact wpAny_Name (wpAny_loadName_free I.ok.kind hk hc hcell fin hcd) hd
theorem Te{i j pos}:PE X (.Constant (.int i) j pos) (tC (.int i)):=fun _ _ _ H _ I h=>wpAny_Constant_int ⟨.int i,H,I.tok _,⟨_,rfl⟩,h⟩
theorem Jbb{b j pos}:PE X (.Constant (.bool b) j pos) (tC (.bl b)):=fun _ _ _ H _ I h=>Constant_bool ⟨.bl b,H,I,rfl,h⟩
def Gl(X:Cx)(x:Str):Prop:=X.env.kindOf x=some .globalImplicit
theorem gJ{E:Value->Shared->Prop}{pins:List (Addr×Obj)}{s:Shared}{σ:St}{H:Hp}{x:Str}{u:Value}{pos:Pos}{Q:Value->Shared->Prop}(I:Inv X pins σ H s)(hg:Gl X x)(hm:X.mg x=some u)(h:Q u s)
  (hd:(x==("__debug__":Str))=false:=by decide):wpAny (model X.prog X.w) X.A (eval (.Name x pos) X.env) Q E s :=
 Calls.Name_function_global I.ok.kind hg (Calls.loadGlobal_global (by rw[I.ok.glob];exact I.mod.glob.keeps I.bk) hm h) hd
theorem Lb{E:Value->Shared->Prop}{pins:List (Addr×Obj)}{s:Shared}{σ:St}{H:Hp}{x:Str}{u:Value}{pos:Pos}{Q:Value->Shared->Prop}(I:Inv X pins σ H s)(hg:Gl X x)(hm:X.mg x=none)(hv:bootBuiltins x=some u)(h:Q u s)
  (hn:x≠"__name__":=by decide) (hd:(x==("__debug__":Str))=false:=by decide):wpAny (model X.prog X.w) X.A (eval (.Name x pos) X.env) Q E s:=by
 obtain⟨mb,h1,h2⟩:=I.mod.blt
 exact Calls.Name_function_global I.ok.kind hg (Calls.loadGlobal_builtin (by rw[I.ok.glob];exact I.mod.glob.keeps I.bk) hm (by rw[I.ok.blt];exact h1.keeps I.bk) ((h2 x hn).trans hv) h) hd
theorem fu{x:Str}{v:V}{u:Value}{pos:Pos}(hg:Gl X x)(hm:X.mg x=some u)(r:RelV v u)(hd:(x==("__debug__":Str))=false:=by decide):PE X (.Name x pos) (tC v) :=
 fun _ _ _ H _ I h=>gJ I hg hm ⟨v,H,I,r,h⟩ hd
theorem uR{x:Str}{v:V}{u:Value}{pos:Pos}(hg:Gl X x)(hm:X.mg x=none)(hv:bootBuiltins x=some u)(r:RelV v u)(hn:x≠"__name__":=by decide)(hd:(x==("__debug__":Str))=false:=by decide):PE X (.Name x pos) (tC v) :=
 fun _ _ _ H _ I h=>Lb I hg hm hv ⟨v,H,I,r,h⟩ hn hd
variable{a b:Expr}{ta tb:TE}{pos:Pos}
def PC(X:Cx)(op:CmpOp)(a b:Expr)(t:TE):Prop :=
 ∀(pins:List (Addr×Obj))(s:Shared)(σ:St)(H:Hp)(Q:VK),Inv X pins σ H s->t σ H Q ->
  wpAny (model X.prog X.w) X.A (eval a X.env) (fun v s₁=>wpAny (model X.prog X.w) X.A (eval b X.env) (fun u s₂=>wpAny (model X.prog X.w) X.A (compareOp op v u) (EP X pins σ Q) X.xe s₂) X.xe s₁) X.xe s
theorem qN(b:Expr){op:CmpOp}(h:op≠.In)(h2:op≠.NotIn):behindInMarks op b=false:=by
 have e1:(op==CmpOp.In)=false:=by cases op<;>first|rfl|exact absurd rfl h
 have e2:(op==CmpOp.NotIn)=false:=by cases op<;>first|rfl|exact absurd rfl h2
 cases b<;>simp[behindInMarks,e1,e2]
def tB(t:TE):TT:=fun σ H Q=>t σ H fun x H1=>∃c,x=.bl c/\Q c H1
theorem Jc8{op:CmpOp}{t:TE}(h:PC X op a b t)(h1:behindInMarks op b=false:=by first|exact qN _ (by decide) (by decide)|rfl):PT X (.Compare a [op] [b] pos) (tB t):=by
 intro pins s σ H Q I hw
 refine wpAny_isTrue_Compare1 (thn (h pins s σ H _ I hw) fun v s1 h1=>thn h1 fun u s2 h2=>thn h2 fun c s3 ⟨x,H1,I1,r1,q1⟩=>?_) h1
 obtain⟨d,rfl,q⟩:=q1
 cases r1
 exact U3h ⟨H1,I1,q⟩
theorem yW{e:Expr}{t:TE}(h:PE X e t)(he:∀whole,isTrue e X.env whole=(do let v ←whole;standAt e.pos;holding [v] (truthy v)):=by intro _;rfl):PT X e (tB t):=by
 intro pins s σ H Q I hw
 refine isTrue_plain (thn (h pins s σ H _ I hw) fun v s1 ⟨x,H1,I1,r1,q1⟩=>?_) (he _)
 obtain⟨d,rfl,q⟩:=q1
 cases r1
 exact U3h ⟨H1,I1,q⟩
variable{tA tB':TT}{rest:List Expr}
def Ii(t u:TT):TT:=fun σ H Q=>t σ H fun c H1=>if c=true then u σ H1 Q else Q false H1
def tOr(t u:TT):TT:=fun σ H Q=>t σ H fun c H1=>if c=true then Q true H1 else u σ H1 Q
def Hy(t:TT):TT:=fun σ H Q=>t σ H fun c H1=>Q (!c) H1
theorem u9(ha:PT X a tA):PW X (.BoolOp .And [a] pos) tA:=by
 intro wh pins s σ H Q I h
 refine isTrue_and (thn (ha pins s σ H Q I h) fun c s1 e=>?_)
 cases c with
 |true=>exact isTrue_and_nil e
 |false=>exact e
theorem yU(ha:PT X a tA):PW X (.BoolOp .Or [a] pos) tA:=by
 intro wh pins s σ H Q I h
 refine isTrue_or (thn (ha pins s σ H Q I h) fun c s1 e=>?_)
 cases c with
 |false=>exact isTrue_or_nil e
 |true=>exact e
theorem yV(ha:PT X a tA)(hb:PW X (.BoolOp .And (b::rest) pos) tB'):PW X (.BoolOp .And (a::b::rest) pos) (Ii tA tB'):=by
 intro wh pins s σ H Q I h
 refine isTrue_and (thn (ha pins s σ H _ I h) fun c s1 ⟨H1,I1,q1⟩=>?_)
 cases c with
 |true=>exact hb wh pins s1 σ H1 Q I1 q1
 |false=>exact⟨H1,I1,q1⟩
theorem Ja6(ha:PT X a tA)(hb:PW X (.BoolOp .Or (b::rest) pos) tB'):PW X (.BoolOp .Or (a::b::rest) pos) (tOr tA tB'):=by
 intro wh pins s σ H Q I h
 refine isTrue_or (thn (ha pins s σ H _ I h) fun c s1 ⟨H1,I1,q1⟩=>?_)
 cases c with
 |true=>exact⟨H1,I1,q1⟩
 |false=>exact hb wh pins s1 σ H1 Q I1 q1
theorem yX(ha:PT X a tA):PT X (.UnaryOp .Not a pos) (Hy tA):=by
 intro pins s σ H Q I h
 exact isTrue_not (ha pins s σ H (fun c H1=>Q (!c) H1) I h)
def Jaz(ta tb:TE):TE:=fun σ H Q=>ta σ H fun x H1=>∃c,x=.bl c/\if c=true then tb σ H1 Q else Q (.bl false) H1
def Jav(ta:TE):TE:=fun σ H Q=>ta σ H fun x H1=>∃c,x=.bl c/\Q (.bl (!c)) H1
theorem yr{op}{t:TE}(h:PE X a t):PE X (.BoolOp op [a] pos) t:=fun pins s σ H Q I hw=>BoolOp_one (h pins s σ H Q I hw)
theorem yw(ha:PE X a ta)(hb:PE X (.BoolOp .And (b::rest) pos) tb):PE X (.BoolOp .And (a::b::rest) pos) (Jaz ta tb):=by
 intro pins s σ H Q I h
 refine BoolOp_and (thn (ha pins s σ H _ I h) fun v s1 ⟨x,H1,I1,r1,q1⟩=>?_)
 obtain⟨c,rfl,q1⟩:=q1
 cases r1
 refine U3h ?_
 cases c with
 |true=>exact hb pins s1 σ H1 Q I1 q1
 |false=>exact⟨.bl false,H1,I1,rfl,q1⟩
theorem yt(ha:PE X a ta):PE X (.UnaryOp .Not a pos) (Jav ta):=by
 intro pins s σ H Q I h
 refine UnaryOp_ (thn (ha pins s σ H _ I h) fun v s1 ⟨x,H1,I1,r1,q1⟩=>?_)
 obtain⟨c,rfl,q1⟩:=q1
 cases r1
 exact not_of (U3h ⟨.bl (!c),H1,I1,rfl,q1⟩)
end
end L2
namespace L2
open PySem PySem.Spec PyProof.Rows
def SqL(K:U0b)(H:Hp)(a:Addr)(xs:List V):Prop :=
 Rd H a (.lst xs) ∨
  ∃(o:Obj)(its:Array Value)(n:Nat),K.lookup a=some o/\o.cls=.type "list"/\o.dict=none/\o.data=.seq its n/\its.size<=sizeLine/\Vals xs its.toList
def SqT(K:U0b)(H:Hp)(a:Addr)(xs:List V):Prop :=
 Rd H a (.tup xs) ∨
  ∃(o:Obj)(its:Array Value)(n:Nat),K.lookup a=some o/\o.cls=.type "tuple"/\o.data=.seq its n/\its.size<=sizeLine/\Vals xs its.toList
def Jcn:Value->Option V
 |.none=>some .non
 |.bool b=>some (.bl b)
 |.int i _=>some (.int i)
 |.str x _=>some (.str x)
 |.bytes b _=>some (.byt b)
 |.float b _=>some (.flt b)
 |.ref a=>some (.ref a)
 |.type n=>some (.ty n)
 |_=>none
theorem RelV.abs{x:V}{u:Value}(r:RelV x u):Jcn u=some x:=by
 cases x with
 |non=>cases r;rfl
 |bl _=>cases r;rfl
 |int _=>obtain⟨t,rfl⟩:=r;rfl
 |str _=>obtain⟨t,rfl⟩:=r;rfl
 |byt _=>obtain⟨t,rfl⟩:=r;rfl
 |flt _=>obtain⟨t,rfl⟩:=r;rfl
 |ref _=>cases r;rfl
 |ty _=>cases r;rfl
theorem RelV.inj{x y:V}{u:Value}(r:RelV x u)(q:RelV y u):x=y:=U1c (r.abs.symm.trans q.abs)
theorem Vals.inj:∀{xs ys:List V} {us:List Value},Vals xs us->Vals ys us->xs=ys
 |_,_,_,.nil,.nil=>rfl
 |_,_,_,.cons r t,.cons r' t'=>by rw[r.inj r',Vals.inj t t']
section
variable{X:Cx}{pins:List (Addr×Obj)}{σ:St}{H:Hp}{s:Shared}{a:Addr}{xs ys:List V}
theorem SqL.of{K:U0b}(h:H a=some (.lst xs)):SqL K H a xs:=.inl (.inl h)
theorem SqT.of{K:U0b}(h:H a=some (.tup xs)):SqT K H a xs:=.inl (.inl h)
theorem Inv.list(I:Inv X pins σ H s)(h:SqL X.K H a xs):∃its:List Value,Vals xs its/\PlainL s.heap a its.toArray/\xs.length<=sizeLine:=by
 rcases h with h|⟨o,its,n,hk,hc,hd,hs,hz,r⟩
 .obtain⟨z,its,n,r,e⟩:=h.ok I.hok
  exact⟨its,r,⟨_,n,e,rfl,rfl,rfl⟩,z⟩
 .refine⟨its.toList,r,⟨o,n,I.kIn a o hk,hc,hd,by simpa using hs⟩,?_⟩
  have e:=r.length
  simp only[U1u] at e
  omega
theorem Inv.tuple(I:Inv X pins σ H s)(h:SqT X.K H a xs):∃its:List Value,Vals xs its/\IsTup s.heap a its.toArray/\xs.length<=sizeLine:=by
 rcases h with h|⟨o,its,n,hk,hc,hs,hz,r⟩
 .obtain⟨z,its,r,p⟩:=h.ok I.hok
  exact⟨its,r,p,z⟩
 .refine⟨its.toList,r,⟨o,I.kIn a o hk,hc,n,by simpa using hs⟩,?_⟩
  have e:=r.length
  simp only[U1u] at e
  omega
theorem Inv.bA(I:Inv X pins σ H s)(h:SqL X.K H a xs)(h':SqL X.K H a ys):xs=ys:=by
 obtain⟨its,r,⟨o,n,e,_,_,d⟩,_⟩:=I.list h
 obtain⟨its',r',⟨o',n',e',_,_,d'⟩,_⟩:=I.list h'
 rw[e] at e';cases e'
 rw[d] at d'
 injection d' with d1 _
 have:its=its':=by simpa using congrArg Array.toList d1
 subst this
 exact r.inj r'
theorem Inv.lA(I:Inv X pins σ H s)(h:SqT X.K H a xs)(h':SqT X.K H a ys):xs=ys:=by
 obtain⟨its,r,⟨o,e,_,n,d⟩,_⟩:=I.tuple h
 obtain⟨its',r',⟨o',e',_,n',d'⟩,_⟩:=I.tuple h'
 rw[e] at e';cases e'
 rw[d] at d'
 injection d' with d1 _
 have:its=its':=by simpa using congrArg Array.toList d1
 subst this
 exact r.inj r'
end
abbrev Cx.wish(X:Cx)(E:Value->Shared->Prop):Cx:={ X with xe:=E }
abbrev Cx.nox(X:Cx):Cx:=X.wish fun _ _=>False
theorem Cx.Ok.wish{X:Cx}(ok:X.Ok)(E:Value->Shared->Prop):(X.wish E).Ok :=
 ⟨ok.mod,ok.kind,ok.glob,ok.blt,ok.above,ok.inj,ok.has,ok.cab,ok.hd,ok.frames,ok.stk,ok.exf,ok.bs,ok.bsz,ok.noex,ok.exfs,ok.Pn,ok.frf,ok.sy⟩
theorem Cx.Ok.O1{X:Cx}{E:Value->Shared->Prop}(ok:(X.wish E).Ok):X.Ok :=
 ⟨ok.mod,ok.kind,ok.glob,ok.blt,ok.above,ok.inj,ok.has,ok.cab,ok.hd,ok.frames,ok.stk,ok.exf,ok.bs,ok.bsz,ok.noex,ok.exfs,ok.Pn,ok.frf,ok.sy⟩
section
variable{X:Cx}{pins:List (Addr×Obj)}{σ:St}{H:Hp}{s:Shared}{E:Value->Shared->Prop}
theorem Inv.wish(I:Inv X pins σ H s)(E:Value->Shared->Prop):Inv (X.wish E) pins σ H s:=⟨I.ok.wish E,I.os,I.bare,I.base,I.loc,I.cell,I.free,I.freeC,I.pin,I.hok,I.len⟩
theorem Inv.O1(I:Inv (X.wish E) pins σ H s):Inv X pins σ H s:=⟨I.ok.O1,I.os,I.bare,I.base,I.loc,I.cell,I.free,I.freeC,I.pin,I.hok,I.len⟩
theorem SP.O1{D:Ends}{f:Flow}{s':Shared}(h:SP (X.wish E) pins D f s'):SP X pins D f s':=by
 cases f with
 |next=>obtain⟨σ',H',I,q⟩:=h;exact⟨σ',H',I.O1,q⟩
 |brk=>obtain⟨σ',H',I,q⟩:=h;exact⟨σ',H',I.O1,q⟩
 |cont=>obtain⟨σ',H',I,q⟩:=h;exact⟨σ',H',I.O1,q⟩
 |ret u=>obtain⟨v,σ',H',I,r,q⟩:=h;exact⟨v,σ',H',I.O1,r,q⟩
theorem PSs.nox{st:List Stmt}{t:TS}(h:PSs X.nox st t):PSs X st t:=fun pins s σ H D I hw =>
 U51 (h pins s σ H D (I.wish _) hw) (fun _ _ q=>q.O1) fun _ _ z=>U4l z
end
section
variable{X:Cx}{st:Stmt}{rest:List Stmt}{t u:TS}{e:Expr}{te:TE}{pos:Pos}
def Jaw:TS:=fun D σ H=>D.nx σ H
def Jb6(t u:TS):TS:=fun D σ H=>t { D with nx:=u D } σ H
theorem uH:PSs X [] Jaw:=fun _ _ σ H _ I h=>U6o ⟨σ,H,I,h⟩
theorem pY(h1:PS X st t)(h2:PSs X rest u):PSs X (st::rest) (Jb6 t u):=by
 intro pins s σ H D I h
 refine wpAny_execs_cons (thn (h1 pins s σ H { D with nx:=u D } I h) fun f s1 q=>?_)
 cases f with
 |next =>
  obtain⟨σ',H',I',q⟩:=q
  exact h2 pins s1 σ' H' D I' q
 |ret v=>exact q
 |brk=>exact q
 |cont=>exact q
theorem uG(h1:PS X st t):PSs X [st] t:=by
 intro pins s σ H D I h
 refine wpAny_execs_cons (thn (h1 pins s σ H D I h) fun f s1 q=>?_)
 cases f with
 |next=>exact U6o q
 |ret v=>exact q
 |brk=>exact q
 |cont=>exact q
theorem Inv.quiet{pins:List (Addr×Obj)}{σ:St}{H:Hp}{s:Shared}(I:Inv X pins σ H s):interactive X.env=false:=by simp[interactive,I.ok.kind]
def Jay(te:TE):TS:=fun D σ H=>te σ H fun _ H1=>D.nx σ H1
theorem uI(he:PE X e te)(hs:swapsWith e none pos.line X.env=pure false:=by rfl):PS X (.Expr e pos) (Jay te):=by
 intro pins s σ H D I h
 exact wpAny_Expr_any (thn (he pins s σ H _ I h) fun v s1 ⟨x,H1,I1,r1,q1⟩=>⟨σ,H1,I1,q1⟩) I.quiet hs
def Jb7(te:TE):TS:=fun D σ H=>te σ H D.rt
theorem yc(he:PE X e te):PS X (.Return (some e) pos) (Jb7 te):=by
 intro pins s σ H D I h
 exact wpAny_Return_some (thn (he pins s σ H _ I h) fun v s1 ⟨x,H1,I1,r1,q1⟩=>⟨x,σ,H1,I1,r1,q1⟩)
def Jb9(c:TT)(t u:TS):TS:=fun D σ H=>c σ H fun b H1=>if b=true then t D σ H1 else u D σ H1
theorem Ja7{c:Expr}{a b:List Stmt}{tc:TT}(hc:PT X c tc)(ha:PSs X a t)(hb:PSs X b u):PS X (.If c a b pos) (Jb9 tc t u):=by
 intro pins s σ H D I h
 refine wpAny_If (thn (hc pins s σ H _ I h) fun d s1 ⟨H1,I1,q1⟩=>?_)
 cases d with
 |true=>exact ha pins s1 σ H1 D I1 q1
 |false=>exact hb pins s1 σ H1 D I1 q1
def yJ:TS:=fun _ _ _=>False
theorem qC:PS X st yJ:=fun _ _ _ _ _ _ h=>h.elim
end
abbrev TG:=V->St->Hp->(St->Hp->Prop)->Prop
abbrev TGs:=List V->St->Hp->(St->Hp->Prop)->Prop
def PG(X:Cx)(target:Expr)(t:TG):Prop :=
 ∀(pins:List (Addr×Obj))(s:Shared)(σ:St)(H:Hp)(v:V)(u:Value)(Q:St->Hp->Prop),Inv X pins σ H s->RelV v u->t v σ H Q ->
  wpAny (model X.prog X.w) X.A (assign target X.env u) (fun _ s'=>∃σ' H',Inv X pins σ' H' s'/\Q σ' H') X.xe s
def PGs(X:Cx)(ts:List Expr)(t:TGs):Prop :=
 ∀(pins:List (Addr×Obj))(s:Shared)(σ:St)(H:Hp)(vs:List V)(us:List Value)(Q:St->Hp->Prop),Inv X pins σ H s->Vals vs us->t vs σ H Q ->
  wpAny (model X.prog X.w) X.A (assignInOrder ((assignEach ts X.env).map (·.2)) us) (fun _ s'=>∃σ' H',Inv X pins σ' H' s'/\Q σ' H') X.xe s
abbrev o8:=V->V->V->Hp->(Hp->Prop)->Prop
def yC(X:Cx)(t:o8):Prop :=
 ∀(pins:List (Addr×Obj))(s:Shared)(σ:St)(H:Hp)(o i v:V)(ov iv u:Value)(Q:Hp->Prop),Inv X pins σ H s->RelV o ov->RelV i iv->RelV v u->t o i v H Q ->
  wpAny (model X.prog X.w) X.A (setItem ov iv u) (fun _ s'=>∃H',Inv X pins σ H' s'/\Q H') X.xe s
section
variable{X:Cx}{pos:Pos}
def ZW(i:Nat):TG:=fun v σ H Q=>Q (σ.set i (some v)) H
theorem uN{i:Nat}{x:Str}(hN:X.N.Nodup)(hi:X.N[i]?=some x)(hx:Loc X.env.scope x)(hf:X.fn x=true∨X.env.scope.names.lookup x=some .local:=by first|exact .inl rfl|exact .inr rfl|assumption):PG X (.Name x pos) (ZW i):=by
 intro pins s σ H v u Q I r h
 exact wpAny_assign_Name (aO I hN hi hx r (fun s' I'=>⟨_,H,I',h⟩) hf)
def o7:TGs:=fun vs σ H Q=>vs=[]/\Q σ H
def ig(t:TG)(u:TGs):TGs:=fun vs σ H Q=>∃v r,vs=v::r/\t v σ H fun σ' H'=>u r σ' H' Q
theorem uM:PGs X [] o7:=by
 intro pins s σ H vs us Q I r h
 obtain⟨e,h⟩:=h
 subst e
 cases r
 exact assignInOrder_nil ⟨σ,H,I,h⟩
theorem qH{e:Expr}{es:List Expr}{t:TG}{u:TGs}(h1:PG X e t)(h2:PGs X es u)
  (hs:(assignEach (e::es) X.env).map (·.2)=assign e X.env::(assignEach es X.env).map (·.2):=by rfl):PGs X (e::es) (ig t u):=by
 intro pins s σ H vs us Q I r h
 obtain⟨v,vr,e1,h⟩:=h
 subst e1
 cases r with
 |cons r rr =>
  rw[hs]
  refine assignInOrder_cons (thn (h1 pins s σ H _ _ _ I r h) fun _ s1 ⟨σ1,H1,I1,q1⟩=>?_)
  exact h2 pins s1 σ1 H1 _ _ Q I1 rr q1
def nu(K:U0b)(n:Nat)(t:TGs):TG:=fun v σ H Q=>∃a xs,v=.ref a/\SqT K H a xs/\xs.length=n/\t xs σ H Q
theorem yj{es:List Expr}{k:Nat}{t:TGs}{n:Nat}(hc:X.calm=true)(h:PGs X es t)
  (hn:(assignEach es X.env).length=n:=by rfl) (hst:(assignEach es X.env).findIdx? (·.1)=none:=by rfl):PG X (.Tuple es k pos) (nu X.K n t):=by
 intro pins s σ H v u Q I r hw
 obtain⟨a,xs,e1,hq,hl,hw⟩:=hw
 subst e1
 cases r
 obtain⟨its,rv,ht,hz⟩:=I.tuple hq
 refine assign_Tuple_tuple (I.ok.hd hc) ht (by simp[hn,←hl,rv.length]) hst fun h' hx=>?_
 have I1:Inv X pins σ H { s with heap:=h' }:=I.kept (t':=s.toks) fun b o e=>hx b o (U03 (U0q e)) e
 exact h pins _ σ H xs _ Q I1 (by simpa using rv) hw
def Jcl(to ti:TE)(t:o8):TG:=fun v σ H Q=>to σ H fun o H1=>ti σ H1 fun i H2=>t o i v H2 fun H3=>Q σ H3
theorem yp{o i:Expr}{to ti:TE}{t:o8}(ho:PE X o to)(hi:PE X i ti)(hs:yC X t)
  (ha:∀v,assign (.Subscript o i pos) X.env v=(do
   let ov ←holding [v] (eval o X.env)
   let iv ←holding [v,ov] (eval i X.env)
   standAt pos
   holding [v,ov,iv] (setItem ov iv v)
   release [v,ov,iv] []):=by intro _;rfl):PG X (.Subscript o i pos) (Jcl to ti t):=by
 intro pins s σ H v u Q I r h
 rw[ha]
 refine U0 (U2j (thn (ho pins s σ H _ I h) fun ov s1 ⟨x,H1,I1,r1,q1⟩=>?_))
 refine U0 (U2j (thn (hi pins s1 σ H1 _ I1 q1) fun iv s2 ⟨y,H2,I2,r2,q2⟩=>?_))
 refine U0 (wpAny_standAt (U0 (U2j (thn (hs pins s2 σ H2 x y v ov iv u _ I2 r1 r2 r q2) fun _ s3 ⟨H3,I3,q3⟩=>?_))))
 exact wpAny_release ⟨σ,H3,I3,q3⟩
def xG(te:TE)(g:TG):TS:=fun D σ H=>te σ H fun x H1=>g x σ H1 D.nx
theorem ji{tg e:Expr}{te:TE}{g:TG}(he:PE X e te)(hg:PG X tg g)(hs:swapsWithSole [tg] e pos.line X.env=pure false:=by rfl)(hw:swappedStores [tg] e X.env=pure none:=by rfl)
  (h1:(assignEach [tg] X.env).map (·.2)=[assign tg X.env]:=by rfl):PS X (.Assign [tg] e pos) (xG te g):=by
 intro pins s σ H D I h
 refine wpAny_Assign_stores (thn (he pins s σ H _ I h) fun v s1 ⟨x,H1,I1,r1,q1⟩=>?_) hs hw
 rw[h1]
 exact thn (hg pins s1 σ H1 x v _ I1 r1 q1) fun _ s2 q=>q
theorem yZ{i:Nat}{x:Str}{e:Expr}{te:TE}{pos':Pos}(hN:X.N.Nodup)(hi:X.N[i]?=some x)(hx:Loc X.env.scope x)(he:PE X e te)(hs:swapsWith e (some (.Name x pos')) pos.line X.env=pure false:=by rfl)(hf:X.fn x=true∨X.env.scope.names.lookup x=some .local:=by first|exact .inl rfl|exact .inr rfl|assumption) :
  PS X (.Assign [.Name x pos'] e pos) (xG te (ZW i)):=by
 intro pins s σ H D I h
 refine wpAny_Assign_Name (thn (he pins s σ H _ I h) fun v s1 ⟨y,H1,I1,r1,q1⟩=>?_) hs
 exact aO I1 hN hi hx r1 (fun s2 I2=>⟨_,H1,I2,q1⟩) hf
end
section
variable{X:Cx}{pos:Pos}
def yI(c:TT)(tb:TS):TS:=fun D σ H=>∃W:Nat->St->Hp->Prop,(∃m,W m σ H)/\∀m σ H,W m σ H ->
 c σ H fun b H1=>if b=true then ∃N:St->Hp->Prop,(∀σ' H',N σ' H'->∃m',m'<m/\W m' σ' H')/\tb { D with nx:=N,ct:=N,bk:=D.nx } σ H1 else D.nx σ H1
theorem pZ{c:Expr}{body:List Stmt}{tc:TT}{tb:TS}(hp:PassesOwn (model X.prog X.w) X.A X.env X.xe)(hc:PT X c tc)(hb:PSs X body tb):PS X (.While c body [] pos) (yI tc tb):=by
 intro pins s σ H D I h
 obtain⟨W,⟨m0,w0⟩,turn⟩:=h
 refine wpAny_While (codeAny_whileLoop (fun n s'=>∃σ' H',Inv X pins σ' H' s'/\W n σ' H') ?_ m0 ⟨σ,H,I,w0⟩)
 rintro n s1 ⟨σ1,H1,I1,w1⟩
 refine U4a hp (thn (hc pins s1 σ1 H1 _ I1 (turn n σ1 H1 w1)) fun b s2 ⟨H2,I2,q2⟩=>?_)
 cases b with
 |true =>
  obtain⟨N,hN,q2⟩:=q2
  rw[if_pos rfl]
  refine U4a hp (thn (hb pins s2 σ1 H2 _ I2 q2) fun f s3 q3=>?_)
  cases f with
  |next =>
   obtain⟨σ3,H3,I3,n3⟩:=q3
   obtain⟨m',hm,w3⟩:=hN σ3 H3 n3
   exact⟨m',hm,σ3,H3,I3,w3⟩
  |cont =>
   obtain⟨σ3,H3,I3,n3⟩:=q3
   obtain⟨m',hm,w3⟩:=hN σ3 H3 n3
   exact⟨m',hm,σ3,H3,I3,w3⟩
  |brk=>exact q3
  |ret v=>exact q3
 |false =>
  rw[if_neg U1g]
  exact U6o ⟨σ1,H2,I2,q2⟩
end
structure It where
 go:Nat->Hp->Prop
 yld:Nat->Hp->V->Hp->Prop
 stop:Nat->Hp->Prop
def Qz(X:Cx)(pins:List (Addr×Obj))(H:Hp)(b:Addr):Prop :=
 H b=none/\b≠X.env.locals/\b ∉ X.fs/\(b∈X.ex∨X.s₀.heap.objs.size<=b)/\(∀x c,X.env.cells.lookup x=some c->c≠b)/\∀p∈X.pn++pins,p.1≠b
theorem Inv.Xp{X:Cx}{pins:List (Addr×Obj)}{σ:St}{H H':Hp}{s:Shared}{b:Addr}(I:Inv X pins σ H s)(hb:s.heap.objs.size<=b)(hn:H' b=none):Qz X pins H' b:=by
 refine⟨hn,U1x (U0y I.lt hb),I.nj hb,.inr (U1a I.sz hb),fun x c e z=>?_,fun p hp z=>?_⟩
 .obtain⟨v,q⟩:=I.cell x c e
  exact absurd (U0y q.lt (by rw[z];exact hb)) (U33 _)
 .exact absurd (U0y (U0q (I.pin p hp).1) (by rw[z];exact hb)) (U33 _)
structure Turn(P:Program)(w:World)(K:U0b)(tg:Expr)(J:It)(fp:List Addr)(it:Addr)(tn:Nat->Heap->Prop):Prop where
 mem:it∈fp
 obj:∀i h,tn i h->∀b∈fp,∃o,h.get? b=some o/\∀v,o.data≠.cell v
 keep:∀i h h',tn i h->(∀b∈fp,∀o,h.get? b=some o->h'.get? b=some o)->tn i h'
 item:∀(X:Cx),X.prog=P->X.w=w->X.K=K->X.calm=true->∀(i:Nat)(pins:List (Addr×Obj))(s:Shared)(σ:St)(H:Hp)(E:Value->Shared->Prop),Inv X pins σ H s->(∀b∈fp,Qz X pins H b)->tn i s.heap->J.go i H ->
  wpAny (model P w) X.A (pyNext (.ref it)) (fun r s1=>∃u,r=some u /\
   wpAny (model P w) X.A (letOwnedTupleGo tg (.ref it) u) (fun _ s2=>∃x H',Inv X pins σ H' s2/\RelV x u/\J.yld i H x H'/\tn (i+1) s2.heap/\∀b∈fp,H' b=none) E s1) E s
 done:∀(X:Cx),X.prog=P->X.w=w->X.K=K->X.calm=true->∀(i:Nat)(pins:List (Addr×Obj))(s:Shared)(σ:St)(H:Hp)(E:Value->Shared->Prop),Inv X pins σ H s->(∀b∈fp,Qz X pins H b)->tn i s.heap->J.stop i H ->
  wpAny (model P w) X.A (pyNext (.ref it)) (fun r s1=>r=none/\Inv X pins σ H s1) E s
 self:∀(A:Around)(i:Nat)(s:Shared)(Q:Value->Shared->Prop)(E:Value->Shared->Prop),tn i s.heap->Q (.ref it) s->wpAny (model P w) A (pyIter (.ref it)) Q E s
abbrev TI:=St->Hp->(It->Hp->Prop)->Prop
def PIE(X:Cx)(pins:List (Addr×Obj))(σ:St)(tg:Expr)(R:It->Hp->Prop)(itv:Value)(s2:Shared):Prop :=
 ∃(it:Addr)(fp:List Addr)(tn:Nat->Heap->Prop)(J:It)(H':Hp),itv=.ref it/\Inv X pins σ H' s2/\Turn X.prog X.w X.K tg J fp it tn/\tn 0 s2.heap/\(∀b∈fp,Qz X pins H' b)/\R J H'
def PI(X:Cx)(tg iter:Expr)(wi:TI):Prop :=
 ∀(pins:List (Addr×Obj))(s:Shared)(σ:St)(H:Hp)(R:It->Hp->Prop),Inv X pins σ H s->wi σ H R ->
  wpAny (model X.prog X.w) X.A (eval iter X.env) (fun v s1=>wpAny (model X.prog X.w) X.A (pyIter v) (PIE X pins σ tg R) X.xe s1) X.xe s
theorem ZV{M:Model}{A:Around}{E:Value->Shared->Prop}{s:Shared}{tg:Expr}{it:Addr}{u:Value}{o:Obj}{n:String}{vs:Array Value}{Q:Unit->Shared->Prop}(ho:s.heap.get? it=some o)(hc:o.cls=.type n)(hd:o.data=.fields vs)
  (hn:["enumerate","zip","dict_itemiterator","dict_reverseitemiterator","odict_iterator","itertools.zip_longest","itertools.pairwise"].contains n=false) (hQ:Q () s):wpAny M A (letOwnedTupleGo tg (.ref it) u) Q E s:=by
 unfold letOwnedTupleGo
 cases tg<;>first
  |exact U0f hQ
  |(cases u<;>first
    |exact U0f hQ
    |(refine U0 (wpAny_load ho ?_)
      rw[hc,hd]
      show wpAny M A (if (["enumerate","zip","dict_itemiterator","dict_reverseitemiterator","odict_iterator","itertools.zip_longest","itertools.pairwise"].contains n&&vs[0]?==some (rawInt _))=true then _ else _) Q E s
      rw[if_neg (by intro h;rw[hn,Bool.false_and] at h;cases h)]
      exact U0f hQ))
def Itl(K:U0b)(a:Addr):It :=
 ⟨fun i H=>∃xs x,SqL K H a xs/\xs[i]?=some x,fun i H x H'=>H'=H/\∀xs,SqL K H a xs->xs[i]?=some x,fun i H=>∃xs,SqL K H a xs/\xs.length<=i⟩
def Itt(K:U0b)(a:Addr):It :=
 ⟨fun i H=>∃xs x,SqT K H a xs/\xs[i]?=some x,fun i H x H'=>H'=H/\∀xs,SqT K H a xs->xs[i]?=some x,fun i H=>∃xs,SqT K H a xs/\xs.length<=i⟩
def Itr(lo:Int)(n:Nat):It:=⟨fun i _=>i<n,fun i H x H'=>H'=H/\x=.int (lo+i),fun i _=>n<=i⟩
theorem kh{P:Program}{w:World}{K:U0b}{tg:Expr}(a it:Addr):Turn P w K tg (Itl K a) [it] it (fun i h=>h.IsListIter it a i) where
 mem:=by simp
 obj:=fun i h st b hb=>by
  have e:b=it:=by simpa using hb
  subst e
  obtain⟨o,e,c,d⟩:=st
  exact⟨o,e,fun v z=>by rw[d] at z;cases z⟩
 keep:=fun i h h' st k=>st.at fun o e=>k it (by simp) o e
 item:=by
  intro X hP hw hK hc i pins s σ H E I hf st hg
  subst hP hw hK
  obtain⟨xs,x,hq,hx⟩:=hg
  obtain⟨its,rv,p,hz⟩:=I.list hq
  obtain⟨u,hu,ru⟩:=rv.get hx
  obtain⟨f0,f1,f2,f3,f4,f5⟩:=hf it (by simp)
  refine wpAny_pyNext_list_item st p.isList (x:=u) (by simpa using hu) fun h' st' sb=>?_
  have I1:Inv X pins σ H { s with heap:=h' }:=I.turned (t':=s.toks) (fun b o hb e=>(sb.2 b hb).trans e) f0 f1 f3 f4 f5
  obtain⟨o,e,c,d⟩:=id st'
  exact⟨u,rfl,ZV (s:={ s with heap:=h' }) e c d (by decide) ⟨x,H,I1,ru,⟨rfl,fun ys hy=>by rw[I.bA hy hq];exact hx⟩,st',fun b hb=>(hf b hb).1⟩⟩
 done:=by
  intro X hP hw hK hc i pins s σ H E I hf st hg
  subst hP hw hK
  obtain⟨xs,hq,hx⟩:=hg
  obtain⟨its,rv,p,hz⟩:=I.list hq
  obtain⟨f0,f1,f2,f3,f4,f5⟩:=hf it (by simp)
  have hl:=rv.length
  exact wpAny_pyNext_list_end (I.ok.hd hc) st p.isList (by simp;omega) fun h' eb=>⟨rfl,I.turned (t':=s.toks) (fun b o hb e=>eb b o hb e) f0 f1 f3 f4 f5⟩
 self:=fun _ _ _ _ _ st h=>wpAny_pyIter_listiter st h
theorem iu{P:Program}{w:World}{K:U0b}{tg:Expr}(a it:Addr):Turn P w K tg (Itt K a) [it] it (fun i h=>h.IsTupleIter it a i) where
 mem:=by simp
 obj:=fun i h st b hb=>by
  have e:b=it:=by simpa using hb
  subst e
  obtain⟨o,e,c,d⟩:=st
  exact⟨o,e,fun v z=>by rw[d] at z;cases z⟩
 keep:=fun i h h' st k=>st.at fun o e=>k it (by simp) o e
 item:=by
  intro X hP hw hK hc i pins s σ H E I hf st hg
  subst hP hw hK
  obtain⟨xs,x,hq,hx⟩:=hg
  obtain⟨its,rv,p,hz⟩:=I.tuple hq
  obtain⟨u,hu,ru⟩:=rv.get hx
  obtain⟨f0,f1,f2,f3,f4,f5⟩:=hf it (by simp)
  refine wpAny_pyNext_tuple_item st (show s.heap.IsTuple a its.toArray from p) (x:=u) (by simpa using hu) fun h' st' sb=>?_
  have I1:Inv X pins σ H { s with heap:=h' }:=I.turned (t':=s.toks) (fun b o hb e=>(sb.2 b hb).trans e) f0 f1 f3 f4 f5
  obtain⟨o,e,c,d⟩:=id st'
  exact⟨u,rfl,ZV (s:={ s with heap:=h' }) e c d (by decide) ⟨x,H,I1,ru,⟨rfl,fun ys hy=>by rw[I.lA hy hq];exact hx⟩,st',fun b hb=>(hf b hb).1⟩⟩
 done:=by
  intro X hP hw hK hc i pins s σ H E I hf st hg
  subst hP hw hK
  obtain⟨xs,hq,hx⟩:=hg
  obtain⟨its,rv,p,hz⟩:=I.tuple hq
  obtain⟨f0,f1,f2,f3,f4,f5⟩:=hf it (by simp)
  have hl:=rv.length
  exact wpAny_pyNext_tuple_end (I.ok.hd hc) st (show s.heap.IsTuple a its.toArray from p) (by simp;omega) fun h' eb=>⟨rfl,I.turned (t':=s.toks) (fun b o hb e=>eb b o hb e) f0 f1 f3 f4 f5⟩
 self:=fun _ _ _ _ _ st h=>wpAny_pyIter_tupleiter st h
theorem iw{P:Program}{w:World}{K:U0b}{tg:Expr}(it:Addr)(lo:Int)(n:Nat):Turn P w K tg (Itr lo n) [it] it (fun i h=>IsRangeIter h it (lo+(i:Nat)*1) ((n:Int)-(i:Nat)) 1) where
 mem:=by simp
 obj:=fun i h st b hb=>by
  have e:b=it:=by simpa using hb
  subst e
  exact⟨_,st,fun v z=>by
   have z':Data.fields _=Data.cell v:=z
   cases z'⟩
 keep:=fun i h h' st k=>k it (by simp) _ st
 item:=by
  intro X hP hw hK hc i pins s σ H E I hf st hg
  subst hP hw hK
  obtain⟨f0,f1,f2,f3,f4,f5⟩:=hf it (by simp)
  have W:=Walks.range (prog:=X.prog) (w:=X.w) (I.ok.hd hc) it lo 1 n
  refine W.item i s _ _ hg st fun v h' tk hv st' kk=>?_
  obtain⟨t,rfl⟩:=hv
  have I1:Inv X pins σ H { s with heap:=h',toks:=tk }:=I.turned (fun b o hb e=>kk b o (by simpa using hb) e) f0 f1 f3 f4 f5
  refine⟨_,rfl,ZV (s:={ s with heap:=h',toks:=tk }) (n:="range_iterator") st' rfl rfl (by decide) ⟨.int (lo+i),H,I1,⟨t,?_⟩,⟨rfl,rfl⟩,st',fun b hb=>(hf b hb).1⟩⟩
  rw[U67]
 done:=by
  intro X hP hw hK hc i pins s σ H E I hf st hg
  subst hP hw hK
  obtain⟨f0,f1,f2,f3,f4,f5⟩:=hf it (by simp)
  exact wpAny_pyNext_range_end (I.ok.hd hc) st (by have:n<=i:=hg;omega) fun h' eb=>⟨rfl,I.turned (t':=s.toks) (fun b o hb e=>eb b o hb e) f0 f1 f3 f4 f5⟩
 self:=fun _ _ _ _ _ st h=>wpAny_pyIter_rangeiter st h
end L2
namespace L2
open PySem PySem.Spec PyProof.Rows
section
variable{X:Cx}{tg:Expr}
theorem pU{pins:List (Addr×Obj)}{σ:St}{H:Hp}{s:Shared}{R:It->Hp->Prop}{E:Value->Shared->Prop}{lo hi:Int}{t u v:Tok}{tk:Nat}(I:Inv X pins σ H s)(h1:-(2^62)<=lo)(h2:lo<2^62)(h3:-(2^62)<=hi)(h4:hi<2^62)
  (q:R (Itr lo (hi-lo).toNat) H):wpAny (model X.prog X.w) X.A (pyIter (.ref s.heap.objs.size)) (PIE X pins σ tg R) E { s with heap:=s.heap.push { cls:=.type "range",data:=.fields #[.int lo t,.int hi u,.int 1 v] },toks:=tk }:=by
 refine wpAny_pyIter_range (IsRange.new ..) (small_one h1 h2 h3 h4) ?_
 have I1:Inv X pins σ H { s with heap:=s.heap.push { cls:=.type "range",data:=.fields #[.int lo t,.int hi u,.int 1 v] },toks:=tk }:=I.kept fun b o e=>U0d _ e
 refine⟨(s.heap.push { cls:=.type "range",data:=.fields #[.int lo t,.int hi u,.int 1 v] }).objs.size,[(s.heap.push { cls:=.type "range",data:=.fields #[.int lo t,.int hi u,.int 1 v] }).objs.size],_,_,H,rfl,
  I1.kept (t':=tk) fun b o e=>U0d _ e,iw _ lo (hi-lo).toNat,?_,fun b hb=>?_,q⟩
 .have e1:lo+((0:Nat):Int)*1=lo:=by simp
  have e2:(((hi-lo).toNat:Nat):Int)-((0:Nat):Int)=U35 lo hi 1:=by rw[rangeSize_one];split<;>omega
  show IsRangeIter _ _ (lo+((0:Nat):Int)*1) ((((hi-lo).toNat:Nat):Int)-((0:Nat):Int)) 1
  rw[e1,e2]
  exact U0v _ rfl
 .have e:b=(s.heap.push { cls:=.type "range",data:=.fields #[.int lo t,.int hi u,.int 1 v] }).objs.size:=by simpa using hb
  subst e
  exact I1.Xp (U0t _) (I1.hok.fresh (U0t _))
def Jbn(ta:TA):TI:=fun σ H R=>ta σ H fun vs H1=>∃j:Int,vs=[.int j]/\-(2^62)<=j/\j<2^62/\R (Itr 0 j.toNat) H1
theorem mC{a:Expr}{ta:TA}{p pos:Pos}(hg:Gl X "range")(hm:X.mg "range"=none)(ha:PA X [a] ta)(hs:starEach [a] X.env=[(false,eval a X.env)]:=by rfl):PI X tg (.Call (.Name "range" p) [a] [] pos) (Jbn ta):=by
 intro pins s σ H R I h
 refine Call_ (Lb I hg hm boot_range (U23 (thn (ha pos pins s σ H _ I h) fun us s1 ⟨vs,H1,I1,r1,q1⟩=>?_) hs rfl))
 obtain⟨j,e,q1,q2,q⟩:=q1
 subst e
 cases r1 with
 |cons r rr =>
  cases rr
  obtain⟨t,rfl⟩:=r
  exact call_range_1 (pU I1 (by omega) (by omega) q1 q2 (by simpa using q))
def Jca(wi:TI)(g:TG)(tb:TS):TS:=fun D σ H=>wi σ H fun J H1=>∃W:Nat->Nat->St->Hp->Prop,(∃m,W 0 m σ H1)/\∀i m σ H,W i m σ H ->
 (J.stop i H/\D.nx σ H)∨(J.go i H/\∃N:St->Hp->Prop,(∀σ' H',N σ' H'->∃m',m'<m/\W (i+1) m' σ' H')/\∀x H',J.yld i H x H'->g x σ H' fun σ2 H2=>tb { D with nx:=N,ct:=N,bk:=D.nx } σ2 H2)
def O5(fp:List Addr)(h:Heap):List (Addr×Obj):=fp.filterMap fun b=>(h.get? b).map fun o=>(b,o)
theorem PX{fp:List Addr}{h:Heap}{b:Addr}{o:Obj}(hb:b∈fp)(e:h.get? b=some o):(b,o)∈O5 fp h:=List.mem_filterMap.mpr ⟨b,hb,by rw[e];rfl⟩
theorem Yb{fp:List Addr}{h:Heap}{p:Addr×Obj}(hp:p∈O5 fp h):p.1∈fp/\h.get? p.1=some p.2:=by
 obtain⟨b,hb,e⟩:=List.mem_filterMap.mp hp
 cases q:h.get? b with
 |none=>rw[q] at e;cases e
 |some o =>
  rw[q] at e
  have e':(b,o)=p:=U1c e
  subst e'
  exact⟨hb,q⟩
theorem Inv.pinned{pins:List (Addr×Obj)}{σ:St}{H:Hp}{s:Shared}{fp:List Addr}(I:Inv X pins σ H s)(hf:∀b∈fp,Qz X pins H b)(ho:∀b∈fp,∃o,s.heap.get? b=some o/\∀v,o.data≠.cell v):Inv X (pins++O5 fp s.heap) σ H s :=
 I.Uz fun p hp=>(U12.mp hp).elim (fun z=>I.pin p (U1q _ z)) fun z=>by
  obtain⟨hb,e⟩:=Yb z
  obtain⟨f0,f1,f2,_⟩:=hf p.1 hb
  obtain⟨o,e',d⟩:=ho p.1 hb
  rw[e] at e';cases e'
  exact⟨e,f0,f1,f2,d⟩
theorem Inv.Rx{pins pl:List (Addr×Obj)}{σ:St}{H:Hp}{s:Shared}(I:Inv X (pins++pl) σ H s):Inv X pins σ H s:=I.Uz fun p hp=>I.pin p (U1q _ (U3y _ hp))
theorem yd{iter:Expr}{body:List Stmt}{wi:TI}{g:TG}{tb:TS}{pos:Pos}(hp:PassesOwn (model X.prog X.w) X.A X.env X.xe)(hc:X.calm=true)(hi:PI X tg iter wi)(hg:PG X tg g)(hb:PSs X body tb)
  (hs:∀x,foldedSetIterable iter X.env x=pure x:=by intro _;rfl):PS X (.For tg iter body [] pos) (Jca wi g tb):=by
 intro pins s σ H D I h
 refine wpAny_For (thn (hi pins s σ H _ I h) fun v s1 h1=>thn h1 fun itv s2 h2=>?_) hs
 obtain⟨it,fp,tn,J,H2,e,I2,T,st2,f2,W,⟨m0,w0⟩,turn⟩:=h2
 subst e
 -- what stays true of the iterator's objects through the loop
 have stat:∀{H':Hp},(∀b∈fp,H' b=none)->∀b∈fp,Qz X pins H' b:=fun hn b hb=>⟨hn b hb,(f2 b hb).2⟩
 refine codeAny_forLoop_any (fun n s'=>∃i σ' H',Inv X pins σ' H' s'/\tn i s'.heap/\(∀b∈fp,H' b=none)/\W i n σ' H') ?_ m0 ⟨0,σ,H2,I2,st2,fun b hb=>(f2 b hb).1,w0⟩
 rintro n s3 ⟨i,σ3,H3,I3,st3,fr3,w3⟩
 rcases turn i n σ3 H3 w3 with ⟨stop,qn⟩|⟨go,N,hN,step⟩
 .refine U4a hp (thn (T.done X rfl rfl rfl hc i pins s3 σ3 H3 X.xe I3 (stat fr3) st3 stop) fun r s4 ⟨hr,I4⟩=>?_)
  subst hr
  exact U6o ⟨σ3,H3,I4,qn⟩
 .refine U4a hp (thn (T.item X rfl rfl rfl hc i pins s3 σ3 H3 X.xe I3 (stat fr3) st3 go) fun r s4 ⟨u,hr,h4⟩=>?_)
  subst hr
  refine U4a hp (thn h4 fun _ s5 ⟨x,H5,I5,r5,y5,st5,fr5⟩=>?_)
  have I5':=I5.pinned (stat fr5) (T.obj _ _ st5)
  refine U4a hp (thn (hg _ s5 σ3 H5 x u _ I5' r5 (step x H5 y5)) fun _ s6 ⟨σ6,H6,I6,q6⟩=>?_)
  refine U4a hp (thn (hb _ s6 σ6 H6 _ I6 q6) fun f s7 q7=>?_)
  have again:∀{σ7:St} {H7:Hp},Inv X (pins++O5 fp s5.heap) σ7 H7 s7->N σ7 H7->∃m,m<n/\∃i σ' H',Inv X pins σ' H' s7/\tn i s7.heap/\(∀b∈fp,H' b=none)/\W i m σ' H':=fun {σ7 H7} I7 n7=>by
   obtain⟨m',hm,w7⟩:=hN σ7 H7 n7
   refine⟨m',hm,i+1,σ7,H7,I7.Rx,T.keep _ _ _ st5 fun b hb o e=>(I7.pin (b,o) (U1q _ (U1q _ (PX hb e)))).1,fun b hb=>?_,w7⟩
   obtain⟨o,e,d⟩:=T.obj _ _ st5 b hb
   exact(I7.pin (b,o) (U1q _ (U1q _ (PX hb e)))).2.1
  cases f with
  |next=>obtain⟨σ7,H7,I7,n7⟩:=q7;exact again I7 n7
  |cont=>obtain⟨σ7,H7,I7,n7⟩:=q7;exact again I7 n7
  |brk=>obtain⟨σ7,H7,I7,q7⟩:=q7;exact⟨σ7,H7,I7.Rx,q7⟩
  |ret v=>obtain⟨x7,σ7,H7,I7,r7,q7⟩:=q7;exact⟨x7,σ7,H7,I7.Rx,r7,q7⟩
end
end L2
namespace L2
open PySem PySem.Spec PyProof.Rows
abbrev R2:=V->V->Hp->VK->Prop
def OpR(X:Cx)(f:Value->Value->Sem Value)(r:R2):Prop :=
 ∀(pins:List (Addr×Obj))(s:Shared)(σ:St)(H:Hp)(x y:V)(v u:Value)(Q:VK),Inv X pins σ H s->RelV x v->RelV y u->r x y H Q ->
  wpAny (model X.prog X.w) X.A (f v u) (EP X pins σ Q) X.xe s
def UnR(X:Cx)(f:Value->Sem Value)(r:V->Hp->VK->Prop):Prop :=
 ∀(pins:List (Addr×Obj))(s:Shared)(σ:St)(H:Hp)(x:V)(v:Value)(Q:VK),Inv X pins σ H s->RelV x v->r x H Q ->
  wpAny (model X.prog X.w) X.A (f v) (EP X pins σ Q) X.xe s
def Eb(X:Cx)(f:Value)(r:List V->Hp->VK->Prop):Prop :=
 ∀(pins:List (Addr×Obj))(s:Shared)(σ:St)(H:Hp)(xs:List V)(us:List Value)(Q:VK),Inv X pins σ H s->Vals xs us->r xs H Q ->
  wpAny (model X.prog X.w) X.A (call f us) (EP X pins σ Q) X.xe s
def tOp(r:R2)(ta tb:TE):TE:=fun σ H Q=>ta σ H fun x H1=>tb σ H1 fun y H2=>r x y H2 Q
def tUn(r:V->Hp->VK->Prop)(ta:TE):TE:=fun σ H Q=>ta σ H fun x H1=>r x H1 Q
def rI(C:Int->Int->Prop)(g:Int->Int->V):R2:=fun x y H Q=>∃i j,x=.int i/\y=.int j/\C i j/\Q (g i j) H
def rI0(g:Int->Int->V):R2:=fun x y H Q=>∃i j,x=.int i/\y=.int j/\Q (g i j) H
def rU(g:Int->V):V->Hp->VK->Prop:=fun x H Q=>∃i,x=.int i/\Q (g i) H
section
variable{X:Cx}{a b c:Expr}{ta tb tc:TE}{pos:Pos}
theorem iJ(ha:PE X a ta)(hb:PE X b tb){pins:List (Addr×Obj)}{s:Shared}{σ:St}{H:Hp}{R:V->V->Hp->Prop}(I:Inv X pins σ H s)
  (h:ta σ H fun x H1=>tb σ H1 fun y H2=>R x y H2) {Q:Value->Shared->Prop} {f:Value->Value->Sem Value}
  (hf:∀v u s2 x y H2,Inv X pins σ H2 s2->RelV x v->RelV y u->R x y H2->wpAny (model X.prog X.w) X.A (f v u) Q X.xe s2) :
  wpAny (model X.prog X.w) X.A (eval a X.env) (fun v s₁=>wpAny (model X.prog X.w) X.A (eval b X.env) (fun u s₂=>wpAny (model X.prog X.w) X.A (f v u) Q X.xe s₂) X.xe s₁) X.xe s:=by
 refine thn (ha pins s σ H _ I h) fun v s1 ⟨x,H1,I1,r1,q1⟩=>?_
 refine thn (hb pins s1 σ H1 _ I1 q1) fun u s2 ⟨y,H2,I2,r2,q2⟩=>?_
 exact hf v u s2 x y H2 I2 r1 r2 q2
theorem sE{op:Operator}{r:R2}(ho:OpR X (binaryOp op) r)(ha:PE X a ta)(hb:PE X b tb):PE X (.BinOp a op b pos) (tOp r ta tb):=by
 intro pins s σ H Q I h
 exact wpAny_BinOp (iJ ha hb I h fun v u s2 x y H2 I2 rx ry q=>ho pins s2 σ H2 x y v u Q I2 rx ry q)
theorem Ja8{op:UnaryOp}{r:V->Hp->VK->Prop}(ho:UnR X (unaryOp op) r)(ha:PE X a ta):PE X (.UnaryOp op a pos) (tUn r ta):=by
 intro pins s σ H Q I h
 exact UnaryOp_ (thn (ha pins s σ H _ I h) fun v s1 ⟨x,H1,I1,r1,q1⟩=>ho pins s1 σ H1 x v Q I1 r1 q1)
theorem opI{f:Value->Value->Sem Value}{C:Int->Int->Prop}{g:Int->Int->Int}
  (rule:∀(i j:Int)(t u:Tok)(s:Shared)(Q:Value->Shared->Prop)(E:Value->Shared->Prop),C i j->Q (.int (g i j) s.toks) { s with toks:=s.toks+1 }->wpAny (model X.prog X.w) X.A (f (.int i t) (.int j u)) Q E s) :
  OpR X f (rI C fun i j=>.int (g i j)):=by
 intro pins s σ H x y v u Q I rx ry h
 obtain⟨i,j,rfl,rfl,hc,q⟩:=h
 obtain⟨t,rfl⟩:=rx
 obtain⟨t',rfl⟩:=ry
 exact rule i j t t' s _ _ hc ⟨.int (g i j),H,I.tok _,⟨_,rfl⟩,q⟩
theorem xZ{f:Value->Value->Sem Value}{g:Int->Int->Int}
  (rule:∀(i j:Int)(t u:Tok)(s:Shared)(Q:Value->Shared->Prop)(E:Value->Shared->Prop),Q (.int (g i j) s.toks) { s with toks:=s.toks+1 }->wpAny (model X.prog X.w) X.A (f (.int i t) (.int j u)) Q E s) :
  OpR X f (rI0 fun i j=>.int (g i j)):=by
 intro pins s σ H x y v u Q I rx ry h
 obtain⟨i,j,rfl,rfl,q⟩:=h
 obtain⟨t,rfl⟩:=rx
 obtain⟨t',rfl⟩:=ry
 exact rule i j t t' s _ _ ⟨.int (g i j),H,I.tok _,⟨_,rfl⟩,q⟩
theorem iD{f:Value->Value->Sem Value}{g:Int->Int->Bool}
  (rule:∀(i j:Int)(t u:Tok)(s:Shared)(Q:Value->Shared->Prop)(E:Value->Shared->Prop),Q (.bool (g i j)) s->wpAny (model X.prog X.w) X.A (f (.int i t) (.int j u)) Q E s) :
  OpR X f (rI0 fun i j=>.bl (g i j)):=by
 intro pins s σ H x y v u Q I rx ry h
 obtain⟨i,j,rfl,rfl,q⟩:=h
 obtain⟨t,rfl⟩:=rx
 obtain⟨t',rfl⟩:=ry
 exact rule i j t t' s _ _ ⟨.bl (g i j),H,I,rfl,q⟩
def oF(i j:Int):Prop:=0<=j/\j<=1000000/\i.natAbs<2^64
def Zk(i j:Int):Prop:=(-(2^64)<i/\i<2^64)∨(-(2^64)<j/\j<2^64)
theorem Zk.ok{i j:Int}(h:Zk i j):IntMulOk i j:=by
 rcases h with ⟨h1,h2⟩|⟨h1,h2⟩
 .exact .of_left (intBits_le_64 h1 h2)
 .exact .of_right (intBits_le_64 h1 h2)
theorem zF:OpR X (binaryOp .Add) (rI0 fun i j=>.int (i+j)):=xZ fun _ _ _ _ _ _ _ q=>add_int q
theorem Gq:OpR X (binaryOp .Sub) (rI0 fun i j=>.int (i-j)):=xZ fun _ _ _ _ _ _ _ q=>sub_int q
theorem zA:OpR X (binaryOp .Mult) (rI Zk fun i j=>.int (i*j)):=opI fun _ _ _ _ _ _ _ hc q=>mul_int q hc.ok
theorem Mr:OpR X (binaryOp .Mod) (rI (fun _ j=>0<j) fun i j=>.int (i%j)):=opI fun i j _ _ _ _ _ hc q=>by
 have h1:(0:Int)<j:=hc
 exact mod_int' (by omega) (by rw[Int.fmod_eq_emod_of_nonneg i (by omega)];exact q)
theorem La:OpR X (binaryOp .Pow) (rI oF fun i j=>.int (i^j.toNat)):=opI fun _ _ _ _ _ _ _ hc q=>pow_int_small hc.1 hc.2.1 hc.2.2 q
theorem unI{f:Value->Sem Value}{g:Int->Int}
  (rule:∀(i:Int)(t:Tok)(s:Shared)(Q:Value->Shared->Prop)(E:Value->Shared->Prop),Q (.int (g i) s.toks) { s with toks:=s.toks+1 }->wpAny (model X.prog X.w) X.A (f (.int i t)) Q E s) :
  UnR X f (rU fun i=>.int (g i)):=by
 intro pins s σ H x v Q I rx h
 obtain⟨i,rfl,q⟩:=h
 obtain⟨t,rfl⟩:=rx
 exact rule i t s _ _ ⟨.int (g i),H,I.tok _,⟨_,rfl⟩,q⟩
theorem KN:UnR X (unaryOp .USub) (rU fun i=>.int (-i)):=unI fun _ _ _ _ _ q=>neg_int q
end
def xH:V->V->Bool
 |.non,.non=>true|.non,.int _=>true|.int _,.non=>true|.non,.bl _=>true|.bl _,.non=>true|.non,.str _=>true|.str _,.non=>true
 |.int _,.int _=>true|.bl _,.bl _=>true|.str _,.str _=>true|.byt _,.byt _=>true
 |.int _,.str _=>true|.str _,.int _=>true|.bl _,.str _=>true|.str _,.bl _=>true
 |_,_=>false
def rEq:R2:=fun x y H Q=>xH x y=true/\Q (.bl (decide (x=y))) H
def rNe:R2:=fun x y H Q=>xH x y=true/\Q (.bl (!decide (x=y))) H
theorem gW{i j:Int}:decide (V.int i=V.int j)=(i==j):=by
 rw[U3l]
 simp
theorem jw{i j:Bool}:decide (V.bl i=V.bl j)=(i==j):=by
 rw[U3l]
 simp
theorem gU{i j:Str}:decide (V.str i=V.str j)=(i==j):=by
 rw[U3l]
 simp
theorem gY{i j:Array UInt8}:decide (V.byt i=V.byt j)=(i.toList==j.toList):=by
 rw[U3l]
 cases i
 cases j
 simp
section
variable{X:Cx}{a b c:Expr}{ta tb tc:TE}{pos:Pos}
theorem Dr{pins:List (Addr×Obj)}{σ:St}{H:Hp}{s:Shared}{Q:VK}{k k':Bool}(I:Inv X pins σ H s)(q:Q (.bl k) H)(e:k=k'):EP X pins σ Q (.bool k') s:=by
 subst e
 exact⟨.bl k,H,I,rfl,q⟩
theorem Jbe:OpR X (compareOp .Eq) rEq:=by
 intro pins s σ H x y v u Q I rx ry h
 obtain⟨hs,q⟩:=h
 cases x with
 |non =>
  cases rx
  cases y with
  |non=>cases ry;exact PySem.EqNone.eq_none_none (Dr I q (by simp))
  |bl j=>cases ry;exact PySem.EqNone.eq_none_bool (Dr I q (by simp))
  |int j=>obtain⟨t',rfl⟩:=ry;exact PySem.EqNone.eq_none_int (Dr I q (by simp))
  |str j=>obtain⟨t',rfl⟩:=ry;exact PySem.EqNone.eq_none_str (Dr I q (by simp))
  |_=>exact absurd (show false=true from hs) U1g
 |bl i =>
  cases rx
  cases y with
  |non=>cases ry;exact PySem.EqNone.eq_bool_none (Dr I q (by simp))
  |bl j=>cases ry;exact eq_bool (Dr I q jw)
  |str j=>obtain⟨t',rfl⟩:=ry;exact PySem.EqMixed.eq_bool_str (Dr I q (by simp))
  |_=>exact absurd (show false=true from hs) U1g
 |int i =>
  obtain⟨t,rfl⟩:=rx
  cases y with
  |non=>cases ry;exact PySem.EqNone.eq_int_none (Dr I q (by simp))
  |int j=>obtain⟨t',rfl⟩:=ry;exact eq_int (Dr I q gW)
  |str j=>obtain⟨t',rfl⟩:=ry;exact PySem.EqMixed.eq_int_str (Dr I q (by simp))
  |_=>exact absurd (show false=true from hs) U1g
 |str i =>
  obtain⟨t,rfl⟩:=rx
  cases y with
  |non=>cases ry;exact PySem.EqNone.eq_str_none (Dr I q (by simp))
  |bl j=>cases ry;exact PySem.EqMixed.eq_str_bool (Dr I q (by simp))
  |int j=>obtain⟨t',rfl⟩:=ry;exact PySem.EqMixed.eq_str_int (Dr I q (by simp))
  |str j=>obtain⟨t',rfl⟩:=ry;exact eq_str (Dr I q gU)
  |_=>exact absurd (show false=true from hs) U1g
 |byt i =>
  obtain⟨t,rfl⟩:=rx
  cases y with
  |byt j=>obtain⟨t',rfl⟩:=ry;exact PySem.W.eq_bytes (Dr I q gY)
  |_=>exact absurd (show false=true from hs) U1g
 |_=>cases y<;>exact absurd (show false=true from hs) U1g
theorem Jbd:OpR X (compareOp .NotEq) rNe:=by
 intro pins s σ H x y v u Q I rx ry h
 obtain⟨hs,q⟩:=h
 cases x with
 |non =>
  cases rx
  cases y with
  |non=>cases ry;exact PySem.EqNone.ne_none_none (Dr I q (by simp))
  |bl j=>cases ry;exact PySem.EqNone.ne_none_bool (Dr I q (by simp))
  |int j=>obtain⟨t',rfl⟩:=ry;exact PySem.EqNone.ne_none_int (Dr I q (by simp))
  |str j=>obtain⟨t',rfl⟩:=ry;exact PySem.EqNone.ne_none_str (Dr I q (by simp))
  |_=>exact absurd (show false=true from hs) U1g
 |bl i =>
  cases rx
  cases y with
  |non=>cases ry;exact PySem.EqNone.ne_bool_none (Dr I q (by simp))
  |bl j=>cases ry;exact ne_bool (Dr I q (congrArg not jw))
  |str j=>obtain⟨t',rfl⟩:=ry;exact PySem.EqMixed.ne_bool_str (Dr I q (by simp))
  |_=>exact absurd (show false=true from hs) U1g
 |int i =>
  obtain⟨t,rfl⟩:=rx
  cases y with
  |non=>cases ry;exact PySem.EqNone.ne_int_none (Dr I q (by simp))
  |int j=>obtain⟨t',rfl⟩:=ry;exact ne_int (Dr I q (congrArg not gW))
  |str j=>obtain⟨t',rfl⟩:=ry;exact PySem.EqMixed.ne_int_str (Dr I q (by simp))
  |_=>exact absurd (show false=true from hs) U1g
 |str i =>
  obtain⟨t,rfl⟩:=rx
  cases y with
  |non=>cases ry;exact PySem.EqNone.ne_str_none (Dr I q (by simp))
  |bl j=>cases ry;exact PySem.EqMixed.ne_str_bool (Dr I q (by simp))
  |int j=>obtain⟨t',rfl⟩:=ry;exact PySem.EqMixed.ne_str_int (Dr I q (by simp))
  |str j=>obtain⟨t',rfl⟩:=ry;exact ne_str (Dr I q (congrArg not gU))
  |_=>exact absurd (show false=true from hs) U1g
 |byt i =>
  obtain⟨t,rfl⟩:=rx
  cases y with
  |byt j=>obtain⟨t',rfl⟩:=ry;exact PySem.W.ne_bytes (Dr I q (congrArg not gY))
  |_=>exact absurd (show false=true from hs) U1g
 |_=>cases y<;>exact absurd (show false=true from hs) U1g
theorem WX:OpR X (compareOp .Lt) (rI0 fun i j=>.bl (decide (i<j))):=iD fun _ _ _ _ _ _ _ q=>lt_int q
theorem sH:OpR X (compareOp .LtE) (rI0 fun i j=>.bl (decide (i<=j))):=iD fun _ _ _ _ _ _ _ q=>le_int q
theorem Ox:OpR X (compareOp .Gt) (rI0 fun i j=>.bl (decide (j<i))):=iD fun _ _ _ _ _ _ _ q=>gt_int q
theorem ZQ:OpR X (compareOp .GtE) (rI0 fun i j=>.bl (decide (j<=i))):=iD fun _ _ _ _ _ _ _ q=>ge_int q
theorem OpR.or{f:Value->Value->Sem Value}{r r':R2}(h:OpR X f r)(h':OpR X f r'):OpR X f (fun x y H Q=>r x y H Q∨r' x y H Q):=by
 intro pins s σ H x y v u Q I rx ry q
 rcases q with q|q
 .exact h pins s σ H x y v u Q I rx ry q
 .exact h' pins s σ H x y v u Q I rx ry q
theorem Cd(b:Expr){op:CmpOp}(h:op≠.In:=by decide)(h2:op≠.NotIn:=by decide):behindInMarks op b=false:=by
 have e1:(op==CmpOp.In)=false:=by cases op<;>first|rfl|exact absurd rfl h
 have e2:(op==CmpOp.NotIn)=false:=by cases op<;>first|rfl|exact absurd rfl h2
 cases b<;>simp[behindInMarks,e1,e2]
theorem gC{op:CmpOp}{r:R2}(ho:OpR X (compareOp op) r)(ha:PE X a ta)(hb:PE X b tb)(hm:behindInMarks op b=false):PE X (.Compare a [op] [b] pos) (tOp r ta tb):=by
 intro pins s σ H Q I h
 exact wpAny_Compare1 (iJ ha hb I h fun v u s2 x y H2 I2 rx ry q=>ho pins s2 σ H2 x y v u Q I2 rx ry q) hm
def iU(t:TE):TT:=fun σ H Q=>t σ H fun x H'=>∃k,x=.bl k/\Q k H'
theorem uF{op:CmpOp}{r:R2}(ho:OpR X (compareOp op) r)(ha:PE X a ta)(hb:PE X b tb)(hm:behindInMarks op b=false):PT X (.Compare a [op] [b] pos) (iU (tOp r ta tb)):=by
 intro pins s σ H Q I h
 refine wpAny_isTrue_Compare1 (thn (ha pins s σ H _ I h) fun v s1 ⟨x,H1,I1,r1,q1⟩=>thn (hb pins s1 σ H1 _ I1 q1) fun u s2 ⟨y,H2,I2,r2,q2⟩ =>
  thn (ho pins s2 σ H2 x y v u _ I2 r1 r2 q2) fun c s3 ⟨z,H3,I3,r3,k,e,q3⟩=>?_) hm
 subst e
 cases r3
 exact U3h ⟨H3,I3,q3⟩
def jc(r r':R2)(ta tb tc:TE):TE:=fun σ H Q=>ta σ H fun x H1=>tb σ H1 fun y H2=>r x y H2 fun z H3=>∃k,z=.bl k /\
 (if k=true then tc σ H3 fun w' H4=>r' y w' H4 Q else Q (.bl false) H3)
theorem pX{op op':CmpOp}{r r':R2}(ho:OpR X (compareOp op) r)(ho':OpR X (compareOp op') r')(ha:PE X a ta)(hb:PE X b tb)(hc:PE X c tc)
  (hm:lastMarks [op,op'] [b,c]=false:=by with_unfolding_all rfl):PT X (.Compare a [op,op'] [b,c] pos) (iU (jc r r' ta tb tc)):=by
 intro pins s σ H Q I h
 refine isTrue_chain (thn (ha pins s σ H _ I h) fun v s1 ⟨x,H1,I1,r1,q1⟩=>test_link (thn (hb pins s1 σ H1 _ I1 q1) fun u s2 ⟨y,H2,I2,r2,q2⟩ =>
  thn (ho pins s2 σ H2 x y v u _ I2 r1 r2 q2) fun d s3 ⟨z,H3,I3,r3,k,e,q3⟩=>?_)) hm
 subst e
 cases r3
 refine U3h ?_
 cases k with
 |false =>
  obtain⟨k',e',q'⟩:=q3
  cases e'
  exact ite_ff ⟨H3,I3,q'⟩
 |true =>
  refine ite_tt (test_last (thn (hc pins s3 σ H3 _ I3 q3) fun w' s4 ⟨z',H4,I4,r4,q4⟩=>thn (ho' pins s4 σ H4 y z' u w' _ I4 r2 r4 q4) fun d' s5 ⟨z2,H5,I5,r5,k2,e2,q5⟩=>?_))
  subst e2
  cases r5
  exact U3h ⟨H5,I5,q5⟩
theorem Tg:(sizeLine:Nat)<2^63:=by rw[sizeLine_eq];decide
theorem jA:OpR X (binaryOp .Add) (fun x y H Q=>∃i j,x=.str i/\y=.str j/\i.length+j.length<=sizeLine/\Q (.str (i++j)) H):=by
 intro pins s σ H x y v u Q I rx ry h
 obtain⟨i,j,rfl,rfl,hz,q⟩:=h
 obtain⟨t,rfl⟩:=rx
 obtain⟨t',rfl⟩:=ry
 exact add_str (fun t' tk=>⟨.str (i++j),H,I.tok _,⟨_,rfl⟩,q⟩) hz
theorem vals1{x:V}{us:List Value}(r:Vals [x] us):∃u,us=[u]/\RelV x u:=by
 cases r with
 |cons r1 r2=>cases r2;exact⟨_,rfl,r1⟩
theorem vals2{x y:V}{us:List Value}(r:Vals [x,y] us):∃u w',us=[u,w']/\RelV x u/\RelV y w':=by
 cases r with
 |cons r1 r2 =>
  cases r2 with
  |cons r3 r4=>cases r4;exact⟨_,_,rfl,r1,r3⟩
theorem nP(hc:X.calm=true):Eb X (.builtin "max") (fun xs H Q=>∃i j,xs=[.int i,.int j]/\Q (.int (if j>i then j else i)) H):=by
 intro pins s σ H xs us Q I r h
 obtain⟨i,j,rfl,q⟩:=h
 obtain⟨u,w',rfl,⟨t,rfl⟩,⟨t',rfl⟩⟩:=vals2 r
 refine max_two_ints (I.ok.hd hc) fun h' tk k=>⟨_,H,I.kept k,?_,q⟩
 by_cases hj:j>i
 .rw[if_pos hj,if_pos hj];exact⟨_,rfl⟩
 .rw[if_neg hj,if_neg hj];exact⟨_,rfl⟩
theorem Yu(hc:X.calm=true):Eb X (.builtin "min") (fun xs H Q=>∃i j,xs=[.int i,.int j]/\Q (.int (if j<i then j else i)) H):=by
 intro pins s σ H xs us Q I r h
 obtain⟨i,j,rfl,q⟩:=h
 obtain⟨u,w',rfl,⟨t,rfl⟩,⟨t',rfl⟩⟩:=vals2 r
 refine min_two_ints (I.ok.hd hc) fun h' tk k=>⟨_,H,I.kept k,?_,q⟩
 by_cases hj:j<i
 .rw[if_pos hj,if_pos hj];exact⟨_,rfl⟩
 .rw[if_neg hj,if_neg hj];exact⟨_,rfl⟩
theorem Yv:Eb X (.type "int") (fun xs H Q=>(∃i,xs=[.int i]/\Q (.int i) H)∨∃k,xs=[.bl k]/\Q (.int (if k then 1 else 0)) H):=by
 intro pins s σ H xs us Q I r h
 rcases h with ⟨i,rfl,q⟩|⟨k,rfl,q⟩
 .obtain⟨u,rfl,t,rfl⟩:=vals1 r
  exact call_int_int ⟨.int i,H,I,⟨_,rfl⟩,q⟩
 .obtain⟨u,rfl,r1⟩:=vals1 r
  cases r1
  exact call_int_bool ⟨.int (if k then 1 else 0),H,I.tok _,⟨_,rfl⟩,q⟩
end
end L2
namespace L2
open PySem PySem.Spec PyProof.Rows
structure oE(h:Heap)(x dx C:Addr)(mA:Str->Option Value):Prop where
 obj:h.get? x=some (U7o C dx)
 ns:h.Ns1 dx mA
 ne:dx≠x
theorem mQ{h:Heap}{dx:Addr}{mA:Str->Option Value}(n:h.Ns1 dx mA):∃od,h.get? dx=some od/\∀name,U7v name od=some (mA name):=by
 obtain⟨o,es,ep,ho,hd,hk,_,hm⟩:=n
 refine⟨o,ho,fun name=>?_⟩
 have e:=hm name
 unfold nsFind findBy at e
 rw[←Array.find?_toList] at e
 unfold U7v
 rw[hd]
 dsimp only
 split
 .rename_i y q
  rw[q] at e
  exact congrArg some e
 .rename_i q
  rw[q] at e
  have a:es.toList.any (·.refKey)=false:=by
   rw[List.any_eq_false]
   intro y hy
   obtain⟨z,t,hkey⟩:=hk y (Array.mem_toList_iff.mp hy)
   simp[DictEntry.refKey,hkey]
  have a':¬es.toList.any (·.refKey)=true:=by rw[a];exact U1g
  rw[if_neg a']
  exact congrArg some e
theorem oE.look{h:Heap}{x dx C:Addr}{mA:Str->Option Value}(I:oE h x dx C mA):∃od,PySem.W.InstAt h x (U7o C dx) C (some od)/\∀name,U7v name od=some (mA name) :=
 let ⟨od,ho,hl⟩:=mQ I.ns
 ⟨od,⟨I.obj,rfl,rfl,ho⟩,hl⟩
section
variable{prog:Program}{w:World}{A:Around}{E:Value->Shared->Prop}{s:Shared}{K:U0b}{x dx C f:Addr}{mA:Str->Option Value}{name:Str}{v:Value}
end
section
variable{P:Program}{w:World}{H H':Hp}{h h':Heap}{a C dx:Addr}{fs fs':List (Str×V)}
theorem vL(hok:HOk P w H h)(e:H a=some (.ins C dx fs)):∃mA,oE h a dx C mA/\(∀f,oA (fs.lookup f) (mA f))/\PySem.Within mA (fs.map (·.1))/\fs.length<=1000/\H dx=some (.own a):=by
 obtain⟨d,z,ne,ob,mA,n,r,q⟩:=(show FJ P w H h a (.ins C dx fs) from hok a _ e)
 exact⟨mA,⟨ob,n,ne⟩,r,q,z,d⟩
end
structure Cls(K:U0b)(C:Addr):Prop where
 pg:PySem.W.plainGet K C Str.empty=true
 hd:PySem.W.hasDictIn K C=true
 po:PySem.W.plainOver K C=true
 sa:U52 K (.ref C) "__setattr__"=some (some (.builtin "object.__setattr__"))
theorem Cls.get{K:U0b}{C:Addr}(c:Cls K C)(f:Str):PySem.W.plainGet K C f=true:=c.pg
structure Con(K:U0b)(C:Addr)(f:Str)(v:V)(u:Value):Prop where
 at_:U52 K (.ref C) f=some (some u)
 rel:RelV v u
 get:PySem.W.specialIn K u "__get__"=some none
 cp:PySem.W.copiedNames.contains f=false
structure Meth(K:U0b)(C:Addr)(m:Str)(f:Addr):Prop where
 at_:U52 K (.ref C) m=some (some (.ref f))
 fn:PySem.W.isFn K (.ref f)=true
 kp:U0z K (.ref f)=true
section
variable{X:Cx}{pins:List (Addr×Obj)}{σ:St}{H:Hp}{s:Shared}{a C dx:Addr}{fs:List (Str×V)}{f:Str}{v:V}{A:Around}{E:Value->Shared->Prop}
end
section
variable{X:Cx}{o e value:Expr}{f:Str}{pos pos' tpos:Pos}{ta tv:TE}
end
section
variable{X:Cx}{pins:List (Addr×Obj)}{σ:St}{H:Hp}{s:Shared}{A:Around}{E:Value->Shared->Prop}{Q:Value->Shared->Prop}{c:Value}{b:Bool}
inductive Lz (K:U0b) (H:Hp):V->Value->Prop where
 |non:Lz K H .non (.type "NoneType")
 |bl (x:Bool):Lz K H (.bl x) (.type "bool")
 |int (i:Int):Lz K H (.int i) (.type "int")
 |str (x:Str):Lz K H (.str x) (.type "str")
 |flt (x:UInt64):Lz K H (.flt x) (.type "float")
 |lst {a:Addr} {xs:List V} (e:H a=some (.lst xs)):Lz K H (.ref a) (.type "list")
 |frz {a:Addr} {o:Obj} {xs:List V} (e:H a=some (.frz o (.lst xs))):Lz K H (.ref a) (.type "list")
 |tup {a:Addr} {xs:List V} (e:H a=some (.tup xs)):Lz K H (.ref a) (.type "tuple")
 |dK {a:Addr} {kvs:List (Key×V)} (e:H a=some (.dK kvs)):Lz K H (.ref a) (.type "dict")
 |dT {a:Addr} {kvs:List (List Key×V)} (e:H a=some (.dT kvs)):Lz K H (.ref a) (.type "dict")
 |ins {a C dx:Addr} {fs:List (Str×V)} (e:H a=some (.ins C dx fs)) (cl:Cls K C) (ha:U52 K (.ref C) "__class__"=some (some (.builtin "object.__class__")))
   (hn:PySem.W.specialIn K (.builtin "object.__class__") "__get__"=some (some (.builtin "getset_descriptor.__get__"))) (htk:PySem.W.takesIn K (.builtin "object.__class__")=some true)
   (hm:PySem.W.mroIn K C (.type "object")=some true):Lz K H (.ref a) (.ref C)
theorem mY{x:V}{u t:Value}(I:Inv X pins σ H s)(rx:RelV x u)(ty:Lz X.K H x t)(e:U3n X.K t c=some b)(h:∀tk,Q (.bool b) { s with toks:=tk }) :
  wpAny (model X.prog X.w) A (call (.builtin "isinstance") [u,c]) Q E s:=by
 cases ty with
 |non=>cases (show u=U22 from rx);exact U3d PySem.W.kitx_none I.kIn U7g e (fun z=>nomatch z) h
 |bl y=>cases (show u=U5e y from rx);exact U3d PySem.W.kitx_bool I.kIn U7g e (fun z=>nomatch z) h
 |int i=>obtain⟨t,q⟩:=(show ∃t,u=U3m i t from rx);cases q;exact U3d PySem.W.kitx_int I.kIn U7g e (fun z=>nomatch z) h
 |str y=>obtain⟨t,q⟩:=(show ∃t,u=Value.str y t from rx);cases q;exact U3d PySem.W.kitx_str I.kIn U7g e (fun z=>nomatch z) h
 |flt y=>obtain⟨t,q⟩:=(show ∃t,u=Value.float y t from rx);cases q;exact U3d PySem.W.kitx_float I.kIn U7g e (fun z=>nomatch z) h
 |@lst a xs ea =>
  cases (show u=U2v a from rx)
  obtain⟨_,_,n,_,h1⟩:=(show FJ X.prog X.w H s.heap a (.lst xs) from I.hok a _ ea)
  exact U3d PySem.W.kitx_list I.kIn ⟨_,h1,rfl⟩ e (fun z=>nomatch z) h
 |@frz a ob xs ea =>
  cases (show u=U2v a from rx)
  obtain⟨_,_,_,n,_,h1⟩:=(show FJ X.prog X.w H s.heap a (.frz ob (.lst xs)) from I.hok a _ ea)
  exact U3d PySem.W.kitx_list I.kIn ⟨_,h1,rfl⟩ e (fun z=>nomatch z) h
 |@tup a xs ea =>
  cases (show u=U2v a from rx)
  obtain⟨_,_,_,p⟩:=(show FJ X.prog X.w H s.heap a (.tup xs) from I.hok a _ ea)
  obtain⟨o,h1,h2,_⟩:=p
  exact U3d PySem.W.kitx_tuple I.kIn ⟨o,h1,h2⟩ e (fun z=>nomatch z) h
 |@dK a kvs ea =>
  cases (show u=U2v a from rx)
  obtain⟨_,_,vs,_,p⟩:=(show FJ X.prog X.w H s.heap a (.dK kvs) from I.hok a _ ea)
  obtain⟨o,es,ep,h1,h2,_⟩:=p
  exact U3d PySem.W.kitx_dict I.kIn ⟨o,h1,h2.1⟩ e (fun z=>nomatch z) h
 |@dT a kvs ea =>
  cases (show u=U2v a from rx)
  obtain⟨_,_,xs,_,o,es,ep,h1,h2,_⟩:=(show FJ X.prog X.w H s.heap a (.dT kvs) from I.hok a _ ea)
  exact U3d PySem.W.kitx_dict I.kIn ⟨o,h1,h2.1⟩ e (fun z=>nomatch z) h
 |@ins a C dx fs ea cl ha hn htk hm =>
  cases (show u=U2v a from rx)
  obtain⟨mA,O,_⟩:=vL I.hok ea
  obtain⟨od,J,_⟩:=O.look
  exact U3d (PySem.W.kitx_own (cl.get _) cl.hd ha hn htk hm) I.kIn J e (fun z=>nomatch z) h
end
end L2
namespace L2
open PySem PySem.Spec PyProof.Rows
structure Gb(k:Nat)(A:Around):Prop where
 hd:A.handled=none
 dp:A.depth+3*k+5<recursionLimit
 un:A.units+16*k+200<cLine
 gd:A.guards=some []
theorem Gb.mono{j k:Nat}{A:Around}(r:Gb k A)(h:j<=k):Gb j A:=⟨r.hd,by have:=r.dp;omega,by have:=r.un;omega,r.gd⟩
theorem Gb.deeper{k:Nat}{A:Around}(r:Gb (k+1) A)(env:Env):Gb k (A.deeper env) :=
 ⟨r.hd,by have:=r.dp;show A.depth+1+3*k+5<_;omega,by have:=r.un;show A.units+3+16*k+200<_;omega,r.gd⟩
theorem Gb.depth{k:Nat}{A:Around}(r:Gb k A):A.depth<recursionLimit:=by have:=r.dp;omega
theorem Gb.units{k:Nat}{A:Around}(r:Gb k A):A.units+64<cLine:=by have:=r.un;omega
def wu:TA:=fun _ H Q=>Q [] H
def rR(ta:TE)(tr:TA):TA:=fun σ H Q=>ta σ H fun x H1=>tr σ H1 fun xs H2=>Q (x::xs) H2
section
variable{X:Cx}{e:Expr}{es:List Expr}{te:TE}{t:TA}{pos:Pos}
theorem Tf:PA X [] wu:=fun _ _ _ _ H Q I h=>Calls.spliced_nil ⟨[],H,I,.nil,h⟩
theorem RZ(ha:PE X e te)(hr:PA X es t)(hs:starEach (e::es) X.env=(false,eval e X.env)::starEach es X.env:=by rfl):PA X (e::es) (rR te t):=by
 intro pos pins s σ H Q I h
 rw[hs]
 show wpAny _ _ (spliced ((false,eval e X.env)::backTo pos (starEach es X.env))) _ _ s
 refine Calls.spliced_cons (thn (ha pins s σ H _ I h) fun u s1 ⟨x,H1,I1,r1,q1⟩=>?_)
 exact thn (hr pos pins s1 σ H1 _ I1 q1) fun us s2 ⟨xs,H2,I2,r2,q2⟩=>⟨x::xs,H2,I2,.cons r1 r2,q2⟩
def wj(t:TA):TE:=fun σ H Q=>t σ H fun xs H1=>xs.length<=sizeLine/\∀p,H1 p=none->Q (.ref p) (upd H1 p (.tup xs))
def Jb8(t:TA):TE:=fun σ H Q=>t σ H fun xs H1=>xs.length<=sizeLine/\∀p,H1 p=none->Q (.ref p) (upd H1 p (.lst xs))
theorem yq{x1}(h:PA X es t):PE X (.Tuple es x1 pos) (wj t):=by
 intro pins s σ H Q I hq
 refine wpAny_Tuple_spliced (thn (h pos pins s σ H _ I hq) fun us s1 ⟨xs,H1,I1,r,z,q⟩=>⟨by rw[←r.length];exact z,?_⟩)
 have hf:H1 s1.heap.objs.size=none:=I1.hok.fresh (U0t _)
 refine⟨.ref s1.heap.objs.size,upd H1 s1.heap.objs.size (.tup xs),I1.laid (t':=s1.toks) (fun b u e=>U0d _ e) (U0t _) ?_,rfl,q _ hf⟩
 exact⟨z,us,r,⟨_,U0v _ rfl,rfl,_,rfl⟩⟩
theorem jk(h:PA X es t):PE X (.List es pos) (Jb8 t):=by
 intro pins s σ H Q I hq
 refine wpAny_List_spliced (thn (h pos pins s σ H _ I hq) fun us s1 ⟨xs,H1,I1,r,z,q⟩=>⟨by rw[←r.length];exact z,?_⟩)
 have hf:H1 s1.heap.objs.size=none:=I1.hok.fresh (U0t _)
 refine⟨.ref s1.heap.objs.size,upd H1 s1.heap.objs.size (.lst xs),I1.laid (t':=s1.toks) (fun b u e=>U0d _ e) (U0t _) ?_,rfl,q _ hf⟩
 exact⟨z,us,0,r,U0v _ rfl⟩
end
abbrev Sp:=List V->Hp->VK->XK->Prop
abbrev CXT:=List Env->Hp->Shared->XK->Value->Shared->Prop
structure iR(P:Program)(w:World)(K:U0b)(mg:Str->Option Value)(base:Heap)(A:Around)(outer:List Env)(s:Shared)(H:Hp):Prop where
 frames:A.frames=some outer
 mod:Mod K mg base
 bs:∀b o,base.get? b=some o->s.heap.get? b=some o/\H b=none
 bsz:base.objs.size<=s.heap.objs.size
 Pn:s.heap.FunFrames base outer
 frf:∀b∈frs outer,H b=none
 hok:HOk P w H s.heap
 bare:AllBare s.gens
 sy:H sysModules=none
def CE(outer:List Env)(P:Program)(w:World)(H:Hp)(s:Shared)(Q:VK)(u:Value)(s':Shared):Prop :=
 ∃v H',s'.os=s.os/\AllBare s'.gens/\Un (frs outer) [] H H' s.heap s'.heap/\HOk P w H' s'.heap/\RelV v u/\Q v H'
def CR(CX:CXT)(outer:List Env)(P:Program)(w:World)(H:Hp)(s:Shared)(Q:VK)(E:XK)(r:Result)(s':Shared):Prop :=
 match r with
 |.ok (.ret u)=>CE outer P w H s Q u s'
 |.ok _=>False
 |.error e=>CX outer H s E e s'
structure DG(P:Program)(w:World)(K:U0b)(mg:Str->Option Value)(base:Heap)(CX:CXT)(k:Nat)(f:Addr)(fd:FuncData)(ps:List Str)(sp:Sp):Prop where
 len:∀vs H Q E,sp vs H Q E->vs.length=ps.length
 run:∀(A:Around)(outer:List Env)(s:Shared)(H:Hp)(args:Args)(us:List Value)(vs:List V)(Q:VK)(E:XK),Gb k A->iR P w K mg base A outer s H->BindsTo s fd args (ps.zip us)->Vals vs us->sp vs H Q E ->
  codeAny (model P w) A (.call (.ref f) args) (CR CX outer P w H s Q E) s
theorem DG.mono{P:Program}{w:World}{K:U0b}{mg:Str->Option Value}{base:Heap}{CX:CXT}{j k:Nat}{f:Addr}{fd:FuncData}{ps:List Str}{sp:Sp}(F:DG P w K mg base CX j f fd ps sp)(h:j<=k) :
  DG P w K mg base CX k f fd ps sp:=⟨F.len,fun A outer s H args us vs Q E hr=>F.run A outer s H args us vs Q E (hr.mono h)⟩
theorem DG.imp{P:Program}{w:World}{K:U0b}{mg:Str->Option Value}{base:Heap}{CX:CXT}{k:Nat}{f:Addr}{fd:FuncData}{ps:List Str}{sp sp':Sp}(F:DG P w K mg base CX k f fd ps sp)
  (h:∀vs H Q E,sp' vs H Q E->sp vs H Q E):DG P w K mg base CX k f fd ps sp' :=
 ⟨fun vs H Q E q=>F.len vs H Q E (h _ _ _ _ q),fun A outer s H args us vs Q E hr he hb hv hs=>F.run A outer s H args us vs Q E hr he hb hv (h _ _ _ _ hs)⟩
section
variable{X:Cx}{pins:List (Addr×Obj)}{σ:St}{H:Hp}{s s':Shared}
theorem Inv.env0(I:Inv X pins σ H s):iR X.prog X.w X.K X.mg X.base X.A X.stack s H :=
 ⟨I.ok.frames,I.ok.mod,I.bs,U1a I.ok.bsz I.sz,I.stack,I.fU,I.hok,I.bare,I.Xo⟩
theorem Inv.after{Q:VK}{u:Value}(I:Inv X pins σ H s)(h:CE X.stack X.prog X.w H s Q u s'):EP X pins σ Q u s':=by
 obtain⟨v,H',os,bare,un,hok,r,q⟩:=h
 obtain⟨hh,g,d,t,os'⟩:=s'
 obtain rfl:os'=s.os:=os
 exact⟨v,H',I.call (h':=hh) (g':=g) (d':=d) (t':=t) (ch:=[]) un hok bare (fun b z=>absurd z (by simp)),r,q⟩
end
def rT(sp:Sp)(dvs:List V)(E:XK)(t:TA):TE:=fun σ H Q=>t σ H fun vs H1=>sp (vs++dvs) H1 Q E
def Binds(K:U0b)(fd:FuncData)(ps:List Str)(ds:List Value):Prop :=
 ∀(s:Shared)(us:List Value),K.In s.heap->(us++ds).length=ps.length->BindsTo s fd ⟨us,[]⟩ (ps.zip (us++ds))
theorem Binds.all{K:U0b}{fd:FuncData}{ps:List Str}(h:∀us:List Value,us.length=ps.length->bindArgs fd ⟨us,[]⟩=pure (ps.zip us)):Binds K fd ps []:=fun s us _ hl=>by
 rw[U15] at hl ⊢
 exact .of_eq (h us hl)
def Passes(CX:CXT)(X:Cx)(E:XK):Prop:=∀(pins:List (Addr×Obj))(σ:St)(H:Hp)(s:Shared)(e:Value)(s':Shared),Inv X pins σ H s->CX X.stack H s E e s'->X.xe e s'
section
variable{X:Cx}{CX:CXT}{k:Nat}{f C:Addr}{fd:FuncData}{ps:List Str}{sp:Sp}{dvs:List V}{ds:List Value}{E:XK}{x m:Str}{p pos apos:Pos}{e o:Expr}{es:List Expr}{ta:TE}{t:TA}
theorem yP{pins:List (Addr×Obj)}{σ:St}{H:Hp}{s:Shared}{Q:VK}{us:List Value}{vs:List V}(F:DG X.prog X.w X.K X.mg X.base CX k f fd ps sp)(hr:Gb k X.A)(hb:Binds X.K fd ps ds)(hd:Vals dvs ds)(hx:Passes CX X E)
  (I:Inv X pins σ H s) (r:Vals vs us) (h:sp (vs++dvs) H Q E):wpAny (model X.prog X.w) X.A (call (.ref f) us) (EP X pins σ Q) X.xe s:=by
 have r2:Vals (vs++dvs) (us++ds):=r.append hd
 have hl:(us++ds).length=ps.length:=by rw[←r2.length];exact F.len _ _ _ _ h
 refine wpAny_call (codeAny_mono (F.run X.A X.stack s H ⟨us,[]⟩ (us++ds) (vs++dvs) Q E hr I.env0 (hb s us I.kIn hl) r2 h) fun r s' hq=>?_)
 cases r with
 |error e=>exact hx pins σ H s e s' I hq
 |ok fl =>
  cases fl with
  |ret u=>exact I.after hq
  |next=>exact U4l hq
  |brk=>exact U4l hq
  |cont=>exact U4l hq
theorem uQ(F:DG X.prog X.w X.K X.mg X.base CX k f fd ps sp)(hr:Gb k X.A)(hg:Gl X x)(hm:X.mg x=some (.ref f))(hk:U0z X.K (.ref f)=true)(hb:Binds X.K fd ps ds)(hd:Vals dvs ds)(hx:Passes CX X E)
  (ha:PA X (e::es) t) (hdb:(x==("__debug__":Str))=false:=by decide) (he:starEach (e::es) X.env=(false,eval e X.env)::starEach es X.env:=by rfl) (hpl:(backTo pos (starEach es X.env)).any (·.1)=false:=by rfl) :
  PE X (.Call (.Name x p) (e::es) [] pos) (rT sp dvs E t):=by
 intro pins s σ H Q I h
 refine U42 (gJ I hg hm ?_ hdb)
 refine PySem.W.callWith_K (h₀:=X.base) I.ok.mod.kin hk (thn (ha pos pins s σ H _ I h) fun us s1 ⟨vs,H1,I1,r,q⟩=>⟨I1.kIn,?_⟩) he hpl
 exact yP F hr hb hd hx I1 r q
structure Mk(K:U0b)(C f:Addr):Prop where
 makes:PySem.W.makesIn K C=true
 init:U52 K (.ref C) "__init__"=some (some (.ref f))
 fn:PySem.W.isFn K (.ref f)=true
 kp:U0z K (.ref C)=true
end
section
variable{X:Cx}{CX:CXT}{k:Nat}{f C:Addr}{fd:FuncData}{ps ks:List Str}{sp:Sp}{E:XK}{x m:Str}{p pos apos kpos:Pos}{e o:Expr}{es:List Expr}{kws:List Keyword}{te ta:TE}{t tk:TA}{nm:Option Str}
structure Jdb(K:U0b)(fd:FuncData)(ps ks:List Str)(g:List Value->List Value->List Value)(gV:List V->List V->List V):Prop where
 to:∀(s:Shared)(us ws:List Value),K.In s.heap->(g us ws).length=ps.length->BindsTo s fd ⟨us,ks.zip ws⟩ (ps.zip (g us ws))
 rel:∀{vs:List V} {us:List Value} {zs:List V} {ws:List Value},Vals vs us->Vals zs ws->Vals (gV vs zs) (g us ws)
variable{g:List Value->List Value->List Value}{gV:List V->List V->List V}
end
structure CG(N P:List Str)(sc:Scope):Prop where
 kind:sc.kind=.function
 co:sc.isCoroutine=false
 gen:sc.isGenerator=false
 nd:N.Nodup
 pre:N.take P.length=P
 par:∀x∈P,sc.names.lookup x=some .local∨sc.names.lookup x=some .cell
 nofree:∀y∈sc.names,y.2≠.free
theorem Yx{kindOf:Str->Option NameKind}{x:Str}:∀{binds:List (Str×Value)} {m:Str->Option Value},(∀v,(x,v) ∉ binds)->bindL kindOf binds m x=m x
 |[],_,_=>rfl
 |(n,v)::r,m,h=>by
  unfold bindL
  rw[Yx fun w hw=>h w (U0p _ hw)]
  split
  .have:x≠n:=by rintro rfl;exact h v U0x
   simp[this]
  .rfl
theorem Yz{kindOf:Str->Option NameKind}{x:Str}:∀{binds:List (Str×Value)} {m:Str->Option Value},(∀v,(x,v) ∉ binds)->bindC kindOf binds m x=m x
 |[],_,_=>rfl
 |(n,v)::r,m,h=>by
  unfold bindC
  rw[Yz fun w hw=>h w (U0p _ hw)]
  split
  .rfl
  .have:x≠n:=by rintro rfl;exact h v U0x
   simp[this]
theorem Yy{kindOf:Str->Option NameKind}{x:Str}{v:Value}:∀{P:List Str} {vs:List Value} {i:Nat} {m:Str->Option Value},P.Nodup->P[i]?=some x->vs[i]?=some v->kindOf x=some .local ->
  bindL kindOf (P.zip vs) m x=some v
 |[],_,_,_,_,h,_,_=>by simp at h
 |_::_,[],_,_,_,_,h,_=>by simp at h
 |p::P,w::vs,0,m,nd,h1,h2,hk=>by
  simp at h1 h2;subst h1;subst h2
  show bindL kindOf ((p,w)::P.zip vs) m p=_
  unfold bindL
  rw[Yx fun v hv=>(U5q.mp nd).1 (U3z hv).1,if_pos hk]
  simp
 |p::P,w::vs,i+1,m,nd,h1,h2,hk=>by
  show bindL kindOf ((p,w)::P.zip vs) m x=_
  unfold bindL
  exact Yy (i:=i) (U5q.mp nd).2 (by simpa using h1) (by simpa using h2) hk
theorem Z0{kindOf:Str->Option NameKind}{x:Str}{v:Value}:∀{P:List Str} {vs:List Value} {i:Nat} {m:Str->Option Value},P.Nodup->P[i]?=some x->vs[i]?=some v->kindOf x≠some .local ->
  bindC kindOf (P.zip vs) m x=some v
 |[],_,_,_,_,h,_,_=>by simp at h
 |_::_,[],_,_,_,_,h,_=>by simp at h
 |p::P,w::vs,0,m,nd,h1,h2,hk=>by
  simp at h1 h2;subst h1;subst h2
  show bindC kindOf ((p,w)::P.zip vs) m p=_
  unfold bindC
  rw[Yz fun v hv=>(U5q.mp nd).1 (U3z hv).1,if_neg hk]
  simp
 |p::P,w::vs,i+1,m,nd,h1,h2,hk=>by
  show bindC kindOf ((p,w)::P.zip vs) m x=_
  unfold bindC
  exact Z0 (i:=i) (U5q.mp nd).2 (by simpa using h1) (by simpa using h2) hk
def start(N:List Str)(vs:List V):St:=vs.map some++U0l (N.length-vs.length) none
def TJ(CX:CXT)(P:Program)(w:World)(K:U0b)(mg:Str->Option Value)(base:Heap)(N:List Str)(qual:Str)(scope:Scope)(f:Addr)(cd:Value)(A:Around)(outer:List Env)(s:Shared)(H:Hp)(E:XK):Cx where
 prog:=P
 w:=w
 K:=K
 mg:=mg
 base:=base
 A:=A.deeper (envOfC qual scope s.heap.objs.size f cd)
 N:=N
 s₀:=s
 H₀:=H
 env:=envOfC qual scope s.heap.objs.size f cd
 outer:=outer
 stack:=envOfC qual scope s.heap.objs.size f cd::outer
 ex:=[]
 calm:=true
 fn:=fun _=>true
 pn:=[]
 xe:=fun e s'=>wpAny (model P w) (A.deeper (envOfC qual scope s.heap.objs.size f cd)) (leaving (envOfC qual scope s.heap.objs.size f cd) e) (fun _ s''=>CX outer H s E e s'') (fun e' s''=>CX outer H s E e' s'') s'
theorem cF{sc:Scope}{n:Nat}{x:Str}(h:sc.names.lookup x=some .cell):∃c,(cellsFrom n sc.names []).lookup x=some c:=by
 have q:=U6b sc.names n [] (.inl h)
 exact U4s.mp q
theorem mq{CX:CXT}{P:Program}{w:World}{K:U0b}{mg:Str->Option Value}{base:Heap}{N ps:List Str}{qual:Str}{scope:Scope}{f:Addr}{cd:Value}{A:Around}{outer:List Env}{s s1:Shared}{H:Hp}{E:XK}{us:List Value}{vs:List V}
  (S:CG N ps scope) (hd:A.handled=none) (e0:iR P w K mg base A outer s H) (hl:vs.length=ps.length) (r:Vals vs us)
  (x:InCallC s s.heap.objs.size (bindL (envOfC qual scope s.heap.objs.size f cd).kindOf (ps.zip us) fun _=>none) (cellsFrom (s.heap.objs.size+1) scope.names []) (bindC (envOfC qual scope s.heap.objs.size f cd).kindOf (ps.zip us) fun _=>none) s1) :
  Inv (TJ CX P w K mg base N qual scope f cd A outer s H E) [] (start N vs) H s1:=by
 have hpl:ps.length<=N.length:=by have:=congrArg U5j S.pre;rw[U19] at this;omega
 obtain⟨h1,tk,rfl,hk⟩:=x.done
 have noA:∀b:Addr,b ∉ (TJ CX P w K mg base N qual scope f cd A outer s H E).ex:=fun b z=>absurd (show b∈([]:List Addr) from z) (by simp)
 refine⟨⟨e0.mod,S.kind,rfl,rfl,U0t _,fun y z c h1 h2=>?_,fun y hy=>?_,fun y c _ h=>?_,fun _=>hd,Around.frames_deeper e0.frames,.inr ⟨rfl,rfl⟩,fun b z=>absurd z (noA b),e0.bs,e0.bsz,fun b _ _=>noA b,fun b z=>absurd z (noA b),e0.Pn,e0.frf,e0.sy⟩,
  rfl,e0.bare,Un.kept hk,⟨_,x.toInCall.ns,fun i y v h1 h2 h3=>?_⟩,fun y c h=>⟨_,x.cell y c h⟩,e0.hok.fresh (U0t _),fun y c h=>?_,fun p hp=>absurd (show p∈([]:List (Addr×Obj)) from hp) (by simp),e0.hok.kept hk,?_⟩
 .exact name_of_addr x.apart (U3 h1) (U3 h2)
 .have hy:scope.names.lookup y=some .cell∨scope.names.lookup y=some .free:=hy
  rcases hy with hy|hy
  .exact cF hy
  .exact absurd rfl (S.nofree _ (U3 hy))
 .exact U2w (x.above y c (U3 h))
 .have hi:i<vs.length:=by
   unfold start at h2
   by_cases hi:i<vs.length
   .exact hi
   .rw[U2d (by simpa using hi)] at h2
    rw[U36] at h2
    split at h2<;>cases h2
  have ha:vs[i]?=some v:=by
   unfold start at h2
   rw[U1e (by simpa using hi),U0w] at h2
   cases e:vs[i]? with
   |none=>rw[e] at h2;cases h2
   |some a=>rw[e] at h2;cases h2;rfl
  obtain⟨u,hu,rv⟩:=r.get ha
  have hp:ps[i]?=some y:=by
   rw[←S.pre,List.getElem?_take_of_lt (by omega)];exact h1
  have ndP:ps.Nodup:=by rw[←S.pre];exact S.nd.sublist (List.take_sublist _ _)
  refine⟨u,rv,?_⟩
  rcases S.par y (U1k hp) with k|k
  .exact .inl ⟨k,Yy ndP hp hu k⟩
  .obtain⟨c,e⟩:=cF (n:=s.heap.objs.size+1) k
   refine .inr ⟨.inl k,c,e,?_⟩
   have q:=x.cell y c e
   rw[Z0 ndP hp hu (by show scope.names.lookup y≠_;rw[k];decide)] at q
   exact q
 .exact e0.hok.fresh (U2w (x.above y c (U3 h)))
 .unfold start
  show _=N.length
  rw[U0r,U0k,U1f]
  omega
theorem Jbp{CX:CXT}{P:Program}{w:World}{K:U0b}{mg:Str->Option Value}{base:Heap}{k:Nat}{f:Addr}{name qual:Str}{params:Arguments}{body:List Stmt}{scope:Scope}{dV kV doc pm cdv ct oc:Value}{an od:Option Addr}
  {osl:Array (Option Value)} {N ps:List Str} {sp:Sp} (lk:K.lookup f=some ⟨oc,od,.func (U04 name qual params body scope dV kV doc pm an cdv ct),osl⟩) (hcd:U01 K cdv qual=true) (S:CG N ps scope)
  (len:∀vs H Q E,sp vs H Q E->vs.length=ps.length)
  (hbody:∀(A:Around)(outer:List Env)(s:Shared)(H:Hp)(vs:List V)(Q:VK)(E:XK),Gb k (A.deeper (envOfC qual scope s.heap.objs.size f cdv))->sp vs H Q E ->
   ∃t,PSs (TJ CX P w K mg base N qual scope f cdv A outer s H E) body t/\t { nx:=fun _ H'=>Q .non H',rt:=Q } (start N vs) H) :
  DG P w K mg base CX (k+1) f (U04 name qual params body scope dV kV doc pm an cdv ct) ps sp:=by
 refine⟨len,fun A outer s H args us vs Q E hr e0 hb r hsp=>?_⟩
 have hl:=len _ _ _ _ hsp
 have KX:K.In s.heap:=e0.mod.kin.keeps fun b o e=>(e0.bs b o e).1
 have lim:s.heap.NoLimit:=e0.mod.nolimit.keeps fun b o e=>(e0.bs b o e).1
 have hkind:∀y∈ps.zip us,scope.names.lookup y.1=some .local∨(scope.names.lookup y.1=some .cell/\((cellsFrom (s.heap.objs.size+1) scope.names []).lookup y.1).isSome=true):=fun⟨n,v⟩ hy=>by
  rcases S.par n (U3z hy).1 with q|q
  .exact .inl q
  .exact .inr ⟨q,U6b _ _ _ (.inl q)⟩
 refine codeAny_call_function hr.depth (KX _ _ lk) rfl S.co S.gen rfl (PySem.W.codeRec_of KX hcd) (hb _ _ _ _ ?_)
 refine wpAny_newFunctionEnv_cells S.kind hkind fun env he s1 x=>?_
 subst he
 refine⟨lim.keeps x.toInCall.keep,codeAny_func ?_⟩
 obtain⟨t,ht,hq⟩:=hbody A outer s H vs Q E (hr.deeper _) hsp
 have I:Inv (TJ CX P w K mg base N qual scope f cdv A outer s H E) [] (start N vs) H s1:=mq S hr.hd e0 hl r x
 refine U51 (ht [] s1 (start N vs) H _ I hq) (fun fl s' hs=>?_) fun e s' hs=>hs
 have fin:∀{σ':St} {H':Hp} {v:V} {u:Value},Inv (TJ CX P w K mg base N qual scope f cdv A outer s H E) [] σ' H' s'->RelV v u->Q v H'->CE outer P w H s Q u s' :=
  fun {σ' H' v u} J rv q=>⟨v,H',J.os,J.bare,J.base,J.hok,rv,q⟩
 cases fl with
 |ret u =>
  obtain⟨v,σ',H',J,rv,q⟩:=hs
  exact fin J rv q
 |next =>
  obtain⟨σ',H',J,q⟩:=hs
  exact fin (v:=V.non) (u:=U22) J rfl q
 |brk =>
  obtain⟨_,_,_,q⟩:=hs
  exact U4l q
 |cont =>
  obtain⟨_,_,_,q⟩:=hs
  exact U4l q
end L2
namespace L2
open PySem PySem.Spec PyProof.Rows
section
variable{X:Cx}{x:Str}{p pos:Pos}{e:Expr}{es:List Expr}{t:TA}{id T:String}{r:List V->Hp->VK->Prop}
def tCB(r:List V->Hp->VK->Prop)(t:TA):TE:=fun σ H Q=>t σ H fun vs H1=>r vs H1 Q
theorem aZ(hc:Eb X (.builtin id) r)(hg:Gl X x)(hm:X.mg x=none)(hv:bootBuiltins x=some (.builtin id))(ha:PA X (e::es) t)(hn:x≠"__name__":=by decide)(hdb:(x==("__debug__":Str))=false:=by decide)
  (he:starEach (e::es) X.env=(false,eval e X.env)::starEach es X.env:=by rfl) (hpl:(backTo pos (starEach es X.env)).any (·.1)=false:=by rfl):PE X (.Call (.Name x p) (e::es) [] pos) (tCB r t):=by
 intro pins s σ H Q I h
 refine U42 (Lb I hg hm hv ?_ hn hdb)
 exact PyProof.Rows.callWith_builtin1 (thn (ha pos pins s σ H _ I h) fun us s1 ⟨vs,H1,I1,r1,q1⟩=>hc pins s1 σ H1 vs us Q I1 r1 q1) he hpl
theorem MP(hc:Eb X (.type T) r)(hg:Gl X x)(hm:X.mg x=none)(hv:bootBuiltins x=some (.type T))(ha:PA X (e::es) t)(hn:x≠"__name__":=by decide)(hdb:(x==("__debug__":Str))=false:=by decide)
  (he:starEach (e::es) X.env=(false,eval e X.env)::starEach es X.env:=by rfl) (hpl:(backTo pos (starEach es X.env)).any (·.1)=false:=by rfl):PE X (.Call (.Name x p) (e::es) [] pos) (tCB r t):=by
 intro pins s σ H Q I h
 refine U42 (Lb I hg hm hv ?_ hn hdb)
 exact U23 (thn (ha pos pins s σ H _ I h) fun us s1 ⟨vs,H1,I1,r1,q1⟩=>hc pins s1 σ H1 vs us Q I1 r1 q1) he hpl
end
end L2
namespace HT
open PySem PyProof.Rows
section
open PySem.SeqAt
open PySem.AutoSeq1 (wpAny_loadPart')
open PySem.MeetsSeq PySem.MeetsSeq2 PySem.MeetsSeq3
end
section
variable{prog:Program}{w:World}{A:Around}{E:Value->Shared->Prop}{s:Shared}
theorem vp{t b:Addr}{vs ws:List Value}{Q:Value->Shared->Prop}(ht:IsTup s.heap t vs.toArray)(hb:IsTup s.heap b ws.toArray)(hv:vs≠[])
  (h1:ws=[]->Q (.ref t) s) (h2:ws≠[]->Q (.ref s.heap.objs.size) { s with heap:=s.heap.push { cls:=.type "tuple",data:=.seq (vs++ws).toArray } })
  (hsz:vs.length+ws.length<=sizeLine):wpAny (model prog w) A (binaryOp .Add (.ref t) (.ref b)) Q E s:=by
 obtain⟨⟨cls,dd,data,sl⟩,ho,hc,n,hd⟩:=id ht
 obtain⟨⟨cls2,dd2,data2,sl2⟩,ho2,hc2,n2,hd2⟩:=id hb
 simp only at hc hd hc2 hd2
 subst hc hd hc2 hd2
 have e:vs.toArray++ws.toArray=(vs++ws).toArray:=by simp
 by_cases hw:ws=[]
 .exact concat_meets ⟨_,ho,rfl⟩ ⟨_,ho2,rfl⟩ noFill_tuple_add seq_tuple_add U6c U56 (U5u _ _)
   (tuple_addW1 t b vs.toArray ws.toArray n n2 dd dd2 sl sl2 (by simpa using hv) (by simp[hw])) ⟨ho,ho2,h1 hw⟩
 .refine concat_meets ⟨_,ho,rfl⟩ ⟨_,ho2,rfl⟩ noFill_tuple_add seq_tuple_add U6c U56 (U5u _ _)
   (tuple_addW2 t b vs.toArray ws.toArray n n2 dd dd2 sl sl2 (by simpa using hv) (by simpa using hw) (by rw[U0s,U0s];exact hsz)) ⟨ho,ho2,?_⟩
  rw[e]
  exact h2 hw
def sIx(n d:Nat):Option Int->Nat
 |none=>d
 |some v=>if v<0 then (v+(n:Int)).toNat else min v.toNat n
theorem yO(n d:Nat)(hd:d<=n)(o:Option Int):sIx n d o<=n:=by
 cases o with
 |none=>exact hd
 |some v =>
  show(if v<0 then (v+(n:Int)).toNat else min v.toNat n)<=n
  by_cases hv:v<0
  .rw[if_pos hv];omega
  .rw[if_neg hv];exact Nat.min_le_right _ _
theorem gj(v:Int)(n d:Nat):(if v<0 then max (v+(n:Int)) 0 else min v (n:Int))=((sIx n d (some v):Nat):Int):=by
 show(if v<0 then max (v+(n:Int)) 0 else min v (n:Int))=(((if v<0 then (v+(n:Int)).toNat else min v.toNat n):Nat):Int)
 by_cases hv:v<0
 .simp only[if_pos hv];omega
 .simp only[if_neg hv];omega
theorem jY(lo hi:Option Int)(n:Nat):U5r lo hi 1 (n:Int)=(((sIx n 0 lo:Nat):Int),((sIx n n hi:Nat):Int)):=by
 have h1:¬((1:Int)<0):=by omega
 unfold U5r
 simp only[h1,if_false]
 refine Prod.ext ?_ ?_
 .cases lo with
  |none=>rfl
  |some v=>exact gj v n 0
 .cases hi with
  |none=>rfl
  |some v=>exact gj v n n
theorem j6(i j:Nat):U4m (i:Int) (j:Int) 1=j-i:=by
 unfold U4m
 have h1:(1:Int)>0:=by omega
 simp only[h1,if_true,Int.ediv_one]
 split<;>omega
theorem Wr{v:Value}{o:Option Int}{Q:Option Int->Shared->Prop}(p:IsPart v o)(h:Q o s):wpAny (model prog w) A (Builtin.Slice.slicePartIndex v) Q E s:=by
 cases p with
 |none=>exact slicePart_none h
 |int i t=>exact slicePart_int h
theorem QW{sl:Addr}{vl vu:Value}{lo hi:Option Int}{n:Nat}{Q:Int×Int×Nat->Shared->Prop}(hs:s.heap.IsSliceOf sl vl vu .none)(pl:IsPart vl lo)(pu:IsPart vu hi)
  (h:Q (((sIx n 0 lo:Nat):Int),1,sIx n n hi-sIx n 0 lo) s):wpAny (model prog w) A (Builtin.Slice.sliceApplied (.ref sl) (pure (n:Int))) Q E s:=by
 obtain⟨os,hos,hcs,hds⟩:=id hs
 unfold Builtin.Slice.sliceApplied Builtin.Slice.sliceFields
 refine U0 (U0 (U2l hos hds (x:=vl) rfl (U0 (U2l hos hds (x:=vu) rfl (U0 (U2l hos hds (x:=.none) rfl (U0f ?_)))))))
 refine U0 (slicePart_none ?_)
 show wpAny _ _ (if ((1:Int)==0)=true then _ else _) _ _ s
 rw[if_neg (by decide)]
 refine U0 (Wr pl (U0 (Wr pu (U0 (U0f ?_)))))
 show wpAny _ _ (match U5r lo hi 1 (n:Int) with|(lo,hi)=>pure (lo,(1:Int),U4m lo hi 1)) _ _ s
 rw[jY lo hi n]
 show wpAny _ _ (pure (((sIx n 0 lo:Nat):Int),(1:Int),U4m ((sIx n 0 lo:Nat):Int) ((sIx n n hi:Nat):Int) 1)) _ _ s
 rw[j6]
 exact U0f h
theorem qG(xs:Array Value)(i k:Nat):((U0g k).filterMap fun(m:Nat)=>xs[((i:Int)+(m:Int)*1).toNat]?).toArray=((xs.toList.drop i).take k).toArray:=by
 have e:(fun(m:Nat)=>xs[((i:Int)+(m:Int)*1).toNat]?)=fun m=>xs[i+m]?:=by
  funext m
  have:((i:Int)+(m:Int)*1).toNat=i+m:=by omega
  rw[this]
 rw[e]
 have:=pick_run xs i k
 rw[U43] at this
 have e2:((fun x=>xs[x]?)∘fun x=>i+x)=fun m=>xs[i+m]?:=rfl
 rw[e2] at this
 rw[this]
theorem VL{t sl:Addr}{items:Array Value}{vl vu:Value}{lo hi:Option Int}{Q:Value->Shared->Prop}(ht:IsTup s.heap t items)(hs:s.heap.IsSliceOf sl vl vu .none)(pl:IsPart vl lo)(pu:IsPart vu hi)
  (hw:¬(sIx items.size 0 lo=0/\sIx items.size items.size hi=items.size))
  (h:Q (.ref s.heap.objs.size) { s with heap:=s.heap.push { cls:=.type "tuple",data:=.seq ((items.toList.drop (sIx items.size 0 lo)).take (sIx items.size items.size hi-sIx items.size 0 lo)).toArray } })
  (hsz:items.size<=sizeLine):wpAny (model prog w) A (getItem (.ref t) (.ref sl)) Q E s:=by
 have htake:sizeOk (.seq ((items.toList.drop (sIx items.size 0 lo)).take (sIx items.size items.size hi-sIx items.size 0 lo)).toArray):=by
  show((items.toList.drop (sIx items.size 0 lo)).take (sIx items.size items.size hi-sIx items.size 0 lo)).toArray.size<=sizeLine
  rw[U0s,U19,U6j,U1u]
  omega
 have hj:sIx items.size items.size hi<=items.size:=yO _ _ (U0t _) hi
 obtain⟨os,hos,hcs,hds⟩:=id hs
 have hTs:s.TypeIs (.ref sl) "slice":=⟨os,hos,hcs⟩
 unfold getItem
 try with_reducible refine U2j ?_
 first|refine U0 (U0f ?_)|skip
 refine U0 (wpAny_sequenceKey ht.typeIs (by decide) ?_)
 refine U0 (wpAny_callSpecial?_slot (name:=U3r "__getitem__") ht.typeIs U27
  (U2p U27 ht.typeIs entry_tuple_getitem ?_ (args_tuple_getitem _ _)))
 show wpAny _ _ (Builtin.Tuple.tupleItemsOf (.ref t) >>= _) _ _ s
 refine U0 (tupleItemsOf_ ht ?_)
 refine U0 (U5v hTs ?_)
 rw[if_pos (by decide)]
 refine U0 (QW hs pl pu ?_)
 have hno:¬((((sIx items.size 0 lo:Nat):Int)==0&&(1:Int)==1&&(sIx items.size items.size hi-sIx items.size 0 lo)==items.size)=true):=by
  intro q
  rw[U1h,U1h] at q
  have q1:((sIx items.size 0 lo:Nat):Int)=0:=eq_of_beq q.1.1
  have q2:sIx items.size items.size hi-sIx items.size 0 lo=items.size:=eq_of_beq q.2
  exact hw ⟨by omega,by omega⟩
 show wpAny _ _ (if (((sIx items.size 0 lo:Nat):Int)==0&&(1:Int)==1&&(sIx items.size items.size hi-sIx items.size 0 lo)==items.size)=true then _ else _) _ _ s
 rw[if_neg hno,qG]
 first
  |exact U0 (m:=U4t _) (U2i (U0f ⟨_,rfl,U0f h⟩) htake)
  |exact U0 (m:=U4t _) (U2i (U0 (U0f (U0f ⟨_,rfl,U0f h⟩))) htake)
  |exact U0 (U0 (m:=U4t _) (U2i (U0f (U0f ⟨_,rfl,U0f h⟩)) htake))
  |exact U0 (U0 (m:=U4t _) (U2i (U0f ⟨_,rfl,U0f h⟩) htake))
end
end HT
namespace L2
open PySem PySem.Spec PyProof.Rows
abbrev TO:=St->Hp->(Option Int->Hp->Prop)->Prop
def PO(X:Cx)(e:Option Expr)(t:TO):Prop :=
 ∀(pins:List (Addr×Obj))(s:Shared)(σ:St)(H:Hp)(Q:Option Int->Hp->Prop),Inv X pins σ H s->t σ H Q ->
  wpAny (model X.prog X.w) X.A (evalPart e X.env) (fun u s'=>∃o H',Inv X pins σ H' s'/\IsPart u o/\Q o H') X.xe s
def tO:TO:=fun _ H Q=>Q none H
def Jau(t:TE):TO:=fun σ H Q=>t σ H fun x H1=>∃i,x=.int i/\Q (some i) H1
theorem intsAre_of{ns:List Int}:∀{us:List Value},Vals (ns.map V.int) us->IntsAre us ns:=by
 induction ns with
 |nil=>intro us r;rw[U08] at r;cases r;exact .nil
 |cons n ns ih =>
  intro us r
  rw[U0m] at r
  cases r with
  |cons r1 r2 =>
   obtain⟨t,e⟩:=r1
   subst e
   exact .cons n t (ih r2)
section
variable{X:Cx}{e:Expr}{te:TE}{lo hi:Option Expr}{tl th:TO}{pos p2:Pos}
theorem uK:PO X none tO:=by
 intro pins s σ H Q I h
 rw[evalPart_none]
 exact U0f ⟨none,H,I,.none,h⟩
theorem uJ(h:PE X e te):PO X (some e) (Jau te):=by
 intro pins s σ H Q I hw
 rw[evalPart_some]
 refine thn (h pins s σ H _ I hw) fun u s1 ⟨x,H1,I1,r1,q1⟩=>?_
 obtain⟨i,rfl,q⟩:=q1
 obtain⟨t,rfl⟩:=r1
 exact⟨some i,H1,I1,.int i t,q⟩
def SlR(X:Cx)(r:V->Option Int->Option Int->Hp->VK->Prop):Prop :=
 ∀(pins:List (Addr×Obj))(s:Shared)(σ:St)(H:Hp)(x:V)(v vl vu:Value)(lo hi:Option Int)(sl:Addr)(Q:VK),Inv X pins σ H s->RelV x v->s.heap.IsSliceOf sl vl vu .none->IsPart vl lo->IsPart vu hi->r x lo hi H Q ->
  ∃T id,typeLookup (.type T) "__getitem__"=pure (some (.builtin id))/\s.TypeIs v T/\wpAny (model X.prog X.w) X.A (getItem v (.ref sl)) (EP X pins σ Q) X.xe s
theorem SlR.or{r r':V->Option Int->Option Int->Hp->VK->Prop}(h:SlR X r)(h':SlR X r'):SlR X (fun x lo hi H Q=>r x lo hi H Q∨r' x lo hi H Q):=by
 intro pins s σ H x v vl vu lo hi sl Q I rx hs pl pu q
 rcases q with q|q
 .exact h pins s σ H x v vl vu lo hi sl Q I rx hs pl pu q
 .exact h' pins s σ H x v vl vu lo hi sl Q I rx hs pl pu q
def tSl(r:V->Option Int->Option Int->Hp->VK->Prop)(te:TE)(tl th:TO):TE:=fun σ H Q=>te σ H fun x H1=>tl σ H1 fun l H2=>th σ H2 fun u H3=>r x l u H3 Q
theorem qI{r:V->Option Int->Option Int->Hp->VK->Prop}(hr:SlR X r)(he:PE X e te)(hl:PO X lo tl)(hu:PO X hi th):PE X (.Subscript e (.Slice lo hi none p2) pos) (tSl r te tl th):=by
 intro pins s σ H Q I h
 refine Subscript_ (thn (he pins s σ H _ I h) fun v s1 ⟨x,H1,I1,r1,q1⟩=>?_)
 refine wpAny_Slice (thn (hl pins s1 σ H1 _ I1 q1) fun vl s2 ⟨l,H2,I2,pl,q2⟩=>thn (hu pins s2 σ H2 _ I2 q2) fun vu s3 ⟨u,H3,I3,pu,q3⟩=>?_)
 rw[evalPart_none]
 refine U0f ?_
 have I4:Inv X pins σ H3 { s3 with heap:=s3.heap.push { cls:=.type "slice",data:=.fields #[vl,vu,.none] } }:=I3.kept (t':=s3.toks) fun b ob q=>U0d _ q
 obtain⟨T,id,hT,ht,hg⟩:=hr pins { s3 with heap:=s3.heap.push { cls:=.type "slice",data:=.fields #[vl,vu,.none] } } σ H3 x v vl vu l u s3.heap.objs.size Q I4 r1 (U69 ..) pl pu q3
 show wpAny (model X.prog X.w) X.A (subscriptTail e (.Slice lo hi none p2) v (.ref s3.heap.objs.size)) (EP X pins σ Q) X.xe { s3 with heap:=s3.heap.push { cls:=.type "slice",data:=.fields #[vl,vu,.none] } }
 exact tail_any (ops:=[.ref s3.heap.objs.size,v]) ht hT hg (by with_unfolding_all rfl)
def Mf(xs:List V)(lo hi:Option Int):List V:=(xs.drop (HT.sIx xs.length 0 lo)).take (HT.sIx xs.length xs.length hi-HT.sIx xs.length 0 lo)
theorem Vm(xs:List V)(lo hi:Option Int):(Mf xs lo hi).length<=xs.length:=by
 unfold Mf
 rw[U19,U6j]
 omega
def Jcb(K:U0b):V->Option Int->Option Int->Hp->VK->Prop:=fun x lo hi H Q=>∃a xs,x=.ref a/\SqT K H a xs /\
 ¬(HT.sIx xs.length 0 lo=0/\HT.sIx xs.length xs.length hi=xs.length)/\∀p,H p=none->Q (.ref p) (upd H p (.tup (Mf xs lo hi)))
theorem yM:SlR X (Jcb X.K):=by
 intro pins s σ H x v vl vu lo hi sl Q I rx hs pl pu h
 obtain⟨a,xs,rfl,hx,hw,q⟩:=h
 cases rx
 obtain⟨its,r,ht,hz⟩:=I.tuple hx
 have hlen:its.toArray.size=xs.length:=by rw[U0s];exact r.length.symm
 refine⟨"tuple",_,U27.lookup,ht.typeIs,?_⟩
 refine HT.VL ht hs pl pu (by rw[hlen];exact hw) ?_ (by rw[hlen];exact hz)
 rw[hlen]
 refine⟨.ref s.heap.objs.size,_,I.laid (t':=s.toks) (o:=.tup (Mf xs lo hi)) (fun b ob q=>U0d _ q) (U0t _) ?_,rfl,q _ (I.hok.fresh (U0t _))⟩
 exact⟨U1a (Vm xs lo hi) hz,_,(r.drop (HT.sIx xs.length 0 lo)).take (HT.sIx xs.length xs.length hi-HT.sIx xs.length 0 lo),IsTup.new _ _⟩
def Ja4(K:U0b):R2:=fun x y H Q=>∃a b xs ys,x=.ref a/\y=.ref b/\SqT K H a xs/\SqT K H b ys/\xs≠[]/\xs.length+ys.length<=sizeLine /\
 (ys=[]->Q (.ref a) H)/\(ys≠[]->∀p,H p=none->Q (.ref p) (upd H p (.tup (xs++ys))))
theorem Vals.V1{xs:List V}{us:List Value}(r:Vals xs us):us=[]↔xs=[]:=by
 cases r with
 |nil=>simp
 |cons _ _=>simp
theorem uU:OpR X (binaryOp .Add) (Ja4 X.K):=by
 intro pins s σ H x y v u Q I rx ry h
 obtain⟨a,b,xs,ys,rfl,rfl,ha,hb,hx,hz,q1,q2⟩:=h
 cases rx
 cases ry
 obtain⟨its,r1,p1,_⟩:=I.tuple ha
 obtain⟨its2,r2,p2,_⟩:=I.tuple hb
 refine HT.vp p1 p2 (fun z=>hx (r1.V1.mp z)) (fun z=>⟨.ref a,H,I,rfl,q1 (r2.V1.mp z)⟩) (fun z=>?_) (by rw[←r1.length,←r2.length];exact hz)
 refine⟨.ref s.heap.objs.size,_,I.laid (t':=s.toks) (o:=.tup (xs++ys)) (fun b ob q=>U0d _ q) (U0t _) ?_,rfl,q2 (fun w=>z (r2.V1.mpr w)) _ (I.hok.fresh (U0t _))⟩
 exact⟨by rw[U0r];exact hz,_,r1.append r2,IsTup.new _ _⟩
end
end L2
namespace L2
open PySem PySem.Spec PyProof.Rows
def ixN(n:Nat)(i:Int):Option Nat:=if 0<=i then (if i<n then some i.toNat else none) else if -(n:Int)<=i then some (i+n).toNat else none
def atI{α:Type}(xs:List α)(i:Int):Option α:=(ixN xs.length i).bind fun j=>xs[j]?
theorem gO{n:Nat}{i:Int}{j:Nat}(h:ixN n i=some j):seqIndex? i n=some j/\j<n/\-(n:Int)<=i/\i<n:=by
 unfold ixN at h
 by_cases h0:0<=i
 .rw[if_pos h0] at h
  by_cases h1:i<n
  .rw[if_pos h1] at h
   have e:i.toNat=j:=U1c h
   exact⟨by rw[seqIndex_of h0 h1,e],by omega,by omega,h1⟩
  .rw[if_neg h1] at h;cases h
 .rw[if_neg h0] at h
  by_cases h1:-(n:Int)<=i
  .rw[if_pos h1] at h
   have e:(i+n).toNat=j:=U1c h
   exact⟨by rw[seqIndex_neg (by omega) h1,e],by omega,h1,by omega⟩
  .rw[if_neg h1] at h;cases h
theorem Y5{α:Type}{xs:List α}{i:Int}{v:α}(h:atI xs i=some v):∃j,seqIndex? i xs.length=some j/\xs[j]?=some v/\j<xs.length/\-(xs.length:Int)<=i/\i<xs.length:=by
 unfold atI at h
 cases e:ixN xs.length i with
 |none=>rw[e] at h;cases h
 |some j =>
  rw[e] at h
  obtain⟨h1,h2,h3,h4⟩:=gO e
  exact⟨j,h1,h,h2,h3,h4⟩
theorem Nj{α:Type}{xs:List α}{j:Nat}{v:α}(h:xs[j]?=some v):atI xs (j:Int)=some v:=by
 have hj:j<xs.length:=(U0n.mp h).1
 have e:ixN xs.length (j:Int)=some j:=by
  unfold ixN
  rw[if_pos (by omega),if_pos (by omega)];simp
 unfold atI;rw[e];exact h
theorem SN{α:Type}(xs:List α)(v:α):atI (xs++[v]) (-1)=some v:=by
 have hl:(xs++[v]).length=xs.length+1:=by simp
 have e:ixN (xs++[v]).length (-1)=some xs.length:=by
  unfold ixN
  rw[hl,if_neg (by decide),if_pos (by omega)]
  congr 1
  omega
 unfold atI
 rw[e]
 show(xs++[v])[xs.length]?=some v
 simp
def V9(b:Expr):Prop:=∀o i,subscripted b false o i=operate [o,i] (getItem o i)
def IxR(X:Cx)(r:R2):Prop :=
 ∀(value slice:Expr)(pins:List (Addr×Obj))(s:Shared)(σ:St)(H:Hp)(x y:V)(v u:Value)(Q:VK),Inv X pins σ H s->RelV x v->RelV y u->r x y H Q ->
  subscripted slice false v u=operate [v,u] (getItem v u)->wpAny (model X.prog X.w) X.A (subscriptTail value slice v u) (EP X pins σ Q) X.xe s
def MtR(X:Cx)(id:String)(r:V->List V->Hp->VK->Prop):Prop :=
 ∀(pins:List (Addr×Obj))(s:Shared)(σ:St)(H:Hp)(x:V)(xs:List V)(v:Value)(us:List Value)(Q:VK),Inv X pins σ H s->RelV x v->Vals xs us->r x xs H Q ->
  wpAny (model X.prog X.w) X.A (call (.builtin id) (v::us)) (EP X pins σ Q) X.xe s
section
variable{X:Cx}{a b:Expr}{ta tb:TE}{pos:Pos}
theorem IxR.or{r r':R2}(h:IxR X r)(h':IxR X r'):IxR X (fun x y H Q=>r x y H Q∨r' x y H Q):=by
 intro value slice pins s σ H x y v u Q I rx ry q hs
 rcases q with q|q
 .exact h value slice pins s σ H x y v u Q I rx ry q hs
 .exact h' value slice pins s σ H x y v u Q I rx ry q hs
theorem Ja9{r:R2}(hr:IxR X r)(ha:PE X a ta)(hb:PE X b tb)(hs:V9 b):PE X (.Subscript a b pos) (tOp r ta tb):=by
 intro pins s σ H Q I h
 exact Subscript_ (iJ ha hb I h fun v u s2 x y H2 I2 rx ry q=>hr a b pins s2 σ H2 x y v u Q I2 rx ry q (hs _ _))
def xW(K:U0b):R2:=fun x y H Q=>∃p xs i v,x=.ref p/\y=.int i/\SqL K H p xs/\atI xs i=some v/\Q v H
def xU(K:U0b):R2:=fun x y H Q=>∃p xs i v,x=.ref p/\y=.int i/\SqT K H p xs/\atI xs i=some v/\Q v H
def xV:R2:=fun x y H Q=>∃z i c,x=.str z/\y=.int i/\z.length<=sizeLine/\atI z.cps.toList i=some c/\Q (.str ⟨#[c]⟩) H
theorem vH:IxR X (xW X.K):=by
 intro value slice pins s σ H x y v u Q I rx ry h hs
 obtain⟨p,xs,i,z,rfl,rfl,hq,he,q⟩:=h
 cases rx
 obtain⟨t,rfl⟩:=ry
 obtain⟨its,r,pl,hz⟩:=I.list hq
 obtain⟨j,h1,h2,h3,h4,h5⟩:=Y5 he
 obtain⟨w,ew,rw'⟩:=r.get h2
 have hl:=r.length
 have hn:=Tg
 have fin:EP X pins σ Q w s:=⟨z,H,I,rw',q⟩
 by_cases h0:0<=i
 .have hj:i.toNat=j:=by
   rw[seqIndex_of h0 h5] at h1
   exact U1c h1
  exact item_listR pl.isList h0 (by omega) (by rw[hj];simpa using ew) fin hs
 .have hj:(i+(its.toArray.size:Int)).toNat=j:=by
   rw[seqIndex_neg (by omega) h4] at h1
   rw[U0s,←hl]
   exact U1c h1
  exact subscriptTail_builtinR (x:=w) pl.isList.typeIs slot_list_getitem.lookup
   (wpAny_getItem_list_neg (Q:=fun r s'=>r=w/\EP X pins σ Q r s') pl.isList (by omega) (by rw[U0s]<;>omega) (by omega) (by rw[hj];simpa using ew) ⟨rfl,fin⟩) hs
theorem zW:IxR X (xU X.K):=by
 intro value slice pins s σ H x y v u Q I rx ry h hs
 obtain⟨p,xs,i,z,rfl,rfl,hq,he,q⟩:=h
 cases rx
 obtain⟨t,rfl⟩:=ry
 obtain⟨its,r,pl,hz⟩:=I.tuple hq
 obtain⟨j,h1,h2,h3,h4,h5⟩:=Y5 he
 obtain⟨w,ew,rw'⟩:=r.get h2
 have hl:=r.length
 have hn:=Tg
 have fin:EP X pins σ Q w s:=⟨z,H,I,rw',q⟩
 exact subscriptTail_builtinR (x:=w) pl.typeIs slot_tuple_getitem.lookup
  (getItem_tuple (j:=j) (Q:=fun r s'=>r=w/\EP X pins σ Q r s') pl (by omega) (by omega) (by rw[U0s,←hl];exact h1) (by simpa using ew) ⟨rfl,fin⟩) hs
theorem zX:IxR X xV:=by
 intro value slice pins s σ H x y v u Q I rx ry h hs
 obtain⟨z,i,c,rfl,rfl,hz,he,q⟩:=h
 obtain⟨t,rfl⟩:=rx
 obtain⟨t',rfl⟩:=ry
 obtain⟨j,h1,h2,h3,h4,h5⟩:=Y5 he
 have hl:z.cps.toList.length=z.length:=by simp[Str.length]
 rw[hl] at h1 h4 h5
 have hn:=Tg
 exact tail_any (typeIs_str s z t) slot_str_getitem.lookup (getItem_str (c:=c) (by
  have e1:decide (i < -(2^63:Int))=false:=decide_eq_false (by omega)
  have e2:decide (i≥2^63)=false:=decide_eq_false (by omega)
  rw[e1,e2,Bool.or_false]) (by rw[h1];simpa using h2) ⟨.str ⟨#[c]⟩,H,I.tok _,⟨_,rfl⟩,q⟩) hs
def rIx(K:U0b):R2:=fun x y H Q=>xW K x y H Q∨xU K x y H Q∨xV x y H Q
theorem Bf:IxR X (rIx X.K):=vH.or (zW.or zX)
theorem jG(its:List Value)(n j:Nat)(u:Value):U2m (·.setIfInBounds j u) { cls:=.type "list",data:=.seq its.toArray n }={ cls:=.type "list",data:=.seq (its.set j u).toArray n }:=by
 simp[U2m]
theorem Inv.lst{pins:List (Addr×Obj)}{σ:St}{H:Hp}{s:Shared}{p:Addr}{xs:List V}(I:Inv X pins σ H s)(h:H p=some (.lst xs)) :
  ∃(its:List Value)(n:Nat),Vals xs its/\s.heap.get? p=some { cls:=.type "list",data:=.seq its.toArray n }/\xs.length<=sizeLine:=by
 obtain⟨z,its,n,r,e⟩:=I.hok p _ h
 exact⟨its,n,r,e,z⟩
theorem Inv.zL{pins:List (Addr×Obj)}{σ:St}{H:Hp}{s:Shared}{p:Addr}{xs ys:List V}{its its':List Value}{n n':Nat}{f:Obj->Obj}(I:Inv X pins σ H s)(h:H p=some (.lst xs))
  (ho:s.heap.get? p=some { cls:=.type "list",data:=.seq its.toArray n }) (hf:f { cls:=.type "list",data:=.seq its.toArray n }={ cls:=.type "list",data:=.seq its'.toArray n' }) (r:Vals ys its') (hz:ys.length<=sizeLine) (t:Nat) :
  Inv X pins σ (upd H p (.lst ys)) { s with heap:=s.heap.update p f,toks:=t }:=by
 have e:(s.heap.update p f).get? p=some { cls:=.type "list",data:=.seq its'.toArray n' }:=by
  rw[U18 f ho (by rw[hf]<;>rfl),hf]
 refine I.write (x:=p) (e:=p) (by rw[h];trivial) (.inl rfl) (fun b u hb q=>(U1d _ _ (U1y hb)).trans q) ⟨_,e⟩ ?_
 exact⟨hz,its',n',r,e⟩
def Ja2:V->V->V->Hp->(Hp->Prop)->Prop:=fun o i v H Q=>∃p xs k j,o=.ref p/\i=.int k/\H p=some (.lst xs)/\ixN xs.length k=some j/\Q (upd H p (.lst (xs.set j v)))
theorem set_list:yC X Ja2:=by
 intro pins s σ H o i v ov iv u Q I ro ri rv h
 obtain⟨p,xs,k,j,rfl,rfl,hp,hj,q⟩:=h
 cases ro
 obtain⟨t,rfl⟩:=ri
 obtain⟨its,n,r,ho,hz⟩:=I.lst hp
 obtain⟨h1,h2,h3,h4⟩:=gO hj
 have hl:=r.length
 have hn:=Tg
 have I':Inv X pins σ (upd H p (.lst (xs.set j v))) { s with heap:=s.heap.update p (U2m (·.setIfInBounds j u)) } :=
  I.zL hp ho (jG its n j u) (r.set rv j) (by rw[U30];exact hz) s.toks
 by_cases h0:0<=k
 .have hk:k.toNat=j:=by
   rw[seqIndex_of h0 h4] at h1
   exact U1c h1
  exact PySem.W.ki_setAt ho h0 (by omega) (by rw[U0s,←hl];exact h4) (by rw[hk];exact⟨_,I',q⟩)
 .have hk:(k+(its.toArray.size:Int)).toNat=j:=by
   rw[seqIndex_neg (by omega) h3] at h1
   rw[U0s,←hl]
   exact U1c h1
  exact PySem.W.ki_setBack ho (by omega) (by rw[U0s,←hl];exact h3) (by omega) (by rw[hk];exact⟨_,I',q⟩)
theorem cO(lo hi:Option Int)(n:Nat):(sliceBounds lo hi none n).1=((HT.sIx n 0 lo:Nat):Int)/\(sliceBounds lo hi none n).2.1=((HT.sIx n n hi:Nat):Int)/\(sliceBounds lo hi none n).2.2=1:=by
 refine⟨?_,?_,rfl⟩
 .cases lo with
  |none=>simp[sliceBounds,HT.sIx]
  |some i =>
   simp only[sliceBounds,HT.sIx,Option.getD_none,show(1:Int)>0 by decide,if_true]
   by_cases h:i<0
   .simp only[h,if_true]<;>omega
   .simp only[h,if_false]<;>omega
 .cases hi with
  |none=>simp[sliceBounds,HT.sIx]
  |some i =>
   simp only[sliceBounds,HT.sIx,Option.getD_none,show(1:Int)>0 by decide,if_true]
   by_cases h:i<0
   .simp only[h,if_true]<;>omega
   .simp only[h,if_false]<;>omega
theorem Z5(its:List Value)(lo hi:Option Int):slicePick its.toArray lo hi none=((its.drop (HT.sIx its.length 0 lo)).take (HT.sIx its.length its.length hi-HT.sIx its.length 0 lo)).toArray:=by
 obtain⟨h1,h2,h3⟩:=cO lo hi its.toArray.size
 unfold slicePick
 rw[h1,h2,h3]
 simp only[sliceRange_one,pick_run,U0s]<;>rfl
def xM(K:U0b):V->Option Int->Option Int->Hp->VK->Prop:=fun x lo hi H Q=>∃a xs,x=.ref a/\SqL K H a xs/\∀p,H p=none->Q (.ref p) (upd H p (.lst (Mf xs lo hi)))
theorem tR:SlR X (xM X.K):=by
 intro pins s σ H x v vl vu lo hi sl Q I rx hs pl pu h
 obtain⟨a,xs,rfl,hx,q⟩:=h
 cases rx
 obtain⟨its,r,ht,hz⟩:=I.list hx
 have hlen:=r.length
 refine⟨"list",_,slot_list_getitem.lookup,ht.isList.typeIs,?_⟩
 refine U5w ht.isList hs pl pu .none (by simp) ?_ (by rw[U0s]<;>omega)
 rw[Z5,←hlen]
 refine⟨.ref s.heap.objs.size,_,I.laid (t':=s.toks) (o:=.lst (Mf xs lo hi)) (fun b ob q=>U0d _ q) (U0t _) ?_,rfl,q _ (I.hok.fresh (U0t _))⟩
 exact⟨U1a (Vm xs lo hi) hz,_,0,(r.drop (HT.sIx xs.length 0 lo)).take (HT.sIx xs.length xs.length hi-HT.sIx xs.length 0 lo),U0v _ rfl⟩
theorem Dd:Eb X (.builtin "len") (fun xs H Q=>∃p ys,xs=[.ref p]/\(SqL X.K H p ys∨SqT X.K H p ys)/\Q (.int ys.length) H):=by
 intro pins s σ H xs us Q I r h
 obtain⟨p,ys,rfl,hq,q⟩:=h
 obtain⟨u,rfl,rx⟩:=vals1 r
 cases rx
 have hn:=Tg
 rcases hq with hq|hq
 .obtain⟨its,r',pl,hz⟩:=I.list hq
  have hlen:=r'.length
  exact Calls.call_len_list pl.isList (by simp only[U0s]<;>omega) ⟨.int ys.length,H,I.tok _,⟨s.toks+1,by rw[U0s,hlen]⟩,q⟩
 .obtain⟨its,r',pl,hz⟩:=I.tuple hq
  have hlen:=r'.length
  exact len_tuple pl (by simp only[U0s]<;>omega) ⟨.int ys.length,H,I.tok _,⟨s.toks+1,by rw[U0s,hlen]⟩,q⟩
theorem Eb.or{f:Value}{r r':List V->Hp->VK->Prop}(h:Eb X f r)(h':Eb X f r'):Eb X f (fun xs H Q=>r xs H Q∨r' xs H Q):=by
 intro pins s σ H xs us Q I rs q
 rcases q with q|q
 .exact h pins s σ H xs us Q I rs q
 .exact h' pins s σ H xs us Q I rs q
theorem Ux:Eb X (.type "list") (fun xs H Q=>∃p ys,xs=[.ref p]/\(SqL X.K H p ys∨SqT X.K H p ys)/\∀l,H l=none->Q (.ref l) (upd H l (.lst ys))):=by
 intro pins s σ H xs us Q I r h
 obtain⟨p,ys,rfl,hq,q⟩:=h
 obtain⟨u,rfl,rx⟩:=vals1 r
 cases rx
 have fin:∀(its:List Value),Vals ys its->ys.length<=sizeLine->∀(h':Heap)(c':Nat),(∀b o',s.heap.get? b=some o'->h'.get? b=some o') ->
   h'.get? s.heap.objs.size=some { cls:=.type "list",dict:=none,data:=.seq its.toArray c',slots:=#[] }->EP X pins σ Q (.ref s.heap.objs.size) { s with heap:=h' }:=fun its r' hz h' c' kp e =>
  ⟨.ref s.heap.objs.size,_,I.laid (t':=s.toks) kp (U0t _) (show FJ X.prog X.w _ h' _ (.lst ys) from ⟨hz,its,c',r',e⟩),rfl,q _ (I.hok.fresh (U0t _))⟩
 rcases hq with hq|hq
 .obtain⟨its,r',pl,hz⟩:=I.list hq
  have hlen:=r'.length
  obtain⟨o,ho,hc,n,hd⟩:=pl.isList
  exact call_list_seq p (.inl rfl) ho hc hd (fun h' c' kp e=>fin its r' hz h' c' kp e) (by simp only[U0s]<;>omega)
 .obtain⟨its,r',pl,hz⟩:=I.tuple hq
  have hlen:=r'.length
  obtain⟨o,ho,hc,n,hd⟩:=pl
  exact call_list_seq p (.inr rfl) ho hc hd (fun h' c' kp e=>fin its r' hz h' c' kp e) (by simp only[U0s]<;>omega)
theorem Ov:Eb X (.type "tuple") (fun xs H Q=>∃p ys,xs=[.ref p]/\((SqL X.K H p ys/\∀l,H l=none->Q (.ref l) (upd H l (.tup ys)))∨(SqT X.K H p ys/\Q (.ref p) H))):=by
 intro pins s σ H xs us Q I r h
 obtain⟨p,ys,rfl,h⟩:=h
 obtain⟨u,rfl,rx⟩:=vals1 r
 cases rx
 rcases h with ⟨hq,q⟩|⟨hq,q⟩
 .obtain⟨its,r',pl,hz⟩:=I.list hq
  have hlen:=r'.length
  refine call_tuple_list pl.isList (fun h' kp=>?_) (by simp only[U0s]<;>omega)
  have I1:Inv X pins σ H { s with heap:=h' }:=I.kept (t':=s.toks) kp
  have I2:Inv X pins σ (upd H h'.objs.size (.tup ys)) { s with heap:=h'.push { cls:=.type "tuple",data:=.seq its.toArray } } :=
   I1.laid (t':=s.toks) (fun b o e=>U0d _ e) (U0t _) (show FJ X.prog X.w _ _ _ (.tup ys) from ⟨hz,its,r',IsTup.new _ _⟩)
  exact⟨.ref h'.objs.size,_,I2,rfl,q _ (I1.hok.fresh (U0t _))⟩
 .obtain⟨its,r',pl,hz⟩:=I.tuple hq
  exact call_tuple_same pl ⟨.ref p,H,I,rfl,q⟩
def tyV(K:U0b)(T:String)(x:V)(H:Hp):Prop:=match x with
 |.str _=>T="str"
 |.int _=>T="int"
 |.ref p=>(T="list"/\∃xs,SqL K H p xs)∨(T="tuple"/\∃o,K.lookup p=some o/\o.cls=.type "tuple"/\o.dict=none) ∨
   (T="dict"/\((∃kvs,H p=some (.dK kvs))∨∃kvs,H p=some (.dT kvs)))∨(T="set"/\∃S n,H p=some (.set S n))
 |_=>False
theorem jZ{pins:List (Addr×Obj)}{σ:St}{H:Hp}{s:Shared}{T:String}{x:V}{v:Value}(I:Inv X pins σ H s)(r:RelV x v)(ty:tyV X.K T x H) :
  s.TypeIs v T/\∀a,v=.ref a->∃ob,s.heap.get? a=some ob/\ob.dict=none:=by
 cases x with
 |str z =>
  obtain⟨t,rfl⟩:=r
  cases (show T="str" from ty)
  exact⟨typeIs_str s z t,fun _ e=>nomatch e⟩
 |int i =>
  obtain⟨t,rfl⟩:=r
  cases (show T="int" from ty)
  exact⟨typeIs_int s i t,fun _ e=>nomatch e⟩
 |ref p =>
  cases r
  rcases ty with ⟨rfl,xs,hq⟩|⟨rfl,o,hk,hc,hd⟩|⟨rfl,hk⟩|⟨rfl,S,n,hk⟩
  .obtain⟨its,_,pl,_⟩:=I.list hq
   refine⟨pl.isList.typeIs,fun a e=>?_⟩
   cases e
   obtain⟨o,n,e,c,hd,_⟩:=pl
   exact⟨o,e,hd⟩
  .refine⟨⟨o,I.kIn p o hk,hc⟩,fun a e=>?_⟩
   cases e
   exact⟨o,I.kIn _ o hk,hd⟩
  .have z:∃o,s.heap.get? p=some o/\o.ExactDict:=by
    rcases hk with ⟨kvs,hk⟩|⟨kvs,hk⟩
    .obtain⟨_,_,_,_,o,_,_,e,ex,_⟩:=I.hok p _ hk
     exact⟨o,e,ex⟩
    .obtain⟨_,_,_,_,o,_,_,e,ex,_⟩:=I.hok p _ hk
     exact⟨o,e,ex⟩
   obtain⟨o,e,ex⟩:=z
   refine⟨⟨o,e,ex.1⟩,fun a e2=>?_⟩
   cases e2
   exact⟨o,e,ex.2.1⟩
  .obtain⟨o,_,_,_,e,ex,_⟩:=I.hok p _ hk
   refine⟨⟨o,e,ex.1⟩,fun a e2=>?_⟩
   cases e2
   exact⟨o,e,ex.2.1⟩
 |_=>exact U4l ty
def wz(K:U0b)(T:String)(r:V->List V->Hp->VK->Prop)(to:TE):TE:=fun σ H Q=>to σ H fun x H1=>tyV K T x H1/\r x [] H1 Q
def tBM(K:U0b)(T:String)(r:V->List V->Hp->VK->Prop)(to:TE)(t:TA):TE:=fun σ H Q=>to σ H fun x H1=>tyV K T x H1/\t σ H1 fun xs H2=>r x xs H2 Q
variable{o e:Expr}{es:List Expr}{to:TE}{t:TA}{name:Str}{apos cpos:Pos}{T id:String}{r:V->List V->Hp->VK->Prop}
theorem yu(pa:PlainAttrs T)(slot:Slot T name id)(hty:typeOf (.builtin id)=pure (.type "method_descriptor"))(hm:MtR X id r)(ho:PE X o to)
  (hbase:attributeBase o name X.env (eval o X.env)=eval o X.env:=by rfl) (hline:(apos.endLine==cpos.line)=true:=by rfl):PE X (.Call (.Attribute o name apos) [] [] cpos) (wz X.K T r to):=by
 intro pins s σ H Q I h
 refine wpAny_Call_method0_late hbase hline (thn (ho pins s σ H _ I h) fun v s1 ⟨x,H1,I1,r1,ty,q1⟩=>?_)
 obtain⟨h1,h2⟩:=jZ I1 r1 ty
 exact⟨T,id,pa,slot,hty,h1,h2,Calls.callWith_builtin rfl (PySem.evalArgs_none (hm pins s1 σ H1 x [] v [] Q I1 r1 .nil q1))⟩
theorem Jba(pa:PlainAttrs T)(slot:Slot T name id)(hty:typeOf (.builtin id)=pure (.type "method_descriptor"))(hm:MtR X id r)(ho:PE X o to)(ha:PA X (e::es) t)
  (hbase:attributeBase o name X.env (eval o X.env)=eval o X.env:=by rfl)
  (hfew:((backTo cpos (starEach (e::es) X.env)).all (fun x=>!x.1)&&(backToKw cpos (keywordEach [] X.env)).all (fun x=>x.1.isSome)
   && decide ((e::es).length+([]:List Keyword).length+(if ([]:List Keyword).isEmpty then 0 else 1)<30))=true:=by rfl)
  (hline:(apos.endLine==cpos.line)=true:=by rfl) (hs:starEach (e::es) X.env=(false,eval e X.env)::starEach es X.env:=by rfl) (hplain:(backTo cpos (starEach es X.env)).any (·.1)=false:=by rfl) :
  PE X (.Call (.Attribute o name apos) (e::es) [] cpos) (tBM X.K T r to t):=by
 intro pins s σ H Q I h
 refine wpAny_Call_method_late hbase hfew hline rfl (thn (ho pins s σ H _ I h) fun v s1 ⟨x,H1,I1,r1,ty,q1⟩=>?_)
 obtain⟨h1,h2⟩:=jZ I1 r1 ty
 refine⟨T,id,pa,slot,hty,h1,h2,?_⟩
 have hA:=ha cpos pins s1 σ H1 _ I1 q1
 rw[hs] at hA ⊢
 refine Calls.callWith_builtin (by show(false||(backTo cpos (starEach es X.env)).any (·.1))=false;rw[hplain]<;>rfl) (Calls.evalArgs_plain ?_)
 exact thn hA fun us s2 ⟨vs,H2,I2,r2,q2⟩=>hm pins s2 σ H2 x vs v us Q I2 r1 r2 q2
/- xs.append(e), list.index on a module's tuple .. are MtR facts of 06m -/
end
end L2
namespace L2
open PySem PySem.Spec PyProof.Rows
def MtM(X:Cx)(id:String)(r:V->List V->Hp->VK->Prop):Prop :=
 ∀(pins:List (Addr×Obj))(s:Shared)(σ:St)(H:Hp)(x:V)(xs:List V)(v:Value)(us:List Value)(Q:VK),Inv X pins σ H s->RelV x v->Vals xs us->r x xs H Q ->
  wpAny (model X.prog X.w) X.A (call (.builtin id) (v::us)) (EP X pins σ Q) X.xe s
theorem Vals.one:∀{x:V} {us:List Value},Vals [x] us->∃u,us=[u]/\RelV x u
 |_,_,.cons r .nil=>⟨_,rfl,r⟩
theorem Vals.zero:∀{us:List Value},Vals [] us->us=[]
 |_,.nil=>rfl
theorem Vals.dropLast{xs:List V}{us:List Value}(h:Vals xs us):Vals xs.dropLast us.dropLast:=by
 induction h with
 |nil=>exact .nil
 |cons r t ih =>
  cases t with
  |nil=>exact .nil
  |cons q t'=>exact .cons r ih
theorem Vals.eraseIdx:∀{xs:List V} {us:List Value} (i:Nat),Vals xs us->Vals (xs.eraseIdx i) (us.eraseIdx i)
 |_,_,_,.nil=>.nil
 |_,_,0,.cons _ t=>t
 |_,_,i+1,.cons r t=>.cons r (Vals.eraseIdx i t)
theorem Vals.rep{xs:List V}{us:List Value}(h:Vals xs us):∀k:Nat,Vals (U0l k xs).flatten (U0l k us).flatten
 |0=>.nil
 |k+1=>by
  rw[U0o,U0o,U32,U32]
  exact Vals.append h (Vals.rep h k)
theorem jR{α:Type}(l:List α):l.eraseIdx (l.length-1)=l.dropLast:=by
 induction l with
 |nil=>rfl
 |cons a r ih =>
  cases r with
  |nil=>rfl
  |cons b r =>
   have e:(a::b::r).length-1=((b::r).length-1)+1:=by
    have h1:(a::b::r).length=r.length+2:=rfl
    have h2:(b::r).length=r.length+1:=rfl
    omega
   rw[e,List.eraseIdx_cons_succ,ih]
   all_goals rfl
theorem Yd{α:Type}:∀(l:List α)(i:Nat),(l.eraseIdx i).length<=l.length
 |[],_=>U0t _
 |_::_,0=>U4o _
 |_::r,i+1=>Nat.succ_le_succ (Yd r i)
theorem foldl_rep(its:List Value):∀(k:Nat)(acc:List Value),
  U6p (fun x1 x2=>x1++x2) acc.toArray (U0l k its.toArray)=(acc++(U0l k its).flatten).toArray
 |0,acc=>by simp
 |k+1,acc=>by
  have e:acc.toArray++its.toArray=(acc++its).toArray:=by simp
  have e2:(acc++its)++(U0l k its).flatten=acc++(U0l (k+1) its).flatten:=by
   rw[U0o,U32,U5]
  rw[←e2,←foldl_rep its k (acc++its),←e,U0o,U13]
section
variable{X:Cx}{pins:List (Addr×Obj)}{σ:St}{H:Hp}{s:Shared}{l b:Addr}{xs ys zs:List V}
theorem Inv.iG{its its':List Value}{n:Nat}{f:Array Value->Array Value}{t':Nat}(I:Inv X pins σ H s)(hH:H l=some (.lst xs))
  (e:s.heap.get? l=some { cls:=.type "list",data:=.seq its.toArray n }) (hf:f its.toArray=its'.toArray) (hv:Vals ys its') (hz:ys.length<=sizeLine) :
  Inv X pins σ (upd H l (.lst ys)) { s with heap:=s.heap.update l (U2m f),toks:=t' }:=by
 have q:=PySem.IsL.update e f
 rw[hf] at q
 refine I.write (x:=l) (e:=l) (by rw[hH];exact trivial) (.inl rfl) (fun b' u hb hu=>(U1d s.heap (U2m f) (U1y hb)).trans hu) ⟨_,q⟩ ?_
 exact⟨hz,its',_,hv,q⟩
theorem Inv.xq{its:List Value}{t':Nat}(I:Inv X pins σ H s)(hv:Vals ys its)(hz:ys.length<=sizeLine) :
  Inv X pins σ (upd H s.heap.objs.size (.lst ys)) { s with heap:=s.heap.push { cls:=.type "list",data:=.seq its.toArray },toks:=t' } :=
 I.laid (fun _ _ q=>U0d _ q) (U0t _) ⟨hz,its,0,hv,U0v _ rfl⟩
theorem Inv.fresh(I:Inv X pins σ H s):H s.heap.objs.size=none:=I.hok.fresh (U0t _)
theorem Inv.T9(I:Inv X pins σ H s)(hH:H l=some (.lst xs)):xs.length<=sizeLine/\∃(its:List Value)(n:Nat),Vals xs its/\xs.length=its.length/\s.heap.get? l=some { cls:=.type "list",data:=.seq its.toArray n }:=by
 obtain⟨z,its,n,r,e⟩:=I.hok l _ hH
 exact⟨z,its,n,r,r.length,e⟩
theorem ao{n:Nat}(h:n<=sizeLine):U4u n=false:=by
 unfold U4u
 exact decide_eq_false (by omega)
end
section
variable{X:Cx}
def fY:V->List V->Hp->VK->Prop:=fun x vs H Q=>∃l xs y,x=.ref l/\vs=[y]/\H l=some (.lst xs)/\xs.length<sizeLine/\Q .non (upd H l (.lst (xs++[y])))
theorem HN:MtM X "list.append" fY:=by
 intro pins s σ H x vs v us Q I rx rv h
 obtain⟨l,xs,y,rfl,rfl,hH,hz,q⟩:=h
 cases rx
 obtain⟨u,rfl,ru⟩:=rv.one
 obtain⟨z,its,n,r,hl,e⟩:=I.T9 hH
 refine call_meets F.slot_list_append ⟨_,e,rfl⟩ F.entry_list_append (F.args_list_append_2 _ _) (PySem.list_append l its.toArray n u (by rw[U0s];omega)) ⟨e,?_⟩
 refine⟨.non,_,I.iG (its':=its++[u]) hH e (by simp) (r.append (.cons ru .nil)) ?_,rfl,q⟩
 rw[U0r,U3v]
 omega
def fX:V->List V->Hp->VK->Prop:=fun x vs H Q=>∃l b xs zs,x=.ref l/\vs=[.ref b]/\H l=some (.lst xs)/\H b=some (.lst zs)/\xs.length+zs.length<=sizeLine/\Q .non (upd H l (.lst (xs++zs)))
theorem mL:MtM X "list.extend" fX:=by
 intro pins s σ H x vs v us Q I rx rv h
 obtain⟨l,b,xs,zs,rfl,rfl,hH,hB,hz,q⟩:=h
 cases rx
 obtain⟨u,rfl,ru⟩:=rv.one
 cases ru
 obtain⟨z,its,n,r,hl,e⟩:=I.T9 hH
 obtain⟨z2,its2,n2,r2,hl2,e2⟩:=I.T9 hB
 have hsz:its.toArray.size+its2.toArray.size<=sizeLine:=by rw[U0s,U0s];omega
 have hlong:¬(!its.toArray.isEmpty&&U4u (its.toArray.size+its2.toArray.size))=true:=by
  rw[ao hsz,Bool.and_false]
  exact U1g
 refine call_meets F.slot_list_extend ⟨_,e,rfl⟩ F.entry_list_extend (F.args_list_extend_2 _ _)
  (AutoSeq1.list_extend_list_list_0 l its.toArray n b its2.toArray n2 hlong (by rw[U0s];omega) (by omega)) ⟨e,e2,?_⟩
 refine⟨.non,_,I.iG (its':=its++its2) hH e (by simp) (r.append r2) ?_,rfl,q⟩
 rw[U0r]
 omega
def xR:V->List V->Hp->VK->Prop:=fun x vs H Q=>∃l xs y,x=.ref l/\vs=[]/\H l=some (.lst xs)/\xs[xs.length-1]?=some y/\Q y (upd H l (.lst xs.dropLast))
theorem zJ:MtM X "list.pop" xR:=by
 intro pins s σ H x vs v us Q I rx rv h
 obtain⟨l,xs,y,rfl,rfl,hH,hy,q⟩:=h
 cases rx
 have hus:=rv.zero
 subst hus
 obtain⟨z,its,n,r,hl,e⟩:=I.T9 hH
 obtain⟨u,hu,ru⟩:=r.get hy
 have hy':its.toArray[its.toArray.size-1]?=some u:=by
  show its.toArray[its.length-1]?=some u
  rw[←U24,←hl]
  exact hu
 refine call_meets F.slot_list_pop ⟨_,e,rfl⟩ F.entry_list_pop (F.args_list_pop_1 _) (MeetsSeq.list_pop_last l its.toArray n u hy' (by rw[U0s];omega)) ⟨e,?_⟩
 refine⟨y,_,I.iG (its':=its.dropLast) hH e ?_ r.dropLast ?_,ru,q⟩
 .show its.toArray.eraseIdxIfInBounds (its.toArray.size-1)=its.dropLast.toArray
  rw[U0s,List.eraseIdxIfInBounds_toArray,jR]
 .rw[U6q]
  omega
def jh:V->List V->Hp->VK->Prop:=fun x vs H Q=>∃l xs i k y,x=.ref l/\vs=[.int i]/\H l=some (.lst xs)/\-(2^63)<=i/\i<2^63/\seqIndex? i xs.length=some k/\xs[k]?=some y/\Q y (upd H l (.lst (xs.eraseIdx k)))
theorem qO:MtM X "list.pop" jh:=by
 intro pins s σ H x vs v us Q I rx rv h
 obtain⟨l,xs,i,k,y,rfl,rfl,hH,h1,h2,hk,hy,q⟩:=h
 cases rx
 obtain⟨u,rfl,ru⟩:=rv.one
 obtain⟨t,rfl⟩:=ru
 obtain⟨z,its,n,r,hl,e⟩:=I.T9 hH
 obtain⟨w,hw,rw'⟩:=r.get hy
 refine call_meets F.slot_list_pop ⟨_,e,rfl⟩ F.entry_list_pop (F.args_list_pop_2 _ _)
  (MeetsSeq.list_pop_at l its.toArray n i t k w (fitsIndex_both h1 h2) (by rw[U0s,←hl];exact hk) (by rw[←U24];exact hw) (by rw[U0s];omega)) ⟨e,?_⟩
 refine⟨y,_,I.iG (its':=its.eraseIdx k) hH e ?_ (r.eraseIdx k) ?_,rw',q⟩
 .show its.toArray.eraseIdxIfInBounds k=(its.eraseIdx k).toArray
  rw[List.eraseIdxIfInBounds_toArray]
 .have:=Yd xs k
  omega
def xY:R2:=fun x y H Q=>∃l b xs zs,x=.ref l/\y=.ref b/\H l=some (.lst xs)/\H b=some (.lst zs)/\xs.length+zs.length<=sizeLine/\∀p,H p=none->Q (.ref p) (upd H p (.lst (xs++zs)))
theorem zE:OpR X (binaryOp .Add) xY:=by
 intro pins s σ H x y v u Q I rx ry h
 obtain⟨l,b,xs,zs,rfl,rfl,hH,hB,hz,q⟩:=h
 cases rx
 cases ry
 obtain⟨z,its,n,r,hl,e⟩:=I.T9 hH
 obtain⟨z2,its2,n2,r2,hl2,e2⟩:=I.T9 hB
 refine PySem.P.add_list e e2 ?_ (by rw[U0s,U0s];omega)
 have ea:its.toArray++its2.toArray=(its++its2).toArray:=by simp
 rw[ea]
 exact⟨.ref _,_,I.xq (t':=s.toks) (r.append r2) (by rw[U0r];omega),rfl,q _ I.fresh⟩
def xQ:R2:=fun x y H Q=>∃l k xs,x=.ref l/\y=.int k/\H l=some (.lst xs)/\-(2^63)<=k/\k<2^63/\xs.length*k.toNat<=sizeLine /\
 ∀p,H p=none->Q (.ref p) (upd H p (.lst (U0l k.toNat xs).flatten))
theorem len_rep{α:Type}(xs:List α)(k:Nat):(U0l k xs).flatten.length=k*xs.length:=by
 induction k with
 |zero=>simp
 |succ k ih=>rw[U0o,U32,U0r,ih,U76,Nat.add_comm]
theorem jm:OpR X (binaryOp .Mult) xQ:=by
 intro pins s σ H x y v u Q I rx ry h
 obtain⟨l,k,xs,rfl,rfl,hH,h1,h2,hz,q⟩:=h
 cases rx
 obtain⟨t,rfl⟩:=ry
 obtain⟨z,its,n,r,hl,e⟩:=I.T9 hH
 have hlen:its.toArray.size*k.toNat<=sizeLine:=by rw[U0s,←hl];exact hz
 have hcap:¬its.toArray.size*k.toNat>(2^63-1)/8:=by
  have:(sizeLine:Nat)<=(2^63-1)/8:=by decide
  omega
 have hfit:¬(!Builtin.List.listFitsIndex k)=true:=by
  rw[fitsIndex_both h1 h2]
  exact U1g
 have hlong:¬U4u (its.toArray.size*k.toNat)=true:=by
  rw[ao hlen]
  exact U1g
 have hnew:U6p (fun x1 x2=>x1++x2) #[] (U0l (if its.toArray.isEmpty=true then 0 else k.toNat) its.toArray)=(U0l k.toNat its).flatten.toArray:=by
  have f0:∀m:Nat,U6p (fun x1 x2=>x1++x2) #[] (U0l m its.toArray)=(U0l m its).flatten.toArray:=fun m=>by
   have:=foldl_rep its m []
   rw[U1n] at this
   exact this
  rw[f0]
  cases its with
  |nil=>simp
  |cons a r'=>rw[if_neg (by simp)]
 refine wpAny_binaryOp_repeat_ref (T:="list") (U:="int") (by decide) ⟨_,e,rfl⟩ (fun s'=>typeIs_int s' k t) noFill_list_mul F.fills_int_mul F.slot_int_rmul repeat_list F.slot_int_index.lookup
  (call_meets F.slot_int_rmul (typeIs_int s k t) F.entry_int_rmul (F.args_int_rmul_2 _ _) (int___rmul___int_list k t l its.toArray n)
   ⟨e,rfl,⟨_,e,rfl⟩,call_meets F.slot_list_mul ⟨_,e,rfl⟩ F.entry_list_mul (F.args_list_mul_2 _ _) (AutoListH.list___mul___list_int_3 l its.toArray n k t hfit hcap hlong) ⟨e,?_⟩⟩)
 rw[hnew]
 exact⟨.ref _,_,I.xq (t':=s.toks) (r.rep k.toNat) (by rw[len_rep,U7h];exact hz),rfl,q _ I.fresh⟩
end
section
variable{prog:Program}{w:World}{A:Around}{E:Value->Shared->Prop}{s:Shared}
set_option maxRecDepth 100000 in
end
section
variable{X:Cx}
end
end L2
namespace Att
open PySem PySem.W PySem.Calls PyProof.Rows
theorem Xm{P:Params}{h:Heap}:∀(ns:List Int)(vs:List Value),WellAll P h vs (ns.map WData.int)->IntsAre vs ns:=by
 intro ns
 induction ns with
 |nil =>
  intro vs w
  rw[U08] at w
  cases w
  exact .nil
 |cons n ns ih =>
  intro vs w
  rw[U0m] at w
  cases w with
  |cons a b =>
   cases a
   exact .cons _ _ (ih _ b)
theorem lN{l:OpenLaw}{n:Nat}(hn:l.most=some n){P:Params}{h:Heap}{args:List WData}{vals:List Value}
  (hpre:l.row.toRowW.claim.pre args=true) (hwl:WellAll P h vals args) :
  ∃a vs ns,vals=[U2v a]/\args=[WData.list (ns.map WData.int)]/\h.get? a=some { cls:=.type "list",data:=.seq vs.toArray }/\IntsAre vs ns/\ns.length<=n:=by
 have hsh:WShape.hasAll [] args [.list .int]=true:=(pre_splitW hpre).1
 have hc:l.pre.holds [] { args:=args }=true:=(pre_splitW hpre).2
 obtain⟨d,r,rfl,h1,h2⟩:=hasAllW_cons hsh
 obtain rfl:=hasAllW_nil h2
 obtain⟨xs,rfl,h3⟩:=hasW_list h1
 obtain⟨ns,rfl⟩:=items_int h3
 have hlen:ns.length<=n:=by
  unfold OpenLaw.pre at hc
  have h4:(WTm.not (.lt (.lit (.int (n:Int))) (.len (.arg 0)))).holds [] { args:=[.list (ns.map .int)] }=true:=by
   have h4:=(holds_andW hc).1
   rw[hn] at h4
   exact h4
  have h5:=condW_of h4 (w_not (w_lt w_lit (w_len_list (w_arg rfl))))
  rw[U0k] at h5
  refine Nat.le_of_not_lt fun q=>?_
  have q':(n:Int)<((ns.length:Nat):Int):=by omega
  first
   |(rw[decide_eq_true q'] at h5;exact absurd h5 (by decide))
   |(simp at h5;omega)
 cases hwl with
 |cons w1 w2 =>
  cases w2
  cases w1 with
  |list ho hall=>exact⟨_,_,ns,rfl,rfl,ho,Xm ns _ hall,hlen⟩
theorem lW(l:OpenLaw)(args:List WData):l.row.toRowW.claim.post args (.bool true) args=true :=
 postW_of (r:=l.row.toRowW) (X:=(true==true))
  (show WShape.has [] (.bool true) .bool=true by first|rfl|decide|simp[WShape.has,WShape.arms,WShape.armsAll])
  (show(WTm.eq .res (.lit (.bool true))).value [] { args:=args,res:=some (.bool true),after:=args }=some (.bool (true==true)) from w_eq_bool (w_res rfl) w_lit) rfl
theorem jH{R:WRecords}{cl:Str->Option Addr}{h:Heap}{a:Addr}{ds:List WData}{as:List Addr}(r:ReadsAllW R cl h [.ref a] [.list ds] as)(lo:∀b∈as,(b==sysModules)=false):a≠sysModules:=by
 cases r with
 |cons r1 _ =>
  cases r1 with
  |list _ _ _ _=>exact fun z=>by have:=lo a (by simp);rw[z] at this;simp at this
theorem fD{l:OpenLaw}{n:Nat}{q:Program}{loose:List Str}{XP:(Str->Option Value)->Heap->Prop}{YP:World->Heap->Prop}{d:DefRec}
  (hn:l.most=some n) (hdf:d.params.defaults=[])
  (call:∀(w:World)(s₀ s₁:Shared)(mg mb:Str->Option Value)(fa:Addr)(o:Obj)(pm cd doc:Value)(a:Addr)(vs:List Value)(ns:List Int),
   Ground q loose [] XP w s₀ mg mb s₁.heap->YP w s₁.heap ->
   s₁.heap.get? fa=some o->o.data=.func (docDef d.name d.params d.body d.scope pm cd doc)->s₁.heap.CodeRec cd d.name->mg d.name=some (.ref fa) ->
   s₁.heap.get? a=some { cls:=.type "list",data:=.seq vs.toArray }->IntsAre vs ns->ns.length<=n->a≠sysModules->s₁.gens=#[] ->
   codeAny (model l.prog w) callerA (.call (.ref fa) ⟨[.ref a],[]⟩) (fun r s'=>r=.ok (.ret (.bool true))/\OldK s₁.heap s'.heap/\s'.os=s₁.os/\AllBare s'.gens) s₁) :
  WalkO q loose XP YP l.row.toRowW d [] (fun f vs=>U7y f vs):=by
 intro w s₀ s₁ mg mb G Y fa o pm cd doc dV kV ho hd hcd hD hmg hg args vals as hpre hlay hrd hwl hlo
 obtain rfl:dV=.none:=Dflts.none hD hdf
 obtain rfl:kV=.none:=Dflts.noKw hD
 obtain⟨a,vs,ns,rfl,rfl,hobj,hints,hlen⟩:=lN hn hpre hwl
 refine enter_call (codeAny_mono (call w s₀ s₁ mg mb fa o pm cd doc a vs ns G Y ho (fd_plain hd) hcd hmg hobj hints hlen (jH hrd hlo) hg) fun r s' hq=>?_)
 obtain⟨rfl,h2,h3,h4⟩:=hq
 exact⟨.inl ⟨.bool true,.bool true,[],rfl,fun _=>rfl,.bool true,lW l _,fun _=>⟨U7d,fun _ hm=>(nomatch hm)⟩⟩,h2,h3,h4⟩
section
variable{prog:Program}{w:World}{A:Around}{E:Value->Shared->Prop}{s:Shared}{K:Frag}
end
end Att
namespace L2
open PySem PySem.Spec PyProof.Rows
theorem Tt:∀{vs:List Value} {ns:List Int},IntsAre vs ns->Vals (ns.map V.int) vs
 |_,_,.nil=>.nil
 |_,_,.cons n t h=>.cons ⟨t,rfl⟩ (Tt h)
def Only(H:Hp):Prop:=∀b,H b=none∨∃o xs,H b=some (.frz o (.lst xs))
theorem qY{P:Program}{w:World}{K:U0b}{mg mb:Str->Option Value}{CX:CXT}{k:Nat}{fa a:Addr}{fd:FuncData}{x:Str}{sp:Sp}{s₁:Shared}{vs:List Value}{ns:List Int}
  (KX:K.In s₁.heap) (hns:s₁.heap.Ns mainGlobals mg) (hb:s₁.heap.Ns builtinsNs mb) (hbb:∀x:Str,x≠"__name__"->mb x=bootBuiltins x) (hlim:s₁.heap.NoLimit) (hg:s₁.gens=#[])
  (ha:s₁.heap.get? a=some { cls:=.type "list",data:=.seq vs.toArray }) (hi:IntsAre vs ns) (hl:ns.length<=sizeLine) (hasy:a≠sysModules) (hr:Gb k callerA)
  (F:∀base:Heap,K.In base->base.Ns mainGlobals mg->DG P w K mg base CX k fa fd [x] sp) (hbind:∀(s:Shared)(u:Value),BindsTo s fd ⟨[u],[]⟩ [(x,u)])
  (hsp:∀H:Hp,Only H->SqL K H a (ns.map V.int)->sp [.ref a] H (fun v _=>v=.bl true) fun _ _ _=>False)
  (hCX:∀H e s',CX [] H s₁ (fun _ _ _=>False) e s'->False) :
  codeAny (model P w) callerA (.call (.ref fa) ⟨[.ref a],[]⟩) (fun r s'=>r=.ok (.ret (.bool true))/\OldK s₁.heap s'.heap/\s'.os=s₁.os/\AllBare s'.gens) s₁:=by
 have rv:=Tt hi
 have lenV:=hi.length
 -- from an abstract heap in which nothing but the script may be tracked
 have core:∀H:Hp,Only H->SqL K H a (ns.map V.int)->HOk P w H s₁.heap->(∀b,H b≠none->b=a)->(H a≠none->K.lookup a=none) ->
   codeAny (model P w) callerA (.call (.ref fa) ⟨[.ref a],[]⟩) (fun r s'=>r=.ok (.ret (.bool true))/\OldK s₁.heap s'.heap/\s'.os=s₁.os/\AllBare s'.gens) s₁:=by
  intro H hO hS hok hA hK
  have base_of:∀{b:Addr} {o:Obj},s₁.heap.get? b=some o->H b=none->(Rp s₁.heap H).get? b=some o:=fun e n=>qy e n
  have noA:∀{b:Addr} {o:Obj} {es:Array DictEntry} {ep:Nat},s₁.heap.get? b=some o->o.data=.dict es ep->H b=none:=fun {b o es ep} e d=>by
   cases q:H b with
   |none=>rfl
   |some u =>
    have e':b=a:=hA b (by rw[q];simp)
    subst e'
    rw[ha] at e;cases e
    have d':Data.seq vs.toArray _=Data.dict es ep:=d
    cases d'
  have nsK:∀{b:Addr} {m:Str->Option Value},s₁.heap.Ns b m->(Rp s₁.heap H).Ns b m:=fun {b m} ⟨o,es,ep,e,d,r⟩=>⟨o,es,ep,base_of e (noA e d),d,r⟩
  have hKb:K.In (Rp s₁.heap H):=fun b o e=>base_of (KX b o e) (by
   cases q:H b with
   |none=>rfl
   |some u =>
    have e':b=a:=hA b (by rw[q];simp)
    subst e'
    rw[hK (by rw[q];simp)] at e;cases e)
  have hM:Mod K mg (Rp s₁.heap H):=⟨hKb,nsK hns,⟨mb,nsK hb,hbb⟩,let ⟨mc,h1,h2⟩:=hlim;⟨mc,nsK h1,h2⟩⟩
  have e0:iR P w K mg (Rp s₁.heap H) callerA [] s₁ H:=⟨rfl,hM,fun b o e=>uW e,U77 (n6 _ _),trivial,fun b hb=>absurd (show b∈([]:List Addr) from hb) (by simp),hok,.of_eq hg,Classical.byContradiction fun z=>hasy (hA _ z).symm⟩
  refine codeAny_mono ((F _ hKb (nsK hns)).run callerA [] s₁ H ⟨[.ref a],[]⟩ [.ref a] [.ref a] _ _ hr e0 (hbind s₁ (.ref a)) (.cons rfl .nil) (hsp H hO hS)) fun r s' h=>?_
  cases r with
  |error e=>exact(hCX H e s' h).elim
  |ok fl =>
   cases fl with
   |next=>exact U4l h
   |brk=>exact U4l h
   |cont=>exact U4l h
   |ret u =>
    obtain⟨v,H',os,bare,un,hok',r',q⟩:=h
    have q':v=.bl true:=q
    subst q'
    obtain rfl:u=U5e true:=r'
    refine⟨rfl,OldK.of_keep fun b o e=>?_,os,bare⟩
    cases q:H b with
    |none=>exact un.keep b o e q (by intro z;exact absurd (show b∈([]:List Addr) from z) (by simp)) (by simp)
    |some u =>
     rcases hO b with z|⟨ob,xs,z⟩
     .rw[q] at z;cases z
     .have z2:=un.frzs b ob _ z
      obtain⟨e1,_⟩:=hok b _ z
      obtain⟨e2,_⟩:=hok' b _ z2
      rw[e] at e1;cases e1
      exact e2
 cases hk:K.lookup a with
 |some o =>
  -- the script is one of the module's own objects
  have e:=KX a o hk
  rw[ha] at e
  cases e
  refine core (fun _=>none) (fun _=>.inl rfl) (.inr ⟨_,vs.toArray,_,hk,rfl,rfl,rfl,by rw[U0s,lenV];exact hl,by simpa using rv⟩) (fun b u z=>by have z':(none:Option HO)=some u:=z;cases z') (fun b z=>absurd rfl z) fun z=>absurd rfl z
 |none =>
  refine core (fun b=>if b=a then some (.frz { cls:=.type "list",data:=.seq vs.toArray } (.lst (ns.map V.int))) else none) (fun b=>?_) (.inl (.inr ⟨{ cls:=.type "list",data:=.seq vs.toArray },if_pos rfl⟩)) (fun b u z=>?_) (fun b z=>?_) fun _=>hk
  .by_cases hb:b=a
   .exact .inr ⟨_,_,if_pos hb⟩
   .exact .inl (if_neg hb)
  .by_cases hb:b=a
   .have z':=(if_pos hb).symm.trans z
    cases z'
    subst hb
    exact⟨ha,by rw[U0k];exact hl,vs,_,rv,ha⟩
   .have z':=(if_neg hb).symm.trans z
    cases z'
  .by_cases hb:b=a
   .exact hb
   .exact absurd (if_neg hb) z
end L2
namespace L2
open PySem PySem.Spec PyProof.Rows
abbrev KOf{K:U0b}{h:Heap}(_:K.In h):U0b:=K
theorem walk_of{l:U6r}{n k:Nat}{q:Program}{loose:List Str}{XP:(Str->Option Value)->Heap->Prop}{YP:World->Heap->Prop}{d:DefRec}{K:Params->U0b}{CX:World->CXT}{sp:World->Sp}{x:Str}
  (hn:l.most=some n) (hn2:n<=sizeLine) (hdf:d.params.defaults=[]) (hr:Gb k callerA)
  (hY:∀(w:World)(h:Heap),YP w h->(K w.params).In h)
  (F:∀(w:World)(mg:Str->Option Value)(fa:Addr)(h:Heap),(K w.params).In h->h.Ns mainGlobals mg->mg d.name=some (.ref fa) ->
   ∃fd:FuncData,(∀(s:Shared)(u:Value),BindsTo s fd ⟨[u],[]⟩ [(x,u)]) /\
    ∀base:Heap,(K w.params).In base->base.Ns mainGlobals mg->DG l.prog w (K w.params) mg base (CX w) k fa fd [x] (sp w))
  (hsp:∀(w:World)(H:Hp)(a:Addr)(ns:List Int),ns.length<=n->Only H->SqL (K w.params) H a (ns.map V.int)->sp w [.ref a] H (fun v _=>v=.bl true) fun _ _ _=>False)
  (hCX:∀(w:World)(H:Hp)(s:Shared)(e:Value)(s':Shared),CX w [] H s (fun _ _ _=>False) e s'->False) :
  U72 q loose XP YP l.row.toRowW d [] (fun f vs=>U7y f vs):=by
 refine Att.fD hn hdf fun w s₀ s₁ mg mb fa o pm cd doc a vs ns G Y ho hd hcd hmg hobj hints hlen hasy hg=>?_
 have KX:=hY w _ Y
 obtain⟨fd,hb,hF⟩:=F w mg fa _ KX G.T.g hmg
 exact qY KX G.T.g G.T.b G.T.builtins G.T.nolimit hg hobj hints (U1a hlen hn2) hasy hr hF hb (fun H hO hS=>hsp w H a ns hlen hO hS) fun H e s'=>hCX w H s₁ e s'
theorem oK{l:U6r}{n k:Nat}{q:Program}{loose:List Str}{XP:(Str->Option Value)->Heap->Prop}{YP:World->Heap->Prop}{d:DefRec}{K:Params->U0b}{CX:CXT}{sp:U0b->Sp}{x:Str}
  (hn:l.most=some n) (hn2:n<=sizeLine) (hdf:d.params.defaults=[]) (hr:Gb k callerA)
  (hY:∀(w:World)(h:Heap),YP w h->(K w.params).In h)
  (F:∀(w:World)(mg:Str->Option Value)(fa:Addr)(h:Heap),(K w.params).In h->h.Ns mainGlobals mg->mg d.name=some (.ref fa) ->
   ∃fd:FuncData,(∀(s:Shared)(u:Value),BindsTo s fd ⟨[u],[]⟩ [(x,u)]) /\
    ∀base:Heap,(K w.params).In base->base.Ns mainGlobals mg->DG l.prog w (K w.params) mg base CX k fa fd [x] (sp (K w.params)))
  (hsp:∀(K:U0b)(H:Hp)(a:Addr)(ns:List Int),ns.length<=n->Only H->SqL K H a (ns.map V.int)->sp K [.ref a] H (fun v _=>v=.bl true) fun _ _ _=>False)
  (hCX:∀(H:Hp)(s:Shared)(e:Value)(s':Shared),CX [] H s (fun _ _ _=>False) e s'->False) :
  U72 q loose XP YP l.row.toRowW d [] (fun f vs=>U7y f vs) :=
 walk_of (K:=K) (CX:=fun _=>CX) (sp:=fun w=>sp (K w.params)) hn hn2 hdf hr hY F (fun w H a ns h1 h2 h3=>hsp (K w.params) H a ns h1 h2 h3) fun _ H s e s'=>hCX H s e s'
end L2
/- THE LAST THEOREM (shape; LID, My.* are yours):
   My.Adr: a structure of the addresses that your layer names (classes, functions); My.Txt K t: a structure (Prop) of the equations over K;
   My.txt_mk : {K} {implicit addresses ..} (e1 : nsIn K mainGlobals "law" = some (some (.ref f))) (e2 : K.lookup f = some ⟨oc, od, .func (fnOf "law" "law" params body scope dV kV doc pm an cdv ct), sl⟩) (e3 : codeIn K cdv "law" = true) .. : ∃ t, My.Txt K t

set_option maxRecDepth 100000 in
set_option maxHeartbeats 0 in
theorem PySem.Challenge.cw_LID_holds : PySem.Challenge.rw_LID.Holds := by
  w_on; o_law; k_head; (case hw => w_witness2)
  k_fill
  refine L2.walk_of (l := PySem.Challenge.rw_LID) (n := 63) (k := 40) (x := "script") (CX := fun w => ..) (sp := fun _ => My.sp_law) rfl (by decide) rfl ⟨rfl, by decide, by decide⟩ (fun w h Y => PySem.W.kIn_of Y) ?F ?S ?C
  case F =>
    intro w mg fa h KX G hmg
    have T : ∃ t, My.Txt (L2.KOf KX) t := by
      dsimp only [L2.KOf]                          -- K must stand as «<heap const> w.params» for k_is
      refine' My.txt_mk ?e1 ?e2 ?e3 ..
      (case e1 => PySem.W.k_is)                    -- in the order: a name -> its address -> its object -> its parts
      (case e2 => PySem.W.k_is)
      ..
    obtain ⟨t, T⟩ := T
    have e0 := hmg.symm.trans (PySem.W.mg_of KX G T.law)
    cases e0                                       -- fa is the law's own address
    exact ⟨_, fun s u => .of_eq rfl, fun base kb nb => My.law_fn T kb nb⟩     -- if «.of_eq rfl» comes too early: refine' ⟨_, ?b, fun base kb nb => My.law_fn T kb nb⟩; exact fun s u => .of_eq rfl
  case S => exact fun w H a ns hl hO hS => ..
  case C => exact ..
(the tactic k_is has no namespace: write k_is) -/
namespace L2
open PySem PySem.Spec PyProof.Rows
def Bx(s:Stmt):Arguments:=match s with
 |.FunctionDef _ a _ _ _ _ _ _ _ _=>a
 |_=>{ posonlyargs:=[],args:=[],vararg:=none,kwonlyargs:=[],kw_defaults:=[],kwarg:=none,defaults:=[] }
def Br(s:Stmt):List Stmt:=match s with
 |.FunctionDef _ _ b _ _ _ _ _ _ _=>b
 |_=>[]
def Aj(s:Stmt):Scope:=match s with
 |.FunctionDef _ _ _ _ _ _ sc _ _ _=>sc
 |_=>{ kind:=.function,names:=[],isGenerator:=false,isCoroutine:=false }
abbrev CX0:CXT:=fun _ _ _ _ _ _=>False
abbrev E0:XK:=fun _ _ _=>False
theorem Jbc{X:Cx}:Passes CX0 X E0:=fun _ _ _ _ _ _ _ h=>h.elim
structure Fun(K:U0b)(x qual:Str)(st:Stmt)(f:Addr)(fd:FuncData):Prop where
 ex:∃(oc:Value)(od:Option Addr)(kV doc pm:Value)(an:Option Addr)(cdv ct:Value)(osl:Array (Option Value)),
  fd=U04 x qual (Bx st) (Br st) (Aj st) .none kV doc pm an cdv ct/\K.lookup f=some ⟨oc,od,.func fd,osl⟩/\U01 K cdv qual=true
 kp:U0z K (.ref f)=true
section
variable{P:Program}{w:World}{K:U0b}{mg:Str->Option Value}{base:Heap}
theorem Fun.ok{x qual:Str}{st:Stmt}{f:Addr}{fd:FuncData}{N ps:List Str}{k:Nat}{sp:Sp}(F:Fun K x qual st f fd)(S:CG N ps (Aj st))(len:∀vs H Q E,sp vs H Q E->vs.length=ps.length)
  (hbody:∀(cdv:Value)(A:Around)(outer:List Env)(s:Shared)(H:Hp)(vs:List V)(Q:VK)(E:XK),Gb k (A.deeper (envOfC qual (Aj st) s.heap.objs.size f cdv))->sp vs H Q E ->
   ∃t,PSs (TJ CX0 P w K mg base N qual (Aj st) f cdv A outer s H E).nox (Br st) t/\t { nx:=fun _ H'=>Q .non H',rt:=Q } (start N vs) H):DG P w K mg base CX0 (k+1) f fd ps sp:=by
 obtain⟨oc,od,kV,doc,pm,an,cdv,ct,osl,rfl,lk,hcd⟩:=F.ex
 refine Jbp lk hcd S len fun A outer s H vs Q E hr hsp=>?_
 obtain⟨t,h,q⟩:=hbody cdv A outer s H vs Q E hr hsp
 exact⟨t,h.nox,q⟩
theorem Fun.binds{x qual:Str}{st:Stmt}{f:Addr}{fd:FuncData}{ps:List Str}(F:Fun K x qual st f fd)
  (h:∀(kV doc pm:Value)(an:Option Addr)(cdv ct:Value)(us:List Value),us.length=ps.length->bindArgs (U04 x qual (Bx st) (Br st) (Aj st) .none kV doc pm an cdv ct) ⟨us,[]⟩=pure (ps.zip us)):Binds K fd ps []:=by
 obtain⟨oc,od,kV,doc,pm,an,cdv,ct,osl,rfl,lk,hcd⟩:=F.ex
 exact .all (h kV doc pm an cdv ct)
theorem Cu{x qual:Str}{st:Stmt}{f:Addr}{oc:Value}{od an:Option Addr}{osl:Array (Option Value)}{kV doc pm cdv ct:Value}(l:K.lookup f=some ⟨oc,od,.func (U04 x qual (Bx st) (Br st) (Aj st) .none kV doc pm an cdv ct),osl⟩)
  (c:U01 K cdv qual=true) (k:U0z K (.ref f)=true):Fun K x qual st f (U04 x qual (Bx st) (Br st) (Aj st) .none kV doc pm an cdv ct):=⟨⟨oc,od,kV,doc,pm,an,cdv,ct,osl,rfl,l,c⟩,k⟩
end
theorem YM{n:Nat}(h:n<=1000):n<sizeLine:=U44 h (by decide)
section
variable{X:Cx}
theorem pv(i:Nat){x:Str}{pos:Pos}(hN:X.N[i]?=some x:=by rfl)(hv:Vis X.env.scope x:=by first|exact U78 rfl|exact U7i (U78 rfl)|exact U7i (U7i rfl))(hd:(x==("__debug__":Str))=false:=by decide)
  (hcd:(x==("__classdict__":Str))=false:=by decide):PE X (.Name x pos) (wg i):=jj hN hv hd hcd
end
def Same(H H':Hp):Prop:=∀b o,H b=some o->H' b=some o
theorem Same.refl(H:Hp):Same H H:=fun _ _ h=>h
theorem Same.free{H H':Hp}(e:Same H H'){l:Addr}(h:H' l=Option.none):H l=Option.none:=by
 cases q:H l with
 |none=>rfl
 |some o =>
  rw[e l o q] at h
  cases h
end L2
end
section
namespace SetP
open PySem
def M4(xs:Array Nat):Prop:=xs.toList.Pairwise (·<·)
theorem pR:M4 #[]:=U7d
theorem j5(n:Nat):M4 (Array.range n):=by
 unfold M4
 rw[Array.toList_range]
 exact List.pairwise_lt_range
theorem M4.lt{xs:Array Nat}(h:M4 xs){i k:Nat}(hik:i<k)(hk:k<xs.size):xs.getD i 0<xs.getD k 0:=by
 have q:=U5s.mp h i k (by rw[U1u];omega) (by rw[U1u];exact hk) hik
 rw[U3e,U3e,U2f (by omega),U2f hk]
 simpa using q
theorem M4.le{xs:Array Nat}(h:M4 xs){i k:Nat}(hik:i<=k)(hk:k<xs.size):xs.getD i 0<=xs.getD k 0:=by
 rcases Nat.lt_or_eq_of_le hik with z|z
 .exact U2w (h.lt z hk)
 .rw[z];exact U0t _
theorem Y0{xs:Array Nat}{j:Nat}(h:M4 xs):∀(fuel lo hi:Nat),lo<=hi->hi<=xs.size->hi-lo<=fuel->(∀i,i<lo->xs.getD i 0<j)->(∀i,hi<=i->i<xs.size->j<=xs.getD i 0) ->
  U5a xs j fuel lo hi<=xs.size/\(∀i,i<U5a xs j fuel lo hi->xs.getD i 0<j)/\∀i,U5a xs j fuel lo hi<=i->i<xs.size->j<=xs.getD i 0
 |0,lo,hi,h1,h2,h3,h4,h5=>by
  have e:lo=hi:=by omega
  subst e
  unfold U5a
  exact⟨h2,h4,h5⟩
 |fuel+1,lo,hi,h1,h2,h3,h4,h5=>by
  unfold U5a
  by_cases hlt:lo<hi
  .rw[if_pos hlt]
   have hm:(lo+hi)/2<hi:=by omega
   have hl:lo<=(lo+hi)/2:=by omega
   have e:xs.getD ((lo+hi)/2) j=xs.getD ((lo+hi)/2) 0:=by
    rw[U3e,U3e,U2f (by omega)]
    rfl
   dsimp only
   rw[e]
   by_cases hc:xs.getD ((lo+hi)/2) 0<j
   .rw[if_pos hc]
    exact Y0 h fuel _ hi (by omega) h2 (by omega) (fun i hi'=>U44 (h.le (by omega) (by omega)) hc) h5
   .rw[if_neg hc]
    exact Y0 h fuel lo _ (by omega) (by omega) (by omega) h4 (fun i hi' hs=>U1a (Nat.le_of_not_lt hc) (h.le hi' hs))
  .rw[if_neg hlt]
   have e:lo=hi:=by omega
   subst e
   exact⟨h2,h4,h5⟩
theorem Sv{xs:Array Nat}{j:Nat}(h:M4 xs):U1z xs j<=xs.size/\(∀i,i<U1z xs j->xs.getD i 0<j)/\∀i,U1z xs j<=i->i<xs.size->j<=xs.getD i 0:=by
 unfold U1z
 exact Y0 h xs.size 0 xs.size (U3x _) (U0t _) (by omega) (fun i hi=>absurd hi (U7p _)) fun i h1 h2=>absurd h2 (by omega)
theorem Xc{xs:Array Nat}(h:M4 xs){i:Nat}(hi:i<xs.size):U1z xs (xs.getD i 0+1)=i+1:=by
 obtain⟨a,b,c⟩:=Sv (j:=xs.getD i 0+1) h
 generalize U1z xs (xs.getD i 0+1)=r at a b c
 rcases Nat.lt_trichotomy r (i+1) with z|z|z
 .have:=c i (by omega) hi;omega
 .exact z
 .have h1:=b (i+1) z
  have h2:xs.getD i 0<xs.getD (i+1) 0:=h.lt (U4v i) (by omega)
  omega
theorem Xb{xs:Array Nat}(h:M4 xs):U1z xs 0=0:=by
 obtain⟨a,b,c⟩:=Sv (j:=0) h
 generalize U1z xs 0=r at a b c
 cases r with
 |zero=>rfl
 |succ r=>exact absurd (b 0 (by omega)) (U7p _)
theorem dX{xs:Array Nat}{j:Nat}(h:M4 xs)(hn:xs[U1z xs j]?≠some j):M4 (SetTable.insertAt xs (U1z xs j) j):=by
 obtain⟨a,b,c⟩:=Sv (j:=j) h
 unfold M4
 rw[SetTable.toList_insertAt]
 generalize U1z xs j=p at a b c hn
 have getT:∀i,i<xs.size->xs.toList[i]?=some (xs.getD i 0):=fun i hi=>by
  rw[U24,U3e,U2f hi];rfl
 refine U31.mpr ⟨h.sublist (List.take_sublist _ _),U2x.mpr ⟨fun y hy=>?_,h.sublist (List.drop_sublist _ _)⟩,fun x hx y hy=>?_⟩
 .obtain⟨i,hi⟩:=U4b.mp hy
  rw[List.getElem?_drop] at hi
  have hlt:p+i<xs.size:=by
   have:=(U0n.mp hi).1
   rwa [U1u] at this
  rw[getT _ hlt] at hi
  have e:=U1c hi
  have h1:=c (p+i) (U1r _ _) hlt
  rw[←e]
  rcases Nat.lt_or_eq_of_le h1 with z|z
  .exact z
  .exfalso
   have hp:p<xs.size:=by omega
   have h2:=c p (U0t _) hp
   have h3:=h.le (U1r p i) hlt
   have h4:xs.getD p 0=j:=by omega
   apply hn
   have:=getT p hp
   rw[U24] at this
   rw[this,h4]
 .have hxj:x<j:=by
   obtain⟨i,hi⟩:=U4b.mp hx
   have hip:i<p:=by
    have:=(U0n.mp hi).1
    rw[U19] at this;omega
   rw[List.getElem?_take_of_lt hip] at hi
   have hlt:i<xs.size:=by
    have:=(U0n.mp hi).1
    rwa [U1u] at this
   rw[getT _ hlt] at hi
   rw[←U1c hi]
   exact b i hip
  rcases U00.mp hy with z|z
  .rw[z];exact hxj
  .obtain⟨i,hi⟩:=U4b.mp z
   rw[List.getElem?_drop] at hi
   have hlt:p+i<xs.size:=by
    have:=(U0n.mp hi).1
    rwa [U1u] at this
   rw[getT _ hlt] at hi
   rw[←U1c hi]
   exact U0y hxj (c (p+i) (U1r _ _) hlt)
def Off(t:SetTable)(j:Nat):Prop:=t.place[U1z t.place j]?≠some j
theorem Vb{t:SetTable}{j:Nat}(h:∀i,t.slot j≠.live i):Off t j:=fun e=>by
 apply h (U1z t.place j)
 unfold SetTable.slot
 dsimp only
 rw[e]
 simp
theorem UL{t:SetTable}{f:Nat->Int}{h:Int}{j:Nat}{d:Option Nat}:∀(fuel:Nat)(p:SetTable.Probe),(∀d,p.dummy=some d->Off t d)->U7e t f h fuel p=some (.empty j d)->Off t j/\∀d',d=some d'->Off t d'
 |0,_,_,e=>by unfold U7e at e;cases e
 |fuel+1,p,hp,e=>by
  unfold U7e at e
  cases hs:t.slot p.j with
  |empty =>
   rw[hs] at e
   have e':=U1c e
   cases e'
   exact⟨Vb (fun i z=>by rw[hs] at z;exact SetTable.Slot.noConfusion z),hp⟩
  |dummy =>
   rw[hs] at e
   refine UL fuel _ (fun d' hd=>?_) e
   have hd':(t.advance { p with dummy:=some p.j }).dummy=some p.j:=by
    unfold SetTable.advance;dsimp only;split<;>rfl
   rw[hd'] at hd
   cases hd
   exact Vb fun i z=>by rw[hs] at z;cases z
  |live i =>
   rw[hs] at e
   dsimp only at e
   split at e
   .cases e
   .refine UL fuel _ (fun d' hd=>hp d' ?_) e
    rw[←hd]
    unfold SetTable.advance
    split<;>rfl
theorem dD{t:SetTable}{h:Int}{j:Nat}{b:Bool}(e:t.freeSlot h=some (j,b)):Off t j:=by
 unfold SetTable.freeSlot at e
 split at e
 .rename_i j' d q
  unfold U65 at q
  obtain⟨o1,o2⟩:=UL _ _ (fun d hd=>by unfold SetTable.probeStart at hd;cases hd) q
  have e':=U1c e
  cases d with
  |none=>cases e';exact o1
  |some d=>cases e';exact o2 _ rfl
 .cases e
def TabOk(L:Bool)(t:SetTable):Prop:=M4 t.place/\t.led=L
theorem TabOk.fresh(L:Bool)(f m:Nat):TabOk L (.fresh f m L):=⟨pR,rfl⟩
theorem TabOk.standIn{L:Bool}{t:SetTable}(h:TabOk L t)(n:Nat):TabOk L (t.standIn n):=⟨j5 n,h.2⟩
theorem TabOk.orStandIn{L:Bool}{t:SetTable}(h:TabOk L t)(n:Nat):TabOk L (t.orStandIn n):=by
 unfold SetTable.orStandIn
 split
 .exact h
 .exact h.standIn n
theorem TabOk.tK{L:Bool}{t:SetTable}(h:TabOk L t)(b:Bool):TabOk L { t with plain:=b }:=h
theorem jL{L:Bool}{t:SetTable}(h:TabOk L t)(es:Array (Int×Value))(k:Int)(x:Value):TabOk L (layNew t es k x).2.1:=by
 unfold layNew
 split
 .rename_i slot wasDummy q
  exact TabOk.orStandIn (t:=(t.put slot).1) ⟨dX h.1 (dD q),h.2⟩ _
 .exact h.standIn _
theorem W2{α:Type}(g:Nat->Option α):∀l:List Nat,List.Sublist ((l.filterMap fun j=>(g j).map (j,·)).map (·.1)) l
 |[]=>List.Sublist.slnil
 |j::r=>by
  rw[U5l]
  cases hg:g j with
  |none=>exact(W2 g r).cons j
  |some a=>exact(W2 g r).cons_cons j
theorem cT{L:Bool}{t:SetTable}(h:TabOk L t)(es:Array (Int×Value))(n:Nat):TabOk L (relayAll t es n).2.1:=by
 unfold relayAll
 split
 .rename_i t' order q
  dsimp only
  split
  .unfold SetTable.relaid SetTable.laid at q
   cases ho:SetTable.layClean (SetTable.sizeAbove n-1) (es.map (·.1)) with
   |none=>rw[ho] at q;cases q
   |some owner =>
    rw[ho] at q
    have q':=U1c q
    cases q'
    refine⟨?_,h.2⟩
    show U6f (·<·) (U79 _).toList
    exact List.pairwise_lt_range.sublist (W2 (fun j=>owner.getD j none) _)
  .exact h.standIn _
 .exact h.standIn _
end SetP
end
section
set_option maxRecDepth 100000
namespace SetP
open PySem PyProof.Rows
abbrev Qg(w:World):Bool:=!(w.params.followText "set-order")
structure SetT(prog:Program)(w:World)(h:Heap)(a:Addr)(ds:List Int):Prop where
 nd:ds.Nodup
 ex:∃o es ep t,h.get? a=some o/\o.ExactSet/\o.data=.set es ep t/\ElemsOf (intKind prog w) es.toList/\(∀k,decide (k∈ds)=true↔∃e∈es.toList,(intKind prog w).is k e.2=true) /\
  es.size<scanBound/\t.fits es.size=true/\es.size=ds.length/\TabOk (Qg w) t
def Hj(ds:List Int)(k:Int):List Int:=if k∈ds then ds else ds++[k]
theorem WQ{ds:List Int}(h:ds.Nodup)(k:Int):(Hj ds k).Nodup:=by
 unfold Hj
 split
 .exact h
 .rename_i hk
  exact List.nodup_append.mpr ⟨h,by simp,fun a ha b hb=>by rw[U07] at hb;subst hb;rintro rfl;exact hk ha⟩
theorem Yc{ds:List Int}{k j:Int}:j∈Hj ds k↔j∈ds∨j=k:=by
 unfold Hj
 split
 .rename_i hk
  exact⟨.inl,fun z=>z.elim id fun e=>e ▸ hk⟩
 .rw[U12,U07]
theorem nU(ds:List Int)(k:Int):(Hj ds k).length<=ds.length+1:=by
 unfold Hj
 split
 .omega
 .rw[U0r,U3v];omega
section
variable{prog:Program}{w:World}{A:Around}{E:Value->Shared->Prop}{s:Shared}
theorem SetT.sameBut{h h':Heap}{a:Addr}{ds:List Int}(x:SetT prog w h a ds)(hs:∀o,h.get? a=some o->h'.get? a=some o):SetT prog w h' a ds:=by
 obtain⟨nd,o,es,ep,t,e,r⟩:=x
 exact⟨nd,o,es,ep,t,hs o e,r⟩
theorem SetT.stored{h:Heap}{a:Addr}{o:Obj}{es es':Array (Int×Value)}{ep:Nat}{t t':SetTable}{ds:List Int}(ho:h.get? a=some o)(hex:o.ExactSet)(hd:o.data=.set es ep t)(nd:ds.Nodup)
  (hel:ElemsOf (intKind prog w) es'.toList) (hm:∀k,decide (k∈ds)=true↔∃e∈es'.toList,(intKind prog w).is k e.2=true) (hb:es'.size<scanBound) (hf:t'.fits es'.size=true) (hn:es'.size=ds.length) (ht:TabOk (Qg w) t') :
  (h.update a (Obj.putSet es' t')).get? a=some { o with data:=.set es' (ep+1) t' }/\SetT prog w (h.update a (Obj.putSet es' t')) a ds:=by
 obtain⟨g,_⟩:=SetOf_store (knd:=intKind prog w) ho hex hd hel hm hb hf
 exact⟨g,nd,_,es',ep+1,t',g,hex,rfl,hel,hm,hb,hf,hn,ht⟩
theorem Z4{g:Bool->Sem Unit}(hg:∀(b:Bool)(s₁:Shared)(Q':Unit->Shared->Prop),Q' () s₁->wpAny (model prog w) A (g b) Q' E s₁)
  {a:Addr} {o:Obj} {es es1:Array (Int×Value)} {ep:Nat} {t t2:SetTable} {ds:List Int} (ho:s.heap.get? a=some o) (hex:o.ExactSet) (hd:o.data=.set es ep t) (nd:ds.Nodup)
  (hel:ElemsOf (intKind prog w) es1.toList) (hm:∀k,decide (k∈ds)=true↔∃e∈es1.toList,(intKind prog w).is k e.2=true) (hb:es1.size<scanBound) (hf:t2.fits es1.size=true) (hn:es1.size=ds.length) (ht:TabOk (Qg w) t2)
  {dummy:Bool} {R:Option Bool->Shared->Prop} (h:∀h',U1b a s.heap h'->SetT prog w h' a ds->R (some true) { s with heap:=h' }) :
  wpAny (model prog w) A (do
    storeSet a es1 t2
    if (!dummy&&t2.tooFull)=true then do
      g (relayAll t2 es1 (U4q es1.size)).2.2
      storeSet a (relayAll t2 es1 (U4q es1.size)).1 (relayAll t2 es1 (U4q es1.size)).2.1
      pure (some true)
     else pure (some true)) R E s:=by
 obtain⟨g1,T1⟩:=SetT.stored (prog:=prog) (w:=w) ho hex hd nd hel hm hb hf hn ht
 have sb1:=U16 s.heap a (Obj.putSet es1 t2)
 refine U0 (wpAny_storeSet_of ho hd ?_ (fits_of_scanBound hb))
 split
 .have p:=relayAll_perm t2 es1 (U4q es1.size)
  have f:=relayAll_fits t2 es1 (U4q es1.size)
  have tb:=cT ht es1 (U4q es1.size)
  generalize relayAll t2 es1 (U4q es1.size)=RR at p f tb
  obtain⟨es2,t3,gave⟩:=RR
  have sz:es2.size=es1.size:=by simpa using p.length_eq
  have T2:=SetT.stored (prog:=prog) (w:=w) (es':=es2) (t':=t3) g1 hex rfl nd (hel.perm p) (fun k=>(hm k).trans ⟨fun⟨e,he,q⟩=>⟨e,p.mem_iff.mpr he,q⟩,fun⟨e,he,q⟩=>⟨e,p.mem_iff.mp he,q⟩⟩)
   (by rw[sz];exact hb) f (by rw[sz];exact hn) tb
  refine U0 (hg _ _ _ (U0 (wpAny_storeSet_of g1 rfl ?_ (fits_of_scanBound (by show es2.size<_;rw[sz];exact hb)))))
  exact U0f (h _ (sb1.trans (U16 _ a _)) T2.2)
 .exact U0f (h _ sb1 T1)
theorem fG{a:Addr}{ds:List Int}{k:Int}{t0:Tok}{Q:Bool->Shared->Prop}(hS:SetT prog w s.heap a ds)(room:ds.length+1<scanBound)
  (h:∀b h',U1b a s.heap h'->SetT prog w h' a (Hj ds k)->Q b { s with heap:=h' }):wpAny (model prog w) A (setAddHashed a (.int k t0) ((intKind prog w).hash k)) Q E s:=by
 obtain⟨nd,o,es,ep,t,ho,hex,hd,hel,hm,hb,hf,hn,ht⟩:=hS
 have hkey:(intKind prog w).is k (.int k t0)=true:=intKind_is prog w k t0
 have hsc:(U3m k t0).scannable=true:=rfl
 unfold setAddHashed setAddHashedIn
 refine U2j (U0 (U4j ho hd hf ?_))
 dsimp only
 rw[byScan_of hsc hb hel,if_pos rfl]
 unfold setAddByScan
 refine U0 (U0 (U45 (U0 (wpAny_setScan_of hkey ho hd hf hel ?_))))
 cases hr:List.findIdx? (fun e=>(intKind prog w).is k e.2) es.toList with
 |some j =>
  obtain⟨hj,hpj,_⟩:=List.findIdx?_eq_some_iff_getElem.mp hr
  have hk:k∈ds:=of_decide_eq_true ((hm k).mpr ⟨es.toList[j],U1s hj,hpj⟩)
  refine U0f (U0f ?_)
  have q:=h false s.heap (U1b.refl a s.heap) (by
   have e:Hj ds k=ds:=by unfold Hj;rw[if_pos hk]
   rw[e];exact⟨nd,o,es,ep,t,ho,hex,hd,hel,hm,hb,hf,hn,ht⟩)
  cases s;exact q
 |none =>
  have hk:k ∉ ds:=fun z=>by
   obtain⟨e,he,hp⟩:=(hm k).mp (decide_eq_true z)
   have q:=List.findIdx?_eq_none_iff.mp hr e he
   rw[hp] at q;cases q
  have eA:Hj ds k=ds++[k]:=by unfold Hj;rw[if_neg hk]
  have p:=layNew_perm t es ((intKind prog w).hash k) (.int k t0)
  have f:=layNew_fits t es ((intKind prog w).hash k) (.int k t0)
  have tb:=jL ht es ((intKind prog w).hash k) (.int k t0)
  generalize layNew t es ((intKind prog w).hash k) (.int k t0)=LL at p f tb
  obtain⟨es1,t1,dummy,gave⟩:=LL
  dsimp only at p f tb ⊢
  rw[Array.toList_push] at p
  have hel1:ElemsOf (intKind prog w) es1.toList:=(hel.push hkey hsc).perm p
  have sz:es1.size=(Hj ds k).length:=by
   have q:=p.length_eq
   rw[U1u,U0r,U3v,U1u] at q
   rw[q,eA,U0r,U3v,hn]
  have hm1:∀j,decide (j∈Hj ds k)=true↔∃e∈es1.toList,(intKind prog w).is j e.2=true:=fun j=>by
   rw[←mem_push_iff (S:=fun k'=>decide (k'∈ds)) hkey hm p j]
   simp only[decide_eq_true_eq,U6s,Yc]
  have hb1:es1.size<scanBound:=by rw[sz,eA,U0r,U3v];exact room
  refine U0 ?_
  have gw:∀(b:Bool)(s₁:Shared)(Q':Unit->Shared->Prop),Q' () s₁->wpAny (model prog w) A (match b with|true=>rule "set.scan.the-table-gave-way"|false=>pure ()) Q' E s₁:=fun b s₁ Q' q=>by
   cases b
   .exact U0f q
   .exact U45 q
  refine gw _ _ _ ?_
  split
  .refine U0 ?_
   rw[hashByValue_scannable 8 hsc]
   refine U0f (Z4 gw ho hex hd (WQ nd k) hel1 hm1 hb1 ?_ sz ?_ fun h' sb T=>U0f (h true h' sb T))
   .split
    .exact f
    .exact SetTable.fits_plain_off f
   .split
    .exact tb
    .exact tb.tK false
  .refine U0 (U0f ?_)
   rw[if_pos rfl]
   exact Z4 gw ho hex hd (WQ nd k) hel1 hm1 hb1 f sz tb fun h' sb T=>U0f (h true h' sb T)
end
end SetP
end
section
set_option maxRecDepth 100000
namespace SetP
open PySem PyProof.Rows
theorem Yp:entryFor table "set.update.loop"=some Builtin.«set.update.loop»:=entryFor_of_tree (by kernel_rfl)
theorem UW:plainId "set.update.loop"=true:=by decide +kernel
def once(ns:List Int):List Int:=ns.foldl Hj []
theorem mF(ns:List Int)(k:Int):once (ns++[k])=Hj (once ns) k:=by unfold once;rw[U3i];rfl
theorem QD:∀(ns:List Int),(once ns).Nodup/\(once ns).length<=ns.length/\∀j,j∈once ns↔j∈ns:=by
 intro ns
 have all:∀(ns ds:List Int),ds.Nodup->(ns.foldl Hj ds).Nodup/\(ns.foldl Hj ds).length<=ds.length+ns.length/\∀j,j∈ns.foldl Hj ds↔j∈ds∨j∈ns:=by
  intro ns
  induction ns with
  |nil=>intro ds h;exact⟨h,by simp,fun j=>by simp⟩
  |cons n r ih =>
   intro ds h
   obtain⟨a,b,c⟩:=ih (Hj ds n) (WQ h n)
   refine⟨a,?_,fun j=>?_⟩
   .have:=nU ds n
    rw[U13,U0j];omega
   .rw[U13,c j,Yc,U00]
    constructor
    .rintro((z|z)|z)
     .exact .inl z
     .exact .inr (.inl z)
     .exact .inr (.inr z)
    .rintro(z|z|z)
     .exact .inl (.inl z)
     .exact .inl (.inr z)
     .exact .inr z
 obtain⟨a,b,c⟩:=all ns [] List.nodup_nil
 exact⟨a,by rw[U05,U7j] at b;exact b,fun j=>by rw[show once ns=ns.foldl Hj [] from rfl,c j];simp⟩
section
variable{prog:Program}{w:World}{A:Around}{E:Value->Shared->Prop}{s:Shared}
theorem oM{R:Result->Shared->Prop}{S I l:Addr}{items:Array Value}{ns:List Int}(hh:A.handled=none)(hi:IntsAre items.toList ns)(hb:items.size+1<scanBound)(hSI:S≠I)(hSl:S≠l)(hIl:I≠l) :
  ∀(k i:Nat)(s:Shared),items.size-i=k->i<=items.size->s.heap.IsListIter I l i->s.heap.IsList l items->SetT prog w s.heap S (once (ns.take i)) ->
   (∀h' tk,(∀b o,b≠S->b≠I->s.heap.get? b=some o->h'.get? b=some o)->SetT prog w h' S (once ns)->R (.ok (.ret .none)) { s with heap:=h',toks:=tk }) ->
   codeAny (model prog w) A (.builtin "set.update.loop" ⟨[.ref S,.ref I],[]⟩) R s:=by
 have hlen:items.size=ns.length:=by have:=hi.length;simpa using this
 intro k
 induction k with
 |zero =>
  intro i s hk hi' it il T hR
  have e:i=items.size:=by omega
  subst e
  refine codeAny_builtin Yp ?_
  rw[U2z UW _]
  show wpAny _ A.in1 (pyNext (.ref I) >>= _) _ _ s
  refine U0 (wpAny_pyNext_list_end hh it il (by simp) fun h' eb=>?_)
  show wpAny _ A.in1 (ret U22) _ _ _
  refine U0f (hR h' s.toks (fun b o _ hbI q=>eb b o hbI q) ?_)
  rw[U6d (by omega)] at T
  exact T.sameBut fun o q=>eb S o hSI q
 |succ k ih =>
  intro i s hk hi' it il T hR
  have hlt:i<items.size:=by omega
  refine codeAny_builtin Yp ?_
  rw[U2z UW _]
  show wpAny _ A.in1 (pyNext (.ref I) >>= _) _ _ s
  refine U0 (wpAny_pyNext_list_item it il (x:=items[i]) (by simp[hlt]) fun h1 it1 sb1=>?_)
  have hn:i<ns.length:=by omega
  obtain⟨t0,hv⟩:∃t0,items[i]=.int ns[i] t0:=by
   have all:∀{vs:List Value} {ms:List Int},IntsAre vs ms->∀(j:Nat)(h1:j<vs.length)(h2:j<ms.length),∃t0,vs[j]=.int ms[j] t0:=by
    intro vs ms r
    induction r with
    |nil=>intro j h1;simp at h1
    |cons n t _ ih=>intro j h1 h2;cases j with
     |zero=>exact⟨t,rfl⟩
     |succ j=>exact ih j (by simpa using h1) (by simpa using h2)
   have q:=all hi i (by simpa using hlt) hn
   simpa using q
  rw[hv]
  show wpAny _ A.in1 (holding [U3m ns[i] t0] (setAdd S (.int ns[i] t0)) >>= _) _ _ _
  have T1:SetT prog w h1 S (once (ns.take i)):=T.sameBut fun o q=>(sb1.2 S hSI).trans q
  have il1:h1.IsList l items:=by
   obtain⟨o,ho,r⟩:=il
   exact⟨o,(sb1.2 l hIl.symm).trans ho,r⟩
  refine U0 (U2j ?_)
  unfold setAdd
  refine U2j (U0 ((intKind prog w).pyHash (k:=ns[i]) (intKind_is _ _ _ _) ?_))
  have room:(once (ns.take i)).length+1<scanBound:=by
   have q:=(QD (ns.take i)).2.1
   rw[U19] at q
   omega
  refine fG (s:={ s with heap:=h1,toks:=s.toks+1 }) T1 room fun b h2 sb2 T2=>?_
  have T2':SetT prog w h2 S (once (ns.take (i+1))):=by
   rw[List.take_succ_eq_append_getElem hn,mF];exact T2
  refine U0f ⟨plainId_quiet UW _,ih (i+1) _ (by omega) hlt ?_ ?_ T2' fun h' tk hk' T'=>?_⟩
  .obtain⟨o,ho,r⟩:=it1
   exact⟨o,(sb2.2 I hSI.symm).trans ho,r⟩
  .obtain⟨o,ho,r⟩:=il1
   exact⟨o,(sb2.2 l hSl.symm).trans ho,r⟩
  .exact hR h' tk (fun c o hcS hcI q=>hk' c o hcS hcI ((sb2.2 c hcS).trans ((sb1.2 c hcI).trans q))) T'
theorem Jbf(a:Value){Q₁:Value->Shared->Prop}
  (h:Q₁ (.ref s.heap.objs.size) { s with heap:=s.heap.push { cls:=.type "set",dict:=none,data:=.set #[] 0 (.fresh 0 0 (Qg w)) } }) :
  codeAny (model prog w) A (.call (.builtin "set.__new__") ⟨[.type "set",a],[]⟩) (wants Q₁ E) s:=by
 refine codeAny_of_tree ?_
 have hck:checkBuiltinCall "set.__new__" ⟨[.type "set",a],[]⟩=pure ():=by kernel_rfl
 show wpAny _ A.in1 (checkBuiltinCall "set.__new__" ⟨[.type "set",a],[]⟩ >>= fun _=>again (.builtin "set.__new__" ⟨[.type "set",a],[]⟩)) _ _ s
 rw[hck]
 refine U0 (U0f (U0f ⟨plainId_quiet F.plain_set_new _,codeAny_builtin F.entry_set_new ?_⟩))
 rw[U2z F.plain_set_new _]
 have hsub:=sub_set_self
 unfold Builtin.«set.__new__» Builtin.Frozenset.newClass
 obtain⟨hp,g,d,tk,os⟩:=s
 dsimp only
 wp_walk
 refine U4w (U0f ?_)
 simp only[newObj]
 exact U0 (wpAny_alloc (U0f (U0f h)))
theorem qx{M:Model}{self a:Value}{Q:Unit->Shared->Prop}(hT:s.TypeIs self "set")(hQ:Q () s):wpAny M A (checkBuiltinCall "set.__init__" ⟨[self,a],[]⟩) Q E s:=by
 simp only[checkBuiltinCall,kind_set_init,split_set_init,sig_set_init]
 refine U0 (U5f hT sub_set_self ?_)
 simp only[U4h,U1o,if_false]
 unfold Bind.checkArgs
 dsimp only
 refine U0 (m:=Bind.printed "set" true _ _) (printed_name (by decide) ?_)
 refine U0 (m:=Bind.printed "*" false _ _) (printed_star (self:=self) rfl hT fun short=>?_)
 have one:(if (U59.self==U59.none)=true then [self,a].length else [self,a].length-1)=1:=by
  have z:(U59.self==U59.none)=false:=by decide
  simp[z]
 rw[one]
 simp only[U08]
 have z1:(U4i==U4i)=true:=by decide
 have z2:(U4i==U39.posOrKw)=false:=by decide
 have z3:(U4i==U39.varPos)=false:=by decide
 have fine:Bind.check ⟨.positional,"set","*",.self,[⟨"iterable",.posOnly,false⟩]⟩ "set" short 1 []=pure ():=by
  simp[Bind.check,Bind.checkCount,Bind.isPositional,z1,z2,z3]
 rw[fine]
 exact U0f hQ
set_option maxHeartbeats 3200000 in
theorem tX{l:Addr}{items:Array Value}{ns:List Int}{Q:Value->Shared->Prop}(hh:A.handled=none)(hl:s.heap.IsList l items)(hi:IntsAre items.toList ns)(hb:items.size+1<scanBound)
  (h:∀h' tk,(∀b o,s.heap.get? b=some o->h'.get? b=some o)->SetT prog w h' s.heap.objs.size (once ns)->Q (.ref s.heap.objs.size) { s with heap:=h',toks:=tk }) :
  wpAny (model prog w) A (call (.type "set") [.ref l]) Q E s:=by
 have hmade:=U4x.made
 have hsub:=U4x.sub
 have h1:=U4x.notType
 have h2:=U4x.canCreate
 have hct:checkTypeCall "set" ⟨[.ref l],[]⟩=pure ():=by kernel_rfl
 obtain⟨c,tl,hmro⟩:=U4x.mro
 refine wpAny_call (codeAny_of_tree ?_)
 show wpAny _ _ (callAny (.type "set") ⟨[.ref l],[]⟩) _ _ s
 refine U0f ⟨Code.quiet_builtin _ (by decide +kernel),codeAny_builtin F.entry_type_call ?_⟩
 rw[Around.under_plain (weight_type_call_type "set" [.ref l] []) rfl]
 repeat (any_goals (first|assumption|wp_step))
 refine codeAny_mono (Jbf (.ref l) (E:=E) (Q₁:=fun obj s₁=>obj=.ref s.heap.objs.size/\s₁={ s with heap:=s.heap.push { cls:=.type "set",dict:=none,data:=.set #[] 0 (.fresh 0 0 (Qg w)) } }) ⟨rfl,rfl⟩) fun r s₁ hr=>?_
 cases r with
 |error e=>exact hr
 |ok fl =>
  cases fl with
  |ret obj =>
   obtain⟨rfl,rfl⟩:=hr
   generalize hg1:s.heap.push { cls:=.type "set",dict:=none,data:=.set #[] 0 (.fresh 0 0 (Qg w)) }=g1
   have e1:g1.get? s.heap.objs.size=some { cls:=.type "set",dict:=none,data:=.set #[] 0 (.fresh 0 0 (Qg w)) }:=hg1 ▸ U0v _ rfl
   have k1:∀b o,s.heap.get? b=some o->g1.get? b=some o:=fun b o q=>hg1 ▸ U0d _ q
   have z1:g1.objs.size=s.heap.objs.size+1:=by rw[←hg1,U2e]
   have hT:U6g { s with heap:=g1 } (.ref s.heap.objs.size) "set":=⟨_,e1,rfl⟩
   have hli:=U4x.init.lookup
   have hbi:=U4x.init.bind (.ref s.heap.objs.size)
   repeat (any_goals (first|assumption|wp_step))
   refine codeAny_mono (codeAny_call_builtin (R:=wants (fun r s₂=>r=.none/\∃h' tk,s₂={ s with heap:=h',toks:=tk }/\(∀b o,s.heap.get? b=some o->h'.get? b=some o)/\SetT prog w h' s.heap.objs.size (once ns)) E)
    U4x.init.plain F.entry_set_init (qx hT ?_)) fun r₂ s₂ hr₂=>?_
   .obtain⟨ol,hol,hcl,nl,hdl⟩:=hl
    obtain⟨ocls,odict,odata,oslots⟩:=ol
    simp only at hcl hdl
    subst hcl hdl
    have q1:g1.get? l=some { cls:=.type "list",dict:=odict,data:=.seq items nl,slots:=oslots }:=k1 _ _ hol
    have il:g1.IsList l items:=⟨_,q1,rfl,nl,rfl⟩
    have hlS:l<s.heap.objs.size:=U0q hol
    have hs1:isSubtype (.type "list") (.type "set")=pure false:=by rw[isSubtype_type];kernel_rfl
    have hs2:isSubtype (.type "list") (.type "frozenset")=pure false:=by rw[isSubtype_type];kernel_rfl
    have hs3:(U3s "list"==U3s "dict")=false:=by decide
    unfold Builtin.«set.__init__» noKeywords Builtin.Frozenset.updateFrom
    generalize hPI:pyIter=PI
    wp_walk
    subst hPI
    refine U5b il (U0 (wpAny_runValue ?_))
    have n1:s.heap.objs.size≠g1.objs.size:=by rw[z1];exact U03 (U4v _)
    have n2:s.heap.objs.size≠l:=U1x hlS
    have n3:g1.objs.size≠l:=by rw[z1];exact U1x (U3a hlS)
    refine oM (l:=l) (items:=items) (by simpa using hh) hi hb n1 n2 n3 (items.size-0) 0 _ (by omega) (U3x _) ⟨_,U0v _ rfl,rfl,rfl⟩ ?_ ?_ ?_
    .obtain⟨o,ho,r⟩:=il
     exact⟨o,U0d _ ho,r⟩
    .refine⟨List.nodup_nil,_,#[],0,_,U0d _ e1,⟨rfl,rfl,rfl⟩,rfl,fun e he=>by simp at he,fun k=>by simp[once],by decide,by rfl,rfl,TabOk.fresh _ _ _⟩
    .intro h' tk hk T
     show wpAny _ _ _ _ _ _
     refine U0f ?_
     show wpAny _ _ (ret U22) _ _ _
     refine U0f ⟨rfl,h',tk,rfl,fun b o q=>?_,T⟩
     have hb':=U0q q
     exact hk b o (U03 hb') (by rw[z1];exact U03 (U3a hb')) (U0d _ (k1 b o q))
   .cases r₂ with
    |error e=>exact hr₂
    |ok fl₂ =>
     cases fl₂ with
     |ret r =>
      obtain⟨rfl,h',tk,rfl,hk,T⟩:=hr₂
      repeat (any_goals (first|assumption|wp_step))
      exact h h' tk hk T
     |_=>exact hr₂.elim
  |_=>exact hr.elim
end
end SetP
end
section
set_option maxRecDepth 100000
namespace SetP
open PySem PyProof.Rows
theorem Ss{α:Type}:∀(l:List α)(i:Nat)(h:i<l.length),(l[i]::l.eraseIdx i).Perm l
 |[],i,h=>absurd h (by simp)
 |x::r,0,_=>U66 _
 |x::r,i+1,h=>(U4p.swap x _ _).trans (U7x x (Ss r i (by simpa using h)))
theorem VP:∀{ds ns:List Int},ds.Nodup->(∀k,k∈ds->k∈ns)->ns.length<=ds.length->ns.Perm ds
 |[],ns,_,_,h=>by
  have e:ns=[]:=U2n.mp (by simpa using h)
  rw[e]
 |d::r,ns,nd,sub,h=>by
  have hd:d∈ns:=sub d U0x
  have p:=List.perm_cons_erase hd
  obtain⟨h1,h2⟩:=U5q.mp nd
  refine p.trans (U7x d (VP h2 (fun k hk=>?_) ?_))
  .have hne:k≠d:=fun e=>h1 (e ▸ hk)
   exact(List.mem_erase_of_ne hne).mpr (sub k (U0p _ hk))
  .rw[List.length_erase_of_mem hd]
   rw[U0j] at h
   omega
theorem fj{α:Type}(next:Nat->Nat):∀(fuel k:Nat)(left:List α)(out:Array α),left.length=fuel->(pickOrder.go next fuel k left out).toList.Perm (out.toList++left)
 |0,_,left,out,h=>by
  have e:left=[]:=U2n.mp h
  subst e
  unfold pickOrder.go
  simp
 |fuel+1,k,left,out,h=>by
  unfold pickOrder.go
  have hi:next k%left.length<left.length:=Nat.mod_lt _ (by omega)
  rw[U0i hi]
  dsimp only
  refine(fj next fuel (k+1) _ _ (by rw[List.length_eraseIdx_of_lt hi];omega)).trans ?_
  rw[Array.toList_push,U5]
  exact U4p.append_left _ (Ss _ _ hi)
theorem m6{α:Type}(next:Nat->Nat)(xs:Array α):(pickOrder next xs).toList.Perm xs.toList:=by
 unfold pickOrder
 simpa using fj next xs.size 0 xs.toList #[] (by simp)
section
variable{M:Model}{A:Around}{E:Value->Shared->Prop}
theorem jV{src:Source}{n:Nat}{s:Shared}{Q:Nat->Shared->Prop}(hn:n≠0)(h:∀i d',i<n->Q i { s with drawn:=d' }):wpAny M A (choose src n) Q E s :=
 fun _ _ _=>⟨hn,h _ _ (Nat.mod_lt _ (Nat.pos_of_ne_zero hn))⟩
theorem T4{α:Type}:∀(n:Nat)(xs:List α)(s:Shared)(Q:List α->Shared->Prop),xs.length<=n->(∀ys d',ys.Perm xs->Q ys { s with drawn:=d' })->wpAny M A (drawOrder n xs) Q E s
 |0,xs,s,Q,h,q=>by
  have e:xs=[]:=U2n.mp (by omega)
  subst e
  unfold drawOrder
  exact U0f (q [] s.drawn (U66 _))
 |n+1,[],s,Q,h,q=>by
  unfold drawOrder
  exact U0f (q [] s.drawn (U66 _))
 |n+1,x::xs,s,Q,h,q=>by
  unfold drawOrder
  refine U0 (jV (by simp) fun i d' hi=>?_)
  rw[U0i hi]
  dsimp only
  refine U0 (T4 n _ _ _ (by rw[List.length_eraseIdx_of_lt hi];simp at h ⊢;omega) fun ys d'' p=>U0f (q _ d'' ?_))
  exact(U7x _ p).trans (Ss _ _ hi)
end
theorem Gh:Slot "set_iterator" "__next__" "set_iterator.__next__" :=
 .of (owner:="set_iterator") (n:="__next__") (by rw[typeLookup_type,builtinLookup_eq_fast];kernel_rfl) (by decide +kernel) (by decide +kernel) (by decide +kernel)
  (by first|exact .inl (by decide +kernel)|exact .inr (by decide +kernel)) (by rw[isSubtype_type];kernel_rfl)
theorem Qd:entryFor table "set_iterator.__next__"=some Builtin.«set_iterator.__next__»:=entryFor_of_tree (by kernel_rfl)
theorem Qu(a:Value):argsOk "set_iterator.__next__" ⟨[a],[]⟩:=by unfold argsOk;kernel_rfl
theorem YC:entryFor table "set.__iter__"=some Builtin.«frozenset.__iter__» :=
 entryFor_alias (id':="frozenset.__iter__") (by kernel_rfl) rfl (by decide +kernel) (by kernel_rfl)
def Lg(first:Value)(i:Nat)(S:Addr)(n ep:Nat):Obj:={ cls:=.type "set_iterator",data:=.fields #[first,.int i 0,.ref S,.int n 0,.int ep 0] }
inductive Road (w:World) (h:Heap) (es:Array (Int×Value)) (ep:Nat) (t:SetTable) (S it T:Addr) (vs:List Value) (i:Nat):Value->Prop
 |text (k:Int):w.params.followText "set-order"=true->(∀(j:Nat),vs[j]?=((pickOrder (w.params.setOrder S ep) es)[j]?).map fun(e:Int×Value)=>e.2)->Road w h es ep t S it T vs i (.int k 0)
 |plain:w.params.followText "set-order"=false->(!t.plain&&decide (es.size>1))=false->TabOk true t->(∀(j:Nat),vs[j]?=(es[j]?).map fun(e:Int×Value)=>e.2)->Road w h es ep t S it T vs i (.int ((if i=0 then 0 else t.place.getD (i-1) 0+1:Nat):Int) 0)
 |drawn (ps:List Nat):T≠it->h.get? T=some { cls:=.type "tuple",data:=.seq (ps.map fun(p:Nat)=>rawInt p).toArray 0 }->(∀p∈ps,p<es.size)->(∀(j:Nat),vs[j]?=(ps[j]?).bind fun p=>(es[p]?).map fun(e:Int×Value)=>e.2)->Road w h es ep t S it T vs i (.ref T)
structure PK(w:World)(h:Heap)(it S T:Addr)(vs:List Value)(i:Nat):Prop where
 ne:it≠S
 ex:∃o es ep t first,h.get? S=some o/\o.data=.set es ep t/\t.fits es.size=true/\vs.length=es.size/\h.get? it=some (Lg first i S es.size ep)/\Road w h es ep t S it T vs i first
section
variable{prog:Program}{w:World}{A:Around}{E:Value->Shared->Prop}{s:Shared}
theorem PK.keep{h h':Heap}{it S T:Addr}{vs:List Value}{i:Nat}(x:PK w h it S T vs i)(k:∀b∈[it,S,T],∀o,h.get? b=some o->h'.get? b=some o):PK w h' it S T vs i:=by
 obtain⟨ne,o,es,ep,t,first,a,b,c,d,e,r⟩:=x
 refine⟨ne,o,es,ep,t,first,k S (by simp) _ a,b,c,d,k it (by simp) _ e,?_⟩
 cases r with
 |text k1 z1 z2=>exact .text k1 z1 z2
 |plain z1 z2 z3 z4=>exact .plain z1 z2 z3 z4
 |drawn ps z1 z2 z3 z4=>exact .drawn ps z1 (k T (by simp) _ z2) z3 z4
theorem zY{S:Addr}{ds:List Int}{Q:Value->Shared->Prop}(hS:SetT prog w s.heap S ds)
  (h:∀h' d' it T vs,(∀b o,s.heap.get? b=some o->h'.get? b=some o)->s.heap.objs.size<=it->(T=S∨s.heap.objs.size<=T)->PK w h' it S T vs 0->(∃ns,IntsAre vs ns/\ns.Perm ds)->Q (.ref it) { s with heap:=h',drawn:=d' }) :
  wpAny (model prog w) A (pyIter (.ref S)) Q E s:=by
 obtain⟨nd,o,es,ep,t,ho,hex,hd,hel,hm,hb,hf,hn,ht⟩:=hS
 have hT:s.TypeIs (.ref S) "set":=⟨o,ho,hex.1⟩
 have hlt:=U0q ho
 -- the members as ints
 have intsV:∀(l:List (Int×Value)),ElemsOf (intKind prog w) l->∃ns,IntsAre (l.map (·.2)) ns/\∀k,k∈ns↔∃e∈l,(intKind prog w).is k e.2=true:=by
  intro l
  induction l with
  |nil=>intro _;exact⟨[],.nil,fun k=>by simp⟩
  |cons e r ih =>
   intro he
   obtain⟨ns,a,b⟩:=ih he.tail
   obtain⟨⟨k0,hk0,_⟩,_⟩:=he.head
   obtain⟨t0,e0⟩:=Value.isInt_shape (show Value.isInt k0 e.2=true from hk0)
   refine⟨k0::ns,by rw[U0m,e0];exact .cons k0 t0 a,fun k=>?_⟩
   rw[U00,b k]
   constructor
   .rintro(z|⟨e',he',q⟩)
    .exact⟨e,U0x,by rw[z];exact hk0⟩
    .exact⟨e',U0p _ he',q⟩
   .rintro⟨e',he',q⟩
    rcases U00.mp he' with z|z
    .subst z;exact .inl ((intKind prog w).inj _ _ _ q hk0)
    .exact .inr ⟨e',z,q⟩
 -- any order of the members is the ints in some order
 have fin:∀(l:List (Int×Value)),l.Perm es.toList->∃ns,IntsAre (l.map (·.2)) ns/\ns.Perm ds:=fun l p=>by
  obtain⟨ns,a,b⟩:=intsV l (hel.perm p)
  refine⟨ns,a,?_⟩
  have hsub:ds ⊆ ns:=fun k hk=>(b k).mpr (by
   obtain⟨e,he,q⟩:=(hm k).mp (decide_eq_true hk)
   exact⟨e,p.mem_iff.mpr he,q⟩)
  have hle:ns.length<=ds.length:=by
   have q1:(l.map (·.2)).length=ns.length:=IntsAre.length a
   rw[U0k] at q1
   exact U77 (by rw[←q1,p.length_eq,U1u,hn])
  exact VP nd (fun k hk=>hsub hk) hle
 refine U7f hT F.slot_set_iter (U2p F.slot_set_iter hT YC ?_ (F.args_set_iter_1 _))
 unfold Builtin.«frozenset.__iter__» Builtin.Frozenset.slot0 slotArgs
 simp only[U7k,U4h,U1o,↓reduceIte,bind_assoc,U05,bne_self_eq_false]
 unfold Builtin.Frozenset.addrOf Builtin.Frozenset.sizeOf
 refine U0 (U0f ?_)
 try dsimp only
 refine U0 (U0f ?_)
 refine U0 (U0 (U6y ho hd hf (U0f ?_)))
 unfold setDrawn setsByText
 simp only[bind_assoc]
 refine U0 (U4j ho hd hf ?_)
 refine U0 (U4w ?_)
 refine U0 (U0f (U0 (U0f ?_)))
 show wpAny (model prog w) A.in1 (if (!(w.params.followText "set-order")&&(!t.plain&&decide (es.size>1)))=true then _ else _) _ _ s
 have len2:∀(ps:List Nat),ps.Perm (U0g es.size)->((ps.filterMap fun p=>es[p]?)).Perm es.toList/\∀(j:Nat),((ps.filterMap fun p=>es[p]?).map (·.2))[j]?=(ps[j]?).bind fun p=>(es[p]?).map fun(e:Int×Value)=>e.2:=fun ps p=>by
  refine⟨(p.filterMap _).trans (by rw[filterMap_getElem?_range]),?_⟩
  have all:∀(ps:List Nat),(∀p∈ps,p<es.size)->∀(j:Nat),((ps.filterMap fun p=>es[p]?).map (·.2))[j]?=(ps[j]?).bind fun p=>(es[p]?).map fun(e:Int×Value)=>e.2:=by
   intro ps
   induction ps with
   |nil=>intro _ j;simp
   |cons q r ih =>
    intro hq j
    have hq':q<es.size:=hq q U0x
    rw[U3b (b:=es[q]) (by simp[hq'])]
    cases j with
    |zero=>simp[hq']
    |succ j=>simpa using ih (fun p hp=>hq p (U0p _ hp)) j
  exact all ps fun q hq=>U2h.mp (p.mem_iff.mp hq)
 split
 .rename_i hc
  refine U0 (T4 es.size (U0g es.size) s _ (by simp) fun ps d' p=>?_)
  obtain⟨p1,p2⟩:=len2 ps p
  refine U0 (U2i ?_ ?_)
  .refine U0 (wpAny_setEpoch_of (U0d _ ho) hd hf ?_)
   refine U0 (U2i (U0f ⟨_,rfl,"set_iterator",_,⟨_,U0v _ rfl,rfl⟩,Gh.lookup,?_⟩))
   refine h _ d' _ s.heap.objs.size ((ps.filterMap fun p=>es[p]?).map (·.2)) (fun b o' e=>U0d _ (U0d _ e)) ?_ (.inr (U0t _)) ?_ (fin _ p1)
   .show s.heap.objs.size<=(s.heap.push _).objs.size
    rw[U2e];exact U4o _
   .refine⟨?_,o,es,ep,t,_,U0d _ (U0d _ ho),hd,hf,?_,U0v _ rfl,.drawn ps ?_ (U0d _ (U0v _ rfl)) (fun q hq=>U2h.mp (p.mem_iff.mp hq)) p2⟩
    .show(s.heap.push _).objs.size≠S
     rw[U2e];exact U1x (U3a hlt)
    .rw[U0k,p1.length_eq,U1u]
    .show s.heap.objs.size≠(s.heap.push _).objs.size
     rw[U2e];exact U03 (U4v _)
  .show _<=sizeLine
   rw[U0s,U0k,p.length_eq,U2s]
   exact fits_of_scanBound hb
 .rename_i hc
  refine U0 (U0f (U0 (wpAny_setEpoch_of ho hd hf ?_)))
  refine U0 (U2i (U0f ⟨_,rfl,"set_iterator",_,⟨_,U0v _ rfl,rfl⟩,Gh.lookup,?_⟩))
  by_cases ht':w.params.followText "set-order"=true
  .have pp:=m6 (w.params.setOrder S ep) es
   have q:=h (s.heap.push (Lg (rawInt 0) 0 S es.size ep)) s.drawn s.heap.objs.size S ((pickOrder (w.params.setOrder S ep) es).toList.map (·.2)) (fun b o' e=>U0d _ e) (U0t _) (.inl rfl)
    ⟨U1x hlt,o,es,ep,t,_,U0d _ ho,hd,hf,by rw[U0k,pp.length_eq,U1u],U0v _ rfl,.text 0 ht' fun j=>by rw[U0w,U24]⟩ (fin _ pp)
   exact q
  .have hf':w.params.followText "set-order"=false:=by simpa using ht'
   have hL:Qg w=true:=by show(!_)=true;rw[hf'];rfl
   rw[hL] at ht
   have hdr:(!t.plain&&decide (es.size>1))=false:=by
    rw[hf'] at hc
    simpa using hc
   have q:=h (s.heap.push (Lg (rawInt 0) 0 S es.size ep)) s.drawn s.heap.objs.size S (es.toList.map (·.2)) (fun b o' e=>U0d _ e) (U0t _) (.inl rfl)
    ⟨U1x hlt,o,es,ep,t,_,U0d _ ho,hd,hf,by rw[U0k,U1u],U0v _ rfl,.plain hf' hdr ht fun j=>by rw[U0w,U24]⟩ (fin _ (U66 _))
   exact q
end
end SetP
end
section
set_option maxRecDepth 100000
namespace SetP
open PySem PyProof.Rows
section
variable{prog:Program}{w:World}{A:Around}{E:Value->Shared->Prop}{s:Shared}
theorem Wx(first x:Value)(i:Nat)(S:Addr)(n ep:Nat):U34 (·.setIfInBounds 0 x) (Lg first i S n ep)=Lg x i S n ep:=rfl
theorem jN(first:Value)(i:Nat)(S:Addr)(n ep:Nat):U34 (·.setIfInBounds 1 (rawInt ((i:Int)+1))) (Lg first i S n ep)=Lg first (i+1) S n ep:=rfl
theorem Uk{S:Addr}{o:Obj}{es:Array (Int×Value)}{ep slot given:Nat}{t:SetTable}{Q:Option (Value×Nat)->Shared->Prop}(ho:s.heap.get? S=some o)(hd:o.data=.set es ep t)(hf:t.fits es.size=true)
  (z:w.params.followText "set-order"=true) (h:Q (((pickOrder (w.params.setOrder S ep) es)[given]?).map fun e=>(e.2,slot)) s):wpAny (model prog w) A (setNext S slot given ep) Q E s:=by
 unfold setNext
 refine U0 (U4j ho hd hf ?_)
 unfold setsByText
 refine U0 (U0 (U4w (U0f ?_)))
 show wpAny _ _ (if (w.params.followText "set-order")=true then _ else _) _ _ s
 rw[if_pos z]
 show wpAny _ _ (if (ep != ep)=true then _ else _) _ _ s
 rw[if_neg (by simp)]
 unfold setWalk
 refine U0 (U0 (U4j ho hd hf ?_))
 unfold setsByText
 refine U0 (U0 (U4w (U0f ?_)))
 show wpAny _ _ (if (w.params.followText "set-order")=true then _ else _) _ _ s
 rw[if_pos z]
 exact U0 (U4w (U0f (U0f h)))
theorem Sw{S:Addr}{o:Obj}{es:Array (Int×Value)}{ep slot given:Nat}{t:SetTable}{Q:Option (Value×Nat)->Shared->Prop}(ho:s.heap.get? S=some o)(hd:o.data=.set es ep t)(hf:t.fits es.size=true)
  (z:w.params.followText "set-order"=false) (z2:(!t.plain&&decide (es.size>1))=false) (z3:t.led=true)
  (h:Q (match es[U1z t.place slot]?,t.place[U1z t.place slot]? with|some (_,x),some j=>some (x,j+1)|_,_=>none) s):wpAny (model prog w) A (setNext S slot given ep) Q E s:=by
 unfold setNext
 refine U0 (U4j ho hd hf ?_)
 unfold setsByText
 refine U0 (U0 (U4w (U0f ?_)))
 show wpAny _ _ (if (w.params.followText "set-order")=true then _ else _) _ _ s
 rw[if_neg (by rw[z];simp)]
 show wpAny _ _ (if (!t.plain&&decide (es.size>1))=true then _ else _) _ _ s
 rw[if_neg (by rw[z2];simp)]
 refine U0 ?_
 show wpAny _ _ (if (!t.led&&!es.isEmpty)=true then _ else _) _ _ s
 rw[if_neg (by rw[z3];simp)]
 exact U0f (U0f h)
theorem jF{it S T:Addr}{vs:List Value}{i:Nat}{v:Value}{Q:Option Value->Shared->Prop}(x:PK w s.heap it S T vs i)(hv:vs[i]?=some v)
  (h:∀h',U1b it s.heap h'->PK w h' it S T vs (i+1)->Q (some v) { s with heap:=h' }):wpAny (model prog w) A (pyNext (.ref it)) Q E s:=by
 obtain⟨ne,o,es,ep,t,first,ho,hd,hf,hl,hi,r⟩:=x
 have hT:s.TypeIs (.ref it) "set_iterator":=⟨_,hi,rfl⟩
 unfold pyNext
 refine U0 (U5h (wpAny_callSpecial?_slot (name:=U3r "__next__") hT Gh (U2p Gh hT Qd ?_ (Qu _))))
 unfold Builtin.«set_iterator.__next__» slotArgs
 simp only[U7k,U4h,U1o,↓reduceIte,U05,bne_self_eq_false]
 refine U0 (U0f ?_)
 refine U0 (wpAny_fieldsOf hi rfl ?_)
 show wpAny _ _ (setEntries S >>= _) _ _ s
 refine U0 (U6y ho hd hf ?_)
 show wpAny _ _ (if ((es.size:Int) != (es.size:Int))=true then _ else _) _ _ s
 rw[if_neg (by simp)]
 have lt:i<vs.length:=(U0n.mp hv).1
 have upd1:∀{h1:Heap} {f1:Value},h1.get? it=some (Lg f1 i S es.size ep)->(h1.update it (U34 (·.setIfInBounds 1 (rawInt ((i:Int)+1))))).get? it=some (Lg f1 (i+1) S es.size ep):=fun {h1 f1} e=>by
  rw[←jN f1 i S es.size ep];exact U18 _ e rfl
 have upd0:∀{h1:Heap} {f1 y:Value},h1.get? it=some (Lg f1 i S es.size ep)->(h1.update it (U34 (·.setIfInBounds 0 y))).get? it=some (Lg y i S es.size ep):=fun {h1 f1 y} e=>by
  rw[←Wx f1 y i S es.size ep];exact U18 _ e rfl
 cases r with
 |text k z1 z2 =>
  show wpAny _ _ (setNext S k.toNat i ep >>= _) _ _ s
  refine U0 (Uk ho hd hf z1 ?_)
  have q:=z2 i
  rw[hv] at q
  cases hp:(pickOrder (w.params.setOrder S ep) es)[i]? with
  |none=>rw[hp] at q;cases q
  |some e =>
   rw[hp] at q
   have q':v=e.2:=U1c q
   subst q'
   refine U0 (U3g hi rfl (by simp) (U0 (U3g (upd0 hi) rfl (by simp) (U0f ⟨_,rfl,U0f (h _ ((U16 ..).trans (U16 ..)) ⟨ne,o,es,ep,t,_,?_,hd,hf,hl,upd1 (upd0 hi),.text _ z1 z2⟩)⟩))))
   rw[U1d _ _ ne,U1d _ _ ne];exact ho
 |plain z1 z2 z3 z4 =>
  show wpAny _ _ (setNext S (Int.toNat ((if i=0 then 0 else t.place.getD (i-1) 0+1:Nat):Int)) i ep >>= _) _ _ s
  rw[U26]
  refine U0 (Sw ho hd hf z1 z2 z3.2 ?_)
  have psz:t.place.size=es.size:=by
   have q:=hf
   simp only[SetTable.fits,U1h,beq_iff_eq] at q
   exact q.1
  have hb:U1z t.place (if i=0 then 0 else t.place.getD (i-1) 0+1)=i:=by
   cases i with
   |zero=>rw[if_pos rfl];exact Xb z3.1
   |succ i=>rw[if_neg (by omega)];exact Xc z3.1 (by omega)
  rw[hb]
  have q:=z4 i
  rw[hv] at q
  have hie:i<es.size:=by omega
  have hip:i<t.place.size:=by omega
  rw[U2f hie] at q ⊢
  rw[U2f hip]
  have q':v=es[i].2:=U1c q
  subst q'
  show wpAny _ _ (setField (.ref it) 0 (rawInt ((t.place[i]+1:Nat):Int)) >>= _) _ _ s
  refine U0 (U3g hi rfl (by simp) (U0 (U3g (upd0 hi) rfl (by simp) (U0f ⟨_,rfl,U0f (h _ ((U16 ..).trans (U16 ..)) ⟨ne,o,es,ep,t,_,?_,hd,hf,hl,upd1 (upd0 hi),?_⟩)⟩))))
  .rw[U1d _ _ ne,U1d _ _ ne];exact ho
  .have e:t.place[i]=t.place.getD (i+1-1) 0:=by
    rw[U3e,Nat.add_sub_cancel,U2f hip];rfl
   have rr:∀hp:Heap,Road w hp es ep t S it T vs (i+1) (.int ((t.place[i]+1:Nat):Int) 0):=fun hp=>by
    have r1:Road w hp es ep t S it T vs (i+1) (.int ((if i+1=0 then 0 else t.place.getD (i+1-1) 0+1:Nat):Int) 0):=.plain z1 z2 z3 z4
    rw[if_neg (by omega),←e] at r1
    exact r1
   exact rr _
 |drawn ps z1 z2 z3 z4 =>
  show wpAny _ _ (seqItems? (.ref T) >>= _) _ _ s
  refine U0 (U2q z2 rfl ?_)
  have q:=z4 i
  rw[hv] at q
  cases hp:ps[i]? with
  |none=>rw[hp] at q;cases q
  |some p =>
   rw[hp] at q
   have hlt:p<es.size:=z3 p (U1k hp)
   have q2:some v=(es[p]?).map fun(e:Int×Value)=>e.2:=q
   rw[U2f hlt] at q2
   have q':v=es[p].2:=U1c q2
   subst q'
   have hg:((ps.map fun(p:Nat)=>rawInt p).toArray)[i]?=some (rawInt p):=by
    rw[U5c,U0w,hp];rfl
   show wpAny _ _ (match ((ps.map fun(p:Nat)=>rawInt p).toArray)[(i:Int).toNat]? with|some (.int place _)=>_|some _=>_|none=>_) _ _ s
   rw[U26,hg]
   show wpAny _ _ (setNextDrawn S p ep >>= _) _ _ s
   unfold setNextDrawn
   refine U0 (U0 (U4j ho hd hf ?_))
   show wpAny _ _ (if (ep != ep)=true then _ else _) _ _ s
   rw[if_neg (by simp)]
   dsimp only
   rw[U2f hlt]
   refine U0f ?_
   refine U0 (U3g hi rfl (by simp) (U0f ⟨_,rfl,U0f (h _ (U16 ..) ⟨ne,o,es,ep,t,_,?_,hd,hf,hl,upd1 hi,.drawn ps z1 ?_ z3 z4⟩)⟩))
   .rw[U1d _ _ ne];exact ho
   .rw[U1d _ _ z1.symm];exact z2
theorem mK{it S T:Addr}{vs:List Value}{Q:Option Value->Shared->Prop}(hh:A.handled=none)(x:PK w s.heap it S T vs vs.length)
  (h:∀h',U5k it s.heap h'->Q none { s with heap:=h' }):wpAny (model prog w) A (pyNext (.ref it)) Q E s:=by
 obtain⟨ne,o,es,ep,t,first,ho,hd,hf,hl,hi,r⟩:=x
 have hT:s.TypeIs (.ref it) "set_iterator":=⟨_,hi,rfl⟩
 unfold pyNext
 refine U0 (U5h (wpAny_callSpecial?_slot (name:=U3r "__next__") hT Gh (U2p Gh hT Qd ?_ (Qu _))))
 unfold Builtin.«set_iterator.__next__» slotArgs
 simp only[U7k,U4h,U1o,↓reduceIte,U05,bne_self_eq_false]
 refine U0 (U0f ?_)
 refine U0 (wpAny_fieldsOf hi rfl ?_)
 show wpAny _ _ (setEntries S >>= _) _ _ s
 refine U0 (U6y ho hd hf ?_)
 show wpAny _ _ (if ((es.size:Int) != (es.size:Int))=true then _ else _) _ _ s
 rw[if_neg (by simp)]
 have stop:∀{s1:Shared},U5k it s.heap s1.heap->s1={ s with heap:=s1.heap }->wpAny (model prog w) A.in1 (newExc (.type "StopIteration") [] >>= fun e=>(raiseNew e:Sem Fin)) (fun fin s'=>∃v,fin=.done (.ret v)/\wpAny (model prog w) A (pure (some v)) Q E s')
   (fun e s'=>wpAny (model prog w) A (do if ←isInstance e (.type "StopIteration") then pure none else throw e) Q E s') s1:=fun {s1} eb es1=>by
  refine U0 ?_
  simp only[newExc,newTuple]
  refine U0 (U2i ?_ (by size_fits))
  refine U0 (m:=firstArgMember _ _) (wpAny_of_eq (a:=U22) (by first|rfl|(simp only[firstArgMember];rfl)) ?_)
  refine U2i ?_ (by size_fits)
  simp only[raiseNew]
  refine U0 (wpAny_handled ?_)
  rw[show A.in1.handled=none from hh]
  refine U0 (U0f (wpAny_throw ?_))
  refine U0 (U5f (T:="StopIteration") (b:=true) ⟨_,U0v _ rfl,rfl⟩ isSubtype_stop ?_)
  rw[if_pos rfl,es1]
  exact U0f (h _ ((eb.push _).push _))
 cases r with
 |text k z1 z2 =>
  show wpAny _ _ (setNext S k.toNat vs.length ep >>= _) _ _ s
  refine U0 (Uk ho hd hf z1 ?_)
  have q:=z2 vs.length
  rw[U4c (U0t _)] at q
  cases hp:(pickOrder (w.params.setOrder S ep) es)[vs.length]? with
  |some e=>rw[hp] at q;cases q
  |none =>
   refine U0 (U3g hi rfl (by simp) ?_)
   exact stop (s1:={ s with heap:=s.heap.update it (U34 (·.setIfInBounds 2 U22)) }) (U16 ..).extBut rfl
 |plain z1 z2 z3 z4 =>
  generalize hsl:(if vs.length=0 then 0 else t.place.getD (vs.length-1) 0+1:Nat)=sl
  show wpAny _ _ (setNext S (Int.toNat (sl:Int)) vs.length ep >>= _) _ _ s
  rw[U26]
  refine U0 (Sw ho hd hf z1 z2 z3.2 ?_)
  have psz:t.place.size=es.size:=by
   have q:=hf
   simp only[SetTable.fits,U1h,beq_iff_eq] at q
   exact q.1
  have hb:U1z t.place sl=vs.length:=by
   rw[←hsl]
   generalize vs.length=n at hl
   cases n with
   |zero=>rw[if_pos rfl];exact Xb z3.1
   |succ i=>rw[if_neg (by omega)];exact Xc z3.1 (by omega)
  rw[hb,hl,Array.getElem?_eq_none (U0t _)]
  refine U0 (U3g hi rfl (by simp) ?_)
  exact stop (s1:={ s with heap:=s.heap.update it (U34 (·.setIfInBounds 2 U22)) }) (U16 ..).extBut rfl
 |drawn ps z1 z2 z3 z4 =>
  show wpAny _ _ (seqItems? (.ref T) >>= _) _ _ s
  refine U0 (U2q z2 rfl ?_)
  have q:=z4 vs.length
  rw[U4c (U0t _)] at q
  have hg:((ps.map fun(p:Nat)=>rawInt p).toArray)[vs.length]?=none:=by
   rw[U5c,U0w]
   cases hp:ps[vs.length]? with
   |none=>rfl
   |some p =>
    rw[hp] at q
    have hlt:p<es.size:=z3 p (U1k hp)
    have q2:none=(es[p]?).map fun(e:Int×Value)=>e.2:=q
    rw[U2f hlt] at q2
    cases q2
  show wpAny _ _ (match ((ps.map fun(p:Nat)=>rawInt p).toArray)[(vs.length:Int).toNat]? with|some (.int place _)=>_|some _=>_|none=>_) _ _ s
  rw[U26,hg]
  refine U0 (U3g hi rfl (by simp) ?_)
  have e0:(s.heap.update it (U34 (·.setIfInBounds 0 (rawInt 0)))).get? it=some (Lg (rawInt 0) vs.length S es.size ep):=by
   rw[←Wx (.ref T) (rawInt 0) vs.length S es.size ep];exact U18 _ hi rfl
  refine U0 (U3g e0 rfl (by simp) ?_)
  exact stop (s1:={ s with heap:=(s.heap.update it (U34 (·.setIfInBounds 0 (rawInt 0)))).update it (U34 (·.setIfInBounds 2 U22)) }) ((U16 ..).trans (U16 ..)).extBut rfl
end
end SetP
end
section
set_option maxRecDepth 100000
namespace SetP
open PySem PyProof.Rows
theorem Qs:Slot "set_iterator" "__iter__" "set_iterator.__iter__" :=
 .of (owner:="set_iterator") (n:="__iter__") (by rw[typeLookup_type,builtinLookup_eq_fast];kernel_rfl) (by decide +kernel) (by decide +kernel) (by decide +kernel)
  (by first|exact .inl (by decide +kernel)|exact .inr (by decide +kernel)) (by rw[isSubtype_type];kernel_rfl)
theorem WW:entryFor table "set_iterator.__iter__"=some Builtin.«dict_keyiterator.__iter__» :=
 entryFor_alias (id':="dict_keyiterator.__iter__") (by kernel_rfl) rfl (by decide +kernel) (by kernel_rfl)
theorem Xn(a:Value):argsOk "set_iterator.__iter__" ⟨[a],[]⟩:=by unfold argsOk;kernel_rfl
theorem jK:typeLookup (.type "set") "__len__"=pure (some (.builtin "set.__len__")):=F.slot_set_len.lookup
section
variable{prog:Program}{w:World}{A:Around}{E:Value->Shared->Prop}{s:Shared}
theorem tG(hh:A.handled=none)(it S T:Addr)(vs:List Value):Walks prog w A it [it,S,T] [it] vs.length (fun i v=>vs[i]?=some v) (fun i h=>PK w h it S T vs i) where
 sub:=fun b hb=>by simp at hb;subst hb;simp
 frame:=fun i h h' x k=>x.keep fun b hb o e=>k b hb o e
 item:=fun i s Q E hi x hQ=>by
  have hv:vs[i]?=some vs[i]:=U0i hi
  exact jF x hv fun h' sb x'=>hQ _ h' s.toks hv x' fun b o hb e=>(sb.2 b (by simpa using hb)).trans e
 done:=fun s Q E x hQ=>mK hh x fun h' eb=>hQ h' s.toks fun b o hb e=>eb b o (by simpa using hb) e
 self:=fun i s Q E x hQ=>by
  obtain⟨_,o,es,ep,t,first,_,_,_,_,hi,_⟩:=x
  have hT:s.TypeIs (.ref it) "set_iterator":=⟨_,hi,rfl⟩
  refine U7f hT Qs (U2p Qs hT WW ?_ (Xn _))
  show wpAny _ _ (ret (.ref it)) _ _ s
  exact U0f ⟨_,rfl,"set_iterator",_,hT,Gh.lookup,hQ⟩
theorem za{S:Addr}{Q:Bool->Shared->Prop}(hT:s.TypeIs (.ref S) "set")(h:Q false s):wpAny (model prog w) A (U5d (.ref S)) Q E s:=by
 unfold U5d
 refine U0 (U7q hT jK ?_)
 have hs:splitId "set.__len__"=some ("set","__len__"):=by decide +kernel
 dsimp only
 rw[hs]
 dsimp only
 refine U0 (U5f hT sub_set_self ?_)
 simp only[U4h,U1o,if_false]
 refine U0 (U5v hT ?_)
 exact U0f h
theorem nM{S:Addr}{ds:List Int}{Q:List Value->Shared->Prop}(hh:A.handled=none)(hS:SetT prog w s.heap S ds)(h64:ds.length<64)
  (h:∀h' d' tk vs ns,(∀b o,s.heap.get? b=some o->h'.get? b=some o)->IntsAre vs ns->ns.Perm ds->Q vs { s with heap:=h',drawn:=d',toks:=tk }):wpAny (model prog w) A (collect (.ref S)) Q E s:=by
 obtain⟨o,ho,hex⟩:∃o,s.heap.get? S=some o/\o.ExactSet:=by
  obtain⟨_,o,es,ep,t,ho,hex,_⟩:=hS
  exact⟨o,ho,hex⟩
 have hlt:=U0q ho
 unfold collect
 refine U0 (wpAny_runValue (codeAny_builtin F.entry_proto_collect ?_))
 rw[U2z F.plain_proto_collect _]
 show wpAny _ A.in1 (newList [] >>= fun l=>again (.builtin "list.__iadd__" ⟨[l,.ref S],[]⟩)) _ _ s
 refine U0 (U2i (U0f ⟨plainId_quiet F.plain_list_iadd _,codeAny_builtin F.entry_list_iadd ?_⟩))
 rw[U2z F.plain_list_iadd _]
 generalize hL:s.heap.objs.size=L
 generalize hg:s.heap.push { cls:=.type "list",dict:=none,data:=.seq ([]:List Value).toArray }=g
 have k1:∀b o,s.heap.get? b=some o->g.get? b=some o:=fun b o e=>hg ▸ U0d _ e
 have hLg:g.get? L=some { cls:=.type "list",data:=.seq ([]:List Value).toArray }:=hg ▸ hL ▸ U0v _ rfl
 have hsz:g.objs.size=L+1:=by rw[←hg,U2e,hL]
 have hLS:L≠S:=by rw[←hL];exact U1x hlt
 have hT:U6g { s with heap:=g } (.ref S) "set":=⟨o,k1 _ _ ho,hex.1⟩
 show wpAny _ A.in1 (U3p (.ref L) (.ref S) (.ref L)) _ _ _
 unfold U3p
 refine U0 (U5v hT ?_)
 have h1:U4y (.ref L) (.ref S)=false:=by simp[U4y,hLS]
 have h2:(U3s "set"==U3s "list")=false:=by decide
 have h3:(U3s "set"==U3s "tuple")=false:=by decide
 simp only[h1,h2,h3,Bool.or_false,U1o,if_false]
 refine U0 (zY (s:={ s with heap:=g }) (hS.sameBut fun o e=>k1 _ _ e) fun g2 d2 it T vs k2 hit hTT x ⟨ns,hi,hp⟩=>?_)
 have hT2:U6g { s with heap:=g2,drawn:=d2 } (.ref S) "set":=⟨o,k2 _ _ (k1 _ _ ho),hex.1⟩
 refine U0 (U2j (za hT2 ?_))
 have hit':L<it:=by
  have hit2:g.objs.size<=it:=hit
  omega
 show wpAny _ A.in1 (rule "list.extend.makes-room" >>= fun _=>Builtin.List.listTouch (.ref L) >>= fun _=>again (.builtin "list.extend.loop" ⟨[.ref L,.ref it,.ref L],[]⟩)) _ _ _
 refine U0 (U45 (U0 ?_))
 have e1:=k2 _ _ hLg
 show wpAny _ A.in1 (updateSeq L (·.push .none) >>= fun _=>updateSeq L (·.pop)) _ _ _
 refine U0 (U3q e1 rfl ?_)
 have e2:=U18 (U2m (·.push U22)) e1 rfl
 refine U3q e2 rfl ?_
 have e3:=U18 (U2m (·.pop)) e2 rfl
 have oth:∀b o,b≠L->g2.get? b=some o->((g2.update L (U2m (·.push U22))).update L (U2m (·.pop))).get? b=some o:=fun b o hb e=>(U1d _ _ (U1y hb)).trans ((U1d _ _ (U1y hb)).trans e)
 have hvn:vs.length=ns.length:=IntsAre.length hi
 have hv64:vs.length<64:=by rw[hvn,hp.length_eq];exact h64
 have hz:vs.length<=sizeLine:=by rw[sizeLine_eq];omega
 have nin:L ∉ [it,S,T]:=fun z=>by
  simp only[U00,U1l,or_false] at z
  rcases z with z|z|z
  .omega
  .exact hLS z
  .rcases hTT with q|q
   .exact hLS (z.trans q)
   .have q':g.objs.size<=T:=q
    omega
 have W:=(tG (prog:=prog) (w:=w) (A:=A.in1) (by simpa using hh) it S T vs).toS
 have x3:PK w ((g2.update L (U2m (·.push U22))).update L (U2m (·.pop))) it S T vs 0:=x.keep fun b hb o e=>oth b o (fun z=>nin (z ▸ hb)) e
 refine U0f ⟨plainId_quiet F.plain_extend_loop _,codeAny_extend_loopS W hz L nin _ vs.length 0 _ _ _ (by omega) (U3x _) x3 e3 (ItemsOf.nil _) fun s' acc c hm hS' hacc=>?_⟩
 show wpAny _ A (load L >>= _) _ _ s'
 refine U0 (wpAny_load hS' ?_)
 have eacc:acc.toList=vs:=by
  apply List.ext_getElem?
  intro j
  rw[U24]
  cases hj:acc[j]? with
  |some v=>exact(hacc.2 j v hj).symm
  |none =>
   have:acc.size<=j:=by simpa using hj
   rw[hacc.1] at this
   exact(U4c this).symm
 obtain⟨h',g',d',tk,os'⟩:=s'
 have q1:g'=s.gens:=hm.gens
 have q2:os'=s.os:=hm.os
 subst q1 q2
 refine U0f ?_
 show Q acc.toList _
 rw[eacc]
 refine h h' d' tk vs ns (fun b o e=>hm.heap b o ?_ (oth b o ?_ (k2 _ _ (k1 _ _ e)))) hi hp
 .have hb:b<L:=by rw[←hL];exact U0q e
  intro z
  rcases U00.mp z with z|z
  .exact absurd z (U03 hb)
  .exact absurd (U07.mp z) (U03 (U3f hb hit'))
 .exact U03 (by rw[←hL];exact U0q e)
theorem Xd{h:Heap}{a:Addr}{vs:List Value}{n:Nat}{out:Array Value}(ho:h.get? a=some (seqObj "list" vs.toArray n)):∃n',(sortedHeap h a vs out).get? a=some (seqObj "list" out n'):=by
 unfold sortedHeap
 have q1:=get?_update_seq ho (fun _=>#[])
 exact⟨_,get?_update_seq (U0d _ (U0d _ q1)) (fun _=>out)⟩
theorem WR{h:Heap}{a b:Addr}{vs:List Value}{out:Array Value}{o:Obj}(hb:b≠a)(ho:h.get? b=some o):(sortedHeap h a vs out).get? b=some o:=by
 unfold sortedHeap
 rw[U1d _ _ (U1y hb)]
 exact U0d _ (U0d _ ((U1d _ _ (U1y hb)).trans ho))
theorem pC{S:Addr}{ds:List Int}{Q:Value->Shared->Prop}(hh:A.handled=none)(hS:SetT prog w s.heap S ds)(h64:ds.length<64)
  (h:∀h' d' tk l vs ns n,(∀b o,s.heap.get? b=some o->h'.get? b=some o)->(∀b o,s.heap.get? b=some o->b<l)->h'.get? l=some { cls:=.type "list",data:=.seq vs n }->IntsAre vs.toList ns->ns.Perm ds->ns.Pairwise (·<=·)->Q (.ref l) { s with heap:=h',drawn:=d',toks:=tk }) :
  wpAny (model prog w) A (call (.builtin "sorted") [.ref S]) Q E s:=by
 refine Calls.call_function_entry kind_sorted plain_sorted entry_sorted (args_sorted1 _) ?_
 unfold Builtin.«sorted»
 refine U0 (m:=checkCount "sorted" 1 1 _) (U0f ?_)
 refine U0 (nM (A:=A.in1) (by simpa using hh) hS h64 fun h1 d1 t1 vs ns k1 hi hp=>?_)
 have hv64:vs.length<64:=by rw[show vs.length=ns.length from IntsAre.length hi,hp.length_eq];exact h64
 refine U0 (wpAny_newList ?_)
 have hoL:(h1.push (seqObj "list" vs.toArray 0)).get? h1.objs.size=some (seqObj "list" vs.toArray 0):=U0v _ rfl
 show wpAny _ _ _ _ _ { s with heap:=h1.push (seqObj "list" vs.toArray 0),drawn:=d1,toks:=t1 }
 refine U0 (U2j (U2p slot_list_sort ⟨_,hoL,rfl⟩ entry_list_sort (list_sort_tree hoL hi hv64 fun out ns' a1 a2 a3=>⟨_,rfl,?_⟩) (args_list_sort _)))
 refine U0f ⟨_,rfl,?_⟩
 have old:∀b o,s.heap.get? b=some o->b≠h1.objs.size:=fun b o e=>U03 (U0q (k1 b o e))
 obtain⟨n',e'⟩:=Xd (out:=out) hoL
 refine h _ d1 t1 h1.objs.size out ns' n' (fun b o e=>WR (old b o e) (U0d _ (k1 b o e))) (fun b o e=>U0q (k1 b o e)) e' a1 (a2.trans hp) a3
end
end SetP
end
section
namespace L2
open PySem PySem.Spec PyProof.Rows
def PTs(X:Cx)(ifs:List Expr)(t:TT):Prop :=
 ∀(pins:List (Addr×Obj))(s:Shared)(σ:St)(H:Hp)(Q:Bool->Hp->Prop),Inv X pins σ H s->t σ H Q ->
  wpAny (model X.prog X.w) X.A (forIn ifs true fun c r=>if r=true then do let ok ←isTrue c X.env (eval c X.env);pure (U6t ok) else pure (U6t r)) (TP X pins σ Q) X.xe s
def GQ:TT:=fun _ H Q=>Q true H
theorem uE{X:Cx}:PTs X [] GQ:=fun _ _ _ H _ I h=>U0f ⟨H,I,h⟩
theorem uD{X:Cx}{c:Expr}{t:TT}(h:PT X c t):PTs X [c] t:=by
 intro pins s σ H Q I hw
 rw[U4d]
 simp only[if_true]
 refine U0 (U0 (thn (h pins s σ H Q I hw) fun b s1 hb=>U0f ?_))
 show wpAny _ _ (pure b) _ _ _
 exact U0f hb
def Low(k:Nat)(g:TG):Prop:=∀x σ H Q,g x σ H Q->g x σ H fun σ' H'=>Q σ' H'/\σ'.length=σ.length/\∀j,k<=j->σ'[j]?=σ[j]?
def Zj(k:Nat)(g:TGs):Prop:=∀x σ H Q,g x σ H Q->g x σ H fun σ' H'=>Q σ' H'/\σ'.length=σ.length/\∀j,k<=j->σ'[j]?=σ[j]?
theorem qT{k i:Nat}(h:i<k):Low k (ZW i):=fun x σ H Q q =>
 ⟨q,U30 ..,fun j hj=>U2y (by omega)⟩
theorem uf{k:Nat}:Zj k o7:=fun _ _ _ _ ⟨e,q⟩=>⟨e,q,rfl,fun _ _=>rfl⟩
theorem qU{k:Nat}{t:TG}{u:TGs}(ht:Low k t)(hu:Zj k u)(mono:∀x σ H Q Q',(∀σ' H',Q σ' H'->Q' σ' H')->t x σ H Q->t x σ H Q')
  (monoU:∀x σ H Q Q',(∀σ' H',Q σ' H'->Q' σ' H')->u x σ H Q->u x σ H Q'):Zj k (ig t u):=fun x σ H Q ⟨v,r,e,q⟩=>by
 refine⟨v,r,e,mono v σ H _ _ (fun σ1 H1 z=>?_) (ht v σ H _ q)⟩
 obtain⟨z1,z2,z3⟩:=z
 exact monoU r σ1 H1 _ _ (fun σ2 H2 y=>⟨y.1,y.2.1.trans z2,fun j hj=>(y.2.2 j hj).trans (z3 j hj)⟩) (hu r σ1 H1 _ z1)
theorem ud{K:U0b}{n k:Nat}{t:TGs}(h:Zj k t):Low k (nu K n t):=fun x σ H Q ⟨a,xs,e,hs,hl,q⟩=>⟨a,xs,e,hs,hl,h xs σ H Q q⟩
def compLook(sc:Scope)(N N2:List Str)(k:Nat)(caps:List Nat)(scope:Scope):Bool :=
 decide (scope.kind=.function)&&scope.names.all (fun y=>decide (y.2≠.cell)||decide (scope.names.lookup y.1=some .cell))&&scope.names.all (fun y=>decide (y.2≠.local)||decide (scope.names.lookup y.1=some .local)) &&
 scope.names.all (fun y=>decide (y.2≠.free)||decide (sc.names.lookup y.1=some .cell)||decide (sc.names.lookup y.1=some .free))&&decide N2.Nodup&&decide (N2.length=k+caps.length) &&
 (U0g caps.length).all fun j=>match caps[j]?,N2[k+j]? with
  |some i,some y=>decide (N[i]?=some y)&&decide (scope.names.lookup y=some .free)
  |_,_=>false
structure Ds(sc:Scope)(N N2:List Str)(k:Nat)(caps:List Nat)(scope:Scope):Prop where
 kind:scope.kind=.function
 one:∀y∈scope.names,y.2=.cell->scope.names.lookup y.1=some .cell
 loc:∀y∈scope.names,y.2=.local->scope.names.lookup y.1=some .local
 free:∀y∈scope.names,y.2=.free->sc.names.lookup y.1=some .cell∨sc.names.lookup y.1=some .free
 nd:N2.Nodup
 len:N2.length=k+caps.length
 cap:∀j i,caps[j]?=some i->∃y,N2[k+j]?=some y/\N[i]?=some y/\scope.names.lookup y=some .free
theorem Ds.of{sc:Scope}{N N2:List Str}{k:Nat}{caps:List Nat}{scope:Scope}(h:compLook sc N N2 k caps scope=true):Ds sc N N2 k caps scope:=by
 unfold compLook at h
 simp only[U1h,U37,U6s,decide_eq_true_eq] at h
 obtain⟨⟨⟨⟨⟨⟨h1,h2⟩,h3⟩,h4⟩,h5⟩,h6⟩,h7⟩:=h
 refine⟨h1,fun y hy e=>?_,fun y hy e=>?_,fun y hy e=>?_,h5,h6,fun j i e=>?_⟩
 .rcases h2 y hy with z|z
  .exact absurd e z
  .exact z
 .rcases h3 y hy with z|z
  .exact absurd e z
  .exact z
 .rcases h4 y hy with (z|z)|z
  .exact absurd e z
  .exact .inl z
  .exact .inr z
 .have hj:j∈U0g caps.length:=U2h.mpr (U0n.mp e).1
  have q:=h7 j hj
  rw[e] at q
  cases hy:N2[k+j]? with
  |none=>rw[hy] at q;exact absurd q (by simp)
  |some y =>
   rw[hy] at q
   simp only[U1h,decide_eq_true_eq] at q
   exact⟨y,rfl,q.1,q.2⟩
theorem Um{env:Env}:∀{names:List (Str×NameKind)} {x:Str},names.lookup x=some .free ->
  (names.map fun(n,k)=>if (k==U2t&&env.scope.kind==.function&&env.kindOf n==some .cell) then (n,U3t) else (n,k)).lookup x=some .cell ∨
  (names.map fun(n,k)=>if (k==U2t&&env.scope.kind==.function&&env.kindOf n==some .cell) then (n,U3t) else (n,k)).lookup x=some .free
 |[],_,h=>by simp at h
 |(n,k)::r,x,h=>by
  have ih:=@Um env r x
  show U7u x ((if (k==U2t&&env.scope.kind==.function&&env.kindOf n==some .cell)=true then (n,U3t) else (n,k))::_)=_∨U7u x ((if (k==U2t&&env.scope.kind==.function&&env.kindOf n==some .cell)=true then (n,U3t) else (n,k))::_)=_
  cases hx:x==n with
  |true =>
   simp only[U2a,hx] at h
   cases h
   by_cases hc:(U2t==U2t&&env.scope.kind==.function&&env.kindOf n==some .cell)=true
   .rw[if_pos hc];left;simp only[U2a,hx]
   .rw[if_neg hc];right;simp only[U2a,hx]
  |false =>
   simp only[U2a,hx] at h
   by_cases hc:(k==U2t&&env.scope.kind==.function&&env.kindOf n==some .cell)=true
   .rw[if_pos hc];simp only[U2a,hx];exact ih h
   .rw[if_neg hc];simp only[U2a,hx];exact ih h
theorem Uo{env:Env}:∀{names:List (Str×NameKind)} {x:Str},
  ((names.map fun(n,k)=>if (k==U2t&&env.scope.kind==.function&&env.kindOf n==some .cell) then (n,U3t) else (n,k)).lookup x=some .cell ∨
   (names.map fun(n,k)=>if (k==U2t&&env.scope.kind==.function&&env.kindOf n==some .cell) then (n,U3t) else (n,k)).lookup x=some .free)->names.lookup x=some .free∨names.lookup x=some .cell
 |[],_,h=>by simp at h
 |(n,k)::r,x,h=>by
  have ih:=@Uo env r x
  cases hx:x==n with
  |true =>
   simp only[U2a,hx]
   by_cases hf:k=.free
   .rw[hf];exact .inl rfl
   .have hkf:(k==U2t)=false:=by
     cases k<;>first|rfl|exact absurd rfl hf
    simp only[U0m,hkf,Bool.false_and,U1o,if_false,U2a,hx] at h
    rcases h with z|z
    .exact .inr z
    .exact absurd (U1c z) hf
  |false =>
   simp only[U2a,hx]
   refine ih ?_
   have h':U7u x ((if (k==U2t&&env.scope.kind==.function&&env.kindOf n==some .cell)=true then (n,U3t) else (n,k))::List.map _ r)=some .cell∨U7u x ((if (k==U2t&&env.scope.kind==.function&&env.kindOf n==some .cell)=true then (n,U3t) else (n,k))::List.map _ r)=some .free:=h
   by_cases hcc:(k==U2t&&env.scope.kind==.function&&env.kindOf n==some .cell)=true
   .rw[if_pos hcc] at h';simp only[U2a,hx] at h';exact h'
   .rw[if_neg hcc] at h';simp only[U2a,hx] at h';exact h'
theorem Jr:∀(names:List (Str×NameKind))(n:Nat)(acc:List (Str×Addr)),cellsFrom n names acc=cellsFrom n names []++acc
 |[],_,_=>rfl
 |(x,k)::r,n,acc=>by
  unfold cellsFrom
  split
  .rw[Jr r (n+1) ((x,n)::acc),Jr r (n+1) [(x,n)],U5];rfl
  .exact Jr r n acc
theorem Ou:∀(names:List (Str×NameKind))(n:Nat){x:Str}{c:Addr},(x,c)∈cellsFrom n names []->(x,U3t)∈names
 |[],_,_,_,h=>by simp[cellsFrom] at h
 |(y,k)::r,n,x,c,h=>by
  unfold cellsFrom at h
  split at h
  .rename_i hk
   rw[Jr] at h
   rcases U12.mp h with z|z
   .exact U0p _ (Ou r (n+1) z)
   .have z':(x,c)=(y,n):=by simpa using z
    have hk':k=.cell:=by simpa using hk
    cases z'
    rw[hk'];exact U0x
  .exact U0p _ (Ou r n h)
theorem jJ{cs ds:List (Str×Addr)}{x:Str}{c:Addr}(h:(cs++ds).lookup x=some c):cs.lookup x=some c∨(cs.lookup x=none/\ds.lookup x=some c):=by
 rw[U46] at h
 cases e:cs.lookup x with
 |none=>rw[e] at h;exact .inr ⟨rfl,h⟩
 |some d=>rw[e] at h;exact .inl h
theorem eH{M:Model}{A:Around}{E:Value->Shared->Prop}{s:Shared}{scope:Scope}{globals:Addr}{cl:List (Str×Addr)}{qual:Str}{env:Env}{Q:Env->Shared->Prop}
  (hQ:∀h':Heap,h'.Ns s.heap.objs.size (fun _=>none)->(∀b o,s.heap.get? b=some o->h'.get? b=some o)->CellsOk h' (s.heap.objs.size+1) (cellsFrom (s.heap.objs.size+1) scope.names []) ->
   Q { scope,locals:=s.heap.objs.size,globals,cells:=cellsFrom (s.heap.objs.size+1) scope.names []++cl,qual,func:=none,code:=env.code,frame:=env.frame,builtins:=env.builtins } { s with heap:=h' }) :
  wpAny M A (newFunctionEnv scope globals cl [] qual none .none (some env)) Q E s:=by
 simp only[newFunctionEnv,Option.isSome_some,if_true]
 refine U0 (wpAny_alloc ?_)
 refine U0 (wpAny_layCells _ (fun name kind cells=>by cases hkc:kind==U3t<;>simp[hkc]) _ _ _ _ ?_)
 rw[show({ s with heap:=s.heap.push { cls:=.type "dict",data:=.dict #[] } }:Shared).heap.objs.size=s.heap.objs.size+1 from U2e ..]
 have ok:=cellsFrom_ok scope.names (s.heap.push { cls:=.type "dict",data:=.dict #[] }) (s.heap.objs.size+1) [] ⟨fun _ _ hm=>(nomatch hm),U7d⟩ (by rw[U2e];exact U0t _)
 rw[U2e] at ok
 rw[Jr]
 refine U0 ?_
 rw[U53]
 refine U0f (U0f (hQ _ ?_ ?_ ok))
 .exact(Heap.Ns.new s.heap (.type "dict")).keeps (pushCells_keeps _ _)
 .exact fun b o e=>pushCells_keeps _ _ b o (U0d _ e)
theorem XJ{scope:Scope}{env:Env}(h:∀y∈scope.names,y.2=.free->∃c,env.cells.lookup y.1=some c) :
  ∃cl,closureFor scope env=pure cl/\(∀x c,cl.lookup x=some c->env.cells.lookup x=some c)/\∀x,scope.names.lookup x=some .free->∃c,cl.lookup x=some c:=by
 have all:∀(names:List (Str×NameKind))(cs:List (Str×Addr)),(∀y∈names,y.2=.free->∃c,env.cells.lookup y.1=some c)->(∀x c,cs.lookup x=some c->env.cells.lookup x=some c) ->
   ∃cl,(forIn names cs (fun(x:Str×NameKind) (cs:List (Str×Addr))=>(match x with
     |(name,kind)=>if (kind==U2t)=true then (cellOf env name >>= fun a=>pure (U6t ((name,a)::cs))) else pure (U6t cs):Sem (ForInStep (List (Str×Addr)))) ):Sem (List (Str×Addr)))=pure cl /\
    (∀x c,cl.lookup x=some c->env.cells.lookup x=some c)/\(∀x c,cs.lookup x=some c->∃c',cl.lookup x=some c')/\∀x,names.lookup x=some .free->∃c,cl.lookup x=some c:=by
  intro names
  induction names with
  |nil=>intro cs _ hc;exact⟨cs,rfl,hc,fun x c e=>⟨c,e⟩,fun x e=>by simp at e⟩
  |cons y r ih =>
   intro cs hy hc
   obtain⟨n,kd⟩:=y
   by_cases hk:kd=.free
   .subst hk
    obtain⟨c,hcn⟩:=hy (n,.free) U0x rfl
    have hc':∀x c',((n,c)::cs).lookup x=some c'->env.cells.lookup x=some c':=fun x c' e=>by
     rw[U2a] at e
     cases hx:x==n with
     |true =>
      rw[hx] at e
      have hxn:x=n:=by simpa using hx
      rw[hxn,hcn];exact e
     |false=>rw[hx] at e;exact hc x c' e
    obtain⟨cl,e1,e2,e3,e4⟩:=ih ((n,c)::cs) (fun z hz=>hy z (U0p _ hz)) hc'
    refine⟨cl,?_,e2,fun x c' e=>?_,fun x e=>?_⟩
    .rw[U4d]
     have hb:(U2t==U2t)=true:=rfl
     simp only[hb,if_true,cellOf,hcn,pure_bind]
     exact e1
    .by_cases hx:(x==n)=true
     .exact e3 x c (by rw[U2a,hx])
     .have hx':(x==n)=false:=by simpa using hx
      exact e3 x c' (by rw[U2a,hx'];exact e)
    .rw[U2a] at e
     cases hx:x==n with
     |true=>exact e3 x c (by rw[U2a,hx])
     |false=>rw[hx] at e;exact e4 x e
   .have hb:(kd==U2t)=false:=by
     cases kd<;>first|rfl|exact absurd rfl hk
    obtain⟨cl,e1,e2,e3,e4⟩:=ih cs (fun z hz=>hy z (U0p _ hz)) hc
    refine⟨cl,?_,e2,e3,fun x e=>?_⟩
    .rw[U4d]
     simp only[hb,U1o,if_false,pure_bind]
     exact e1
    .rw[U2a] at e
     cases hx:x==n with
     |true=>rw[hx] at e;exact absurd (U1c e) hk
     |false=>rw[hx] at e;exact e4 x e
 obtain⟨cl,e1,e2,_,e4⟩:=all scope.names [] h (fun x c e=>by simp at e)
 refine⟨cl,?_,e2,e4⟩
 unfold closureFor
 rw[←bind_pure (pure cl:Sem _),←e1]
abbrev Ek(X:Cx)(N2:List Str)(scope:Scope)(cl:List (Str×Addr))(C:Addr)(s:Shared)(H:Hp)(ex:List Addr):Cx :=
 { X with N:=N2,s₀:=s,H₀:=H,env:=compEnvC scope cl C X.env,outer:=X.stack,ex:=ex,fn:=fun x=>decide (scope.names.lookup x=some .cell),pn:=[],xe:=fun _ _=>False }
def Kw(k:Nat)(caps:List Nat)(σ:St):St:=U0l k none++caps.map fun j=>(σ[j]?).join
def Jbt(J:It)(k:Nat)(caps:List Nat)(σ:St)(g:TG)(tt:TT)(te:TE)(Q:VK)(H1:Hp):Prop:=∃W:Nat->Nat->List V->Hp->Prop,(∃m,W 0 m [] H1)/\∀i m ys H,W i m ys H ->
 (J.stop i H/\∀p,H p=none->Q (.ref p) (upd H p (.lst ys))) ∨
 (J.go i H/\ys.length<sizeLine/\∀x H',J.yld i H x H'->g x (Kw k caps σ) H' fun σ2 H2=>tt σ2 H2 fun b H3 =>
  if b=true then te σ2 H3 fun v H4=>∃m',m'<m/\W (i+1) m' (ys++[v]) H4 else ∃m',m'<m/\W (i+1) m' ys H3)
def iW(k:Nat)(caps:List Nat)(wi:TI)(g:TG)(tt:TT)(te:TE):TE:=fun σ H Q=>wi σ H fun J H1=>Jbt J k caps σ g tt te Q H1
theorem gk{k:Nat}{caps:List Nat}{σ:St}{i:Nat}{v:V}(h:(Kw k caps σ)[i]?=some (some v)):∃j a,i=k+j/\caps[j]?=some a/\σ[a]?=some (some v):=by
 unfold Kw at h
 by_cases hi:i<k
 .rw[U1e (by simpa using hi),U36,if_pos hi] at h
  cases h
 .rw[U2d (by simpa using hi),U1f,U0w] at h
  cases e:caps[i-k]? with
  |none=>rw[e] at h;cases h
  |some a =>
   rw[e] at h
   have h':(σ[a]?).join=some v:=U1c h
   refine⟨i-k,a,by omega,e,?_⟩
   cases e2:σ[a]? with
   |none=>rw[e2] at h';cases h'
   |some o =>
    rw[e2] at h'
    cases o with
    |none=>cases h'
    |some v' =>
     have h'':some v'=some v:=h'
     rw[h'']
theorem Nu{a b n:Nat}(h1:a<n)(h2:n<=b):a≠b:=by omega
section
variable{X:Cx}{pins:List (Addr×Obj)}{σ:St}
theorem Inv.but{H:Hp}{s:Shared}{C:Addr}{h':Heap}(I:Inv X pins σ H s)(hb:U1b C s.heap h')(hn:H C=none)(hL:C≠X.env.locals)(h1:X.s₀.heap.objs.size<=C)(h2:∀x c,X.env.cells.lookup x=some c->c≠C)(h3:∀p∈X.pn++pins,p.1≠C) :
  Inv X pins σ H { s with heap:=h' }:=I.turned (t':=s.toks) (fun b o hne e=>(hb.2 b hne).trans e) hn hL (.inr h1) h2 h3
theorem XH{s2:Shared}{H2:Hp}{elt tg iter:Expr}{ifs:List Expr}{scope:Scope}{pos:Pos}{N2:List Str}{k:Nat}{caps:List Nat}{cl:List (Str×Addr)}{g:TG}{tt:TT}{te:TE}{E:Value->Shared->Prop}
  {it:Addr} {fp:List Addr} {tn:Nat->Heap->Prop} {J:It} {RR:Value->Addr->Result->Shared->Prop} {Qe:List V->Hp->Prop} {W:Nat->Nat->List V->Hp->Prop} {m0:Nat}
  (hc:X.calm=true) (hS:Ds X.env.scope X.N N2 k caps scope) (hlow:Low k g)
  (hcl:∀x c,cl.lookup x=some c->X.env.cells.lookup x=some c) (hcf:∀x,scope.names.lookup x=some .free->∃c,cl.lookup x=some c)
  (hb:∀(cl:List (Str×Addr))(C:Addr)(s:Shared)(H:Hp)(ex:List Addr),PG (Ek X N2 scope cl C s H ex) tg g/\PTs (Ek X N2 scope cl C s H ex) ifs tt/\PE (Ek X N2 scope cl C s H ex) elt te)
  (I2:Inv X pins σ H2 s2) (T:Turn X.prog X.w X.K tg J fp it tn) (st2:tn 0 s2.heap) (f2:∀b∈fp,Qz X pins H2 b) (w0:W 0 m0 [] H2)
  (turn:∀i m ys H,W i m ys H->(J.stop i H/\Qe ys H) ∨
   (J.go i H/\ys.length<sizeLine/\∀x H',J.yld i H x H'->g x (Kw k caps σ) H' fun σ2 H2=>tt σ2 H2 fun b H3 =>
    if b=true then te σ2 H3 fun v H4=>∃m',m'<m/\W (i+1) m' (ys++[v]) H4 else ∃m',m'<m/\W (i+1) m' ys H3))
  (hRR:∀D C s' H' ys,s2.heap.objs.size<=D->s2.heap.objs.size<=C->C≠D->H' D=none->H' C=none->Inv X pins σ (upd H' D (.lst ys)) s'->(∃m,s'.heap.Ns C m)->Qe ys H'->RR (.ref D) C (.ok .next) s') :
  wpAny (model X.prog X.w) X.A (newList []) (fun acc s₃=>wpAny (model X.prog X.w) X.A (newFunctionEnv scope X.env.globals cl [] X.env.qual none .none (some X.env)) (fun cenv s₄ =>
   codeAny (model X.prog X.w) X.A (.compStart (.ListComp elt [⟨tg,iter,ifs,0⟩] scope pos) 0 (.ref it) acc { cenv with scope:=relabel scope X.env }) (RR acc cenv.locals) s₄) E s₃) E s2:=by
 refine U2i (eH fun h₁ hns₁ kp cok=>?_)
 dsimp only at hns₁ kp cok ⊢
 generalize hH3:s2.heap.push { cls:=.type "list",dict:=none,data:=.seq ([]:List Value).toArray }=H3 at hns₁ kp cok ⊢
 have hC:H3.objs.size=s2.heap.objs.size+1:=by rw[←hH3,U2e]
 generalize hDD:s2.heap.objs.size=D at hC
 generalize hCC:H3.objs.size=C at hns₁ cok hC ⊢
 have hDC:D≠C:=by omega
 have szD:s2.heap.objs.size<=D:=U77 hDD
 have szC:s2.heap.objs.size<=C:=by rw[hDD,hC];exact U4o _
 have below:∀b o,s2.heap.get? b=some o->b≠C/\b≠D:=fun b o e=>⟨Nu (U0q e) szC,Nu (U0q e) szD⟩
 have old:∀b o,s2.heap.get? b=some o->h₁.get? b=some o:=fun b o e=>kp b o (hH3 ▸ U0d _ e)
 have hacc:h₁.get? D=some { cls:=.type "list",data:=.seq ([]:List Value).toArray 0 }:=kp _ _ (hH3 ▸ hDD ▸ U0v _ rfl)
 have f2h:∀b∈fp,∃o,s2.heap.get? b=some o:=fun b hbf=>let ⟨o,e,_⟩:=T.obj 0 _ st2 b hbf;⟨o,e⟩
 -- the block's context
 have okc:∀x c,X.env.cells.lookup x=some c->∃o,s2.heap.get? c=some o:=fun x c e=>let ⟨_,o,ho,_⟩:=I2.cell x c e;⟨o,ho⟩
 have oMem:∀x c,(cellsFrom (C+1) scope.names []).lookup x=some c->C+1<=c/\h₁.IsCell c none/\scope.names.lookup x=some .cell:=fun x c e=>by
  have m:=U3 e
  exact⟨(cok.empty x c m).2,(cok.empty x c m).1,hS.one _ (Ou _ _ m) rfl⟩
 have oHas:∀x,scope.names.lookup x=some .cell->∃c,(cellsFrom (C+1) scope.names []).lookup x=some c:=fun x e=>U4s.mp (U6b scope.names (C+1) [] (.inl e))
 have oApart:=cok.apart
 generalize cellsFrom (C+1) scope.names []=own at oMem oHas oApart ⊢
 have hcs:∀x c,(own++cl).lookup x=some c->(C+1<=c/\h₁.IsCell c none/\own.lookup x=some c)∨X.env.cells.lookup x=some c:=fun x c e=>by
  rcases jJ e with z|z
  .exact .inl ⟨(oMem x c z).1,(oMem x c z).2.1,z⟩
  .exact .inr (hcl x c z.2)
 have hlt:∀x c,X.env.cells.lookup x=some c->c<s2.heap.objs.size:=fun x c e=>let ⟨o,ho⟩:=okc x c e;U0q ho
 have OK:(Ek X N2 scope (own++cl) C s2 H2 fp).Ok:=by
  refine⟨I2.ok.mod,hS.kind,I2.ok.glob,I2.ok.blt,?_,fun x y c h1 h2=>?_,fun x hx=>?_,fun x c hf h1=>?_,I2.ok.hd,I2.ok.frames,.inl rfl,fun b hbf=>?_,I2.bs,
   U1a I2.ok.bsz I2.sz,fun b o e hbf=>?_,fun b hbf hb'=>?_,I2.stack,I2.fU,I2.Xo⟩
  .exact szC
  .rcases hcs x c h1 with z|z
   .rcases hcs y c h2 with z'|z'
    .exact name_of_addr oApart (U3 z.2.2) (U3 z'.2.2)
    .exact absurd (hlt y c z') (U7z.mpr (U1a szC (U1a (U4o _) z.1)))
   .rcases hcs y c h2 with z'|z'
    .exact absurd (hlt x c z) (U7z.mpr (U1a szC (U1a (U4o _) z'.1)))
    .exact I2.ok.inj x y c z z'
  .rcases Uo (env:=X.env) hx with z|z
   .obtain⟨c,e⟩:=hcf x z
    show ∃c,(own++cl).lookup x=some c
    rw[U46]
    cases q:own.lookup x with
    |none=>exact⟨c,e⟩
    |some d=>exact⟨d,rfl⟩
   .obtain⟨c,e⟩:=oHas x z
    exact⟨c,by show(own++cl).lookup x=some c;rw[U46,e];rfl⟩
  .obtain⟨d,e⟩:=oHas x (of_decide_eq_true hf)
   have h1':(own++cl).lookup x=some c:=h1
   rw[U46,e] at h1'
   have e2:d=c:=U1c h1'
   rw[←e2]
   exact U1a szC (U1a (U4o _) (oMem x d e).1)
  .obtain⟨o,e⟩:=f2h b hbf
   refine⟨(below b o e).1,fun x c h1=>?_⟩
   rcases hcs x c h1 with z|z
   .exact fun w=>absurd (U0q e) (by rw[←w];exact U7z.mpr (U1a szC (U1a (U4o _) z.1)))
   .exact(f2 b hbf).2.2.2.2.1 x c z
  .rcases(f2 b hbf).2.2.2.1 with z|z
   .exact I2.ok.noex b o e z
   .exact absurd (U0y (U0q (I2.ok.bs b o e).1) z) (U33 _)
  .rcases U00.mp (I2.TX b hb') with z|z
   .exact(f2 b hbf).2.1 z
   .exact(f2 b hbf).2.2.1 z
 have fresh:∀a,s2.heap.objs.size<=a->H2 a=none:=fun a ha=>I2.hok.fresh ha
 have I4:∀tk,Inv (Ek X N2 scope (own++cl) C s2 H2 fp) [(D,{ cls:=.type "list",data:=.seq ([]:List Value).toArray 0 })] (Kw k caps σ) H2 { s2 with heap:=h₁,toks:=tk }:=fun tk=>by
  refine⟨OK,rfl,I2.bare,Un.kept old,⟨_,hns₁,fun i x v e1 e2 e3=>?_⟩,fun x c e=>?_,fresh C szC,fun x c e=>?_,fun p hp=>?_,I2.hok.kept old,?_⟩
  .obtain⟨j,a,rfl,ha,hv⟩:=gk e2
   obtain⟨y,y1,y2,y3⟩:=hS.cap j a ha
   have e1':N2[k+j]?=some x:=e1
   rw[y1] at e1';cases e1'
   have hk:X.env.scope.names.lookup x=some .cell∨X.env.scope.names.lookup x=some .free:=hS.free (x,.free) (U3 y3) rfl
   obtain⟨m',_,hl⟩:=id I2.loc
   obtain⟨u,ru,lk⟩:=hl a x v y2 hv (hk.elim (fun z=>.inr (.inl z)) fun z=>.inr (.inr z))
   refine⟨u,ru,.inr ⟨Um y3,?_⟩⟩
   rcases lk with ⟨kk,_⟩|⟨_,c,e,z⟩
   .have kk':X.env.scope.names.lookup x=some .local:=kk
    rw[kk'] at hk
    rcases hk with z|z<;>cases z
   .obtain⟨c',e'⟩:=hcf x y3
    have e'':=hcl x c' e'
    rw[e] at e'';cases e''
    obtain⟨o,ho,hd⟩:=z
    refine⟨c,?_,o,old c o ho,hd⟩
    show(own++cl).lookup x=some c
    rw[U46]
    cases q:own.lookup x with
    |none=>exact e'
    |some d=>have:=(oMem x d q).2.2;rw[y3] at this;cases this
  .rcases hcs x c e with z|z
   .exact⟨none,z.2.1⟩
   .obtain⟨v,o,ho,hd⟩:=I2.cell x c z
    exact⟨v,o,old c o ho,hd⟩
  .rcases hcs x c e with z|z
   .exact fresh c (U1a szC (U1a (U4o _) z.1))
   .exact I2.freeC x c z
  .have hp':p∈[(D,({ cls:=.type "list",data:=.seq ([]:List Value).toArray 0 }:Obj))]:=hp
   have e:p=(D,({ cls:=.type "list",data:=.seq ([]:List Value).toArray 0 }:Obj)):=by simpa using hp'
   subst e
   exact⟨hacc,fresh D szD,hDC,fun z=>by
    rcases U00.mp (I2.TX D z) with z|z
    .exact Nu I2.lt szD z.symm
    .exact I2.nj szD z,fun v z=>by cases z⟩
  .show(Kw k caps σ).length=N2.length
   unfold Kw
   rw[U0r,U1f,U0k,hS.len]
 -- the loop
 obtain⟨hg,ht,he⟩:=hb (own++cl) C s2 H2 fp
 have loop:∀s₃:Shared,Inv (Ek X N2 scope (own++cl) C s2 H2 fp) [(D,{ cls:=.type "list",data:=.seq ([]:List Value).toArray 0 })] (Kw k caps σ) H2 s₃->tn 0 s₃.heap ->
   codeAny (model X.prog X.w) X.A (.compLoop (.ListComp elt [⟨tg,iter,ifs,0⟩] scope pos) 0 (.ref it) (.ref D) (compEnvC scope (own++cl) C X.env)) (RR (.ref D) C) s₃:=by
  intro s₃ I₃ st₃
  refine codeAny_loop rfl (fun n s'=>∃i ys its nn H',Inv (Ek X N2 scope (own++cl) C s2 H2 fp) [(D,{ cls:=.type "list",data:=.seq (its:List Value).toArray nn })] (Kw k caps σ) H' s'/\Vals ys its/\tn i s'.heap/\(∀b∈fp,H' b=none)/\ys.length<=sizeLine/\W i n ys H') ?_ m0
   ⟨0,[],[],0,H2,I₃,.nil,st₃,fun b hbf=>(f2 b hbf).1,U3x _,w0⟩
  rintro n s5 ⟨i,ys,its,nn,H5,I5,rv,st5,fr5,hz,w5⟩
  show wpAny _ X.A ((compTurn (.ListComp elt [⟨tg,iter,ifs,0⟩] scope pos) 0 (.ref it) (.ref D) (compEnvC scope (own++cl) C X.env)).onRaise (fun x=>do noteFrame x (compEnvC scope (own++cl) C X.env);theTreesLotGoes x)) _ _ s5
  refine wpAny_noted ?_
  rw[compTurn_list]
  refine U0 (wpAny_standAt (U0 ?_))
  have fpok:∀{H':Hp} {o:Obj},(∀b∈fp,H' b=none)->∀b∈fp,Qz (Ek X N2 scope (own++cl) C s2 H2 fp) [(D,o)] H' b:=fun {H' o} hn b hbf=>by
   obtain⟨ob,e⟩:=f2h b hbf
   refine⟨hn b hbf,(below b ob e).1,OK.exfs b hbf,.inl hbf,(OK.exf b hbf).2,fun p hp z=>?_⟩
   have hp':p∈[(D,o)]:=hp
   have e':p=(D,o):=by simpa using hp'
   subst e'
   exact(below b ob e).2 z.symm
  rcases turn i n ys H5 w5 with ⟨stop,qn⟩|⟨go,hz2,step⟩
  .refine thn (T.done (Ek X N2 scope (own++cl) C s2 H2 fp) rfl rfl rfl hc i _ s5 _ H5 _ I5 (fpok fr5) st5 stop) fun r s6 ⟨hr,I6⟩=>?_
   subst hr
   refine U0f ?_
   obtain⟨pe,pn,pne,pnf,_⟩:=I6.pin (D,{ cls:=.type "list",data:=.seq its.toArray nn }) (U1q _ (U07.mpr rfl))
   have hD:H5 D=none:=pn
   have hCn:H5 C=none:=I6.free
   refine hRR D C s6 H5 ys szD szC (U1y hDC) hD hCn ?_ ?_ qn
   .have un:Un (frs X.stack) fp H2 (upd H5 D (.lst ys)) s2.heap s6.heap:=by
     have u:=I6.base
     refine⟨u.keep,u.slot,fun b o e n1 n2=>?_,u.there,fun b xs e=>?_,fun b o u' e=>?_,fun b ps e=>?_,fun n=>by rw[CK (U03 (U0y I2.iK szD))];exact u.sy n⟩
     .rw[CK (below b o e).2];exact u.free b o e n1 n2
     .rw[CK (Ec (u.tups b xs e) hD)];exact u.tups b xs e
     .rw[CK (Ec (u.frzs b o u' e) hD)];exact u.frzs b o u' e
     .obtain⟨more,q⟩:=u.tbls b ps e
      exact⟨more,by rw[CK (Ec q hD)];exact q⟩
    refine I2.call' I6.os un (fun b u e=>?_) I6.bare (fun b hbf=>⟨(f2 b hbf).2.2.2.1,(f2 b hbf).2.1,(f2 b hbf).2.2.2.2.1,(f2 b hbf).2.2.2.2.2⟩)
    by_cases hbd:b=D
    .subst hbd
     rw[Cq] at e;cases e
     exact⟨hz,its,nn,rv,pe⟩
    .rw[CK hbd] at e
     exact(I6.hok b u e).stay (fun _ _ _ q=>q) (fun c q=>by rw[CK (Ec q hD)];exact q) fun c xs q=>by rw[CK (Ec q hD)];exact q
   .obtain⟨m,hn,_⟩:=I6.loc
    exact⟨m,hn⟩
  .refine thn (T.item (Ek X N2 scope (own++cl) C s2 H2 fp) rfl rfl rfl hc i _ s5 _ H5 _ I5 (fpok fr5) st5 go) fun r s6 ⟨u,hr,h6⟩=>?_
   subst hr
   refine U0 (thn h6 fun _ s7 ⟨x,H7,I7,r7,y7,st7,fr7⟩=>?_)
   have I7':=I7.pinned (fpok fr7) (T.obj _ _ st7)
   refine U0 (U51 (hg _ s7 _ H7 x u _ I7' r7 (hlow _ _ _ _ (step x H7 y7))) (fun _ s8 ⟨σ8,H8,I8,q8,ql,qk⟩=>?_) fun _ _ z=>z.elim)
   have wk:∀{pl:List (Addr×Obj)} {H9:Hp} {s9:Shared},Inv (Ek X N2 scope (own++cl) C s2 H2 fp) pl σ8 H9 s9->Inv (Ek X N2 scope (own++cl) C s2 H2 fp) pl (Kw k caps σ) H9 s9:=fun {pl H9 s9} I9 =>
    I9.weak ql.symm fun i v e=>by
     obtain⟨j,a,rfl,_,_⟩:=gk e
     rw[qk (k+j) (U1r _ _)];exact e
   have pinD:∀{pl:List (Addr×Obj)} {σ9:St} {H9:Hp} {s9:Shared},Inv (Ek X N2 scope (own++cl) C s2 H2 fp) (((D,({ cls:=.type "list",data:=.seq its.toArray nn }:Obj))::[])++pl) σ9 H9 s9->s9.heap.get? D=some { cls:=.type "list",data:=.seq its.toArray nn }/\H9 D=none:=fun {pl σ9 H9 s9} I9=>by
    obtain⟨e1,e2,_⟩:=I9.pin (D,_) (U1q _ (U3y _ (U07.mpr rfl)))
    exact⟨e1,e2⟩
   have stn:∀{pl:List (Addr×Obj)} {σ9:St} {H9:Hp} {s9:Shared},Inv (Ek X N2 scope (own++cl) C s2 H2 fp) (pl++O5 fp s7.heap) σ9 H9 s9->tn (i+1) s9.heap/\∀b∈fp,H9 b=none:=fun {pl σ9 H9 s9} I9=>by
    refine⟨T.keep _ _ _ st7 fun b hbf o e=>(I9.pin (b,o) (U1q _ (U1q _ (PX hbf e)))).1,fun b hbf=>?_⟩
    obtain⟨o,e,d⟩:=T.obj _ _ st7 b hbf
    exact(I9.pin (b,o) (U1q _ (U1q _ (PX hbf e)))).2.1
   refine U0 (U51 (ht _ s8 σ8 H8 _ I8 q8) (fun ok s9 ⟨H9,I9,q9⟩=>?_) fun _ _ z=>z.elim)
   cases ok with
   |false =>
    obtain⟨m',hm,w9⟩:=(by simpa using q9:∃m',m'<n/\W (i+1) m' ys H9)
    refine U0f ⟨rfl,m',hm,i+1,ys,its,nn,H9,wk I9.Rx,rv,(stn I9).1,(stn I9).2,hz,w9⟩
   |true =>
    have q9':te σ8 H9 fun v H4=>∃m',m'<n/\W (i+1) m' (ys++[v]) H4:=by simpa using q9
    refine U0 (U0 (U51 (he _ s9 σ8 H9 _ I9 q9') (fun y s10 ⟨v,H10,I10,r10,q10⟩=>U0 ?_) fun _ _ z=>z.elim))
    obtain⟨m',hm,w10⟩:=q10
    obtain⟨eD,nD⟩:=pinD I10
    have hl:=rv.length
    refine call_meets F.slot_list_append ⟨_,eD,rfl⟩ F.entry_list_append (F.args_list_append_2 _ _) (PySem.list_append D its.toArray nn y (by rw[U0s];omega)) ⟨eD,?_⟩
    refine U0f (U0f ⟨rfl,m',hm,?_⟩)
    obtain⟨n2,qD⟩:∃n2,(s10.heap.update D (U2m fun z=>z.push y)).get? D=some { cls:=.type "list",data:=.seq (its++[y]).toArray n2 }:=by
     have q0:=PySem.IsL.update eD (fun z=>z.push y)
     have hf:its.toArray.push y=(its++[y]).toArray:=by simp
     rw[hf] at q0
     exact⟨_,q0⟩
    have J0:Inv (Ek X N2 scope (own++cl) C s2 H2 fp) (O5 fp s7.heap) (Kw k caps σ) H10 s10:=wk (I10.Uz fun p hp=>I10.pin p (U1q _ (U1q _ hp)))
    have J1:Inv (Ek X N2 scope (own++cl) C s2 H2 fp) (O5 fp s7.heap) (Kw k caps σ) H10 { s10 with heap:=s10.heap.update D (U2m fun z=>z.push y),toks:=s10.toks }:=by
     refine J0.turned (fun b o hne e=>(U1d s10.heap _ (U1y hne)).trans e) nD hDC (.inr szD) (fun x c e z=>?_) fun p hp z=>?_
     .rcases hcs x c e with y|y
      .have:=y.1
       rw[z] at this
       omega
      .obtain⟨o,ho⟩:=okc x c y
       exact(below c o ho).2 z
     .have hp':p∈O5 fp s7.heap:=hp
      obtain⟨ob,e⟩:=f2h p.1 (Yb hp').1
      exact(below p.1 ob e).2 z
    have J2:Inv (Ek X N2 scope (own++cl) C s2 H2 fp) [(D,{ cls:=.type "list",data:=.seq (its++[y]).toArray n2 })] (Kw k caps σ) H10 { s10 with heap:=s10.heap.update D (U2m fun z=>z.push y),toks:=s10.toks }:=by
     refine J1.Uz fun p hp=>?_
     have e:p=(D,{ cls:=.type "list",data:=.seq (its++[y]).toArray n2 }):=U07.mp hp
     subst e
     exact⟨qD,nD,hDC,fun z=>by
      rcases U00.mp (I2.TX D z) with z|z
      .exact Nu I2.lt szD z.symm
      .exact I2.nj szD z,fun v z=>by cases z⟩
    refine⟨i+1,ys++[v],its++[y],_,H10,J2,rv.append (.cons r10 .nil),?_,(stn I10).2,?_,w10⟩
    .refine T.keep _ _ _ (stn I10).1 fun b hbf o e=>?_
     obtain⟨ob,e'⟩:=f2h b hbf
     exact(U1d s10.heap _ (U1y (below b ob e').2)).trans e
    .rw[U0r,U3v];omega
 have st1:tn 0 h₁:=T.keep _ _ _ st2 fun b hbf o e=>old b o e
 exact codeAny_compStart_list (loop _ (I4 _) st1) (T.self X.A 0 _ _ _ st1 (loop _ (I4 _) st1))
theorem uP{elt tg iter:Expr}{ifs:List Expr}{scope:Scope}{pos:Pos}{N2:List Str}{k:Nat}{caps:List Nat}{wi:TI}{g:TG}{tt:TT}{te:TE}
  (hc:X.calm=true) (hS:Ds X.env.scope X.N N2 k caps scope) (hlow:Low k g) (hi:PI X tg iter wi)
  (hb:∀(cl:List (Str×Addr))(C:Addr)(s:Shared)(H:Hp)(ex:List Addr),PG (Ek X N2 scope cl C s H ex) tg g/\PTs (Ek X N2 scope cl C s H ex) ifs tt/\PE (Ek X N2 scope cl C s H ex) elt te)
  (hs:∀x,foldedSetIterable iter X.env x=pure x:=by intro _;rfl):PE X (.ListComp elt [⟨tg,iter,ifs,0⟩] scope pos) (iW k caps wi g tt te):=by
 intro pins s σ H Q I h
 rw[eval_ListComp]
 obtain⟨cl,hcl0,hcl,hcf⟩:=XJ (scope:=scope) (env:=X.env) fun y hy e=>I.ok.has y.1 (hS.free y hy e)
 refine wpAny_comprehension_free (use:=none) rfl hs hcl0 hS.kind hS.loc ?_
 refine thn (hi pins s σ H _ I h) fun v s1 h1=>thn h1 fun itv s2 h2=>?_
 obtain⟨it,fp,tn,J,H2,e,I2,T,st2,f2,W,⟨m0,w0⟩,turn⟩:=h2
 subst e
 refine XH (RR:=fun acc C=>compPost (model X.prog X.w) X.A X.xe none (EP X pins σ Q) acc C) (Qe:=fun ys H=>∀p,H p=none->Q (.ref p) (upd H p (.lst ys))) hc hS hlow hcl hcf hb I2 T st2 f2 w0 turn ?_
 intro D C s' H' ys hD hC hDC nD nC I' hn q
 obtain⟨m,hn⟩:=hn
 refine⟨m,hn,fun h' hsb=>⟨.ref D,_,?_,rfl,q D nD⟩⟩
 refine I'.but hsb (by rw[CK hDC];exact nC) (fun z=>?_) (U1a I2.sz hC) (fun x c e z=>?_) fun p hp z=>?_
 .exact Nu I2.lt hC z.symm
 .obtain⟨v,o,ho,_⟩:=I2.cell x c e
  exact Nu (U0q ho) hC z
 .exact Nu (U0q (I2.pin p hp).1) hC z
def Jas(i:Nat)(t:TE):TS:=fun D σ H=>t σ H fun v H1=>D.nx (σ.set i (some v)) H1
theorem fZ{elt tg iter:Expr}{ifs:List Expr}{scope:Scope}{pos py spos:Pos}{N2:List Str}{k i:Nat}{y:Str}{caps:List Nat}{wi:TI}{g:TG}{tt:TT}{te:TE}
  (hc:X.calm=true) (hN:X.N.Nodup) (hi':X.N[i]?=some y) (hS:Ds X.env.scope X.N N2 k caps scope) (hlow:Low k g) (hi:PI X tg iter wi)
  (hb:∀(cl:List (Str×Addr))(C:Addr)(s:Shared)(H:Hp)(ex:List Addr),PG (Ek X N2 scope cl C s H ex) tg g/\PTs (Ek X N2 scope cl C s H ex) ifs tt/\PE (Ek X N2 scope cl C s H ex) elt te)
  (hx:X.env.scope.names.lookup y=some .local:=by rfl) (hsw:swapsWith (.ListComp elt [⟨tg,iter,ifs,0⟩] scope pos) (some (.Name y py)) spos.line X.env=pure true:=by rfl)
  (hs:∀x,foldedSetIterable iter X.env x=pure x:=by intro _;rfl):PS X (.Assign [.Name y py] (.ListComp elt [⟨tg,iter,ifs,0⟩] scope pos) spos) (Jas i (iW k caps wi g tt te)):=by
 intro pins s σ H D0 I h
 obtain⟨cl,hcl0,hcl,hcf⟩:=XJ (scope:=scope) (env:=X.env) fun y hy e=>I.ok.has y.1 (hS.free y hy e)
 rw[exec_Assign_Name_used _ _ _ _ hsw]
 refine U0 (wpAny_standAt (U0 ?_))
 show wpAny _ X.A (do let _ ←comprehension (.ListComp elt [⟨tg,iter,ifs,0⟩] scope pos) scope X.env _ (newList []) false (eval iter X.env) (some (assign (.Name y py) X.env))) _ _ s
 refine U0 (U51 (wpAny_comprehension_free (use:=some (assign (.Name y py) X.env)) (Q:=fun _ s'=>SP X pins D0 .next s') rfl hs hcl0 hS.kind hS.loc ?_) (fun _ s' hq=>U0f (U0f hq)) fun _ _ e=>e)
 refine thn (hi pins s σ H _ I h) fun v s1 h1=>thn h1 fun itv s2 h2=>?_
 obtain⟨it,fp,tn,J,H2,e,I2,T,st2,f2,W,⟨m0,w0⟩,turn⟩:=h2
 subst e
 refine XH (RR:=fun acc C=>compPost (model X.prog X.w) X.A X.xe (some (assign (.Name y py) X.env)) (fun _ s'=>SP X pins D0 .next s') acc C)
  (Qe:=fun ys H=>∀p,H p=none->D0.nx (σ.set i (some (.ref p))) (upd H p (.lst ys))) hc hS hlow hcl hcf hb I2 T st2 f2 w0 turn ?_
 intro D C s' H' ys hD hC hDC nD nC I' hn q
 obtain⟨m,hn⟩:=hn
 show wpAny _ X.A (assign (.Name y py) X.env (.ref D)) _ _ _
 refine wpAny_assign_Name (YJ (v:=.ref D) I' hN hi' (.inl hx) rfl (fun s'' I'' ⟨a,hsb,ha⟩=>?_) (.inr hx))
 have hLC:C≠X.env.locals:=fun z=>Nu I2.lt hC z.symm
 have hcC:∀x c,X.env.cells.lookup x=some c->c≠C:=fun x c e z=>by
  obtain⟨v,o,ho,_⟩:=I2.cell x c e
  exact Nu (U0q ho) hC z
 have haC:C≠a:=by
  rcases ha with z|z
  .rw[z];exact hLC
  .exact fun e=>hcC y a z e.symm
 refine⟨m,hn.sameBut hsb haC,fun h' hsb'=>?_⟩
 refine⟨_,_,I''.but hsb' (by rw[CK hDC];exact nC) hLC (U1a I2.sz hC) hcC fun p hp z=>?_,q D nD⟩
 exact Nu (U0q (I2.pin p hp).1) hC z
end
end L2
end
section
namespace L2
open PySem PySem.Spec PyProof.Rows
theorem FJ.obj{P:Program}{w:World}{H:Hp}{h:Heap}{a:Addr}{o:HO}(x:FJ P w H h a o):∃ob,h.get? a=some ob:=by
 cases o with
 |lst xs=>obtain⟨_,_,_,_,e⟩:=x;exact⟨_,e⟩
 |tup xs=>obtain⟨_,_,_,ob,e,_⟩:=x;exact⟨ob,e⟩
 |dK kvs=>obtain⟨_,_,_,_,o,_,_,e,_⟩:=x;exact⟨o,e⟩
 |dT kvs=>obtain⟨_,_,_,_,o,_,_,e,_⟩:=x;exact⟨o,e⟩
 |set S n=>obtain⟨o,_,_,_,e,_⟩:=x;exact⟨o,e⟩
 |ins C dx fs=>obtain⟨_,_,_,e,_⟩:=x;exact⟨_,e⟩
 |own y=>exact x
 |xd fs=>obtain⟨_,⟨o,_,_,e,_⟩,_⟩:=x;exact⟨o,e⟩
 |rng lo hi=>obtain⟨_,_,_,e⟩:=x;exact⟨_,e⟩
 |frz ob u=>obtain⟨e,_⟩:=x;exact⟨_,e⟩
 |tbl ps=>exact⟨_,x⟩
 |met f y=>exact⟨_,x⟩
 |ext φ=>obtain⟨_,e,_⟩:=x;exact e
section
variable{X:Cx}{pins:List (Addr×Obj)}{σ:St}{H:Hp}{s:Shared}
theorem Inv.gD(I:Inv X pins σ H s){a:Addr}(h:s.heap.get? a=none):H a=none:=by
 cases q:H a with
 |none=>rfl
 |some o =>
  obtain⟨ob,e⟩:=(I.hok a o q).obj
  rw[h] at e;cases e
theorem Inv.laidN{a:Addr}{o:HO}{h':Heap}{d':Drawn}{t':Nat}(I:Inv X pins σ H s)(k:∀b u,s.heap.get? b=some u->h'.get? b=some u)(hn:s.heap.get? a=none)(hsy:sysModules≠a)(new:FJ X.prog X.w (upd H a o) h' a o) :
  Inv X pins σ (upd H a o) { s with heap:=h',drawn:=d',toks:=t' }:=by
 have hH:=I.gD hn
 have ne:∀b u,s.heap.get? b=some u->b≠a:=fun b u e z=>by rw[z,hn] at e;cases e
 refine I.step (g':=s.gens) (ch:=[]) (fun _ z=>nomatch z) (fun b u _ _ _ e _=>k b u e) (fun b u _ _ _ e _=>⟨u.slots,k b u e⟩) (fun b u _ e n=>by rw[CK (ne b u e)];exact n) (fun b u _ e=>⟨u,k b u e⟩)
  (fun b xs e=>by rw[CK (Ec e hH)];exact e) (fun b u xs e=>by rw[CK (Ec e hH)];exact e) (fun b ps e=>⟨#[],by rw[CK (Ec e hH),e];simp⟩) (fun m hm=>?_) (fun b u e=>?_) I.bare (fun n=>by rw[CK hsy];exact n)
 .obtain⟨ob,es,ep,e,r⟩:=hm
  exact⟨ob,es,ep,k _ _ e,r⟩
 .by_cases hb:b=a
  .subst hb;rw[Cq] at e;cases e;exact new
  .rw[CK hb] at e
   exact(I.hok b u e).stay (fun c v _ q=>k c v q) (fun c q=>by rw[CK (Ec q hH)];exact q) fun c xs q=>by rw[CK (Ec q hH)];exact q
end
def Zd(P:Program)(w:World)(a:Addr)(ds:List Int):HO:=.ext fun h=>SetP.SetT P w h a ds
theorem tY{P:Program}{w:World}{H:Hp}{h:Heap}{a:Addr}{ds:List Int}(x:SetP.SetT P w h a ds):FJ P w H h a (Zd P w a ds) :=
 ⟨x,(by obtain⟨_,o,_,_,_,e,_⟩:=x;exact⟨o,e⟩),fun h1 h2 y k=>y.sameBut k⟩
section
variable{X:Cx}
theorem rH(hc:X.calm=true):Eb X (.type "set") (fun xs H Q=>∃p ns,xs=[.ref p]/\SqL X.K H p (ns.map V.int)/\ns.length<1000/\∀a,H a=none->Q (.ref a) (upd H a (Zd X.prog X.w a (SetP.once ns)))):=by
 intro pins s σ H xs us Q I r h
 obtain⟨p,ns,rfl,hq,hl,q⟩:=h
 obtain⟨u,rfl,rx⟩:=vals1 r
 cases rx
 obtain⟨its,rv,pl,hz⟩:=I.list hq
 have hlen:=rv.length
 rw[U0k] at hlen
 refine SetP.tX (I.ok.hd hc) pl.isList (by simpa using intsAre_of rv) (by rw[U0s,←hlen];unfold scanBound;omega) fun h' tk k T=>?_
 have hn:s.heap.get? s.heap.objs.size=none:=Heap.get?_none_of_le (U0t _)
 exact⟨.ref s.heap.objs.size,_,I.laidN (d':=s.drawn) (t':=tk) k hn (U03 I.iK) (tY T),rfl,q _ (I.hok.fresh (U0t _))⟩
theorem YD(hc:X.calm=true):Eb X (.builtin "sorted") (fun xs H Q=>∃(a:Addr)(ds:List Int),xs=[.ref a]/\H a=some (Zd X.prog X.w a ds)/\ds.length<64 /\
  ∀(l:Addr)(ns:List Int),H l=none->ns.Perm ds->ns.Pairwise (·<=·)->Q (.ref l) (upd H l (.lst (ns.map V.int)))):=by
 intro pins s σ H xs us Q I r h
 obtain⟨a,ds,rfl,hH,hl,q⟩:=h
 obtain⟨u,rfl,rx⟩:=vals1 r
 cases rx
 obtain⟨T,_,_⟩:=(show FJ X.prog X.w H s.heap a (Zd X.prog X.w a ds) from I.hok a _ hH)
 refine SetP.pC (I.ok.hd hc) T hl fun h' d' tk l vs ns n k hb e hi hp hs=>?_
 have hn:s.heap.get? l=none:=by
  cases q:s.heap.get? l with
  |none=>rfl
  |some o=>exact absurd (hb l o q) (U33 _)
 have hsy:sysModules≠l:=by
  obtain⟨o,_,_,e,_⟩:=I.ok.mod.glob
  exact U03 (U3f (by decide:(1:Nat)<3) (hb _ _ (I.bk _ _ e)))
 have hlen:ns.length<64:=by rw[hp.length_eq];exact hl
 refine⟨.ref l,_,I.laidN (d':=d') (t':=tk) (o:=.lst (ns.map V.int)) k hn hsy ⟨?_,vs.toList,n,Tt hi,by simpa using e⟩,rfl,q l ns (I.gD hn) hp hs⟩
 rw[U0k]
 exact U2w (YM (by omega))
theorem dJ{prog:Program}{w:World}{A:Around}{bs:List Bool}{its:List Value}(r:Vals (bs.map V.bl) its):TruthOf prog w A (fun i v=>its.toArray[i]?=some v) (fun i=>bs.getD i false):=by
 intro i v s Q E hP h
 rw[U5c] at hP
 have hlen:=r.length
 rw[U0k] at hlen
 have hi:i<bs.length:=by rw[hlen];exact(U0n.mp hP).1
 obtain⟨u,e,ru⟩:=r.get (i:=i) (x:=.bl bs[i]) (by rw[U0w,U0i hi];rfl)
 rw[e] at hP;cases hP
 have ru':v=U5e bs[i]:=ru
 subst ru'
 have e2:bs.getD i false=bs[i]:=by rw[U0h,U0i hi];rfl
 have h:Q (bs.getD i false) s:=h
 rw[e2] at h
 exact U3h h
theorem all_range(bs:List Bool):(U0g bs.length).all (fun i=>bs.getD i false)=bs.all id:=by
 rw[U3l,U37,U37]
 constructor
 .intro h b hb
  obtain⟨i,hi⟩:=U4b.mp hb
  have q:=h i (U2h.mpr (U0n.mp hi).1)
  rw[U0h,hi] at q
  exact q
 .intro h i hi
  have hi':=U2h.mp hi
  rw[U0h,U0i hi']
  exact h _ (U1s hi')
theorem cG(hc:X.calm=true):Eb X (.builtin "all") (fun xs H Q=>∃(p:Addr)(bs:List Bool),xs=[.ref p]/\SqL X.K H p (bs.map V.bl)/\Q (.bl (bs.all id)) H):=by
 intro pins s σ H xs us Q I r h
 obtain⟨p,bs,rfl,hq,q⟩:=h
 obtain⟨u,rfl,rx⟩:=vals1 r
 cases rx
 obtain⟨its,rv,pl,hz⟩:=I.list hq
 have hlen:=rv.length
 rw[U0k] at hlen
 have hl:=pl.isList
 have hlt:p<s.heap.objs.size:=by obtain⟨o,ho,_⟩:=hl;exact U0q ho
 refine call_all_walk (U5b hl ?_)
 refine⟨s.heap.objs.size,[s.heap.objs.size,p],[s.heap.objs.size],its.toArray.size,_,_,fun i=>bs.getD i false,rfl,Walks.list (by simpa using I.ok.hd hc) s.heap.objs.size p (U03 hlt) its.toArray,⟨⟨_,U0v _ rfl,rfl,rfl⟩,hl.push _⟩,dJ rv,fun h' tk k=>?_⟩
 refine⟨.bl (bs.all id),H,I.kept (h':=h') (t':=tk) fun b o e=>k b o (fun z=>?_) (U0d _ e),?_,q⟩
 .exact absurd (U07.mp z) (U03 (U0q e))
 .show U5e _=U5e _
  rw[U0s,←hlen,all_range]
theorem DX{K:U0b}{a b:String}{r:Bool}(h:(if (U3s a==U3s b)=true then some true else if PySem.W.kitMeta b=true then (PySem.fastBuiltinMro a).map (·.contains (.type b)) else none)=some r):U3n K (.type a) (.type b)=some r:=h
theorem eZ:Eb X (.builtin "isinstance") (fun xs H Q=>∃(x:V)(T:String)(t:Value)(b:Bool),xs=[x,.ty T]/\Lz X.K H x t/\U3n X.K t (.type T)=some b/\Q (.bl b) H):=by
 intro pins s σ H xs us Q I r h
 obtain⟨x,T,t,b,rfl,ty,e,q⟩:=h
 obtain⟨u,w',rfl,rx,rt⟩:=vals2 r
 cases (show w'=U3s T from rt)
 exact mY I rx ty e fun tk=>⟨.bl b,H,I.tok tk,rfl,q⟩
theorem eY:Eb X (.type "range") (fun xs H Q=>∃(n:Int),xs=[.int n]/\∀p,H p=none->Q (.ref p) (upd H p (.rng 0 n))):=by
 intro pins s σ H xs us Q I r h
 obtain⟨n,rfl,q⟩:=h
 obtain⟨u,rfl,rx⟩:=vals1 r
 obtain⟨t,rfl⟩:=(show ∃t,u=U3m n t from rx)
 exact call_range_1 ⟨.ref s.heap.objs.size,_,I.laid (o:=.rng 0 n) (fun _ _ e=>U0d _ e) (U0t _) ⟨_,_,_,U0v _ rfl⟩,rfl,q _ (I.hok.fresh (U0t _))⟩
theorem eX:Eb X (.type "range") (fun xs H Q=>∃(a b:Int),xs=[.int a,.int b]/\∀p,H p=none->Q (.ref p) (upd H p (.rng a b))):=by
 intro pins s σ H xs us Q I r h
 obtain⟨a,b,rfl,q⟩:=h
 obtain⟨u,w',rfl,rx,ry⟩:=vals2 r
 obtain⟨t,rfl⟩:=(show ∃t,u=U3m a t from rx)
 obtain⟨t',rfl⟩:=(show ∃t,w'=U3m b t from ry)
 exact call_range_2 ⟨.ref s.heap.objs.size,_,I.laid (o:=.rng a b) (fun _ _ e=>U0d _ e) (U0t _) ⟨_,_,_,U0v _ rfl⟩,rfl,q _ (I.hok.fresh (U0t _))⟩
def upTo(lo:Int)(n:Nat):List Int:=(U0g n).map fun(i:Nat)=>lo+i
theorem YF(hc:X.calm=true):Eb X (.type "list") (fun xs H Q=>∃(r:Addr)(lo hi:Int),xs=[.ref r]/\H r=some (.rng lo hi)/\-(2^62)<=lo/\lo<2^62/\-(2^62)<=hi/\hi<2^62/\(hi-lo).toNat<=1000 /\
  ∀l,H l=none->Q (.ref l) (upd H l (.lst ((upTo lo (hi-lo).toNat).map V.int)))):=by
 intro pins s σ H xs us Q I rr h
 obtain⟨r,lo,hi,rfl,hH,h1,h2,h3,h4,h5,q⟩:=h
 obtain⟨u,rfl,rx⟩:=vals1 rr
 cases rx
 obtain⟨t,u,v,e⟩:=(show FJ X.prog X.w H s.heap r (.rng lo hi) from I.hok r _ hH)
 have hsz:U35 lo hi 1=(((hi-lo).toNat:Nat):Int):=by rw[rangeSize_one];split<;>omega
 refine call_list_range (a:=lo) (b:=hi) (c:=1) (I.ok.hd hc) e (small_one h1 h2 h3 h4) hsz (by omega) fun h' tk acc c k eS hacc=>?_
 refine⟨.ref s.heap.objs.size,_,I.laid (o:=.lst ((upTo lo (hi-lo).toNat).map V.int)) (t':=tk) k (U0t _) ⟨?_,acc.toList,c,?_,by simpa using eS⟩,rfl,q _ (I.hok.fresh (U0t _))⟩
 .unfold upTo
  rw[U0k,U0k,U2s]
  exact U2w (YM h5)
 .have gen:∀(l:List Value)(j:Nat),(∀(i:Nat)(v:Value),l[i]?=some v->∃t,v=U3m (lo+((i+j:Nat):Int)) t)->Vals (((U8e j l.length).map fun(i:Nat)=>lo+i).map V.int) l:=by
   intro l
   induction l with
   |nil=>intro j _;exact .nil
   |cons x r ih =>
    intro j hx
    obtain⟨t,e⟩:=hx 0 x rfl
    subst e
    rw[U0j,List.range'_succ]
    refine .cons ⟨t,by simp⟩ (ih (j+1) fun i v hv=>?_)
    obtain⟨t',e'⟩:=hx (i+1) v (by simpa using hv)
    exact⟨t',by rw[e',show i+1+j=i+(j+1) by omega]⟩
  have q2:=gen acc.toList 0 fun i v hv=>by
   obtain⟨t',e'⟩:=hacc.2 i v (by simpa using hv)
   exact⟨t',by rw[e'];simp⟩
  have el:acc.toList.length=(hi-lo).toNat:=by simpa using hacc.1
  rw[el,←List.range_eq_range'] at q2
  exact q2
end
end L2
end
section
namespace L2
open PySem PySem.Spec PyProof.Rows
mutual
inductive Tr (N:Addr->Prop) (H:Hp):V->PyData->Prop
 |non:Tr N H .non .none
 |bl (b:Bool):Tr N H (.bl b) (.bool b)
 |int (i:Int):Tr N H (.int i) (.int i)
 |str (x:Str):Tr N H (.str x) (.str x)
 |lst {a:Addr} {xs:List V} {ds:List PyData}:N a->H a=some (.lst xs)->Mj N H xs ds->Tr N H (.ref a) (.list ds)
 |tup {a:Addr} {xs:List V} {ds:List PyData}:N a->H a=some (.tup xs)->Mj N H xs ds->Tr N H (.ref a) (.tuple ds)
 |dct {a:Addr}:N a->H a=some (.dK [])->Tr N H (.ref a) (.dict [])
inductive Mj (N:Addr->Prop) (H:Hp):List V->List PyData->Prop
 |nil:Mj N H [] []
 |cons {x:V} {d:PyData} {xs:List V} {ds:List PyData}:Tr N H x d->Mj N H xs ds->Mj N H (x::xs) (d::ds)
end
section
variable{N N':Addr->Prop}{H H':Hp}
end
section
variable{N:Addr->Prop}{P:Program}{w:World}{H:Hp}{h:Heap}
mutual
theorem Tr.reads(ok:HOk P w H h)(hs:H sysModules=none):∀{v:V} {d:PyData},Tr N H v d->∀u,RelV v u->∃as,Reads h u d as/\sysModules ∉ as
 |_,_,.non,u,r=>⟨[],by cases (show u=U22 from r);exact .none,by simp⟩
 |_,_,.bl b,u,r=>⟨[],by cases (show u=U5e b from r);exact .bool b,by simp⟩
 |_,_,.int i,u,r=>by obtain⟨t,rfl⟩:=(show ∃t,u=U3m i t from r);exact⟨[],.int i t,by simp⟩
 |_,_,.str x,u,r=>by obtain⟨t,rfl⟩:=(show ∃t,u=Value.str x t from r);exact⟨[],.str x t,by simp⟩
 |_,_,.lst (a:=a) (xs:=xs) (ds:=ds) _ hH t,u,r=>by
  cases (show u=U2v a from r)
  obtain⟨_,its,n,rv,e⟩:=(show FJ P w H h a (.lst xs) from ok a _ hH)
  obtain⟨as,ra,na⟩:=Mj.reads ok hs t its rv
  refine⟨a::as,.list e rfl rfl (by simpa using ra),fun z=>?_⟩
  rcases U00.mp z with z|z
  .rw[z] at hs;rw[hs] at hH;cases hH
  .exact na z
 |_,_,.tup (a:=a) (xs:=xs) (ds:=ds) _ hH t,u,r=>by
  cases (show u=U2v a from r)
  obtain⟨_,its,rv,ob,e,c,n,d⟩:=(show FJ P w H h a (.tup xs) from ok a _ hH)
  obtain⟨as,ra,na⟩:=Mj.reads ok hs t its rv
  exact⟨as,.tuple e c d (by simpa using ra),na⟩
 |_,_,.dct (a:=a) _ hH,u,r=>by
  cases (show u=U2v a from r)
  obtain⟨_,y,vs,kv,o,es,ep,e,ex,d,el⟩:=(show FJ P w H h a (.dK []) from ok a _ hH)
  cases kv
  have e0:es.toList=[]:=by
   have q:Pairs (Xy P w) es.toList []:=el.2.1
   generalize es.toList=l at q
   cases q
   rfl
  refine⟨[a],.dict (as:=[]) (bs:=[]) e ex.1 d (by rw[e0];exact .nil) (by rw[e0];exact .nil),fun z=>?_⟩
  have z':=U07.mp z
  rw[←z'] at y
  simp at y
theorem Mj.reads(ok:HOk P w H h)(hs:H sysModules=none):∀{xs:List V} {ds:List PyData},Mj N H xs ds->∀us,Vals xs us->∃as,ReadsAll h us ds as/\sysModules ∉ as
 |_,_,.nil,us,r=>by cases r;exact⟨[],.nil,by simp⟩
 |_,_,.cons t ts,us,r=>by
  cases r with
  |cons rx rr =>
   obtain⟨as,ra,na⟩:=Tr.reads ok hs t _ rx
   obtain⟨bs,rb,nb⟩:=Mj.reads ok hs ts _ rr
   exact⟨as++bs,.cons ra rb,fun z=>(U12.mp z).elim na nb⟩
end
end
section
variable{X:Cx}
theorem zB{k:Nat}(hr:Gb k X.A):OpR X (compareOp .Eq) (fun x y H Q=>∃(N N':Addr->Prop)(d e:PyData),Tr N H x d/\Tr N' H y e/\U21 d=true/\U21 e=true/\Q (.bl (U70 d e)) H):=by
 intro pins s σ H x y v u Q I rx ry h
 obtain⟨N,N',d,e,t1,t2,s1,s2,q⟩:=h
 obtain⟨as,ra,_⟩:=t1.reads I.hok I.Xo v rx
 obtain⟨bs,rb,_⟩:=t2.reads I.hok I.Xo u ry
 exact SeqAt.compareEq_shaped ra rb s1 s2 hr.units ⟨.bl _,H,I,rfl,q⟩
theorem yx{k:Nat}(hr:Gb k X.A):OpR X (compareOp .NotEq) (fun x y H Q=>∃(N N':Addr->Prop)(d e:PyData),Tr N H x d/\Tr N' H y e/\U21 d=true/\U21 e=true/\Q (.bl (!PyData.eqv d e)) H):=by
 intro pins s σ H x y v u Q I rx ry h
 obtain⟨N,N',d,e,t1,t2,s1,s2,q⟩:=h
 obtain⟨as,ra,_⟩:=t1.reads I.hok I.Xo v rx
 obtain⟨bs,rb,_⟩:=t2.reads I.hok I.Xo u ry
 exact SeqAt.compareNe_shaped ra rb s1 s2 hr.units ⟨.bl _,H,I,rfl,q⟩
end
end L2
end
section
namespace HT
open PySem PySem.Spec PyProof.Rows
section
variable{prog:Program}{w:World}{A:Around}{E:Value->Shared->Prop}{s:Shared}
theorem rG{t b:Addr}{ws:List Value}{Q:Value->Shared->Prop}(ht:IsTup s.heap t ([]:List Value).toArray)(hb:IsTup s.heap b ws.toArray)(h:Q (.ref b) s):wpAny (model prog w) A (binaryOp .Add (.ref t) (.ref b)) Q E s:=by
 obtain⟨⟨c1,d1,x1,sl1⟩,ho,hc,n,hd⟩:=id ht
 obtain⟨⟨c2,d2,x2,sl2⟩,ho2,hc2,n2,hd2⟩:=id hb
 simp only at hc hd hc2 hd2
 subst hc hd hc2 hd2
 exact concat_meets ⟨_,ho,rfl⟩ ⟨_,ho2,rfl⟩ noFill_tuple_add seq_tuple_add U6c U56 (U5u _ _) (tuple_addW0 t b _ ws.toArray n n2 d1 d2 sl1 sl2 (by simp)) ⟨ho,ho2,h⟩
theorem dN{t sl:Addr}{items:Array Value}{vl vu:Value}{lo hi:Option Int}{Q:Value->Shared->Prop}(ht:IsTup s.heap t items)(hs:s.heap.IsSliceOf sl vl vu .none)(pl:IsPart vl lo)(pu:IsPart vu hi)
  (hw:sIx items.size 0 lo=0/\sIx items.size items.size hi=items.size) (h:Q (.ref t) s):wpAny (model prog w) A (getItem (.ref t) (.ref sl)) Q E s:=by
 obtain⟨os,hos,hcs,hds⟩:=id hs
 have hTs:s.TypeIs (.ref sl) "slice":=⟨os,hos,hcs⟩
 unfold getItem
 try with_reducible refine U2j ?_
 first|refine U0 (U0f ?_)|skip
 refine U0 (wpAny_sequenceKey ht.typeIs (by decide) ?_)
 refine U0 (wpAny_callSpecial?_slot (name:=U3r "__getitem__") ht.typeIs U27 (U2p U27 ht.typeIs entry_tuple_getitem ?_ (args_tuple_getitem _ _)))
 show wpAny _ _ (Builtin.Tuple.tupleItemsOf (.ref t) >>= _) _ _ s
 refine U0 (tupleItemsOf_ ht (U0 (U5v hTs ?_)))
 rw[if_pos (by decide)]
 refine U0 (QW hs pl pu ?_)
 have yes:(((sIx items.size 0 lo:Nat):Int)==0&&(1:Int)==1&&(sIx items.size items.size hi-sIx items.size 0 lo)==items.size)=true:=by
  rw[hw.1,hw.2];simp
 show wpAny _ _ (if (((sIx items.size 0 lo:Nat):Int)==0&&(1:Int)==1&&(sIx items.size items.size hi-sIx items.size 0 lo)==items.size)=true then _ else _) _ _ s
 rw[if_pos yes]
 unfold Builtin.Tuple.tupleIsExact
 refine U0 (U0 (U5v ht.typeIs (U0f ?_)))
 rw[if_pos (by decide)]
 exact U0 (U45 (U0f ⟨_,rfl,U0f h⟩))
end
end HT
namespace L2
open PySem PySem.Spec PyProof.Rows
theorem Df{H:Hp}{p:Addr}(h:H p=none)(o:HO):Same H (upd H p o):=fun b u q=>by rw[CK (Ec q h)];exact q
theorem jU(xs:List V)(lo hi:Option Int)(h:HT.sIx xs.length 0 lo=0/\HT.sIx xs.length xs.length hi=xs.length):Mf xs lo hi=xs:=by
 unfold Mf
 rw[h.1,h.2,U54,Nat.sub_zero,U2r]
section
variable{X:Cx}
theorem uV:OpR X (binaryOp .Add) (fun x y H Q=>∃(a b:Addr)(xs ys:List V),x=.ref a/\y=.ref b/\H a=some (.tup xs)/\H b=some (.tup ys)/\xs.length+ys.length<=sizeLine/\∀p H',Same H H'->H' p=some (.tup (xs++ys))->Q (.ref p) H'):=by
 intro pins s σ H x y v u Q I rx ry h
 obtain⟨a,b,xs,ys,rfl,rfl,ha,hb,hz,q⟩:=h
 by_cases hx:xs=[]
 .subst hx
  cases rx
  cases ry
  obtain⟨its,r1,p1,_⟩:=I.tuple (SqT.of ha)
  obtain⟨its2,r2,p2,_⟩:=I.tuple (SqT.of hb)
  cases r1
  exact HT.rG p1 p2 ⟨.ref b,H,I,rfl,q b H (Same.refl H) hb⟩
 .refine uU pins s σ H _ _ v u Q I rx ry ⟨a,b,xs,ys,rfl,rfl,SqT.of ha,SqT.of hb,hx,hz,fun z=>?_,fun _ p hp=>q p _ (Df hp _) Cq⟩
  subst z
  exact q a H (Same.refl H) (by rw[U15];exact ha)
theorem tQ:SlR X (fun x lo hi H Q=>∃(a:Addr)(xs:List V),x=.ref a/\H a=some (.tup xs)/\∀p H',Same H H'->H' p=some (.tup (Mf xs lo hi))->Q (.ref p) H'):=by
 intro pins s σ H x v vl vu lo hi sl Q I rx hs pl pu h
 obtain⟨a,xs,rfl,ha,q⟩:=h
 by_cases hw:HT.sIx xs.length 0 lo=0/\HT.sIx xs.length xs.length hi=xs.length
 .cases rx
  obtain⟨its,r,ht,hz⟩:=I.tuple (SqT.of ha)
  have hlen:its.toArray.size=xs.length:=by rw[U0s];exact r.length.symm
  refine⟨"tuple",_,U27.lookup,ht.typeIs,?_⟩
  exact HT.dN ht hs pl pu (by rw[hlen];exact hw) ⟨.ref a,H,I,rfl,q a H (Same.refl H) (by rw[jU xs lo hi hw];exact ha)⟩
 .exact yM pins s σ H _ v vl vu lo hi sl Q I rx hs pl pu ⟨a,xs,rfl,SqT.of ha,hw,fun p hp=>q p _ (Df hp _) Cq⟩
theorem qM{d:Addr}{D:List (PyData×PyData)}(hT:∀h,X.K.In h->IntTab X.prog X.w h d D):OpR X (compareOp .In) (fun x y H Q=>∃(i:Int),x=.int i/\y=.ref d/\Q (.bl (lookup (.int i) D).isSome) H):=by
 intro pins s σ H x y v u Q I rx ry h
 obtain⟨i,rfl,rfl,q⟩:=h
 obtain⟨t,rfl⟩:=(show ∃t,v=U3m i t from rx)
 cases ry
 exact in_intTab (hT _ I.kIn) ⟨.bl _,H,I.tok _,rfl,q⟩
theorem wZ{P:Program}{w:World}{K:U0b}{d:Addr}{ep:Nat}{h1 h2 h3 k1 k2 k3 v1 v2 v3:Int}{t1 t2 t3 u1 u2 u3:Tok}(hd:(d==sysModules)=false)
  (l:K.lookup d=some { cls:=.type "dict",data:=.dict #[⟨h1,.int k1 t1,.int v1 u1⟩,⟨h2,.int k2 t2,.int v2 u2⟩,⟨h3,.int k3 t3,.int v3 u3⟩] ep })
  (e1:h1=hashInt k1) (e2:h2=hashInt k2) (e3:h3=hashInt k3) (nd:[k1,k2,k3].Nodup):∀h,K.In h->IntTab P w h d [(.int k1,.int v1),(.int k2,.int v2),(.int k3,.int v3)]:=by
 intro h kin
 refine⟨hd,[(k1,.int v1 u1),(k2,.int v2 u2),(k3,.int v3 u3)],⟨_,_,ep,kin _ _ l,⟨rfl,rfl,rfl⟩,rfl,?_,?_,nd⟩,?_⟩
 .intro e he
  simp only[List.mem_toArray,U00,U1l,or_false] at he
  rcases he with z|z|z
  .subst z;exact⟨k1,intKind_is P w k1 t1,e1⟩
  .subst z;exact⟨k2,intKind_is P w k2 t2,e2⟩
  .subst z;exact⟨k3,intKind_is P w k3 t3,e3⟩
 .exact .cons (intKind_is P w k1 t1) rfl (.cons (intKind_is P w k2 t2) rfl (.cons (intKind_is P w k3 t3) rfl .nil))
 .exact .cons (.int v1 u1) (.cons (.int v2 u2) (.cons (.int v3 u3) .nil))
end
end L2
end
section
namespace L2
open PySem PySem.Spec PyProof.Rows
def Cal(P:Program)(w:World)(K:U0b)(mg:Str->Option Value)(base:Heap)(x:Str)(k:Nat)(ps:List Str)(sp:Sp):Prop :=
 ∃f fd,DG P w K mg base CX0 k f fd ps sp/\Binds K fd ps []/\U0z K (.ref f)=true/\mg x=some (.ref f)
section
variable{X:Cx}
theorem S6{x:Str}{k k':Nat}{ps:List Str}{sp:Sp}{e:Expr}{es:List Expr}{t:TA}{p pos:Pos}(c:Cal X.prog X.w X.K X.mg X.base x k ps sp)(hr:Gb k' X.A)(hk:k<=k')(hg:Gl X x)(ha:PA X (e::es) t)
  (hdb:(x==("__debug__":Str))=false:=by decide) (he:starEach (e::es) X.env=(false,eval e X.env)::starEach es X.env:=by rfl) (hpl:(backTo pos (starEach es X.env)).any (·.1)=false:=by rfl) :
  PE X (.Call (.Name x p) (e::es) [] pos) (rT sp [] E0 t):=by
 obtain⟨f,fd,F,b,kp,m⟩:=c
 exact uQ (F.mono hk) hr hg m kp b .nil Jbc ha hdb he hpl
theorem QC:OpR X (binaryOp .FloorDiv) (rI (fun _ j=>0<j/\j<2^64) fun i j=>.int (i/j)):=opI fun i j _ _ _ _ _ hc q=>by
 rw[←Int.fdiv_eq_ediv_of_nonneg _ (U8 hc.1)] at q
 refine floordiv_int (Int.ne_of_gt hc.1) q (.inl (PyProof.noPylong_of_log2 ?_))
 have h1:j.natAbs<2^64:=by omega
 have h2:j.natAbs≠0:=by omega
 exact U3f ((Nat.log2_lt h2).mpr h1) (by decide)
end
theorem Ht:bootBuiltins "len"=some (.builtin "len"):=by decide +kernel
theorem Ez:bootBuiltins "isinstance"=some (.builtin "isinstance"):=by decide +kernel
theorem jy:bootBuiltins "all"=some (.builtin "all"):=by decide +kernel
theorem nR:bootBuiltins "sorted"=some (.builtin "sorted"):=by decide +kernel
theorem jx:bootBuiltins "min"=some (.builtin "min"):=by decide +kernel
theorem zu:bootBuiltins "max"=some (.builtin "max"):=by decide +kernel
theorem zq:bootBuiltins "set"=some (.type "set"):=by decide +kernel
theorem Rg:bootBuiltins "list"=some (.type "list"):=by decide +kernel
theorem Np:bootBuiltins "tuple"=some (.type "tuple"):=by decide +kernel
theorem rK:bootBuiltins "range"=some (.type "range"):=by decide +kernel
theorem Tp:bootBuiltins "int"=some (.type "int"):=by decide +kernel
theorem Y4:bootBuiltins "bool"=some (.type "bool"):=by decide +kernel
def WK:List Str:=["len","isinstance","all","sorted","min","max","abs","repr","set","list","tuple","range","int","bool","str"]
def Blt(mg:Str->Option Value):Prop:=∀x∈WK,mg x=none
theorem Blt.is{mg:Str->Option Value}(b:Blt mg)(x:Str)(h:WK.contains x=true:=by decide +kernel):mg x=none:=b x (List.contains_iff_mem.mp h)
def tyName:PyData->String
 |.none=>"NoneType"
 |.bool _=>"bool"
 |.int _=>"int"
 |.str _=>"str"
 |.list _=>"list"
 |.tuple _=>"tuple"
 |.dict _=>"dict"
theorem Tr.ty{N:Addr->Prop}{K:U0b}{H:Hp}{v:V}{d:PyData}(t:Tr N H v d):Lz K H v (.type (tyName d)):=by
 cases t with
 |non=>exact .non
 |bl b=>exact .bl b
 |int i=>exact .int i
 |str x=>exact .str x
 |lst _ h _=>exact .lst h
 |tup _ h _=>exact .tup h
 |dct _ h=>exact .dK h
def Zg(T:String)(d:PyData):Bool:=match T with
 |"int"=>(match d with|.int _=>true|.bool _=>true|_=>false)
 |"bool"=>(match d with|.bool _=>true|_=>false)
 |"tuple"=>(match d with|.tuple _=>true|_=>false)
 |"list"=>(match d with|.list _=>true|_=>false)
 |_=>false
theorem uy{K:U0b}(d:PyData):U3n K (.type (tyName d)) (.type "int")=some (Zg "int" d):=by
 cases d with
 |none=>exact DX (a:="NoneType") (r:=false) (by decide +kernel)
 |bool _=>exact DX (a:="bool") (r:=true) (by decide +kernel)
 |int _=>exact DX (a:="int") (r:=true) (by decide +kernel)
 |str _=>exact DX (a:="str") (r:=false) (by decide +kernel)
 |list _=>exact DX (a:="list") (r:=false) (by decide +kernel)
 |tuple _=>exact DX (a:="tuple") (r:=false) (by decide +kernel)
 |dict _=>exact DX (a:="dict") (r:=false) (by decide +kernel)
theorem qb{K:U0b}(d:PyData):U3n K (.type (tyName d)) (.type "bool")=some (Zg "bool" d):=by
 cases d with
 |none=>exact DX (a:="NoneType") (r:=false) (by decide +kernel)
 |bool _=>exact DX (a:="bool") (r:=true) (by decide +kernel)
 |int _=>exact DX (a:="int") (r:=false) (by decide +kernel)
 |str _=>exact DX (a:="str") (r:=false) (by decide +kernel)
 |list _=>exact DX (a:="list") (r:=false) (by decide +kernel)
 |tuple _=>exact DX (a:="tuple") (r:=false) (by decide +kernel)
 |dict _=>exact DX (a:="dict") (r:=false) (by decide +kernel)
theorem kit_tuple{K:U0b}(d:PyData):U3n K (.type (tyName d)) (.type "tuple")=some (Zg "tuple" d):=by
 cases d with
 |none=>exact DX (a:="NoneType") (r:=false) (by decide +kernel)
 |bool _=>exact DX (a:="bool") (r:=false) (by decide +kernel)
 |int _=>exact DX (a:="int") (r:=false) (by decide +kernel)
 |str _=>exact DX (a:="str") (r:=false) (by decide +kernel)
 |list _=>exact DX (a:="list") (r:=false) (by decide +kernel)
 |tuple _=>exact DX (a:="tuple") (r:=true) (by decide +kernel)
 |dict _=>exact DX (a:="dict") (r:=false) (by decide +kernel)
theorem qZ{K:U0b}(d:PyData):U3n K (.type (tyName d)) (.type "list")=some (Zg "list" d):=by
 cases d with
 |none=>exact DX (a:="NoneType") (r:=false) (by decide +kernel)
 |bool _=>exact DX (a:="bool") (r:=false) (by decide +kernel)
 |int _=>exact DX (a:="int") (r:=false) (by decide +kernel)
 |str _=>exact DX (a:="str") (r:=false) (by decide +kernel)
 |list _=>exact DX (a:="list") (r:=true) (by decide +kernel)
 |tuple _=>exact DX (a:="tuple") (r:=false) (by decide +kernel)
 |dict _=>exact DX (a:="dict") (r:=false) (by decide +kernel)
end L2
end
section
namespace L2
open PySem PySem.Spec PyProof.Rows
def uw:PyData->Bool
 |.none=>true
 |.bool _=>true
 |.int i=>decide (i.natAbs<10^41)
 |.str x=>decide (x.length<=30)&&x.cps.toList.all fun c=>decide (c<16^8)
 |.dict kvs=>kvs.isEmpty
 |_=>false
def fit:List Nat->PyData->Bool
 |w::ws,.list xs=>decide (xs.length<=w)&&xs.all (fit ws)
 |w::ws,.tuple xs=>decide (xs.length<=w)&&xs.all (fit ws)
 |_,d=>uw d
def Nx(n:Nat)(Pv:Nat->List V->Hp->Prop)(i:Nat)(ys:List V)(H:Hp):Prop:=∃m',m'<n-i/\(m'=n-(i+1)/\i+1<=n/\Pv (i+1) ys H)
theorem nx{n:Nat}{Pv:Nat->List V->Hp->Prop}{i:Nat}{ys:List V}{H:Hp}(hi:i<n)(p:Pv (i+1) ys H):Nx n Pv i ys H:=⟨n-(i+1),by omega,rfl,hi,p⟩
section
variable{k:Nat}{caps:List Nat}{σ:St}{g:TG}{tt:TT}{te:TE}{Q:VK}{H:Hp}
end
def Well(H:Hp)(a:Addr):Prop:=∃x y:Int,H a=some (.lst [.int x,.int y])
end L2
end
section
namespace L2
open PySem PySem.Spec PyProof.Rows
section
variable{a:Addr}{H0:Hp}{σ:St}{te t1 t2:TE}{ta:TA}{d:PyData}{ds d1 d2:List PyData}{i j:Int}
end
end L2
end
section
namespace L2
open PySem PySem.Spec PyProof.Rows
section
variable{X:Cx}{K:U0b}
abbrev Jcd(K:U0b):List V->Hp->VK->Prop:=fun xs H Q=>∃p ys,xs=[.ref p]/\(SqL K H p ys∨SqT K H p ys)/\Q (.int ys.length) H
abbrev u6(K:U0b):List V->Hp->VK->Prop:=fun xs H Q=>∃p ys,xs=[.ref p]/\(SqL K H p ys∨SqT K H p ys)/\∀l,H l=none->Q (.ref l) (upd H l (.lst ys))
abbrev pW(K:U0b):List V->Hp->VK->Prop:=fun xs H Q=>∃p ys,xs=[.ref p]/\((SqL K H p ys/\∀l,H l=none->Q (.ref l) (upd H l (.tup ys)))∨(SqT K H p ys/\Q (.ref p) H))
theorem qJ{d:Addr}{D:List (PyData×PyData)}{x:Str}{p pos:Pos}{b:Expr}{ta tb:TE}(hT:∀h,X.K.In h->IntTab X.prog X.w h d D)(ha:PE X (.Name x p) ta)(hb:PE X b tb)(hs:V9 b)
  (hg:∀r,letTemporaryGo (.Name x p) (.ref d) r=pure ():=by intro _;with_unfolding_all rfl) :
  PE X (.Subscript (.Name x p) b pos) (tOp (fun x y H Q=>∃(i j:Int),x=.ref d/\y=.int i/\lookup (.int i) D=some (.int j)/\Q (.int j) H) ta tb):=by
 intro pins s σ H Q I h
 refine Subscript_ (iJ ha hb I h fun v u s2 x y H2 I2 rx ry q=>?_)
 obtain⟨i,j,rfl,rfl,hl,q⟩:=q
 cases rx
 obtain⟨t,rfl⟩:=ry
 refine item_intTab (hT _ I2.kIn) hl (fun v fl=>?_) (hs _ _) hg
 cases fl s2.heap with
 |int _ t'=>exact⟨.int j,H2,I2.tok _,⟨t',rfl⟩,q⟩
end
end L2
end
section
namespace Bc
open PySem PySem.Spec PyProof.Rows L2
abbrev D3:List (PyData×PyData):=[(.int 1,.int 20),(.int 2,.int 10),(.int 3,.int 6)]
theorem Jbl(i:Int):(lookup (.int i) D3).isSome=decide (i=1∨i=2∨i=3):=by
 have same_i:∀a b:Int,same (.int a) (.int b)=decide (a=b):=fun a b=>by by_cases h:a=b<;>simp[same,h]
 simp only[lookup,same_i]
 by_cases h1:(1:Int)=i
 .subst h1;rfl
 by_cases h2:(2:Int)=i
 .subst h2;rfl
 by_cases h3:(3:Int)=i
 .subst h3;rfl
 rw[decide_eq_false h1,decide_eq_false h2,decide_eq_false h3]
 have h:¬(i=1∨i=2∨i=3):=by omega
 rw[decide_eq_false h]
 rfl
def xr:PyData->Bool
 |.tuple es=>U6 es&&decide (U6u es<=60)
 |_=>true
def lay:PyData->Bool
 |.tuple ds=>ds.all xr
 |_=>true
abbrev F3:List Nat:=[9,9,9]
def nr(a:Int):Bool:=decide (-(10^9)<=a)&&decide (a<=10^9)
def bx:PyData->Bool
 |.tuple [.int a,.int b]=>nr a&&nr b&&decide (a<b)
 |_=>false
def part(d:PyData):Bool:=fit [9,9] d&&xr d
def good(d:PyData):Bool:=fit F3 d&&lay d
end Bc
end
section
set_option maxRecDepth 100000
namespace HT
open PySem PySem.Spec PyProof.Rows
open AutoSeq1 (wpAny_loadPart')
theorem WT:fillsNumberSlot (.type "tuple") "mul"=pure false :=
 PySem.fillsNumberSlot_seq (id:="tuple.__mul__") (r:=some (.builtin "tuple.__rmul__")) U47.lookup (by decide +kernel) PySem.F.slot_tuple_rmul.lookup (by decide +kernel)
theorem lU:seqRepeat? (.type "tuple")=pure (some (.builtin "tuple.__mul__")):=by
 unfold seqRepeat?
 rw[PySem.seqSlot_of (T:="tuple") (name:="__mul__") (id:="tuple.__mul__") U47.lookup (by decide +kernel),PySem.seqSlot_of (T:="tuple") (name:="__rmul__") (id:="tuple.__rmul__") PySem.F.slot_tuple_rmul.lookup (by decide +kernel)]
 rfl
theorem dB(a:Int)(t:Tok)(l:Addr)(items:Array Value)(n:Nat)(dd:Option Addr)(sl:Array (Option Value)) :
  Meets (Builtin.«int.__rmul__» ⟨[.int a t,.ref l],[]⟩) (fun _ R s=>s.heap.get? l=some { cls:=.type "tuple",dict:=dd,data:=.seq items n,slots:=sl }/\R (.ok (.ret Value.notImplemented)) s) :=
 .of_wp fun prog w A R s h=>by obtain⟨hp,g,d,tk,os⟩:=s;obtain⟨hl,h⟩:=h;wp_walk using wpAny_loadPart' hl;exact⟨_,rfl,h⟩
theorem oU(l:Addr)(items:Array Value)(n:Nat)(dd:Option Addr)(sl:Array (Option Value))(x:Int)(u:Tok)(hc0:¬(decide (x < -(2^63))||decide (x≥2^63))=true)(hc1:(items.isEmpty||x==1)=true) :
  Meets (Builtin.«tuple.__mul__» ⟨[.ref l,.int x u],[]⟩) (fun _ R s=>s.heap.get? l=some { cls:=.type "tuple",dict:=dd,data:=.seq items n,slots:=sl }/\R (.ok (.ret (U2v l))) { s with heap:=s.heap,toks:=s.toks }) :=
 .of_wp fun prog w A R s h=>by obtain⟨hp,g,d,tk,os⟩:=s;obtain⟨hl,h⟩:=h;have f1:=AutoSeq1.idx_int;wp_walk;refine U7r (decide_eq_false hc0) ?_;wp_walk using wpAny_loadPart' hl;exact⟨_,rfl,h⟩
theorem oR(l:Addr)(items:Array Value)(n:Nat)(dd:Option Addr)(sl:Array (Option Value))(x:Int)(u:Tok)(hc0:¬(decide (x < -(2^63))||decide (x≥2^63))=true)(hc1:¬(items.isEmpty||x==1)=true)
  (hc2:¬(decide (x<=0)||items.isEmpty)=true) (hc3:¬(items.size:Int)*x>(2^63-1)/8) (hc4:¬Builtin.Tuple.tupleTooMany ((items.size:Int)*x)=true) (hsz:(U6p (fun x1 x2=>x1++x2) #[] (U0l x.toNat items)).size<=sizeLine) :
  Meets (Builtin.«tuple.__mul__» ⟨[.ref l,.int x u],[]⟩) (fun _ R s=>s.heap.get? l=some { cls:=.type "tuple",dict:=dd,data:=.seq items n,slots:=sl }/\R (.ok (.ret (U2v s.heap.objs.size))) { s with heap:=s.heap.push { cls:=U3s "tuple",data:=Data.seq (U6p (fun x1 x2=>x1++x2) #[] (U0l x.toNat items)) },toks:=s.toks }) :=
 .of_wp fun prog w A R s h=>by obtain⟨hp,g,d,tk,os⟩:=s;obtain⟨hl,h⟩:=h;have f1:=AutoSeq1.idx_int;wp_walk;refine U7r (decide_eq_false hc0) ?_;wp_walk using wpAny_loadPart' hl;refine U7r (decide_eq_false hc3) ?_;wp_walk;exact⟨_,rfl,h⟩
section
variable{prog:Program}{w:World}{A:Around}{E:Value->Shared->Prop}{s:Shared}
theorem uX{t:Addr}{its:List Value}{k:Int}{u:Tok}{Q:Value->Shared->Prop}(ht:IsTup s.heap t its.toArray)(hne:its≠[])(h1:1<=k)(h2:k<2^60)(hz:its.length*k.toNat<=sizeLine)
  (q1:k=1->Q (.ref t) s) (q2:k≠1->Q (.ref s.heap.objs.size) { s with heap:=s.heap.push { cls:=.type "tuple",data:=.seq (U0l k.toNat its).flatten.toArray } }) :
  wpAny (model prog w) A (binaryOp .Mult (.ref t) (.int k u)) Q E s:=by
 obtain⟨⟨c1,d1,x1,sl1⟩,ho,hc,n,hd⟩:=id ht
 simp only at hc hd
 subst hc hd
 have c0:¬(decide (k < -(2^63))||decide (k≥2^63))=true:=by
  rw[decide_eq_false (by omega),decide_eq_false (by omega)];exact U1g
 have ne:its.toArray.isEmpty=false:=by cases its with|nil=>exact absurd rfl hne|cons _ _=>rfl
 have hnew:U6p (fun x1 x2=>x1++x2) #[] (U0l k.toNat its.toArray)=(U0l k.toNat its).flatten.toArray:=by
  have:=L2.foldl_rep its k.toNat []
  rw[U1n] at this
  exact this
 refine wpAny_binaryOp_repeat_ref (T:="tuple") (U:="int") (by decide) ⟨_,ho,rfl⟩ (fun s'=>typeIs_int s' k u) WT PySem.F.fills_int_mul PySem.F.slot_int_rmul lU PySem.F.slot_int_index.lookup
  (call_meets PySem.F.slot_int_rmul (typeIs_int s k u) PySem.F.entry_int_rmul (PySem.F.args_int_rmul_2 _ _) (dB k u t its.toArray n d1 sl1) ⟨ho,rfl,⟨_,ho,rfl⟩,?_⟩)
 by_cases k1:k=1
 .exact call_meets U47 ⟨_,ho,rfl⟩ PySem.F.entry_tuple_mul (PySem.F.args_tuple_mul_2 _ _) (oU t its.toArray n d1 sl1 k u c0 (by rw[k1];simp)) ⟨ho,q1 k1⟩
 .have e:((its.toArray.size:Nat):Int)*k=((its.length*k.toNat:Nat):Int):=by
   rw[U0s,Int.natCast_mul,U6z (by omega)]
  have hs:(sizeLine:Nat)=16777216:=by decide
  refine call_meets U47 ⟨_,ho,rfl⟩ PySem.F.entry_tuple_mul (PySem.F.args_tuple_mul_2 _ _) (oR t its.toArray n d1 sl1 k u c0 ?_ ?_ ?_ ?_ ?_) ⟨ho,?_⟩
  .rw[ne];simp[k1]
  .rw[ne,decide_eq_false (by omega)];exact U1g
  .rw[e];omega
  .rw[e]
   unfold Builtin.Tuple.tupleTooMany
   rw[decide_eq_true_eq]
   omega
  .rw[hnew,U0s,L2.len_rep,U7h];exact hz
  .rw[hnew];exact q2 k1
end
end HT
namespace L2
open PySem PySem.Spec PyProof.Rows
abbrev rW:R2:=fun x y H Q=>∃(a:Addr)(k:Int)(xs:List V),x=.ref a/\y=.int k/\H a=some (.tup xs)/\xs≠[]/\1<=k/\k<2^60/\xs.length*k.toNat<=sizeLine/\∀p H',Same H H'->H' p=some (.tup (U0l k.toNat xs).flatten)->Q (.ref p) H'
section
variable{X:Cx}
theorem uT:OpR X (binaryOp .Mult) rW:=by
 intro pins s σ H x y v u Q I rx ry h
 obtain⟨a,k,xs,rfl,rfl,ha,hne,k1,k2,hz,q⟩:=h
 cases rx
 obtain⟨t,rfl⟩:=ry
 obtain⟨its,r1,p1,_⟩:=I.tuple (SqT.of ha)
 refine HT.uX p1 (fun z=>hne (r1.V1.mp z)) k1 k2 (by rw[←r1.length];exact hz) (fun e=>?_) (fun e=>?_)
 .refine⟨.ref a,H,I,rfl,q a H (Same.refl H) ?_⟩
  rw[e]
  simpa using ha
 .refine⟨.ref s.heap.objs.size,_,I.laid (t':=s.toks) (o:=.tup (U0l k.toNat xs).flatten) (fun b ob q=>U0d _ q) (U0t _) ?_,rfl,q _ _ (Df (I.hok.fresh (U0t _)) _) Cq⟩
  exact⟨by rw[len_rep,U7h];exact hz,_,r1.rep k.toNat,IsTup.new _ _⟩
end
section
variable{X:Cx}
end
section
variable{a:Addr}{H0:Hp}{σ:St}{te t1 t2:TE}{ta:TA}{d:PyData}{ds d1 d2:List PyData}{i j:Int}{K:U0b}
end
structure Wq(a q:Addr)(bs:List V)(H:Hp):Prop where
 w:Well H a
 at_:H q=some (.lst bs)
 ne:q≠a
section
variable{a q p:Addr}{bs:List V}{H H':Hp}
abbrev rZ:R2:=fun x y H Q=>∃(a b:Addr)(xs ys:List V),x=.ref a/\y=.ref b/\H a=some (.tup xs)/\H b=some (.tup ys)/\xs.length+ys.length<=sizeLine/\∀p H',Same H H'->H' p=some (.tup (xs++ys))->Q (.ref p) H'
abbrev xO:V->Option Int->Option Int->Hp->VK->Prop:=fun x lo hi H Q=>∃(a:Addr)(xs:List V),x=.ref a/\H a=some (.tup xs)/\∀p H',Same H H'->H' p=some (.tup (Mf xs lo hi))->Q (.ref p) H'
end
end L2
end
section
namespace L2
open PySem PySem.Spec PyProof.Rows
end L2
namespace Bc
open PySem PySem.Spec PyProof.Rows L2
def zK:PyData->Nat
 |.int 1=>20
 |.int 2=>10
 |.int 3=>6
 |_=>0
def Jcm(n:Nat):PyData->Bool
 |.tuple es=>decide (es.length=n)&&es.all bx
 |_=>false
end Bc
end
section
namespace L2
open PySem PySem.Spec PyProof.Rows
theorem Inv.Xu{X:Cx}{pins:List (Addr×Obj)}{σ:St}{H:Hp}{s:Shared}{h':Heap}{t':Nat}{fp:List Addr}(I:Inv X pins σ H s)(k:∀b o,b ∉ fp->s.heap.get? b=some o->h'.get? b=some o)(hf:∀b∈fp,Qz X pins H b) :
  Inv X pins σ H { s with heap:=h',toks:=t' }:=by
 have nit:∀b u,H b=some u->b ∉ fp:=fun b u e z=>by
  have:=(hf b z).1
  rw[this] at e
  cases e
 refine I.step (g':=s.gens) (d':=s.drawn) (ch:=fp) (fun b hb=>?_) (fun b o _ _ hc e _=>k b o hc e) (fun b o _ _ hc e _=>⟨o.slots,k b o hc e⟩) (fun _ _ _ _ n=>n) (fun b o hc e=>⟨o,k b o hc e⟩) (fun _ _ e=>e) (fun _ _ _ e=>e)
  (fun b ps e=>⟨#[],by rw[e];simp⟩) (fun m hm=>?_) (fun b u e=>?_) I.bare id
 .obtain⟨_,a2,_,a4,a5,a6⟩:=hf b hb
  exact⟨a4,a2,a5,a6⟩
 .obtain⟨o,es,ep,ho,r⟩:=hm
  exact⟨o,es,ep,k _ o (fun z=>(hf _ z).2.1 rfl) ho,r⟩
 .refine(I.hok b u e).stay (fun c v hc q=>k c v ?_ q) (fun _ q=>q) fun _ _ q=>q
  rcases hc with z|z
  .rw[z];exact nit b u e
  .exact nit c _ z
theorem Inv.sG{X:Cx}{pins:List (Addr×Obj)}{σ:St}{H:Hp}{s:Shared}{h':Heap}{t':Nat}{fp:List Addr}{x y:V}{u v:Value}(I:Inv X pins σ H s)(rx:RelV x u)(ry:RelV y v)
  (ht:h'.get? s.heap.objs.size=some { cls:=.type "tuple",data:=.seq #[u,v] }) (k:∀b o,b ∉ fp->s.heap.get? b=some o->h'.get? b=some o) (hf:∀b∈fp,Qz X pins H b) (hlt:∀b∈fp,b<s.heap.objs.size) :
  Inv X pins σ (upd H s.heap.objs.size (.tup [x,y])) { s with heap:=h',toks:=t' }:=by
 have I1:=I.laid (h':=s.heap.push { cls:=.type "tuple",data:=.seq #[u,v] }) (t':=s.toks) (a:=s.heap.objs.size) (o:=.tup [x,y]) (fun b ob q=>U0d _ q) (U0t _)
  ⟨(by decide:2<=sizeLine),[u,v],.cons rx (.cons ry .nil),IsTup.new _ _⟩
 refine Inv.Xu (s:={ s with heap:=s.heap.push { cls:=.type "tuple",data:=.seq #[u,v] } }) (h':=h') (t':=t') (fp:=fp) I1 (fun b o hb e=>?_) (fun b hb=>?_)
 .rcases Heap.get?_push_cases e with ⟨z1,z2⟩|z
  .rw[z1,z2]
   exact ht
  .exact k b o hb z
 .obtain⟨a1,a2,a3,a4,a5,a6⟩:=hf b hb
  exact⟨by rw[CK (U03 (hlt b hb))];exact a1,a2,a3,a4,a5,a6⟩
def Ite(K:U0b)(a:Addr):It :=
 ⟨fun i H=>∃xs x,SqL K H a xs/\xs[i]?=some x,fun i H v H'=>∃p x,H p=none/\v=.ref p/\H'=upd H p (.tup [.int i,x])/\∀xs,SqL K H a xs->xs[i]?=some x,fun i H=>∃xs,SqL K H a xs/\xs.length<=i⟩
theorem kj{P:Program}{w:World}{K:U0b}{elts:List Expr}{x1:Nat}{pos:Pos}(a e it:Addr)(hne:e≠it) :
  Turn P w K (.Tuple elts x1 pos) (Ite K a) [e,it] e (fun i h=>(∃old,IsEnum h e it (i:Nat) old)/\h.IsListIter it a i) where
 mem:=by simp
 obj:=fun i h st b hb=>by
  obtain⟨⟨old,he⟩,o,e1,c,d⟩:=st
  simp only[U00,U1l,or_false] at hb
  rcases hb with rfl|rfl
  .exact⟨_,he,fun v z=>by cases z⟩
  .exact⟨o,e1,fun v z=>by rw[d] at z;cases z⟩
 keep:=fun i h h' st k=>by
  obtain⟨⟨old,he⟩,hit⟩:=st
  exact⟨⟨old,k e (by simp) _ he⟩,hit.at fun o q=>k it (by simp) o q⟩
 item:=by
  intro X hP hw hK hc i pins s σ H E I hf st hg
  subst hP hw hK
  obtain⟨xs,x,hq,hx⟩:=hg
  obtain⟨its,rv,p,hz⟩:=I.list hq
  obtain⟨u,hu,ru⟩:=rv.get hx
  obtain⟨⟨old,he⟩,hit⟩:=st
  have lt1:e<s.heap.objs.size:=U0q he
  have lt2:it<s.heap.objs.size:=by obtain⟨o,q,_⟩:=hit;exact U0q q
  refine wpAny_pyNext_enum_item he hit p.isList (x:=u) (by simpa using hu) hne fun h' eo it' tp sz k=>⟨_,rfl,?_⟩
  refine wpAny_letOwnedTupleGo_enum eo fun h2 e2 sb=>?_
  have ne2:s.heap.objs.size≠e:=U1x lt1
  have J:=I.sG (h':=h2) (t':=s.toks+1) (fp:=[e,it]) (x:=.int i) (y:=x) (u:=.int i s.toks) (v:=u) ⟨_,rfl⟩ ru (sb.extBut _ _ ne2 tp) (fun b o hb q=>by
   simp only[U00,U1l,or_false,not_or] at hb
   exact sb.extBut _ _ hb.1 (k b o hb.1 hb.2 q)) hf (fun b hb=>by
   simp only[U00,U1l,or_false] at hb
   rcases hb with rfl|rfl
   .exact lt1
   .exact lt2)
  refine⟨.ref s.heap.objs.size,_,J,rfl,⟨_,x,I.hok.fresh (U0t _),rfl,rfl,fun ys hy=>by rw[I.bA hy hq];exact hx⟩,⟨⟨u,e2⟩,it'.at fun o q=>sb.extBut _ _ (U1y hne) q⟩,fun b hb=>?_⟩
  rw[CK]
  .exact(hf b hb).1
  .simp only[U00,U1l,or_false] at hb
   rcases hb with rfl|rfl
   .exact U03 lt1
   .exact U03 lt2
 done:=by
  intro X hP hw hK hc i pins s σ H E I hf st hg
  subst hP hw hK
  obtain⟨xs,hq,hx⟩:=hg
  obtain⟨its,rv,p,hz⟩:=I.list hq
  obtain⟨⟨old,he⟩,hit⟩:=st
  have hl:=rv.length
  exact wpAny_pyNext_enum_end (I.ok.hd hc) he hit p.isList (by simp;omega) fun h' eb=>⟨rfl,I.Xu (t':=s.toks) (fp:=[e,it]) (fun b o hb q=>eb b o (fun z=>hb (by simp[z])) q) hf⟩
 self:=fun _ _ _ _ _ st h=>by
  obtain⟨⟨old,he⟩,_⟩:=st
  exact wpAny_pyIter_enum he h
abbrev Jbo(K:U0b)(ta:TA):TI:=fun σ H R=>ta σ H fun vs H1=>∃a,vs=[.ref a]/\(∃xs,SqL K H1 a xs)/\R (Ite K a) H1
section
variable{X:Cx}
theorem uL{a:Expr}{ta:TA}{p pos:Pos}{elts:List Expr}{x1:Nat}{tpos:Pos}(hg:Gl X "enumerate")(hm:X.mg "enumerate"=none)(ha:PA X [a] ta)(hs:starEach [a] X.env=[(false,eval a X.env)]:=by rfl) :
  PI X (.Tuple elts x1 tpos) (.Call (.Name "enumerate" p) [a] [] pos) (Jbo X.K ta):=by
 intro pins s σ H R I h
 refine Call_ (Lb I hg hm (by decide +kernel:bootBuiltins "enumerate"=some (.type "enumerate")) (U23 (thn (ha pos pins s σ H _ I h) fun us s1 ⟨vs,H1,I1,r1,q1⟩=>?_) hs rfl))
 obtain⟨l,e,⟨xs,hq⟩,q⟩:=q1
 subst e
 cases r1 with
 |cons r rr =>
  cases rr
  cases r
  obtain⟨its,rv,pl,hz⟩:=I1.list hq
  refine call_enumerate_list pl.isList fun h' e1 i1 sz k=>?_
  refine wpAny_pyIter_enum e1 ?_
  refine⟨s1.heap.objs.size+1,[s1.heap.objs.size+1,s1.heap.objs.size],_,_,H1,rfl,I1.kept (t':=s1.toks) k,kj l _ _ (Nat.succ_ne_self _),⟨⟨_,e1⟩,i1⟩,fun b hb=>?_,q⟩
  have hb':s1.heap.objs.size<=b:=by
   simp only[U00,U1l,or_false] at hb
   rcases hb with rfl|rfl<;>omega
  exact I1.Xp hb' (I1.hok.fresh hb')
end
end L2
end
section
set_option maxRecDepth 100000
namespace HT
open PySem PySem.Spec PyProof.Rows
section
variable{prog:Program}{w:World}{A:Around}{E:Value->Shared->Prop}{s:Shared}
theorem nextT{it t:Addr}{i:Nat}{ws:Array Value}{x:Value}{Q:Value->Shared->Prop}(c:s.heap.IsTupleIter it t i)(ct:s.heap.IsTuple t ws)(ex:ws[i]?=some x)
  (q:∀h',h'.IsTupleIter it t (i+1)->U1b it s.heap h'->Q x { s with heap:=h' }):wpAny (model prog w) A (U1m (.ref it)) Q E s:=by
 obtain⟨o,e0,e1,e2⟩:=id c
 obtain⟨ot,f0,_,nt,f1⟩:=ct
 unfold U1m
 refine U0 (wpAny_callSpecial?_slot (name:=U3r "__next__") c.typeIs U3u (U2p U3u c.typeIs PySem.F.entry_tuple_iterator_next ?_ (PySem.F.args_tuple_iterator_next_1 _)))
 refine(show wpAny _ _ (field (.ref it) 0 >>= _) _ _ s from U0 (U2l e0 e2 (x:=.ref t) rfl ?_))
 show wpAny _ _ (ite ((U2v t==U22)=true) _ _) _ _ s
 rw[if_neg (by exact U1g)]
 refine(show wpAny _ _ (field (.ref it) 1 >>= _) _ _ s from U0 (U2l e0 e2 (x:=.int i 0) rfl ?_))
 refine(show wpAny _ _ (seqItems? (.ref t) >>= _) _ _ s from U0 (U2q f0 f1 ?_))
 simp only[ex,U26]
 refine U0 (U3g e0 e2 (by simp) (U0f ⟨x,rfl,U0f (q _ ⟨_,U18 _ e0 (Obj.isFreed_of_fields (Obj.data_mapFields e2 _)),(Obj.cls_mapFields ..).trans e1,?_⟩ (U16 ..))⟩))
 rw[Obj.data_mapFields e2]
 simp[rawInt]
theorem zH{it t:Addr}{i:Nat}{ws:Array Value}{Q:Value->Shared->Prop}(ha:A.handled=none)(c:s.heap.IsTupleIter it t i)(ct:s.heap.IsTuple t ws)(ex:ws[i]?=none)
  (q:∀h' e,U5k it s.heap h'->(∃o,h'.get? e=some o/\o.cls=.type "StopIteration")->E (.ref e) { s with heap:=h' }):wpAny (model prog w) A (U1m (.ref it)) Q E s:=by
 obtain⟨o,e0,e1,e2⟩:=id c
 obtain⟨ot,f0,_,nt,f1⟩:=ct
 unfold U1m
 refine U0 (wpAny_callSpecial?_slot (name:=U3r "__next__") c.typeIs U3u (U2p U3u c.typeIs PySem.F.entry_tuple_iterator_next ?_ (PySem.F.args_tuple_iterator_next_1 _)))
 refine(show wpAny _ _ (field (.ref it) 0 >>= _) _ _ s from U0 (U2l e0 e2 (x:=.ref t) rfl ?_))
 show wpAny _ _ (ite ((U2v t==U22)=true) _ _) _ _ s
 rw[if_neg (by exact U1g)]
 refine(show wpAny _ _ (field (.ref it) 1 >>= _) _ _ s from U0 (U2l e0 e2 (x:=.int i 0) rfl ?_))
 refine(show wpAny _ _ (seqItems? (.ref t) >>= _) _ _ s from U0 (U2q f0 f1 ?_))
 simp only[ex,U26]
 refine U0 (U45 (U0 (U3g e0 e2 (by simp) (show wpAny _ _ (newExc (.type "StopIteration") [] >>= _) _ _ _ from U0 ?_))))
 simp only[newTuple,newExc]
 refine U0 (U2i (U0 (m:=firstArgMember _ _) (wpAny_of_eq (a:=U22) (by first|rfl|(simp only[firstArgMember];rfl)) (U2i ?_ (by size_fits)))) (by size_fits))
 simp only[raiseNew]
 refine U0 (wpAny_handled ?_)
 rw[show A.in1.handled=none from ha]
 exact U0 (U0f (wpAny_throw (q _ _ (((U16 ..).extBut.push _).push _) ⟨_,U0v _ rfl,rfl⟩)))
theorem zf(ha:A.handled=none)(it t:Addr)(ne:t≠it)(ws:Array Value):Draws prog w A it [it,t] ws.size (fun i v=>ws[i]?=some v) (fun i h=>h.IsTupleIter it t i/\h.IsTuple t ws) where
 live:=fun _ _ st=>let ⟨o,e,_⟩:=st.1;⟨o,e⟩
 frame:=fun _ _ _ st k=>⟨st.1.at fun o e=>k it (by simp) o e,st.2.at fun o e=>k t (by simp) o e⟩
 item:=fun i s Q E hi st q=>nextT st.1 st.2 (x:=ws[i]) (by simp[hi]) fun h' c' sb=>q _ h' s.toks (by simp[hi]) ⟨c',st.2.extBut sb.extBut ne⟩ sb
 done:=fun s Q E st q=>zH ha st.1 st.2 (by simp) q
structure Apart(z TI TO i1 i2:Addr)(fp1 fp2:List Addr):Prop where
 a1:TI≠z
 a2:TO≠z
 a3:TI≠TO
 b1:∀b∈fp1,b≠z/\b≠TO/\b≠i2
 b2:∀b∈fp2,b≠z/\b≠TO/\b≠i1
 c1:i1≠z/\i1≠TO/\i1≠TI
 c2:i2≠z/\i2≠TO/\i2≠TI
 c3:i1≠i2
section
variable{z TI TO i1 i2:Addr}{fp1 fp2:List Addr}{n1 n2 k:Nat}{P1 P2:Nat->Value->Prop}{S1 S2:Nat->Heap->Prop}{a b:Value}
theorem Jb4{Q:Value->Shared->Prop}(D1:Draws prog w A i1 fp1 n1 P1 S1)(D2:Draws prog w A i2 fp2 n2 P2 S2)(D:Apart z TI TO i1 i2 fp1 fp2)(hZ:IsZip s.heap z TI TO .none)(hI:IsPair s.heap TI (.ref i1) (.ref i2))(hO:IsPair s.heap TO a b)
  (s1:S1 k s.heap) (s2:S2 k s.heap) (k1:k<n1) (k2:k<n2)
  (q:∀x y h' tk,P1 k x->P2 k y->IsZip h' z TI TO (rawInt s.heap.objs.size)->IsPair h' TO x y->S1 (k+1) h'->S2 (k+1) h'->IsPair h' s.heap.objs.size x y->h'.objs.size=s.heap.objs.size+1 ->
   (∀c o,c≠z->c≠TO->c≠i1->c≠i2->s.heap.get? c=some o->h'.get? c=some o)->Q (.ref s.heap.objs.size) { s with heap:=h',toks:=tk }) :
  wpAny (model prog w) A (Builtin.«zip.__next__» ⟨[.ref z],[]⟩) (fun fin s'=>∃v,fin=.done (.ret v)/\Q v s') E s:=by
 obtain⟨hp,g,d,tk0,os⟩:=s
 refine(show wpAny _ _ (field (.ref z) 2 >>= _) _ _ _ from U0 (U2l hZ rfl (x:=.bool false) rfl ?_))
 refine(show wpAny _ _ (field (.ref z) 3 >>= _) _ _ _ from U0 (U2l hZ rfl (x:=.ref TI) rfl (U0 (U2q hI rfl ?_))))
 refine(show wpAny _ _ (U17 (.ref z) >>= _) _ _ _ from U0 ?_)
 unfold U17
 refine U0 (U2l hZ rfl (x:=.none) rfl (U0f ?_))
 simp only[if_true]
 refine U0 (U45 (U0 (U2l hZ rfl (x:=.ref TO) rfl (U0 (U3w hZ (by simp) fun g1 z1 m1=>?_)))))
 replace z1:IsZip g1 z TI TO .ellipsis:=z1
 replace m1:U1b z hp g1:=m1
 refine U0 ?_
 simp only[U6k,List.zipIdx_nil,U4d,U53]
 have t1:S1 k g1:=D1.frame _ _ _ s1 fun c hc o e=>m1.extBut _ _ (D.b1 c hc).1 e
 have u1:S2 k g1:=D2.frame _ _ _ s2 fun c hc o e=>m1.extBut _ _ (D.b2 c hc).1 e
 refine U0 (U0 (U6h (show wpAny _ _ (U1m (.ref i1) >>= _) _ _ _ from U0 (D1.item k ⟨g1,g,d,tk0,os⟩ _ _ k1 t1 fun x g2 tk1 px t2 m2=>U0f ?_))))
 replace m2:U1b i1 g1 g2:=m2
 have o2:IsPair g2 TO a b:=m2.extBut _ _ (U1y D.c1.2.1) (m1.extBut _ _ D.a2 hO)
 refine U0 (U2q o2 rfl (U0 (U6v o2 fun g3 o3 m3=>?_)))
 replace o3:IsPair g3 TO x b:=o3
 replace m3:U1b TO g2 g3:=m3
 have u3:S2 k g3:=D2.frame _ _ _ u1 fun c hc o e=>m3.extBut _ _ (D.b2 c hc).2.1 (m2.extBut _ _ (D.b2 c hc).2.2 e)
 refine U0 (U48 (U0f ?_))
 refine U0 (U0 (U6h (show wpAny _ _ (U1m (.ref i2) >>= _) _ _ _ from U0 (D2.item k ⟨g3,g,d,tk1,os⟩ _ _ k2 u3 fun y g4 tk2 py u4 m4=>U0f ?_))))
 replace m4:U1b i2 g3 g4:=m4
 have o4:IsPair g4 TO x b:=m4.extBut _ _ (U1y D.c2.2.1) o3
 refine U0 (U2q o4 rfl (U0 (U6v o4 fun g5 o5 m5=>?_)))
 replace o5:IsPair g5 TO x y:=o5
 replace m5:U1b TO g4 g5:=m5
 refine U0 (U48 (U0f (U0f (U0 (U2q o5 rfl (U0 (wpAny_newTuple ?_)))))))
 have sz:g5.objs.size=hp.objs.size:=by rw[m5.1,m4.1,m3.1,m2.1,m1.1]
 have z5:IsZip g5 z TI TO .ellipsis:=m5.extBut _ _ (U1y D.a2) (m4.extBut _ _ (U1y D.c2.1) (m3.extBut _ _ (U1y D.a2) (m2.extBut _ _ (U1y D.c1.1) z1)))
 have kk:∀c o,c≠z->c≠TO->c≠i1->c≠i2->hp.get? c=some o->g5.get? c=some o:=fun c o n1 n2 n3 n4 e=>m5.extBut _ _ n2 (m4.extBut _ _ n4 (m3.extBut _ _ n2 (m2.extBut _ _ n3 (m1.extBut _ _ n1 e))))
 have lz:z<g5.objs.size:=U0q z5
 refine(show wpAny _ _ (Builtin.SmallTypes.ownedTupleHandOut (.ref z) (.ref g5.objs.size) >>= _) _ _ _ from U0 ?_)
 unfold Builtin.SmallTypes.ownedTupleHandOut
 have z6:IsZip (g5.push { cls:=.type "tuple",data:=.seq #[x,y] }) z TI TO .ellipsis:=U0d _ z5
 refine U0 (U3w z6 (by simp) fun g7 z7 m7=>?_)
 replace z7:IsZip g7 z TI TO (rawInt g5.objs.size):=z7
 refine U3w z7 (by simp) fun g8 z8 m8=>?_
 replace z8:IsZip g8 z TI TO (rawInt g5.objs.size):=z8
 have up:∀c o,c≠z->g5.get? c=some o->g8.get? c=some o:=fun c o n e=>m8.extBut _ _ n (m7.extBut _ _ n (U0d _ e))
 have p8:IsPair g8 g5.objs.size x y:=m8.extBut _ _ (U1x lz) (m7.extBut _ _ (U1x lz) (U0v _ rfl))
 have w8:g8.objs.size=g5.objs.size+1:=by rw[m8.1,m7.1,U2e]
 rw[sz] at z8 p8 w8
 refine U0f ⟨_,rfl,?_⟩
 show Q (.ref g5.objs.size) _
 rw[sz]
 refine q x y g8 tk2 px py z8 (up _ _ D.a2 o5) ?_ ?_ p8 w8 fun c o n1 n2 n3 n4 e=>up c o n1 (kk c o n1 n2 n3 n4 e)
 .exact D1.frame _ _ _ t2 fun c hc o e=>up _ _ (D.b1 c hc).1 (m5.extBut _ _ (D.b1 c hc).2.1 (m4.extBut _ _ (D.b1 c hc).2.2 (m3.extBut _ _ (D.b1 c hc).2.1 e)))
 .exact D2.frame _ _ _ u4 fun c hc o e=>up _ _ (D.b2 c hc).1 (m5.extBut _ _ (D.b2 c hc).2.1 e)
theorem Jb5{Q:PySem.Fin->Shared->Prop}(D1:Draws prog w A i1 fp1 n1 P1 S1)(D2:Draws prog w A i2 fp2 n2 P2 S2)(D:Apart z TI TO i1 i2 fp1 fp2)(hZ:IsZip s.heap z TI TO .none)(hI:IsPair s.heap TI (.ref i1) (.ref i2))(hO:IsPair s.heap TO a b)
  (s1:S1 k s.heap) (s2:S2 k s.heap) (ke:k=n1∨(k<n1/\k=n2))
  (q:∀h' e tk,(∀c o,c≠z->c≠TO->c≠i1->c≠i2->s.heap.get? c=some o->h'.get? c=some o)->(∃o,h'.get? e=some o/\o.cls=.type "StopIteration")->E (.ref e) { s with heap:=h',toks:=tk }) :
  wpAny (model prog w) A (Builtin.«zip.__next__» ⟨[.ref z],[]⟩) Q E s:=by
 obtain⟨hp,g,d,tk0,os⟩:=s
 refine(show wpAny _ _ (field (.ref z) 2 >>= _) _ _ _ from U0 (U2l hZ rfl (x:=.bool false) rfl ?_))
 refine(show wpAny _ _ (field (.ref z) 3 >>= _) _ _ _ from U0 (U2l hZ rfl (x:=.ref TI) rfl (U0 (U2q hI rfl ?_))))
 refine(show wpAny _ _ (U17 (.ref z) >>= _) _ _ _ from U0 ?_)
 unfold U17
 refine U0 (U2l hZ rfl (x:=.none) rfl (U0f ?_))
 simp only[if_true]
 refine U0 (U45 (U0 (U2l hZ rfl (x:=.ref TO) rfl (U0 (U3w hZ (by simp) fun g1 z1 m1=>?_)))))
 replace z1:IsZip g1 z TI TO .ellipsis:=z1
 replace m1:U1b z hp g1:=m1
 refine U0 ?_
 simp only[U6k,List.zipIdx_nil,U4d,U53]
 have t1:S1 k g1:=D1.frame _ _ _ s1 fun c hc o e=>m1.extBut _ _ (D.b1 c hc).1 e
 have u1:S2 k g1:=D2.frame _ _ _ s2 fun c hc o e=>m1.extBut _ _ (D.b2 c hc).1 e
 rcases ke with ke|⟨k1,ke⟩
 .subst ke
  refine U0 (U0 (U6h (show wpAny _ _ (U1m (.ref i1) >>= _) _ _ _ from U0 (D1.done ⟨g1,g,d,tk0,os⟩ _ _ t1 fun g2 e m2 he=>?_))))
  obtain⟨oe,he1,he2⟩:=he
  replace m2:U5k i1 g1 g2:=m2
  have z2:IsZip g2 z TI TO .ellipsis:=m2 _ _ (U1y D.c1.1) z1
  have ez:e≠z:=fun x=>by subst x;rw[z2] at he1;cases he1;simp at he2
  exact U3w z2 (by simp) fun g3 _ m3=>q g3 e _ (fun c o n1 _ n3 _ x=>m3.extBut _ _ n1 (m2 _ _ n3 (m1.extBut _ _ n1 x))) ⟨oe,m3.extBut _ _ ez he1,he2⟩
 .refine U0 (U0 (U6h (show wpAny _ _ (U1m (.ref i1) >>= _) _ _ _ from U0 (D1.item k ⟨g1,g,d,tk0,os⟩ _ _ k1 t1 fun x g2 tk1 px t2 m2=>U0f ?_))))
  replace m2:U1b i1 g1 g2:=m2
  have o2:IsPair g2 TO a b:=m2.extBut _ _ (U1y D.c1.2.1) (m1.extBut _ _ D.a2 hO)
  refine U0 (U2q o2 rfl (U0 (U6v o2 fun g3 o3 m3=>?_)))
  replace m3:U1b TO g2 g3:=m3
  have u3:S2 k g3:=D2.frame _ _ _ u1 fun c hc o e=>m3.extBut _ _ (D.b2 c hc).2.1 (m2.extBut _ _ (D.b2 c hc).2.2 e)
  rw[ke] at u3
  refine U0 (U48 (U0f ?_))
  refine U0 (U0 (U6h (show wpAny _ _ (U1m (.ref i2) >>= _) _ _ _ from U0 (D2.done ⟨g3,g,d,tk1,os⟩ _ _ u3 fun g4 e m4 he=>?_))))
  obtain⟨oe,he1,he2⟩:=he
  replace m4:U5k i2 g3 g4:=m4
  have z4:IsZip g4 z TI TO .ellipsis:=m4 _ _ (U1y D.c2.1) (m3.extBut _ _ (U1y D.a2) (m2.extBut _ _ (U1y D.c1.1) z1))
  have ez:e≠z:=fun x=>by subst x;rw[z4] at he1;cases he1;simp at he2
  exact U3w z4 (by simp) fun g5 _ m5=>q g5 e _ (fun c o n1 n2 n3 n4 x=>m5.extBut _ _ n1 (m4 _ _ n4 (m3.extBut _ _ n2 (m2.extBut _ _ n3 (m1.extBut _ _ n1 x))))) ⟨oe,m5.extBut _ _ ez he1,he2⟩
theorem fJ{Q:Option Value->Shared->Prop}(D1:Draws prog w A.in1 i1 fp1 n1 P1 S1)(D2:Draws prog w A.in1 i2 fp2 n2 P2 S2)(D:Apart z TI TO i1 i2 fp1 fp2)(hZ:IsZip s.heap z TI TO .none)(hI:IsPair s.heap TI (.ref i1) (.ref i2))(hO:IsPair s.heap TO a b)
  (s1:S1 k s.heap) (s2:S2 k s.heap) (k1:k<n1) (k2:k<n2)
  (q:∀x y h' tk,P1 k x->P2 k y->IsZip h' z TI TO (rawInt s.heap.objs.size)->IsPair h' TO x y->S1 (k+1) h'->S2 (k+1) h'->IsPair h' s.heap.objs.size x y->h'.objs.size=s.heap.objs.size+1 ->
   (∀c o,c≠z->c≠TO->c≠i1->c≠i2->s.heap.get? c=some o->h'.get? c=some o)->Q (some (.ref s.heap.objs.size)) { s with heap:=h',toks:=tk }) :
  wpAny (model prog w) A (pyNext (.ref z)) Q E s:=by
 have T:s.TypeIs (.ref z) "zip":=⟨_,hZ,rfl⟩
 unfold pyNext
 exact U0 (U5h (wpAny_callSpecial?_slot (name:=U3r "__next__") T U25 (U2p U25 T U49 (Jb4 D1 D2 D hZ hI hO s1 s2 k1 k2 fun x y h' tk c1 c2 c3 c4 c5 c6 c7 c8 c9=>U0f (q x y h' tk c1 c2 c3 c4 c5 c6 c7 c8 c9)) (U41 _))))
theorem fH{Q:Option Value->Shared->Prop}(D1:Draws prog w A.in1 i1 fp1 n1 P1 S1)(D2:Draws prog w A.in1 i2 fp2 n2 P2 S2)(D:Apart z TI TO i1 i2 fp1 fp2)(hZ:IsZip s.heap z TI TO .none)(hI:IsPair s.heap TI (.ref i1) (.ref i2))(hO:IsPair s.heap TO a b)
  (s1:S1 k s.heap) (s2:S2 k s.heap) (ke:k=n1∨(k<n1/\k=n2))
  (q:∀h' tk,(∀c o,c≠z->c≠TO->c≠i1->c≠i2->s.heap.get? c=some o->h'.get? c=some o)->Q none { s with heap:=h',toks:=tk }):wpAny (model prog w) A (pyNext (.ref z)) Q E s:=by
 have T:s.TypeIs (.ref z) "zip":=⟨_,hZ,rfl⟩
 unfold pyNext
 refine U0 (U5h (wpAny_callSpecial?_slot (name:=U3r "__next__") T U25 (U2p U25 T U49 (Jb5 D1 D2 D hZ hI hO s1 s2 ke fun h' e tk kk he=>?_) (U41 _))))
 obtain⟨o,e1,e2⟩:=he
 exact U0 (U5f (T:="StopIteration") (b:=true) ⟨o,e1,e2⟩ isSubtype_stop (U0f (q h' tk kk)))
end
abbrev itO(c:String)(l:Addr):Obj:={ cls:=.type c,data:=.fields #[.ref l,.int 0 0] }
abbrev zt1(c1:String)(h:Heap)(l1:Addr):Heap:=h.push (itO c1 l1)
abbrev zt2(c1 c2:String)(h:Heap)(l1 l2:Addr):Heap:=(zt1 c1 h l1).push (itO c2 l2)
abbrev zt3(c1 c2:String)(h:Heap)(l1 l2:Addr):Heap:=(zt2 c1 c2 h l1 l2).push { cls:=.type "tuple",data:=.seq #[.ref h.objs.size,.ref (zt1 c1 h l1).objs.size] }
abbrev zt4(c1 c2:String)(h:Heap)(l1 l2:Addr):Heap:=(zt3 c1 c2 h l1 l2).push { cls:=.type "tuple",data:=.seq #[.none,.none] }
abbrev zt5(c1 c2:String)(h:Heap)(l1 l2:Addr):Heap:=(zt4 c1 c2 h l1 l2).push { cls:=.type "zip",data:=.fields #[.none,.bool false,.bool false,.ref (zt2 c1 c2 h l1 l2).objs.size,.ref (zt3 c1 c2 h l1 l2).objs.size] }
theorem sX(l1 l2:Addr)(xs ys:Array Value):Meets (Builtin.«zip.__new__» ⟨[.type "zip",.ref l1,.ref l2],[]⟩) (fun _ R s=>s.heap.IsTuple l1 xs/\s.heap.IsTuple l2 ys/\R (.ok (.ret (.ref (zt4 "tuple_iterator" "tuple_iterator" s.heap l1 l2).objs.size))) { s with heap:=zt5 "tuple_iterator" "tuple_iterator" s.heap l1 l2 }) :=
 .of_wp fun prog w A R s h=>by
  obtain⟨hp,g,d,tk,os⟩:=s
  obtain⟨e1,e2,h⟩:=h
  have sub:=sub_zip
  have T1:U5x (U68 ⟨hp,g,d,tk,os⟩) l1 xs:=e1
  have T2:U5x (U68 ⟨hp.push { cls:=.type "tuple_iterator",data:=.fields #[.ref l1,.int 0 0] },g,d,tk,os⟩) l2 ys:=U5x.push e2 _
  wp_walk using U5y T1,U5y T2
  exact⟨_,rfl,h⟩
theorem sY(l1 l2:Addr)(xs ys:Array Value):Meets (Builtin.«zip.__new__» ⟨[.type "zip",.ref l1,.ref l2],[]⟩) (fun _ R s=>s.heap.IsList l1 xs/\s.heap.IsTuple l2 ys/\R (.ok (.ret (.ref (zt4 "list_iterator" "tuple_iterator" s.heap l1 l2).objs.size))) { s with heap:=zt5 "list_iterator" "tuple_iterator" s.heap l1 l2 }) :=
 .of_wp fun prog w A R s h=>by
  obtain⟨hp,g,d,tk,os⟩:=s
  obtain⟨e1,e2,h⟩:=h
  have sub:=sub_zip
  have T1:Heap.IsList (U68 ⟨hp,g,d,tk,os⟩) l1 xs:=e1
  have T2:U5x (U68 ⟨hp.push { cls:=.type "list_iterator",data:=.fields #[.ref l1,.int 0 0] },g,d,tk,os⟩) l2 ys:=U5x.push e2 _
  wp_walk using U5b T1,U5y T2
  exact⟨_,rfl,h⟩
theorem cI{c1 c2:String}{l1 l2:Addr}{P1 P2:Heap->Prop}{Q:Value->Shared->Prop}(m:Meets (Builtin.«zip.__new__» ⟨[.type "zip",.ref l1,.ref l2],[]⟩) (fun _ R s=>P1 s.heap/\P2 s.heap/\R (.ok (.ret (.ref (zt4 c1 c2 s.heap l1 l2).objs.size))) { s with heap:=zt5 c1 c2 s.heap l1 l2 }))(e1:P1 s.heap)(e2:P2 s.heap)
  (q:∀h',IsZip h' (s.heap.objs.size+4) (s.heap.objs.size+2) (s.heap.objs.size+3) .none->IsPair h' (s.heap.objs.size+2) (.ref s.heap.objs.size) (.ref (s.heap.objs.size+1))->IsPair h' (s.heap.objs.size+3) .none .none ->
   h'.get? s.heap.objs.size=some (itO c1 l1)->h'.get? (s.heap.objs.size+1)=some (itO c2 l2)->(∀c o,s.heap.get? c=some o->h'.get? c=some o)->Q (.ref (s.heap.objs.size+4)) { s with heap:=h' }) :
  wpAny (model prog w) A (call (.type "zip") [.ref l1,.ref l2]) Q E s:=by
 refine callType_new PySem.F.called_zip (by decide) (PySem.F.typeCall_zip_2 _ _) (PySem.F.newCall_zip_2 _ _) (fun obj=>PySem.F.args_object_init_3 obj _ _) PySem.F.entry_zip_new m ⟨e1,e2,?_⟩
 have z1:(zt1 c1 s.heap l1).objs.size=s.heap.objs.size+1:=U2e ..
 have z2:(zt2 c1 c2 s.heap l1 l2).objs.size=s.heap.objs.size+2:=by rw[U2e,z1]
 have z3:(zt3 c1 c2 s.heap l1 l2).objs.size=s.heap.objs.size+3:=by rw[U2e,z2]
 have z4:(zt4 c1 c2 s.heap l1 l2).objs.size=s.heap.objs.size+4:=by rw[U2e,z3]
 have g5:(zt5 c1 c2 s.heap l1 l2).get? (zt4 c1 c2 s.heap l1 l2).objs.size=some _:=U0v _ rfl
 have g4:(zt5 c1 c2 s.heap l1 l2).get? (zt3 c1 c2 s.heap l1 l2).objs.size=some _:=U0d _ (U0v _ rfl)
 have g3:(zt5 c1 c2 s.heap l1 l2).get? (zt2 c1 c2 s.heap l1 l2).objs.size=some _:=U0d _ (U0d _ (U0v _ rfl))
 have g2:(zt5 c1 c2 s.heap l1 l2).get? (zt1 c1 s.heap l1).objs.size=some _:=U0d _ (U0d _ (U0d _ (U0v _ rfl)))
 have g1:(zt5 c1 c2 s.heap l1 l2).get? s.heap.objs.size=some _:=U0d _ (U0d _ (U0d _ (U0d _ (U0v _ rfl))))
 have kk:∀c o,s.heap.get? c=some o->(zt5 c1 c2 s.heap l1 l2).get? c=some o:=fun c o e=>U0d _ (U0d _ (U0d _ (U0d _ (U0d _ e))))
 show _/\_
 rw[z2,z3,z4] at g5
 rw[z1,z2] at g3
 rw[z3] at g4
 rw[z1] at g2
 have Z:IsZip (zt5 c1 c2 s.heap l1 l2) (s.heap.objs.size+4) (s.heap.objs.size+2) (s.heap.objs.size+3) .none:=g5
 rw[z4]
 exact⟨⟨_,Z,rfl⟩,q _ Z g3 g4 g1 g2 kk⟩
theorem cH{l1 l2:Addr}{xs ys:Array Value}{Q:Value->Shared->Prop}(e1:s.heap.IsTuple l1 xs)(e2:s.heap.IsTuple l2 ys)
  (q:∀h',IsZip h' (s.heap.objs.size+4) (s.heap.objs.size+2) (s.heap.objs.size+3) .none->IsPair h' (s.heap.objs.size+2) (.ref s.heap.objs.size) (.ref (s.heap.objs.size+1))->IsPair h' (s.heap.objs.size+3) .none .none ->
   h'.IsTupleIter s.heap.objs.size l1 0->h'.IsTupleIter (s.heap.objs.size+1) l2 0->(∀c o,s.heap.get? c=some o->h'.get? c=some o)->Q (.ref (s.heap.objs.size+4)) { s with heap:=h' }) :
  wpAny (model prog w) A (call (.type "zip") [.ref l1,.ref l2]) Q E s :=
 cI (P1:=fun h=>h.IsTuple l1 xs) (P2:=fun h=>h.IsTuple l2 ys) (sX l1 l2 xs ys) e1 e2 fun h' c1 c2 c3 c4 c5 k=>q h' c1 c2 c3 ⟨_,c4,rfl,rfl⟩ ⟨_,c5,rfl,rfl⟩ k
theorem rJ{l1 l2:Addr}{xs ys:Array Value}{Q:Value->Shared->Prop}(e1:s.heap.IsList l1 xs)(e2:s.heap.IsTuple l2 ys)
  (q:∀h',IsZip h' (s.heap.objs.size+4) (s.heap.objs.size+2) (s.heap.objs.size+3) .none->IsPair h' (s.heap.objs.size+2) (.ref s.heap.objs.size) (.ref (s.heap.objs.size+1))->IsPair h' (s.heap.objs.size+3) .none .none ->
   h'.IsListIter s.heap.objs.size l1 0->h'.IsTupleIter (s.heap.objs.size+1) l2 0->(∀c o,s.heap.get? c=some o->h'.get? c=some o)->Q (.ref (s.heap.objs.size+4)) { s with heap:=h' }) :
  wpAny (model prog w) A (call (.type "zip") [.ref l1,.ref l2]) Q E s :=
 cI (P1:=fun h=>h.IsList l1 xs) (P2:=fun h=>h.IsTuple l2 ys) (sY l1 l2 xs ys) e1 e2 fun h' c1 c2 c3 c4 c5 k=>q h' c1 c2 c3 ⟨_,c4,rfl,rfl⟩ ⟨_,c5,rfl,rfl⟩ k
end
end HT
end
section
namespace L2
open PySem PySem.Spec PyProof.Rows
def HB(L:Bool)(xs:List V):HO:=if L=true then .lst xs else .tup xs
theorem HB.inj{L:Bool}{xs ys:List V}(h:HB L xs=HB L ys):xs=ys:=by cases L<;>cases h<;>rfl
def Itz(L M:Bool)(a b:Addr):It :=
 ⟨fun i H=>∃xs ys x y,H a=some (HB L xs)/\H b=some (HB M ys)/\xs[i]?=some x/\ys[i]?=some y,
  fun i H v H'=>∃p x y,H p=none/\v=.ref p/\H'=upd H p (.tup [x,y])/\(∀xs,H a=some (HB L xs)->xs[i]?=some x)/\∀ys,H b=some (HB M ys)->ys[i]?=some y,
  fun i H=>∃xs ys,H a=some (HB L xs)/\H b=some (HB M ys)/\(i=xs.length∨(i<xs.length/\i=ys.length))⟩
def Lh(L:Bool)(h:Heap)(it a:Addr)(i:Nat):Prop:=if L=true then h.IsListIter it a i else h.IsTupleIter it a i
def iM(L:Bool)(h:Heap)(a:Addr)(ws:Array Value):Prop:=if L=true then h.IsList a ws else h.IsTuple a ws
theorem RQ{prog:Program}{w:World}{A:Around}(L:Bool)(ha:A.handled=none)(it t:Addr)(ne:t≠it)(ws:Array Value):Draws prog w A it [it,t] ws.size (fun i v=>ws[i]?=some v) (fun i h=>Lh L h it t i/\iM L h t ws):=by
 cases L with
 |true=>exact Draws.list ha it t ne ws
 |false=>exact HT.zf ha it t ne ws
theorem Lh.at{L:Bool}{h h':Heap}{it a:Addr}{i:Nat}(x:Lh L h it a i)(k:∀o,h.get? it=some o->h'.get? it=some o):Lh L h' it a i:=by
 cases L with
 |true=>exact Heap.IsListIter.at x k
 |false=>exact Heap.IsTupleIter.at x k
theorem Lh.obj{L:Bool}{h:Heap}{it a:Addr}{i:Nat}(x:Lh L h it a i):∃o vs,h.get? it=some o/\o.data=.fields vs:=by
 cases L with
 |true=>obtain⟨o,e,_,d⟩:=(show h.IsListIter it a i from x);exact⟨o,_,e,d⟩
 |false=>obtain⟨o,e,_,d⟩:=(show h.IsTupleIter it a i from x);exact⟨o,_,e,d⟩
theorem Inv.T6{X:Cx}{pins:List (Addr×Obj)}{σ:St}{H:Hp}{s:Shared}{L:Bool}{a:Addr}{xs:List V}(I:Inv X pins σ H s)(h:H a=some (HB L xs)):∃its:List Value,Vals xs its/\iM L s.heap a its.toArray:=by
 cases L with
 |true=>obtain⟨its,rv,p,_⟩:=I.list (SqL.of h);exact⟨its,rv,p.isList⟩
 |false=>obtain⟨its,rv,p,_⟩:=I.tuple (SqT.of h);exact⟨its,rv,p⟩
def Jbs(L M:Bool)(a b z TI TO i1 i2:Addr)(i:Nat)(h:Heap):Prop:=IsZip h z TI TO .none/\IsPair h TI (.ref i1) (.ref i2)/\(∃c d,IsPair h TO c d)/\Lh L h i1 a i/\Lh M h i2 b i
theorem WL{z TI TO i1 i2 a b:Addr}(d1:TI≠z)(d2:TO≠z)(d3:TI≠TO)(d4:i1≠z/\i1≠TO/\i1≠TI)(d5:i2≠z/\i2≠TO/\i2≠TI)(d6:i1≠i2)(na:a ∉ [z,TI,TO,i1,i2])(nb:b ∉ [z,TI,TO,i1,i2]):HT.Apart z TI TO i1 i2 [i1,a] [i2,b] where
 a1:=d1
 a2:=d2
 a3:=d3
 b1:=fun c hc=>by
  simp only[U00,U1l,or_false,not_or] at hc na
  rcases hc with rfl|rfl
  .exact⟨d4.1,d4.2.1,d6⟩
  .exact⟨na.1,na.2.2.1,na.2.2.2.2⟩
 b2:=fun c hc=>by
  simp only[U00,U1l,or_false,not_or] at hc nb
  rcases hc with rfl|rfl
  .exact⟨d5.1,d5.2.1,U1y d6⟩
  .exact⟨nb.1,nb.2.2.1,nb.2.2.2.1⟩
 c1:=d4
 c2:=d5
 c3:=d6
theorem oN{P:Program}{w:World}{K:U0b}{elts:List Expr}{x1:Nat}{pos:Pos}(L M:Bool)(a b z TI TO i1 i2:Addr)(d1:TI≠z)(d2:TO≠z)(d3:TI≠TO)(d4:i1≠z/\i1≠TO/\i1≠TI)(d5:i2≠z/\i2≠TO/\i2≠TI)(d6:i1≠i2) :
  Turn P w K (.Tuple elts x1 pos) (Itz L M a b) [z,TI,TO,i1,i2] z (Jbs L M a b z TI TO i1 i2) where
 mem:=by simp
 obj:=fun i h st c hc=>by
  obtain⟨h1,h2,⟨c',d',h3⟩,h4,h5⟩:=st
  simp only[U00,U1l,or_false] at hc
  rcases hc with rfl|rfl|rfl|rfl|rfl
  .exact⟨_,h1,fun v q=>by cases q⟩
  .exact⟨_,h2,fun v q=>by cases q⟩
  .exact⟨_,h3,fun v q=>by cases q⟩
  .obtain⟨o,vs,e,d⟩:=h4.obj
   exact⟨o,e,fun v q=>by rw[d] at q;cases q⟩
  .obtain⟨o,vs,e,d⟩:=h5.obj
   exact⟨o,e,fun v q=>by rw[d] at q;cases q⟩
 keep:=fun i h h' st k=>by
  obtain⟨h1,h2,⟨c',d',h3⟩,h4,h5⟩:=st
  exact⟨k z (by simp) _ h1,k TI (by simp) _ h2,⟨c',d',k TO (by simp) _ h3⟩,h4.at fun o q=>k i1 (by simp) o q,h5.at fun o q=>k i2 (by simp) o q⟩
 item:=by
  intro X hP hw hK hc i pins s σ H E I hf st hg
  subst hP hw hK
  obtain⟨xs,ys,x,y,hq1,hq2,hx,hy⟩:=hg
  obtain⟨its1,rv1,p1⟩:=I.T6 hq1
  obtain⟨its2,rv2,p2⟩:=I.T6 hq2
  obtain⟨u,hu,ru⟩:=rv1.get hx
  obtain⟨v,hv,rv⟩:=rv2.get hy
  obtain⟨h1,h2,⟨c',d',h3⟩,h4,h5⟩:=st
  have lt:∀c∈[z,TI,TO,i1,i2],c<s.heap.objs.size:=fun c hc=>by
   simp only[U00,U1l,or_false] at hc
   rcases hc with rfl|rfl|rfl|rfl|rfl
   .exact U0q h1
   .exact U0q h2
   .exact U0q h3
   .obtain⟨o,vs,e,_⟩:=h4.obj;exact U0q e
   .obtain⟨o,vs,e,_⟩:=h5.obj;exact U0q e
  have na:a ∉ [z,TI,TO,i1,i2]:=fun q=>by rw[(hf a q).1] at hq1;cases hq1
  have nb:b ∉ [z,TI,TO,i1,i2]:=fun q=>by rw[(hf b q).1] at hq2;cases hq2
  have ap:=WL d1 d2 d3 d4 d5 d6 na nb
  have hh:X.A.in1.handled=none:=I.ok.hd hc
  refine HT.fJ (RQ L hh i1 a (fun q=>na (by simp[q])) its1.toArray) (RQ M hh i2 b (fun q=>nb (by simp[q])) its2.toArray) ap h1 h2 h3 ⟨h4,p1⟩ ⟨h5,p2⟩ (by rw[U0s];exact(U0n.mp hu).1) (by rw[U0s];exact(U0n.mp hv).1)
   fun x' y' h' tk q1 q2 z' o' s1' s2' tp sz k=>⟨_,rfl,?_⟩
  have q1':its1[i]?=some x':=by simpa using q1
  have q2':its2[i]?=some y':=by simpa using q2
  rw[hu] at q1'
  rw[hv] at q2'
  cases q1'
  cases q2'
  refine wpAny_letOwnedTupleGo_zip z' fun h3' z2 sb=>?_
  have sb':U1b z h' h3':=sb
  have nz:s.heap.objs.size≠z:=U1x (lt z (by simp))
  have J:=I.sG (h':=h3') (t':=tk) (fp:=[z,TI,TO,i1,i2]) (x:=x) (y:=y) ru rv (sb'.extBut _ _ nz tp) (fun c o hc q=>by
   simp only[U00,U1l,or_false,not_or] at hc
   exact sb'.extBut _ _ hc.1 (k c o hc.1 hc.2.2.1 hc.2.2.2.1 hc.2.2.2.2 q)) hf lt
  refine⟨.ref s.heap.objs.size,_,J,rfl,⟨_,x,y,I.hok.fresh (U0t _),rfl,rfl,fun zs hz=>?_,fun zs hz=>?_⟩,⟨z2,?_,⟨_,_,sb'.extBut _ _ d2 o'⟩,s1'.1.at fun o q=>sb'.extBut _ _ d4.1 q,s2'.1.at fun o q=>sb'.extBut _ _ d5.1 q⟩,fun c hc=>?_⟩
  .rw[hq1] at hz
   rw[←HB.inj (U1c hz)]
   exact hx
  .rw[hq2] at hz
   rw[←HB.inj (U1c hz)]
   exact hy
  .exact sb'.extBut _ _ d1 (k TI _ d1 d3 (U1y d4.2.2) (U1y d5.2.2) h2)
  .rw[CK (U03 (lt c hc))]
   exact(hf c hc).1
 done:=by
  intro X hP hw hK hc i pins s σ H E I hf st hg
  subst hP hw hK
  obtain⟨xs,ys,hq1,hq2,ke⟩:=hg
  obtain⟨its1,rv1,p1⟩:=I.T6 hq1
  obtain⟨its2,rv2,p2⟩:=I.T6 hq2
  obtain⟨h1,h2,⟨c',d',h3⟩,h4,h5⟩:=st
  have na:a ∉ [z,TI,TO,i1,i2]:=fun q=>by rw[(hf a q).1] at hq1;cases hq1
  have nb:b ∉ [z,TI,TO,i1,i2]:=fun q=>by rw[(hf b q).1] at hq2;cases hq2
  have hh:X.A.in1.handled=none:=I.ok.hd hc
  refine HT.fH (RQ L hh i1 a (fun q=>na (by simp[q])) its1.toArray) (RQ M hh i2 b (fun q=>nb (by simp[q])) its2.toArray) (WL d1 d2 d3 d4 d5 d6 na nb) h1 h2 h3 ⟨h4,p1⟩ ⟨h5,p2⟩ (by rw[U0s,U0s,←rv1.length,←rv2.length];exact ke)
   fun h' tk k=>⟨rfl,I.Xu (t':=tk) (fp:=[z,TI,TO,i1,i2]) (fun c o hc q=>?_) hf⟩
  simp only[U00,U1l,or_false,not_or] at hc
  exact k c o hc.1 hc.2.2.1 hc.2.2.2.1 hc.2.2.2.2 q
 self:=fun _ _ _ _ _ st h=>wpAny_pyIter_zip st.1 h
abbrev Jck(L M:Bool)(ta:TA):TI:=fun σ H R=>ta σ H fun vs H1=>∃a b xs ys,vs=[.ref a,.ref b]/\H1 a=some (HB L xs)/\H1 b=some (HB M ys)/\R (Itz L M a b) H1
section
variable{X:Cx}
theorem Zm(L M:Bool)(hLM:L=M∨(L=true/\M=false)){a b:Expr}{ta:TA}{p pos:Pos}{elts:List Expr}{x1:Nat}{tpos:Pos}(hg:Gl X "zip")(hm:X.mg "zip"=none)(ha:PA X [a,b] ta)(hs:starEach [a,b] X.env=[(false,eval a X.env),(false,eval b X.env)]:=by rfl)(hs2:starEach [b] X.env=[(false,eval b X.env)]:=by rfl) :
  PI X (.Tuple elts x1 tpos) (.Call (.Name "zip" p) [a,b] [] pos) (Jck L M ta):=by
 intro pins s σ H R I h
 refine Call_ (Lb I hg hm (by decide +kernel:bootBuiltins "zip"=some (.type "zip")) (U23 (thn (ha pos pins s σ H _ I h) fun us s1 ⟨vs,H1,I1,r1,q1⟩=>?_) (by rw[hs,hs2]) (by rw[hs2];rfl)))
 obtain⟨l,m,xs,ys,e,e1,e2,q⟩:=q1
 subst e
 obtain⟨us1,us2⟩:us=[.ref l,.ref m]/\True:=by
  cases r1 with
  |cons r rr =>
   cases rr with
   |cons r' rr =>
    cases rr
    cases r
    cases r'
    exact⟨rfl,trivial⟩
 subst us1
 obtain⟨its1,rv1,p1⟩:=I1.T6 e1
 obtain⟨its2,rv2,p2⟩:=I1.T6 e2
 have fin:∀h',IsZip h' (s1.heap.objs.size+4) (s1.heap.objs.size+2) (s1.heap.objs.size+3) .none->IsPair h' (s1.heap.objs.size+2) (.ref s1.heap.objs.size) (.ref (s1.heap.objs.size+1))->IsPair h' (s1.heap.objs.size+3) .none .none ->
   Lh L h' s1.heap.objs.size l 0->Lh M h' (s1.heap.objs.size+1) m 0->(∀c o,s1.heap.get? c=some o->h'.get? c=some o)->wpAny (model X.prog X.w) X.A (pyIter (.ref (s1.heap.objs.size+4))) (PIE X pins σ (.Tuple elts x1 tpos) R) X.xe { s1 with heap:=h' }:=fun h' c1 c2 c3 c4 c5 k=>by
  refine wpAny_pyIter_zip c1 ?_
  refine⟨s1.heap.objs.size+4,[s1.heap.objs.size+4,s1.heap.objs.size+2,s1.heap.objs.size+3,s1.heap.objs.size,s1.heap.objs.size+1],_,_,H1,rfl,I1.kept (t':=s1.toks) k,
   oN L M l m _ _ _ _ _ (by simp) (by simp) (by simp) ⟨by simp,by simp,by simp⟩ ⟨by simp,by simp,by simp⟩ (by simp),⟨c1,c2,⟨_,_,c3⟩,c4,c5⟩,fun c hc=>?_,q⟩
  have hc':s1.heap.objs.size<=c:=by
   simp only[U00,U1l,or_false] at hc
   rcases hc with rfl|rfl|rfl|rfl|rfl<;>first|exact U1r _ _|exact U0t _
  exact I1.Xp hc' (I1.hok.fresh hc')
 cases L with
 |true =>
  cases M with
  |true=>exact call_zip_2 p1 p2 fun h' c1 c2 c3 c4 c5 _ k=>fin h' c1 c2 c3 c4 c5 k
  |false=>exact HT.rJ p1 p2 fun h' c1 c2 c3 c4 c5 k=>fin h' c1 c2 c3 c4 c5 k
 |false =>
  cases M with
  |true=>rcases hLM with z|⟨z,_⟩<;>cases z
  |false=>exact HT.cH p1 p2 fun h' c1 c2 c3 c4 c5 k=>fin h' c1 c2 c3 c4 c5 k
end
end L2
end
section
namespace L2
open PySem PySem.Spec PyProof.Rows
section
variable{k:Nat}{caps:List Nat}{σ:St}{g:TG}{tt:TT}{te:TE}{Q:VK}{H:Hp}
end
end L2
end
section
set_option maxRecDepth 100000
namespace HT
open PySem PySem.Spec PyProof.Rows
section
variable{prog:Program}{w:World}{A:Around}{E:Value->Shared->Prop}{s:Shared}
theorem vK{x:Value}{Tx:String}{tp:Addr}{cs:List Value}{vs:List Bool}{dd:Option Addr}{n:Nat}{sl:Array (Option Value)}(ha:AnswersAll (fun s=>s.TypeIs x Tx) x cs vs) :
  Meets (Builtin.«isinstance» ⟨[x,.ref tp],[]⟩) (fun _ R s=>s.TypeIs x Tx/\s.heap.get? tp=some { cls:=.type "tuple",dict:=dd,data:=.seq cs.toArray n,slots:=sl }/\∀tk,R (.ok (.ret (.bool (vs.any id)))) { s with toks:=tk }) :=
 fun prog w A R s hs=>isinstance_outer (by
  obtain⟨h,g,d,t,os⟩:=s
  obtain⟨hx,htp,hq⟩:=hs
  have T2:(⟨h,g,d,t,os⟩:Shared).TypeIs (.ref tp) "tuple":=⟨_,htp,rfl⟩
  have f1:=PySem.F.isi_sub_tuple
  repeat (any_goals first|assumption|wp_step)
  refine wpAny_arrayLoop ?_
  simp only[List.toList_toArray,U4z]
  refine isinstance_items (dep:=0) (fun _ tk q=>q.toks tk) cs vs _ _ ha hx fun tk'=>?_
  cases hv:vs.any id with
  |true =>
   simp only[if_true]
   repeat (any_goals first|assumption|wp_step)
   exact hv ▸ hq tk'
  |false =>
   simp only[if_false,U1o]
   repeat (any_goals first|assumption|wp_step)
   exact hv ▸ hq tk') (U6g.not_mainsLoader hs.1)
end
end HT
namespace L2
open PySem PySem.Spec PyProof.Rows
def isSeq:PyData->Bool
 |.list _=>true
 |.tuple _=>true
 |_=>false
def noDict:PyData->Bool
 |.dict _=>false
 |_=>true
theorem rQ(T:String)(h:T="tuple"∨T="list"):typeOf (.type T)=pure (.type "type"):=by rcases h with rfl|rfl<;>first|rfl|kernel_rfl
theorem LK{a b:String}(h:(a,b)∈[("int","tuple"),("int","list"),("bool","tuple"),("bool","list"),("str","tuple"),("str","list"),("NoneType","tuple"),("NoneType","list"),("list","tuple"),("tuple","list")]):isSubtype (.type a) (.type b)=pure false:=by
 simp only[U00,U1l,or_false,Prod.mk.injEq] at h
 rcases h with ⟨rfl,rfl⟩|⟨rfl,rfl⟩|⟨rfl,rfl⟩|⟨rfl,rfl⟩|⟨rfl,rfl⟩|⟨rfl,rfl⟩|⟨rfl,rfl⟩|⟨rfl,rfl⟩|⟨rfl,rfl⟩|⟨rfl,rfl⟩<;>(rw[isSubtype_type];kernel_rfl)
theorem fQ{a:String}(h:a="tuple"∨a="list"):isSubtype (.type a) (.type a)=pure true:=by rcases h with rfl|rfl<;>(rw[isSubtype_type];kernel_rfl)
section
variable{X:Cx}
theorem ZJ:Eb X (.builtin "isinstance") (fun xs H Q=>∃(N:Addr->Prop)(x:V)(d:PyData)(p:Addr),xs=[x,.ref p]/\H p=some (.tup [.ty "tuple",.ty "list"])/\Tr N H x d/\noDict d=true/\Q (.bl (isSeq d)) H):=by
 intro pins s σ H xs us Q I r h
 obtain⟨N,x,d,p,rfl,hp,t,nd,q⟩:=h
 obtain⟨u,v,rfl,rx,rv⟩:=vals2 r
 cases (show v=U2v p from rv)
 obtain⟨its,rt,pt,_⟩:=I.tuple (SqT.of hp)
 have ei:its=[.type "tuple",.type "list"]:=by
  cases rt with
  |cons r1 rr =>
   cases rr with
   |cons r2 rn =>
    cases rn
    cases (show _=U3s "tuple" from r1)
    cases (show _=U3s "list" from r2)
    rfl
 subst ei
 obtain⟨⟨c1,d1,x1,sl1⟩,ho,hc,n,hd⟩:=id pt
 simp only at hc hd
 subst hc hd
 have fin:∀(Tx:String)(vs:List Bool),AnswersAll (fun s=>s.TypeIs u Tx) u [.type "tuple",.type "list"] vs->s.TypeIs u Tx->vs.any id=isSeq d->wpAny (model X.prog X.w) X.A (call (.builtin "isinstance") [u,.ref p]) (EP X pins σ Q) X.xe s:=fun Tx vs ha hx e =>
  call_isinstance (HT.vK (cs:=[.type "tuple",.type "list"]) (dd:=d1) (n:=n) (sl:=sl1) ha) ⟨hx,ho,fun tk=>⟨.bl (isSeq d),H,I.tok tk,(by rw[e];rfl),q⟩⟩
 have y1:=rQ "tuple" (.inl rfl)
 have y2:=rQ "list" (.inr rfl)
 cases t with
 |non =>
  cases (show u=U22 from rx)
  exact fin "NoneType" [false,false] (.cons (Answers.of_false_none (by decide) y1 (LK (by decide))) (.cons (Answers.of_false_none (by decide) y2 (LK (by decide))) .nil)) rfl rfl
 |bl b =>
  cases (show u=U5e b from rx)
  exact fin "bool" [false,false] (.cons (Answers.of_false_bool (by decide) y1 (LK (by decide))) (.cons (Answers.of_false_bool (by decide) y2 (LK (by decide))) .nil)) rfl rfl
 |int i =>
  obtain⟨t,rfl⟩:=rx
  exact fin "int" [false,false] (.cons (Answers.of_false_int (by decide) y1 (LK (by decide))) (.cons (Answers.of_false_int (by decide) y2 (LK (by decide))) .nil)) rfl rfl
 |str z =>
  obtain⟨t,rfl⟩:=rx
  exact fin "str" [false,false] (.cons (Answers.of_false_str (by decide) y1 (LK (by decide))) (.cons (Answers.of_false_str (by decide) y2 (LK (by decide))) .nil)) rfl rfl
 |lst n1 h1 t1 =>
  cases rx
  obtain⟨its,_,pl,_⟩:=I.list (SqL.of h1)
  exact fin "list" [false,true] (.cons (Answers.of_false_list (by decide) y1 (LK (by decide))) (.cons (Answers.of_true y2 (fQ (.inr rfl))) .nil)) pl.isList.typeIs rfl
 |tup n1 h1 t1 =>
  cases rx
  obtain⟨its,_,pl,_⟩:=I.tuple (SqT.of h1)
  exact fin "tuple" [true,false] (.cons (Answers.of_true y1 (fQ (.inl rfl))) (.cons (Answers.of_false_tuple (by decide) y2 (LK (by decide))) .nil)) pl.typeIs rfl
 |dct _ _=>cases nd
end
end L2
end
section
namespace L2
open PySem PySem.Spec PyProof.Rows
end L2
namespace Bc
open PySem PySem.Spec PyProof.Rows L2
def Jci:PyData->Int
 |.tuple [.int a,.int b]=>b-a
 |_=>0
def Ja0(es:List PyData):Int:=es.foldl (fun acc d=>acc*Jci d) 1
def Nr:PyData->Int
 |.tuple es=>Ja0 es
 |_=>0
structure Good(n:Nat)(ds:List PyData):Prop where
 n1:1<=n
 n3:n<=3
 le:ds.length<=zK (.int n)
 all:ds.all (Jcm n)=true
end Bc
end
section
namespace L2
open PySem PySem.Spec PyProof.Rows
section
variable{X:Cx}{K:U0b}
end
end L2
namespace Bc
open PySem PySem.Spec PyProof.Rows L2
def mx(i j:Int):Int:=if j>i then j else i
def mn(i j:Int):Int:=if j<i then j else i
def Gy(w:Nat):PyData->Int
 |.tuple es=>(match es[w]? with|some (.tuple [.int a,.int _])=>a|_=>0)
 |_=>0
def GF(w:Nat):PyData->Int
 |.tuple es=>(match es[w]? with|some (.tuple [.int _,.int b])=>b|_=>0)
 |_=>0
end Bc
end
section
namespace VS
open PySem PySem.Spec L2
inductive D where
 |non|bl (b:Bool)|int (i:Int)|str (x:Str)|ty (n:String)
 |tup (ds:List D)|lst (m:Bool) (ds:List D)|ref (i:Nat)|scr (ns:List Int)|emp
abbrev Mu:=List (Option Addr)
def Dh(μ:Mu)(a:Addr):Prop:=some a∈μ
structure Fr where
 K:U0b
 H0:Hp
 N:Addr->Prop
 m0:List Addr
def Fr.Ok(Γ:Fr)(m:Bool)(a:Addr):Prop:=(m=true->Γ.H0 a=none)/\(Γ.N a∨Γ.H0 a=none)
mutual
inductive VR (Γ:Fr) (μ:Mu) (H:Hp):V->D->Prop
 |non:VR Γ μ H .non .non
 |bl (b:Bool):VR Γ μ H (.bl b) (.bl b)
 |int (i:Int):VR Γ μ H (.int i) (.int i)
 |str (x:Str):VR Γ μ H (.str x) (.str x)
 |ty (n:String):VR Γ μ H (.ty n) (.ty n)
 |tup {a:Addr} {xs:List V} {ds:List D}:H a=some (.tup xs)->VRs Γ μ H xs ds->VR Γ μ H (.ref a) (.tup ds)
 |lst {m:Bool} {a:Addr} {xs:List V} {ds:List D}:Γ.Ok m a->¬Dh μ a->H a=some (.lst xs)->VRs Γ μ H xs ds->VR Γ μ H (.ref a) (.lst m ds)
 |ref {i:Nat} {v:V}:i<μ.length->(∀a,μ[i]?=some (some a)->v=.ref a)->VR Γ μ H v (.ref i)
 |scrK {a:Addr} {ns:List Int}:(∀H',SqL Γ.K H' a (ns.map V.int))->VR Γ μ H (.ref a) (.scr ns)
 |scrR {a:Addr} {ns:List Int} {o:Obj}:¬Dh μ a->H a=some (.frz o (.lst (ns.map V.int)))->VR Γ μ H (.ref a) (.scr ns)
 |emp {a:Addr}:¬Dh μ a->H a=some (.dK [])->VR Γ μ H (.ref a) .emp
inductive VRs (Γ:Fr) (μ:Mu) (H:Hp):List V->List D->Prop
 |nil:VRs Γ μ H [] []
 |cons {x:V} {d:D} {xs:List V} {ds:List D}:VR Γ μ H x d->VRs Γ μ H xs ds->VRs Γ μ H (x::xs) (d::ds)
end
structure Ext(μ:Mu)(H:Hp)(μ':Mu)(H':Hp):Prop where
 keep:∀a o,H a=some o->¬Dh μ a->H' a=some o/\¬Dh μ' a
 tups:∀a xs,H a=some (.tup xs)->H' a=some (.tup xs)
 none:∀a,H' a=none->H a=none
 ids:∀(i:Nat)(a:Addr),i<μ.length->μ'[i]?=some (some a)->μ[i]?=some (some a)
 len:μ.length<=μ'.length
theorem Ext.refl(μ:Mu)(H:Hp):Ext μ H μ H:=⟨fun _ _ h n=>⟨h,n⟩,fun _ _ h=>h,fun _ h=>h,fun _ _ _ h=>h,U0t _⟩
theorem Ext.trans{μ μ1 μ2:Mu}{H H1 H2:Hp}(a:Ext μ H μ1 H1)(b:Ext μ1 H1 μ2 H2):Ext μ H μ2 H2 :=
 ⟨fun c o h n=>let ⟨x,y⟩:=a.keep c o h n;b.keep c o x y,fun c xs h=>b.tups c xs (a.tups c xs h),fun c h=>a.none c (b.none c h),fun i c hi h=>a.ids i c hi (b.ids i c (U0y hi a.len) h),U1a a.len b.len⟩
section
variable{Γ:Fr}{μ μ':Mu}{H H':Hp}
mutual
theorem VR.ext(e:Ext μ H μ' H'):∀{v:V} {d:D},VR Γ μ H v d->VR Γ μ' H' v d
 |_,_,.non=>.non
 |_,_,.bl b=>.bl b
 |_,_,.int i=>.int i
 |_,_,.str x=>.str x
 |_,_,.ty n=>.ty n
 |_,_,.tup h t=>.tup (e.tups _ _ h) (VRs.ext e t)
 |_,_,.lst o n h t=>.lst o (e.keep _ _ h n).2 (e.keep _ _ h n).1 (VRs.ext e t)
 |_,_,.ref hi f=>.ref (U0y hi e.len) fun a q=>f a (e.ids _ _ hi q)
 |_,_,.scrK h=>.scrK h
 |_,_,.scrR n h=>.scrR (e.keep _ _ h n).2 (e.keep _ _ h n).1
 |_,_,.emp n h=>.emp (e.keep _ _ h n).2 (e.keep _ _ h n).1
theorem VRs.ext(e:Ext μ H μ' H'):∀{vs:List V} {ds:List D},VRs Γ μ H vs ds->VRs Γ μ' H' vs ds
 |_,_,.nil=>.nil
 |_,_,.cons r t=>.cons (VR.ext e r) (VRs.ext e t)
end
theorem VRs.length:∀{xs:List V} {ds:List D},VRs Γ μ H xs ds->xs.length=ds.length
 |_,_,.nil=>rfl
 |_,_,.cons _ t=>by rw[U0j,U0j,VRs.length t]
theorem VRs.append:∀{xs ys:List V} {ds es:List D},VRs Γ μ H xs ds->VRs Γ μ H ys es->VRs Γ μ H (xs++ys) (ds++es)
 |_,_,_,_,.nil,t=>t
 |_,_,_,_,.cons r s,t=>.cons r (VRs.append s t)
theorem VRs.take:∀{xs:List V} {ds:List D} (n:Nat),VRs Γ μ H xs ds->VRs Γ μ H (xs.take n) (ds.take n)
 |_,_,0,_=>.nil
 |_,_,_+1,.nil=>.nil
 |_,_,n+1,.cons r t=>.cons r (VRs.take n t)
theorem VRs.drop:∀{xs:List V} {ds:List D} (n:Nat),VRs Γ μ H xs ds->VRs Γ μ H (xs.drop n) (ds.drop n)
 |_,_,0,r=>r
 |_,_,_+1,.nil=>.nil
 |_,_,n+1,.cons _ t=>VRs.drop n t
theorem VRs.get:∀{xs:List V} {ds:List D} {i:Nat} {d:D},VRs Γ μ H xs ds->ds[i]?=some d->∃x,xs[i]?=some x/\VR Γ μ H x d
 |_,_,_,_,.nil,h=>by simp at h
 |_,_,0,_,.cons r _,h=>by simp at h;subst h;exact⟨_,rfl,r⟩
 |_,_,i+1,d,.cons _ t,h=>by
  obtain⟨x,h1,h2⟩:=VRs.get (i:=i) (d:=d) t (by simpa using h)
  exact⟨x,by simpa using h1,h2⟩
theorem VRs.set{x:V}{d:D}(r:VR Γ μ H x d):∀{xs:List V} {ds:List D} (i:Nat),VRs Γ μ H xs ds->VRs Γ μ H (xs.set i x) (ds.set i d)
 |_,_,_,.nil=>.nil
 |_,_,0,.cons _ t=>.cons r t
 |_,_,i+1,.cons q t=>.cons q (VRs.set r i t)
theorem VRs.eraseIdx:∀{xs:List V} {ds:List D} (i:Nat),VRs Γ μ H xs ds->VRs Γ μ H (xs.eraseIdx i) (ds.eraseIdx i)
 |_,_,_,.nil=>.nil
 |_,_,0,.cons _ t=>t
 |_,_,i+1,.cons q t=>.cons q (VRs.eraseIdx i t)
theorem VRs.rep{xs:List V}{ds:List D}(h:VRs Γ μ H xs ds):∀n:Nat,VRs Γ μ H (U0l n xs).flatten (U0l n ds).flatten
 |0=>.nil
 |n+1=>by rw[U0o,U0o,U32,U32];exact h.append (VRs.rep h n)
theorem VRs.ints:∀(ns:List Int),VRs Γ μ H (ns.map V.int) (ns.map D.int)
 |[]=>.nil
 |n::r=>.cons (.int n) (VRs.ints r)
theorem VRs.Ru:∀{xs:List V} {ns:List Int},VRs Γ μ H xs (ns.map D.int)->xs=ns.map V.int
 |_,[],.nil=>rfl
 |_,n::r,.cons q t=>by cases q;rw[U0m,VRs.Ru t]
end
abbrev Env:=List (Option D)
abbrev Store:=List (Option (List D))
structure Rep(Γ:Fr)(μ:Mu)(σ:St)(H:Hp)(env:Env)(S:Store):Prop where
 vals:∀(i:Nat)(d:D),env[i]?=some (some d)->∃v,σ[i]?=some (some v)/\VR Γ μ H v d
 len:σ.length=env.length
 sto:∀(i:Nat)(ds:List D),S[i]?=some (some ds)->∃a xs,μ[i]?=some (some a)/\H a=some (.lst xs)/\VRs Γ μ H xs ds
 liv:∀(i:Nat)(a:Addr),μ[i]?=some (some a)->∃ds,S[i]?=some (some ds)
 inj:∀(i j:Nat)(a:Addr),μ[i]?=some (some a)->μ[j]?=some (some a)->i=j
 slen:S.length=μ.length
 ent:Ext (Γ.m0.map some) Γ.H0 μ H
 new:∀(i:Nat)(a:Addr),Γ.m0.length<=i->μ[i]?=some (some a)->Γ.H0 a=none
section
variable{Γ:Fr}{μ μ':Mu}{σ σ2:St}{H H':Hp}{env env2:Env}{S S':Store}
theorem Rep.live(R:Rep Γ μ σ H env S){a:Addr}(h:Dh μ a):∃xs,H a=some (.lst xs):=by
 obtain⟨i,hi⟩:=U4b.mp h
 obtain⟨ds,hs⟩:=R.liv i a hi
 obtain⟨b,xs,h1,h2,_⟩:=R.sto i ds hs
 rw[hi] at h1;cases h1
 exact⟨xs,h2⟩
theorem Rep.dead(R:Rep Γ μ σ H env S){p:Addr}(h:H p=none):¬Dh μ p:=fun z=>by
 obtain⟨xs,e⟩:=R.live z
 rw[h] at e;cases e
theorem Rep.fresh(R:Rep Γ μ σ H env S){p:Addr}(h:H p=none):Γ.H0 p=none:=R.ent.none p h
theorem Rep.ok(R:Rep Γ μ σ H env S){p:Addr}(h:H p=none)(m:Bool):Γ.Ok m p:=⟨fun _=>R.fresh h,.inr (R.fresh h)⟩
theorem Rep.grow(R:Rep Γ μ σ H env S)(e:Same H H'):Rep Γ μ σ H' env S/\Ext μ H μ H':=by
 have x:Ext μ H μ H':=⟨fun a o h n=>⟨e a o h,n⟩,fun a xs h=>e a _ h,fun a h=>e.free h,fun _ _ _ h=>h,U0t _⟩
 refine⟨⟨fun i d h=>?_,R.len,fun i ds h=>?_,R.liv,R.inj,R.slen,R.ent.trans x,R.new⟩,x⟩
 .obtain⟨v,h1,h2⟩:=R.vals i d h
  exact⟨v,h1,h2.ext x⟩
 .obtain⟨a,xs,h1,h2,h3⟩:=R.sto i ds h
  exact⟨a,xs,h1,e _ _ h2,h3.ext x⟩
theorem Rep.back(R:Rep Γ μ σ H env S)(x:Ext μ H μ' H')(R2:Rep Γ μ' σ2 H' env2 S'):Rep Γ μ' σ H' env S' :=
 ⟨fun i d h=>let ⟨v,h1,h2⟩:=R.vals i d h;⟨v,h1,h2.ext x⟩,R.len,R2.sto,R2.liv,R2.inj,R2.slen,R2.ent,R2.new⟩
theorem Rep.iB(R:Rep Γ μ σ H env S)(i:Nat){v:V}{d:D}(r:VR Γ μ H v d):Rep Γ μ (σ.set i (some v)) H (env.set i (some d)) S:=by
 refine⟨fun j e h=>?_,by rw[U30,U30];exact R.len,R.sto,R.liv,R.inj,R.slen,R.ent,R.new⟩
 by_cases hj:i=j
 .subst hj
  have hl:i<env.length:=by
   have:=(U0n.mp h).1
   rw[U30] at this;exact this
  rw[U2u hl] at h
  cases h
  exact⟨v,U2u (by rw[R.len];exact hl),r⟩
 .rw[U2y hj] at h ⊢
  exact R.vals j e h
theorem Rep.laid(R:Rep Γ μ σ H env S){p:Addr}{xs:List V}{ds:List D}(hp:H p=none)(r:VRs Γ μ H xs ds) :
  Rep Γ (μ++[some p]) σ (upd H p (.lst xs)) env (S++[some ds])/\Ext μ H (μ++[some p]) (upd H p (.lst xs)):=by
 have ne:∀a o,H a=some o->a≠p:=fun a o h z=>by rw[z,hp] at h;cases h
 have x:Ext μ H (μ++[some p]) (upd H p (.lst xs)):=by
  refine⟨fun a o h n=>⟨by rw[CK (ne a o h)];exact h,fun z=>?_⟩,fun a ys h=>by rw[CK (ne a _ h)];exact h,fun a h=>?_,fun i a hi h=>?_,by rw[U0r];omega⟩
  .rcases U12.mp z with z|z
   .exact n z
   .have z':a=p:=by simpa using z
    exact ne a o h z'
  .by_cases ha:a=p
   .rw[ha,Cq] at h;cases h
   .rw[CK ha] at h;exact h
  .rw[U1e hi] at h;exact h
 have idx:∀i a,(μ++[some p])[i]?=some (some a)->(i<μ.length/\μ[i]?=some (some a))∨(i=μ.length/\a=p):=fun i a h=>by
  by_cases hi:i<μ.length
  .rw[U1e hi] at h;exact .inl ⟨hi,h⟩
  .rw[U2d (by omega)] at h
   have hl:=(U0n.mp h).1
   have hi':i=μ.length:=by simp at hl;omega
   subst hi'
   simp at h
   exact .inr ⟨rfl,h.symm⟩
 have no:∀a,μ[a]?=some (some p)->False:=fun i h=>R.dead hp (U1k h)
 refine⟨⟨fun i d h=>?_,R.len,fun i es h=>?_,fun i a h=>?_,fun i j a h1 h2=>?_,by rw[U0r,U0r,R.slen];rfl,R.ent.trans x,fun i a hi h=>?_⟩,x⟩
 .obtain⟨v,h1,h2⟩:=R.vals i d h
  exact⟨v,h1,h2.ext x⟩
 .by_cases hi:i<S.length
  .rw[U1e hi] at h
   obtain⟨a,ys,h1,h2,h3⟩:=R.sto i es h
   exact⟨a,ys,by rw[U1e (by rw[←R.slen];exact hi)];exact h1,by rw[CK (ne a _ h2)];exact h2,h3.ext x⟩
  .rw[U2d (by omega)] at h
   have hl:=(U0n.mp h).1
   have hi':i=S.length:=by simp at hl;omega
   subst hi'
   simp at h
   subst h
   exact⟨p,xs,by rw[R.slen];simp,Cq,r.ext x⟩
 .rcases idx i a h with ⟨hi,h⟩|⟨rfl,rfl⟩
  .obtain⟨ds',q⟩:=R.liv i a h
   exact⟨ds',by rw[U1e (by rw[R.slen];exact hi)];exact q⟩
  .exact⟨ds,by rw[←R.slen];simp⟩
 .rcases idx i a h1 with ⟨_,g1⟩|⟨e1,e2⟩
  .rcases idx j a h2 with ⟨_,g2⟩|⟨e3,e4⟩
   .exact R.inj i j a g1 g2
   .exact(no i (e4 ▸ g1)).elim
  .rcases idx j a h2 with ⟨_,g2⟩|⟨e3,_⟩
   .exact(no j (e2 ▸ g2)).elim
   .rw[e1,e3]
 .rcases idx i a h with ⟨_,h⟩|⟨rfl,rfl⟩
  .exact R.new i a hi h
  .exact R.fresh hp
theorem Rep.put(R:Rep Γ μ σ H env S){i:Nat}{a:Addr}{xs:List V}{ds:List D}(hi:μ[i]?=some (some a))(r:VRs Γ μ H xs ds) :
  Rep Γ μ σ (upd H a (.lst xs)) env (S.set i (some ds))/\Ext μ H μ (upd H a (.lst xs)):=by
 have hl:Dh μ a:=U1k hi
 obtain⟨ys,hy⟩:=R.live hl
 have x:Ext μ H μ (upd H a (.lst xs)):=by
  refine⟨fun b o h n=>⟨?_,n⟩,fun b zs h=>?_,fun b h=>?_,fun _ _ _ h=>h,U0t _⟩
  .rw[CK (fun z=>n (by rw[z];exact hl))];exact h
  .rw[CK (fun z=>by rw[z,hy] at h;cases h)];exact h
  .by_cases hb:b=a
   .rw[hb,Cq] at h;cases h
   .rw[CK hb] at h;exact h
 have hiS:i<S.length:=by rw[R.slen];exact(U0n.mp hi).1
 refine⟨⟨fun j d h=>?_,R.len,fun j es h=>?_,fun j b h=>?_,R.inj,by rw[U30];exact R.slen,R.ent.trans x,R.new⟩,x⟩
 .obtain⟨v,h1,h2⟩:=R.vals j d h
  exact⟨v,h1,h2.ext x⟩
 .by_cases hj:i=j
  .subst hj
   rw[U2u hiS] at h
   cases h
   exact⟨a,xs,hi,Cq,r.ext x⟩
  .rw[U2y hj] at h
   obtain⟨b,zs,h1,h2,h3⟩:=R.sto j es h
   refine⟨b,zs,h1,?_,h3.ext x⟩
   rw[CK (fun z=>hj (R.inj i j a hi (by rw[←z];exact h1)))]
   exact h2
 .by_cases hj:i=j
  .subst hj;exact⟨ds,U2u hiS⟩
  .rw[U2y hj];exact R.liv j b h
end
end VS
end
section
namespace VS
open PySem PySem.Spec L2
abbrev BX:=Env->Store->Option (D×Store)
abbrev Bm:=Env->Store->Option (List D×Store)
abbrev Fo:=Env->Store->Option (Bool×Store)
abbrev Vv:=Env->Store->Option (Option Int×Store)
inductive Fl where|nx|brk|cnt|ret (d:D)
abbrev BL:=Env->Store->Option (Fl×Env×Store)
abbrev M5:=Env->Store->Option ((List D×List (Nat×List D))×Store)
abbrev M6:=D->Env->Option Env
def Ab(i:Nat):BX:=fun env S=>(env[i]?.join).map fun d=>(d,S)
def eC(d:D):BX:=fun _ S=>some (d,S)
def eOp(g:Store->D->D->Option D)(a b:BX):BX:=fun env S=>(a env S).bind fun p=>(b env p.2).bind fun q=>(g q.2 p.1 q.1).map fun d=>(d,q.2)
def eUn(g:Store->D->Option D)(a:BX):BX:=fun env S=>(a env S).bind fun p=>(g p.2 p.1).map fun d=>(d,p.2)
def Ae:Bm:=fun _ S=>some ([],S)
def Aa(a:BX)(r:Bm):Bm:=fun env S=>(a env S).bind fun p=>(r env p.2).bind fun q=>some (p.1::q.1,q.2)
def eCB(g:Store->List D->Option D)(a:Bm):BX:=fun env S=>(a env S).bind fun p=>(g p.2 p.1).map fun d=>(d,p.2)
def Rq(a b:BX):BX:=fun env S=>(a env S).bind fun p=>match p.1 with|.bl true=>b env p.2|.bl false=>some (.bl false,p.2)|_=>none
def iI(a:BX):BX:=fun env S=>(a env S).bind fun p=>match p.1 with|.bl c=>some (.bl (!c),p.2)|_=>none
def Tn(g g':Store->D->D->Option D)(a b c:BX):BX:=fun env S=>(a env S).bind fun p=>(b env p.2).bind fun q=>(g q.2 p.1 q.1).bind fun z=>match z with
 |.bl true=>(c env q.2).bind fun r=>(g' r.2 q.1 r.1).map fun d=>(d,r.2)
 |.bl false=>some (.bl false,q.2)
 |_=>none
def BK(a:BX):Fo:=fun env S=>(a env S).bind fun p=>match p.1 with|.bl c=>some (c,p.2)|_=>none
def Ii(a b:Fo):Fo:=fun env S=>(a env S).bind fun p=>if p.1=true then b env p.2 else some (false,p.2)
def tOr(a b:Fo):Fo:=fun env S=>(a env S).bind fun p=>if p.1=true then some (true,p.2) else b env p.2
def Hy(a:Fo):Fo:=fun env S=>(a env S).bind fun p=>some (!p.1,p.2)
def Ke:Vv:=fun _ S=>some (none,S)
def Kd(a:BX):Vv:=fun env S=>(a env S).bind fun p=>match p.1 with|.int i=>some (some i,p.2)|_=>none
def eSl(g:Store->D->Option Int->Option Int->Option D)(a:BX)(l h:Vv):BX:=fun env S=>(a env S).bind fun p=>(l env p.2).bind fun q=>(h env q.2).bind fun r=>(g r.2 p.1 q.1 r.1).map fun d=>(d,r.2)
def Bh(a b:BL):BL:=fun env S=>(a env S).bind fun p=>match p.1 with|.nx=>b p.2.1 p.2.2|f=>some (f,p.2.1,p.2.2)
def Ed:BL:=fun env S=>some (.nx,env,S)
def Mq:BL:=fun _ _=>none
def Bk(i:Nat)(a:BX):BL:=fun env S=>(a env S).bind fun p=>some (.nx,env.set i (some p.1),p.2)
def Ze(a:BX)(g:M6):BL:=fun env S=>(a env S).bind fun p=>(g p.1 env).bind fun e=>some (.nx,e,p.2)
def GX(a:BX):BL:=fun env S=>(a env S).bind fun p=>some (.nx,env,p.2)
def DN(a:BX):BL:=fun env S=>(a env S).bind fun p=>some (.ret p.1,env,p.2)
def sIf(c:Fo)(a b:BL):BL:=fun env S=>(c env S).bind fun p=>if p.1=true then a env p.2 else b env p.2
inductive Pat where
 |nm (i:Nat)|tp (ps:List Pat)
mutual
def Pat.sem:Pat->D->Env->Option Env
 |.nm i,d,env=>some (env.set i (some d))
 |.tp ps,.tup ds,env=>Jh ps ds env
 |.tp _,_,_=>none
def Jh:List Pat->List D->Env->Option Env
 |[],[],env=>some env
 |p::ps,d::ds,env=>(Pat.sem p d env).bind fun e=>Jh ps ds e
 |_,_,_=>none
end
mutual
def Pat.raw(K:U0b):Pat->TG
 |.nm i=>ZW i
 |.tp ps=>nu K ps.length (Ly K ps)
def Ly(K:U0b):List Pat->TGs
 |[]=>o7
 |p::ps=>ig (Pat.raw K p) (Ly K ps)
end
mutual
def Pat.low(k:Nat):Pat->Bool
 |.nm i=>decide (i<k)
 |.tp ps=>iH k ps
def iH(k:Nat):List Pat->Bool
 |[]=>true
 |p::ps=>Pat.low k p&&iH k ps
end
mutual
theorem Pat.mono(K:U0b):∀(p:Pat)(x:V)(σ:St)(H:Hp)(Q Q':St->Hp->Prop),(∀σ' H',Q σ' H'->Q' σ' H')->p.raw K x σ H Q->p.raw K x σ H Q'
 |.nm i,x,σ,H,Q,Q',f,h=>by rw[Pat.raw] at h ⊢;exact f _ _ h
 |.tp ps,x,σ,H,Q,Q',f,h=>by rw[Pat.raw] at h ⊢;obtain⟨a,xs,e,hs,hl,q⟩:=h;exact⟨a,xs,e,hs,hl,iZ K ps xs σ H Q Q' f q⟩
theorem iZ(K:U0b):∀(ps:List Pat)(x:List V)(σ:St)(H:Hp)(Q Q':St->Hp->Prop),(∀σ' H',Q σ' H'->Q' σ' H')->Ly K ps x σ H Q->Ly K ps x σ H Q'
 |[],x,σ,H,Q,Q',f,h=>by rw[Ly] at h ⊢;exact⟨h.1,f _ _ h.2⟩
 |p::ps,x,σ,H,Q,Q',f,h=>by rw[Ly] at h ⊢;obtain⟨v,r,e,q⟩:=h;exact⟨v,r,e,Pat.mono K p v σ H _ _ (fun σ1 H1 z=>iZ K ps r σ1 H1 Q Q' f z) q⟩
end
mutual
theorem Pat.ZR(K:U0b){k:Nat}:∀(p:Pat),p.low k=true->Low k (p.raw K)
 |.nm i,h=>by rw[Pat.raw];rw[Pat.low] at h;exact qT (of_decide_eq_true h)
 |.tp ps,h=>by rw[Pat.raw];rw[Pat.low] at h;exact ud (jt K ps h)
theorem jt(K:U0b){k:Nat}:∀(ps:List Pat),iH k ps=true->Zj k (Ly K ps)
 |[],_=>by rw[Ly];exact uf
 |p::ps,h=>by
  rw[Ly]
  rw[iH,U1h] at h
  exact qU (Pat.ZR K p h.1) (jt K ps h.2) (Pat.mono K p) (iZ K ps)
end
theorem aV:∀{ps:List Pat} {ds:List D} {env env':Env},Jh ps ds env=some env'->ds.length=ps.length
 |[],[],_,_,_=>rfl
 |[],_::_,_,_,h=>by simp[Jh] at h
 |_::_,[],_,_,h=>by simp[Jh] at h
 |p::ps,d::ds,env,env',h=>by
  rw[Jh] at h
  cases e1:p.sem d env with
  |none=>rw[e1] at h;cases h
  |some env1 =>
   rw[e1] at h
   rw[U0j,U0j,aV (show Jh ps ds env1=some env' from h)]
mutual
theorem Pat.run{Γ:Fr}{μ:Mu}{H:Hp}{S:Store}(K:U0b):∀(p:Pat){v:V}{d:D}{σ:St}{env env':Env}{Q:St->Hp->Prop},Rep Γ μ σ H env S->VR Γ μ H v d->p.sem d env=some env'->(∀σ',Rep Γ μ σ' H env' S->Q σ' H)->p.raw K v σ H Q
 |.nm i,v,d,σ,env,env',Q,R,r,e,q=>by
  rw[Pat.raw]
  rw[Pat.sem] at e
  cases e
  exact q _ (R.iB i r)
 |.tp ps,v,d,σ,env,env',Q,R,r,e,q=>by
  rw[Pat.raw]
  cases r with
  |@tup b xs ds hb rs =>
   rw[Pat.sem] at e
   obtain⟨hl,w⟩:=xJ K ps R rs e q
   exact⟨b,xs,rfl,SqT.of hb,hl,w⟩
  |_=>simp[Pat.sem] at e
theorem xJ{Γ:Fr}{μ:Mu}{H:Hp}{S:Store}(K:U0b):∀(ps:List Pat){vs:List V}{ds:List D}{σ:St}{env env':Env}{Q:St->Hp->Prop},Rep Γ μ σ H env S->VRs Γ μ H vs ds->Jh ps ds env=some env'->(∀σ',Rep Γ μ σ' H env' S->Q σ' H)->vs.length=ps.length/\Ly K ps vs σ H Q
 |[],vs,ds,σ,env,env',Q,R,r,e,q=>by
  rw[Ly]
  cases r with
  |nil=>rw[Jh] at e;cases e;exact⟨rfl,rfl,q σ R⟩
  |cons _ _=>simp[Jh] at e
 |p::ps,vs,ds,σ,env,env',Q,R,r,e,q=>by
  rw[Ly]
  cases r with
  |nil=>simp[Jh] at e
  |@cons y d ys ds' r1 r2 =>
   rw[Jh] at e
   cases e1:p.sem d env with
   |none=>rw[e1] at e;cases e
   |some env1 =>
    rw[e1] at e
    have e':Jh ps ds' env1=some env':=e
    have hl:ys.length=ps.length:=by rw[r2.length];exact aV e'
    exact⟨by rw[U0j,U0j,hl],y,ys,rfl,Pat.run K p R r1 e1 fun σ1 R1=>(xJ K ps R1 r2 e' q).2⟩
end
def calm(w:List (Nat×List D))(S:Store):Prop:=∀p∈w,S[p.1]?=some (some p.2)
open Classical in
def loop(w:List (Nat×List D))(g:M6)(b:BL):List D->BL
 |[],env,S=>if calm w S then some (.nx,env,S) else none
 |d::r,env,S=>if calm w S then (g d env).bind fun e=>(b e S).bind fun p=>match p.1 with
   |.nx=>loop w g b r p.2.1 p.2.2
   |.cnt=>loop w g b r p.2.1 p.2.2
   |.brk=>some (.nx,p.2.1,p.2.2)
   |.ret d=>some (.ret d,p.2.1,p.2.2)
  else none
def J7(it:M5)(g:M6)(b:BL):BL:=fun env S=>(it env S).bind fun p=>loop p.1.2 g b p.1.1 env p.2
def Mp(c:Fo)(b:BL):Nat->BL
 |0,_,_=>none
 |n+1,env,S=>(c env S).bind fun p=>if p.1=true then (b env p.2).bind fun q=>match q.1 with
   |.nx=>Mp c b n q.2.1 q.2.2
   |.cnt=>Mp c b n q.2.1 q.2.2
   |.brk=>some (.nx,q.2.1,q.2.2)
   |.ret d=>some (.ret d,q.2.1,q.2.2)
  else some (.nx,env,p.2)
def Gn(k:Nat)(caps:List Nat)(env:Env):Env:=U0l k none++caps.map fun j=>(env[j]?).join
open Classical in
def Gp(w:List (Nat×List D))(e0:Env)(g:M6)(t:Fo)(e:BX):List D->List D->Store->Option (List D×Store)
 |[],ys,S=>if calm w S/\ys.length<=1000000 then some (ys,S) else none
 |d::r,ys,S=>if calm w S/\ys.length<=1000000 then (g d e0).bind fun e1=>(t e1 S).bind fun p =>
   if p.1=true then (e e1 p.2).bind fun q=>Gp w e0 g t e r (ys++[q.1]) q.2 else Gp w e0 g t e r ys p.2
  else none
def Cw(k:Nat)(caps:List Nat)(it:M5)(g:M6)(t:Fo)(e:BX):Bm:=fun env S=>(it env S).bind fun p=>Gp p.1.2 (Gn k caps env) g t e p.1.1 [] p.2
def GQ:Fo:=fun _ S=>some (true,S)
def Bt(a:Bm):BX:=fun env S=>(a env S).bind fun p=>some (.lst true p.1,p.2)
def Gs(a:Bm):BX:=fun env S=>(a env S).bind fun p=>some (.ref p.2.length,p.2++[some p.1])
def Bq(a:Bm):BX:=fun env S=>(a env S).bind fun p=>some (.tup p.1,p.2)
def wpE(K:U0b)(f:BX):TE:=fun σ H Q=>∃Γ μ env S d S',Γ.K=K/\Rep Γ μ σ H env S/\f env S=some (d,S')/\∀v μ' H',Ext μ H μ' H'->Rep Γ μ' σ H' env S'->VR Γ μ' H' v d->Q v H'
def wpA(K:U0b)(f:Bm):TA:=fun σ H Q=>∃Γ μ env S d S',Γ.K=K/\Rep Γ μ σ H env S/\f env S=some (d,S')/\∀v μ' H',Ext μ H μ' H'->Rep Γ μ' σ H' env S'->VRs Γ μ' H' v d->Q v H'
def wpT(K:U0b)(f:Fo):TT:=fun σ H Q=>∃Γ μ env S b S',Γ.K=K/\Rep Γ μ σ H env S/\f env S=some (b,S')/\∀μ' H',Ext μ H μ' H'->Rep Γ μ' σ H' env S'->Q b H'
def wpO(K:U0b)(f:Vv):TO:=fun σ H Q=>∃Γ μ env S b S',Γ.K=K/\Rep Γ μ σ H env S/\f env S=some (b,S')/\∀μ' H',Ext μ H μ' H'->Rep Γ μ' σ H' env S'->Q b H'
def FlQ(Γ:Fr)(μ:Mu)(E:Ends)(σ:St)(H:Hp):Fl->Prop
 |.nx=>E.nx σ H
 |.brk=>E.bk σ H
 |.cnt=>E.ct σ H
 |.ret d=>∀v,VR Γ μ H v d->E.rt v H
def wpS(K:U0b)(f:BL):TS:=fun E σ H=>∃Γ μ env S fl env' S',Γ.K=K/\Rep Γ μ σ H env S/\f env S=some (fl,env',S')/\∀μ' σ' H',Ext μ H μ' H'->Rep Γ μ' σ' H' env' S'->FlQ Γ μ' E σ' H' fl
structure Xq(Γ:Fr)(μ:Mu)(H:Hp)(J:It)(ds:List D)(w:List (Nat×List D)):Prop where
 step:∀(i:Nat)(d:D)(μ':Mu)(H':Hp)(σ':St)(env':Env)(S':Store),ds[i]?=some d->Ext μ H μ' H'->Rep Γ μ' σ' H' env' S'->calm w S'->J.go i H'/\∀x H'',J.yld i H' x H''->Same H' H''/\VR Γ μ' H'' x d
 stop:∀(μ':Mu)(H':Hp)(σ':St)(env':Env)(S':Store),Ext μ H μ' H'->Rep Γ μ' σ' H' env' S'->calm w S'->J.stop ds.length H'
def wpI(K:U0b)(f:M5):TI:=fun σ H R=>∃Γ μ env S ds w S',Γ.K=K/\Rep Γ μ σ H env S/\f env S=some ((ds,w),S')/\∀J μ' H',Ext μ H μ' H'->Rep Γ μ' σ H' env S'->Xq Γ μ' H' J ds w->R J H'
structure JE(X:Cx)(e:Expr)(f:BX):Prop where
 pe:PE X e (wpE X.K f)
structure JA(X:Cx)(es:List Expr)(f:Bm):Prop where
 pa:PA X es (wpA X.K f)
structure JT(X:Cx)(e:Expr)(f:Fo):Prop where
 pt:PT X e (wpT X.K f)
structure JW(X:Cx)(e:Expr)(f:Fo):Prop where
 pw:PW X e (wpT X.K f)
structure JO(X:Cx)(e:Option Expr)(f:Vv):Prop where
 po:PO X e (wpO X.K f)
structure JS(X:Cx)(st:Stmt)(f:BL):Prop where
 ps:PS X st (wpS X.K f)
structure JSs(X:Cx)(sts:List Stmt)(f:BL):Prop where
 ps:PSs X sts (wpS X.K f)
structure JI(X:Cx)(tg e:Expr)(f:M5):Prop where
 pi:PI X tg e (wpI X.K f)
structure JG(X:Cx)(tg:Expr)(p:Pat):Prop where
 pg:PG X tg (p.raw X.K)
structure JGs(X:Cx)(tgs:List Expr)(ps:List Pat):Prop where
 pg:PGs X tgs (Ly X.K ps)
structure JTs(X:Cx)(es:List Expr)(f:Fo):Prop where
 pt:PTs X es (wpT X.K f)
section
variable{X:Cx}
theorem PE.imp{e:Expr}{t t':TE}(h:PE X e t)(k:∀σ H Q,t' σ H Q->t σ H Q):PE X e t':=fun pins s σ H Q I q=>h pins s σ H Q I (k σ H Q q)
theorem PT.imp{e:Expr}{t t':TT}(h:PT X e t)(k:∀σ H Q,t' σ H Q->t σ H Q):PT X e t':=fun pins s σ H Q I q=>h pins s σ H Q I (k σ H Q q)
theorem PW.imp{e:Expr}{t t':TT}(h:PW X e t)(k:∀σ H Q,t' σ H Q->t σ H Q):PW X e t':=fun w pins s σ H Q I q=>h w pins s σ H Q I (k σ H Q q)
theorem PTs.imp{e:List Expr}{t t':TT}(h:PTs X e t)(k:∀σ H Q,t' σ H Q->t σ H Q):PTs X e t':=fun pins s σ H Q I q=>h pins s σ H Q I (k σ H Q q)
theorem PA.imp{e:List Expr}{t t':TA}(h:PA X e t)(k:∀σ H Q,t' σ H Q->t σ H Q):PA X e t':=fun p pins s σ H Q I q=>h p pins s σ H Q I (k σ H Q q)
theorem PO.imp{e:Option Expr}{t t':TO}(h:PO X e t)(k:∀σ H Q,t' σ H Q->t σ H Q):PO X e t':=fun pins s σ H Q I q=>h pins s σ H Q I (k σ H Q q)
theorem PS.imp{e:Stmt}{t t':TS}(h:PS X e t)(k:∀E σ H,t' E σ H->t E σ H):PS X e t':=fun pins s σ H E I q=>h pins s σ H E I (k E σ H q)
theorem PSs.imp{e:List Stmt}{t t':TS}(h:PSs X e t)(k:∀E σ H,t' E σ H->t E σ H):PSs X e t':=fun pins s σ H E I q=>h pins s σ H E I (k E σ H q)
theorem PI.imp{tg e:Expr}{t t':TI}(h:PI X tg e t)(k:∀σ H R,t' σ H R->t σ H R):PI X tg e t':=fun pins s σ H R I q=>h pins s σ H R I (k σ H R q)
theorem bind_some{α β:Type}{a:Option α}{f:α->Option β}{b:β}(h:a.bind f=some b):∃x,a=some x/\f x=some b:=by
 cases a with
 |none=>cases h
 |some x=>exact⟨x,rfl,h⟩
theorem map_some{α β:Type}{a:Option α}{f:α->β}{b:β}(h:a.map f=some b):∃x,a=some x/\f x=b:=by
 cases a with
 |none=>cases h
 |some x=>exact⟨x,rfl,U1c h⟩
def HD(K:U0b)(r:R2)(g:Store->D->D->Option D):Prop:=∀(Γ:Fr)(μ:Mu)(σ:St)(H:Hp)(env:Env)(S:Store)(x y:V)(dx dy d:D),Γ.K=K->Rep Γ μ σ H env S->VR Γ μ H x dx->VR Γ μ H y dy->g S dx dy=some d ->
 ∀Q:VK,(∀v H',Same H H'->VR Γ μ H' v d->Q v H')->r x y H Q
def xu(K:U0b)(r:V->Hp->VK->Prop)(g:Store->D->Option D):Prop:=∀(Γ:Fr)(μ:Mu)(σ:St)(H:Hp)(env:Env)(S:Store)(x:V)(dx d:D),Γ.K=K->Rep Γ μ σ H env S->VR Γ μ H x dx->g S dx=some d ->
 ∀Q:VK,(∀v H',Same H H'->VR Γ μ H' v d->Q v H')->r x H Q
def Px(K:U0b)(r:List V->Hp->VK->Prop)(g:Store->List D->Option D):Prop:=∀(Γ:Fr)(μ:Mu)(σ:St)(H:Hp)(env:Env)(S:Store)(xs:List V)(ds:List D)(d:D),Γ.K=K->Rep Γ μ σ H env S->VRs Γ μ H xs ds->g S ds=some d ->
 ∀Q:VK,(∀v H',Same H H'->VR Γ μ H' v d->Q v H')->r xs H Q
def sS(K:U0b)(r:V->Option Int->Option Int->Hp->VK->Prop)(g:Store->D->Option Int->Option Int->Option D):Prop:=∀(Γ:Fr)(μ:Mu)(σ:St)(H:Hp)(env:Env)(S:Store)(x:V)(dx d:D)(l h:Option Int),Γ.K=K->Rep Γ μ σ H env S->VR Γ μ H x dx->g S dx l h=some d ->
 ∀Q:VK,(∀v H',Same H H'->VR Γ μ H' v d->Q v H')->r x l h H Q
theorem ZL{K:U0b}{r:R2}{g:Store->D->D->Option D}{fa fb:BX}(hs:HD K r g){σ:St}{H:Hp}{Q:VK}(h:wpE K (eOp g fa fb) σ H Q):tOp r (wpE K fa) (wpE K fb) σ H Q:=by
 obtain⟨Γ,μ,env,S,d,S',hK,R,e,q⟩:=h
 obtain⟨⟨x,S1⟩,e1,e⟩:=bind_some e
 obtain⟨⟨y,S2⟩,e2,e⟩:=bind_some e
 obtain⟨z,e3,e⟩:=map_some e
 cases e
 refine⟨Γ,μ,env,S,x,S1,hK,R,e1,fun v1 μ1 H1 x1 R1 r1=>?_⟩
 refine⟨Γ,μ1,env,S1,y,S2,hK,R1,e2,fun v2 μ2 H2 x2 R2 r2=>?_⟩
 refine hs Γ μ2 σ H2 env S2 v1 v2 x y _ hK R2 (r1.ext x2) r2 e3 Q fun v H' sm rv=>?_
 obtain⟨R3,x3⟩:=R2.grow sm
 exact q v μ2 H' (x1.trans (x2.trans x3)) R3 rv
theorem Ba{op:Operator}{r:R2}{g:Store->D->D->Option D}{a b:Expr}{fa fb:BX}{pos:Pos}(ho:OpR X (binaryOp op) r)(hs:HD X.K r g)(ha:JE X a fa)(hb:JE X b fb):JE X (.BinOp a op b pos) (eOp g fa fb) :=
 ⟨PE.imp (sE ho ha.pe hb.pe) fun _ _ _ h=>ZL hs h⟩
theorem Q6{op:CmpOp}{r:R2}{g:Store->D->D->Option D}{a b:Expr}{fa fb:BX}{pos:Pos}(ho:OpR X (compareOp op) r)(hs:HD X.K r g)(ha:JE X a fa)(hb:JE X b fb)(hm:behindInMarks op b=false):JE X (.Compare a [op] [b] pos) (eOp g fa fb) :=
 ⟨PE.imp (gC ho ha.pe hb.pe hm) fun _ _ _ h=>ZL hs h⟩
theorem Bw{r:R2}{g:Store->D->D->Option D}{a b:Expr}{fa fb:BX}{pos:Pos}(ho:IxR X r)(hs:HD X.K r g)(ha:JE X a fa)(hb:JE X b fb)(hp:V9 b):JE X (.Subscript a b pos) (eOp g fa fb) :=
 ⟨PE.imp (Ja9 ho ha.pe hb.pe hp) fun _ _ _ h=>ZL hs h⟩
theorem Mg{op:UnaryOp}{r:V->Hp->VK->Prop}{g:Store->D->Option D}{a:Expr}{fa:BX}{pos:Pos}(ho:UnR X (unaryOp op) r)(hs:xu X.K r g)(ha:JE X a fa):JE X (.UnaryOp op a pos) (eUn g fa) :=
 ⟨PE.imp (Ja8 ho ha.pe) fun σ H Q h=>by
  obtain⟨Γ,μ,env,S,d,S',hK,R,e,q⟩:=h
  obtain⟨⟨x,S1⟩,e1,e⟩:=bind_some e
  obtain⟨z,e3,e⟩:=map_some e
  cases e
  refine⟨Γ,μ,env,S,x,S1,hK,R,e1,fun v1 μ1 H1 x1 R1 r1=>?_⟩
  refine hs Γ μ1 σ H1 env S1 v1 x _ hK R1 r1 e3 Q fun v H' sm rv=>?_
  obtain⟨R3,x3⟩:=R1.grow sm
  exact q v μ1 H' (x1.trans x3) R3 rv⟩
theorem Ad(i:Nat){x:Str}{pos:Pos}(hN:X.N[i]?=some x:=by rfl)(hv:Vis X.env.scope x:=by first|exact U78 rfl|exact U7i (U78 rfl)|exact U7i (U7i rfl))(hd:(x==("__debug__":Str))=false:=by decide)
  (hcd:(x==("__classdict__":Str))=false:=by decide):JE X (.Name x pos) (Ab i) :=
 ⟨PE.imp (jj hN hv hd hcd) fun σ H Q h=>by
  obtain⟨Γ,μ,env,S,d,S',hK,R,e,q⟩:=h
  obtain⟨d',e1,e⟩:=map_some e
  cases e
  have e1':env[i]?=some (some d):=by
   cases h:env[i]? with
   |none=>rw[h] at e1;cases e1
   |some o=>rw[h] at e1;exact congrArg some e1
  obtain⟨v,h1,h2⟩:=R.vals i d e1'
  exact⟨v,h1,q v μ H (Ext.refl _ _) R h2⟩⟩
theorem nZ{K:U0b}{v:V}{d:D}(h:∀Γ μ H,VR Γ μ H v d){σ:St}{H:Hp}{Q:VK}(w:wpE K (eC d) σ H Q):tC v σ H Q:=by
 obtain⟨Γ,μ,env,S,d',S',hK,R,e,q⟩:=w
 cases e
 exact q v μ H (Ext.refl _ _) R (h Γ μ H)
theorem Ah{i j pos}:JE X (.Constant (.int i) j pos) (eC (.int i)):=⟨PE.imp Te fun _ _ _=>nZ fun _ _ _=>.int i⟩
theorem Rt{b j pos}:JE X (.Constant (.bool b) j pos) (eC (.bl b)):=⟨PE.imp Jbb fun _ _ _=>nZ fun _ _ _=>.bl b⟩
theorem Mh{n:String}{x:Str}{pos:Pos}(hg:Gl X x)(hm:X.mg x=none)(hv:bootBuiltins x=some (.type n))(hn:x≠"__name__":=by decide)(hd:(x==("__debug__":Str))=false:=by decide):JE X (.Name x pos) (eC (.ty n)) :=
 ⟨PE.imp (uR (v:=.ty n) hg hm hv rfl hn hd) fun _ _ _=>nZ fun _ _ _=>.ty n⟩
theorem Ag:JA X [] Ae:=⟨PA.imp Tf fun σ H Q h=>by
 obtain⟨Γ,μ,env,S,d,S',hK,R,e,q⟩:=h
 cases e
 exact q [] μ H (Ext.refl _ _) R .nil⟩
theorem Ac{e:Expr}{es:List Expr}{f:BX}{r:Bm}(ha:JE X e f)(hr:JA X es r)(hs:starEach (e::es) X.env=(false,eval e X.env)::starEach es X.env:=by rfl):JA X (e::es) (Aa f r) :=
 ⟨PA.imp (RZ ha.pe hr.pa hs) fun σ H Q h=>by
  obtain⟨Γ,μ,env,S,d,S',hK,R,e,q⟩:=h
  obtain⟨⟨x,S1⟩,e1,e⟩:=bind_some e
  obtain⟨⟨y,S2⟩,e2,e⟩:=bind_some e
  cases e
  refine⟨Γ,μ,env,S,x,S1,hK,R,e1,fun v1 μ1 H1 x1 R1 r1=>?_⟩
  refine⟨Γ,μ1,env,S1,y,S2,hK,R1,e2,fun v2 μ2 H2 x2 R2 r2=>?_⟩
  exact q _ μ2 H2 (x1.trans x2) R2 (.cons (r1.ext x2) r2)⟩
theorem big{n:Nat}(h:n<=1000000):n<sizeLine:=U44 h (by decide)
theorem yF{K:U0b}{f:Bm}{σ:St}{H:Hp}{Q:VK}(hl:∀env S p,f env S=some p->p.1.length<=1000000)(h:wpE K (Bq f) σ H Q):wj (wpA K f) σ H Q:=by
 obtain⟨Γ,μ,env,S,d,S',hK,R,e,q⟩:=h
 obtain⟨⟨x,S1⟩,e1,e⟩:=bind_some e
 cases e
 refine⟨Γ,μ,env,S,x,S1,hK,R,e1,fun vs μ1 H1 x1 R1 r1=>⟨by rw[r1.length];exact U2w (big (hl _ _ _ e1)),fun p hp=>?_⟩⟩
 have sm:=Df hp (.tup vs)
 obtain⟨R2,x2⟩:=R1.grow sm
 exact q _ μ1 _ (x1.trans x2) R2 (.tup Cq (r1.ext x2))
def Few(n:Nat)(f:Bm):Prop:=∀env S p,f env S=some p->p.1.length<=n
theorem Az:Few 0 Ae:=fun env S p h=>by cases h;exact U0t _
theorem Ai{n:Nat}{f:BX}{r:Bm}(h:Few n r):Few (n+1) (Aa f r):=fun env S p e=>by
 obtain⟨⟨x,S1⟩,e1,e⟩:=bind_some e
 obtain⟨⟨y,S2⟩,e2,e⟩:=bind_some e
 cases e
 have:=h _ _ _ e2
 show(x::y).length<=n+1
 rw[U0j]
 exact Nat.succ_le_succ this
theorem Cj{es:List Expr}{f:Bm}{x1:Nat}{pos:Pos}{n:Nat}(h:JA X es f)(hf:Few n f)(hn:n<=1000000:=by decide):JE X (.Tuple es x1 pos) (Bq f):=⟨PE.imp (yq h.pa) fun _ _ _ w=>yF (fun env S p e=>U1a (hf env S p e) hn) w⟩
theorem FN{es:List Expr}{f:Bm}{pos:Pos}{n:Nat}(h:JA X es f)(hf:Few n f)(hn:n<=1000000:=by decide):JE X (.List es pos) (Bt f):=⟨PE.imp (jk h.pa) fun σ H Q w=>by
 obtain⟨Γ,μ,env,S,d,S',hK,R,e,q⟩:=w
 obtain⟨⟨x,S1⟩,e1,e⟩:=bind_some e
 cases e
 refine⟨Γ,μ,env,S,x,S1,hK,R,e1,fun vs μ1 H1 x1 R1 r1=>⟨by rw[r1.length];exact U2w (big (U1a (hf _ _ _ e1) hn)),fun p hp=>?_⟩⟩
 obtain⟨R2,x2⟩:=R1.grow (Df hp (.lst vs))
 exact q _ μ1 _ (x1.trans x2) R2 (.lst (R1.ok hp true) (R1.dead hp) Cq (r1.ext x2))⟩
theorem Jb{es:List Expr}{f:Bm}{pos:Pos}{n:Nat}(h:JA X es f)(hf:Few n f)(hn:n<=1000000:=by decide):JE X (.List es pos) (Gs f):=⟨PE.imp (jk h.pa) fun σ H Q w=>by
 obtain⟨Γ,μ,env,S,d,S',hK,R,e,q⟩:=w
 obtain⟨⟨x,S1⟩,e1,e⟩:=bind_some e
 cases e
 refine⟨Γ,μ,env,S,x,S1,hK,R,e1,fun vs μ1 H1 x1 R1 r1=>⟨by rw[r1.length];exact U2w (big (U1a (hf _ _ _ e1) hn)),fun p hp=>?_⟩⟩
 obtain⟨R2,x2⟩:=R1.laid hp r1
 exact q _ _ _ (x1.trans x2) R2 (.ref (by rw[U0r,R1.slen];simp) fun a h=>by
  rw[R1.slen] at h
  simp at h
  rw[h])⟩
end
end VS
end
section
namespace VS
open PySem PySem.Spec L2
section
variable{X:Cx}{a b c:Expr}{fa fb fc:BX}{pos:Pos}{rest:List Expr}
theorem Ti{op}(h:JE X a fa):JE X (.BoolOp op [a] pos) fa:=⟨yr h.pe⟩
theorem Q7(ha:JE X a fa)(hb:JE X (.BoolOp .And (b::rest) pos) fb):JE X (.BoolOp .And (a::b::rest) pos) (Rq fa fb):=⟨PE.imp (yw ha.pe hb.pe) fun σ H Q h=>by
 obtain⟨Γ,μ,env,S,d,S',hK,R,e,q⟩:=h
 obtain⟨⟨x,S1⟩,e1,e⟩:=bind_some e
 refine⟨Γ,μ,env,S,x,S1,hK,R,e1,fun v1 μ1 H1 x1 R1 r1=>?_⟩
 dsimp only at e
 split at e
 .cases r1
  exact⟨true,rfl,by rw[if_pos rfl];exact⟨Γ,μ1,env,S1,d,S',hK,R1,e,fun v μ' H' x' R' r'=>q v μ' H' (x1.trans x') R' r'⟩⟩
 .cases r1
  cases e
  exact⟨false,rfl,by rw[if_neg U1g];exact q _ μ1 H1 x1 R1 (.bl false)⟩
 .cases e⟩
theorem jq(ha:JE X a fa):JE X (.UnaryOp .Not a pos) (iI fa):=⟨PE.imp (yt ha.pe) fun σ H Q h=>by
 obtain⟨Γ,μ,env,S,d,S',hK,R,e,q⟩:=h
 obtain⟨⟨x,S1⟩,e1,e⟩:=bind_some e
 refine⟨Γ,μ,env,S,x,S1,hK,R,e1,fun v1 μ1 H1 x1 R1 r1=>?_⟩
 dsimp only at e
 split at e
 .rename_i c
  cases r1
  cases e
  exact⟨c,rfl,q _ μ1 H1 x1 R1 (.bl _)⟩
 .cases e⟩
theorem Iz{e:Expr}(h:JE X e fa)(he:∀whole,isTrue e X.env whole=(do let v ←whole;standAt e.pos;holding [v] (truthy v)):=by intro _;rfl):JT X e (BK fa):=⟨PT.imp (yW h.pe he) fun σ H Q h=>by
 obtain⟨Γ,μ,env,S,d,S',hK,R,e,q⟩:=h
 obtain⟨⟨x,S1⟩,e1,e⟩:=bind_some e
 refine⟨Γ,μ,env,S,x,S1,hK,R,e1,fun v1 μ1 H1 x1 R1 r1=>?_⟩
 dsimp only at e
 split at e
 .rename_i c
  cases r1
  cases e
  exact⟨_,rfl,q μ1 H1 x1 R1⟩
 .cases e⟩
theorem fL{K:U0b}{f:BX}{t:TE}(ht:∀σ H Q,wpE K f σ H Q->t σ H Q){σ:St}{H:Hp}{Q:Bool->Hp->Prop}(h:wpT K (BK f) σ H Q):iU t σ H Q:=by
 obtain⟨Γ,μ,env,S,d,S',hK,R,e,q⟩:=h
 obtain⟨⟨x,S1⟩,e1,e⟩:=bind_some e
 refine ht σ H _ ⟨Γ,μ,env,S,x,S1,hK,R,e1,fun v1 μ1 H1 x1 R1 r1=>?_⟩
 dsimp only at e
 split at e
 .cases r1
  cases e
  exact⟨_,rfl,q μ1 H1 x1 R1⟩
 .cases e
theorem DR{op:CmpOp}{r:R2}{g:Store->D->D->Option D}(ho:OpR X (compareOp op) r)(hs:HD X.K r g)(ha:JE X a fa)(hb:JE X b fb)(hm:behindInMarks op b=false):JT X (.Compare a [op] [b] pos) (BK (eOp g fa fb)) :=
 ⟨PT.imp (uF ho ha.pe hb.pe hm) fun σ H Q h=>fL (fun _ _ _=>ZL hs) h⟩
theorem oJ{K:U0b}{r r':R2}{g g':Store->D->D->Option D}(hs:HD K r g)(hs':HD K r' g'){σ:St}{H:Hp}{Q:VK}(h:wpE K (Tn g g' fa fb fc) σ H Q):jc r r' (wpE K fa) (wpE K fb) (wpE K fc) σ H Q:=by
 obtain⟨Γ,μ,env,S,d,S',hK,R,e,q⟩:=h
 obtain⟨⟨x,S1⟩,e1,e⟩:=bind_some e
 obtain⟨⟨y,S2⟩,e2,e⟩:=bind_some e
 obtain⟨z,e3,e⟩:=bind_some e
 refine⟨Γ,μ,env,S,x,S1,hK,R,e1,fun v1 μ1 H1 x1 R1 r1=>?_⟩
 refine⟨Γ,μ1,env,S1,y,S2,hK,R1,e2,fun v2 μ2 H2 x2 R2 r2=>?_⟩
 refine hs Γ μ2 σ H2 env S2 v1 v2 x y _ hK R2 (r1.ext x2) r2 e3 _ fun v H3 sm rv=>?_
 obtain⟨R3,x3⟩:=R2.grow sm
 dsimp only at e
 split at e
 .cases rv
  refine⟨true,rfl,?_⟩
  rw[if_pos rfl]
  obtain⟨⟨u,S3⟩,e4,e⟩:=bind_some e
  obtain⟨w,e5,e⟩:=map_some e
  cases e
  refine⟨Γ,μ2,env,S2,u,S3,hK,R3,e4,fun v4 μ4 H4 x4 R4 r4=>?_⟩
  refine hs' Γ μ4 σ H4 env S3 v2 v4 y u _ hK R4 (r2.ext (x3.trans x4)) r4 e5 _ fun v5 H5 sm5 rv5=>?_
  obtain⟨R5,x5⟩:=R4.grow sm5
  exact q v5 μ4 H5 (x1.trans (x2.trans (x3.trans (x4.trans x5)))) R5 rv5
 .cases rv
  cases e
  refine⟨false,rfl,?_⟩
  rw[if_neg U1g]
  exact q _ μ2 H3 (x1.trans (x2.trans x3)) R3 (.bl false)
 .cases e
theorem bC{op op':CmpOp}{r r':R2}{g g':Store->D->D->Option D}(ho:OpR X (compareOp op) r)(hs:HD X.K r g)(ho':OpR X (compareOp op') r')(hs':HD X.K r' g')(ha:JE X a fa)(hb:JE X b fb)(hc:JE X c fc)
  (hm:lastMarks [op,op'] [b,c]=false:=by with_unfolding_all rfl):JT X (.Compare a [op,op'] [b,c] pos) (BK (Tn g g' fa fb fc)):=⟨PT.imp (pX ho ho' ha.pe hb.pe hc.pe hm) fun _ _ _ h=>fL (fun _ _ _=>oJ hs hs') h⟩
variable{ta tb:Fo}
theorem JL(h:JW X a ta):JT X a ta:=⟨h.pw.pt⟩
theorem Ni(ha:JT X a ta):JW X (.BoolOp .And [a] pos) ta:=⟨u9 ha.pt⟩
theorem Ms(ha:JT X a ta):JW X (.BoolOp .Or [a] pos) ta:=⟨yU ha.pt⟩
theorem O6(ha:JT X a ta)(hb:JW X (.BoolOp .And (b::rest) pos) tb):JW X (.BoolOp .And (a::b::rest) pos) (Ii ta tb):=⟨PW.imp (yV ha.pt hb.pw) fun σ H Q h=>by
 obtain⟨Γ,μ,env,S,d,S',hK,R,e,q⟩:=h
 obtain⟨⟨x,S1⟩,e1,e⟩:=bind_some e
 refine⟨Γ,μ,env,S,x,S1,hK,R,e1,fun μ1 H1 x1 R1=>?_⟩
 dsimp only at e
 by_cases hx:x=true
 .rw[if_pos hx] at e ⊢
  exact⟨Γ,μ1,env,S1,d,S',hK,R1,e,fun μ' H' x' R'=>q μ' H' (x1.trans x') R'⟩
 .rw[if_neg hx] at e ⊢
  cases e
  exact q μ1 H1 x1 R1⟩
theorem Lf(ha:JT X a ta)(hb:JW X (.BoolOp .Or (b::rest) pos) tb):JW X (.BoolOp .Or (a::b::rest) pos) (tOr ta tb):=⟨PW.imp (Ja6 ha.pt hb.pw) fun σ H Q h=>by
 obtain⟨Γ,μ,env,S,d,S',hK,R,e,q⟩:=h
 obtain⟨⟨x,S1⟩,e1,e⟩:=bind_some e
 refine⟨Γ,μ,env,S,x,S1,hK,R,e1,fun μ1 H1 x1 R1=>?_⟩
 dsimp only at e
 by_cases hx:x=true
 .rw[if_pos hx] at e ⊢
  cases e
  exact q μ1 H1 x1 R1
 .rw[if_neg hx] at e ⊢
  exact⟨Γ,μ1,env,S1,d,S',hK,R1,e,fun μ' H' x' R'=>q μ' H' (x1.trans x') R'⟩⟩
theorem JV(ha:JT X a ta):JT X (.UnaryOp .Not a pos) (Hy ta):=⟨PT.imp (yX ha.pt) fun σ H Q h=>by
 obtain⟨Γ,μ,env,S,d,S',hK,R,e,q⟩:=h
 obtain⟨⟨x,S1⟩,e1,e⟩:=bind_some e
 cases e
 exact⟨Γ,μ,env,S,x,S1,hK,R,e1,fun μ1 H1 x1 R1=>q μ1 H1 x1 R1⟩⟩
theorem GJ:JTs X [] GQ:=⟨PTs.imp uE fun σ H Q h=>by
 obtain⟨Γ,μ,env,S,d,S',hK,R,e,q⟩:=h
 cases e
 exact q μ H (Ext.refl _ _) R⟩
theorem Ra(h:JT X c ta):JTs X [c] ta:=⟨uD h.pt⟩
variable{lo hi:Option Expr}{ol oh:Vv}{p2:Pos}
theorem Rc:JO X none Ke:=⟨PO.imp uK fun σ H Q h=>by
 obtain⟨Γ,μ,env,S,d,S',hK,R,e,q⟩:=h
 cases e
 exact q μ H (Ext.refl _ _) R⟩
theorem Rb(h:JE X a fa):JO X (some a) (Kd fa):=⟨PO.imp (uJ h.pe) fun σ H Q h=>by
 obtain⟨Γ,μ,env,S,d,S',hK,R,e,q⟩:=h
 obtain⟨⟨x,S1⟩,e1,e⟩:=bind_some e
 refine⟨Γ,μ,env,S,x,S1,hK,R,e1,fun v1 μ1 H1 x1 R1 r1=>?_⟩
 dsimp only at e
 split at e
 .cases r1
  cases e
  exact⟨_,rfl,q μ1 H1 x1 R1⟩
 .cases e⟩
theorem QH{r:V->Option Int->Option Int->Hp->VK->Prop}{g:Store->D->Option Int->Option Int->Option D}(hr:SlR X r)(hs:sS X.K r g)(ha:JE X a fa)(hl:JO X lo ol)(hh:JO X hi oh) :
  JE X (.Subscript a (.Slice lo hi none p2) pos) (eSl g fa ol oh):=⟨PE.imp (qI hr ha.pe hl.po hh.po) fun σ H Q h=>by
 obtain⟨Γ,μ,env,S,d,S',hK,R,e,q⟩:=h
 obtain⟨⟨x,S1⟩,e1,e⟩:=bind_some e
 obtain⟨⟨l,S2⟩,e2,e⟩:=bind_some e
 obtain⟨⟨u,S3⟩,e3,e⟩:=bind_some e
 obtain⟨z,e4,e⟩:=map_some e
 cases e
 refine⟨Γ,μ,env,S,x,S1,hK,R,e1,fun v1 μ1 H1 x1 R1 r1=>?_⟩
 refine⟨Γ,μ1,env,S1,l,S2,hK,R1,e2,fun μ2 H2 x2 R2=>?_⟩
 refine⟨Γ,μ2,env,S2,u,S3,hK,R2,e3,fun μ3 H3 x3 R3=>?_⟩
 refine hs Γ μ3 σ H3 env S3 v1 x _ l u hK R3 (r1.ext (x2.trans x3)) e4 Q fun v H' sm rv=>?_
 obtain⟨R4,x4⟩:=R3.grow sm
 exact q v μ3 H' (x1.trans (x2.trans (x3.trans x4))) R4 rv⟩
theorem rP{K:U0b}{r:List V->Hp->VK->Prop}{g:Store->List D->Option D}{f:Bm}(hs:Px K r g){σ:St}{H:Hp}{Q:VK}(h:wpE K (eCB g f) σ H Q):tCB r (wpA K f) σ H Q:=by
 obtain⟨Γ,μ,env,S,d,S',hK,R,e,q⟩:=h
 obtain⟨⟨x,S1⟩,e1,e⟩:=bind_some e
 obtain⟨z,e4,e⟩:=map_some e
 cases e
 refine⟨Γ,μ,env,S,x,S1,hK,R,e1,fun v1 μ1 H1 x1 R1 r1=>?_⟩
 refine hs Γ μ1 σ H1 env S1 v1 x _ hK R1 r1 e4 Q fun v H' sm rv=>?_
 obtain⟨R4,x4⟩:=R1.grow sm
 exact q v μ1 H' (x1.trans x4) R4 rv
variable{x:Str}{p:Pos}{e:Expr}{es:List Expr}{id T:String}{f:Bm}
theorem CP{r:List V->Hp->VK->Prop}{g:Store->List D->Option D}(hc:Eb X (.builtin id) r)(hsm:Px X.K r g)(hg:Gl X x)(hm:X.mg x=none)(hv:bootBuiltins x=some (.builtin id))(ha:JA X (e::es) f)(hn:x≠"__name__":=by decide)(hdb:(x==("__debug__":Str))=false:=by decide)
  (he:starEach (e::es) X.env=(false,eval e X.env)::starEach es X.env:=by rfl) (hpl:(backTo pos (starEach es X.env)).any (·.1)=false:=by rfl):JE X (.Call (.Name x p) (e::es) [] pos) (eCB g f) :=
 ⟨PE.imp (aZ hc hg hm hv ha.pa hn hdb he hpl) fun _ _ _ h=>rP hsm h⟩
theorem O8{r:List V->Hp->VK->Prop}{g:Store->List D->Option D}(hc:Eb X (.type T) r)(hsm:Px X.K r g)(hg:Gl X x)(hm:X.mg x=none)(hv:bootBuiltins x=some (.type T))(ha:JA X (e::es) f)(hn:x≠"__name__":=by decide)(hdb:(x==("__debug__":Str))=false:=by decide)
  (he:starEach (e::es) X.env=(false,eval e X.env)::starEach es X.env:=by rfl) (hpl:(backTo pos (starEach es X.env)).any (·.1)=false:=by rfl):JE X (.Call (.Name x p) (e::es) [] pos) (eCB g f) :=
 ⟨PE.imp (MP hc hg hm hv ha.pa hn hdb he hpl) fun _ _ _ h=>rP hsm h⟩
end
section
variable{X:Cx}{st:Stmt}{sts:List Stmt}{f g:BL}{fa:BX}{a:Expr}{pos:Pos}{K:U0b}
theorem Jar{E:Ends}{σ:St}{H:Hp}{fl:Fl}(h:wpS K (fun env S=>some (fl,env,S)) E σ H):∃Γ μ,FlQ Γ μ E σ H fl:=by
 obtain⟨Γ,μ,env,S,fl',env',S',hK,R,e,q⟩:=h
 cases e
 exact⟨Γ,μ,q μ σ H (Ext.refl _ _) R⟩
theorem EY:JSs X [] Ed:=⟨PSs.imp uH fun E σ H h=>let ⟨_,_,q⟩:=Jar (fl:=.nx) h;q⟩
theorem QG:JS X st Mq:=⟨PS.imp qC fun E σ H h=>by obtain⟨_,_,_,_,_,_,_,_,_,e,_⟩:=h;cases e⟩
theorem Am(h1:JS X st f)(h2:JSs X sts g):JSs X (st::sts) (Bh f g):=⟨PSs.imp (pY h1.ps h2.ps) fun E σ H h=>by
 obtain⟨Γ,μ,env,S,fl,env',S',hK,R,e,q⟩:=h
 obtain⟨⟨fl1,env1,S1⟩,e1,e⟩:=bind_some e
 refine⟨Γ,μ,env,S,fl1,env1,S1,hK,R,e1,fun μ1 σ1 H1 x1 R1=>?_⟩
 dsimp only at e
 cases fl1 with
 |nx=>exact⟨Γ,μ1,env1,S1,fl,env',S',hK,R1,e,fun μ' σ' H' x' R'=>q μ' σ' H' (x1.trans x') R'⟩
 |brk=>cases e;exact q μ1 σ1 H1 x1 R1
 |cnt=>cases e;exact q μ1 σ1 H1 x1 R1
 |ret d=>cases e;exact q μ1 σ1 H1 x1 R1⟩
theorem Ax(h1:JS X st f):JSs X [st] f:=⟨uG h1.ps⟩
theorem GD(he:JE X a fa)(hs:swapsWith a none pos.line X.env=pure false:=by rfl):JS X (.Expr a pos) (GX fa):=⟨PS.imp (uI he.pe hs) fun E σ H h=>by
 obtain⟨Γ,μ,env,S,fl,env',S',hK,R,e,q⟩:=h
 obtain⟨⟨x,S1⟩,e1,e⟩:=bind_some e
 cases e
 exact⟨Γ,μ,env,S,x,S1,hK,R,e1,fun v1 μ1 H1 x1 R1 r1=>q μ1 σ H1 x1 R1⟩⟩
theorem CN(he:JE X a fa):JS X (.Return (some a) pos) (DN fa):=⟨PS.imp (yc he.pe) fun E σ H h=>by
 obtain⟨Γ,μ,env,S,fl,env',S',hK,R,e,q⟩:=h
 obtain⟨⟨x,S1⟩,e1,e⟩:=bind_some e
 cases e
 exact⟨Γ,μ,env,S,x,S1,hK,R,e1,fun v1 μ1 H1 x1 R1 r1=>q μ1 σ H1 x1 R1 v1 r1⟩⟩
theorem Fp{c:Expr}{A B:List Stmt}{tc:Fo}(hc:JT X c tc)(ha:JSs X A f)(hb:JSs X B g):JS X (.If c A B pos) (sIf tc f g):=⟨PS.imp (Ja7 hc.pt ha.ps hb.ps) fun E σ H h=>by
 obtain⟨Γ,μ,env,S,fl,env',S',hK,R,e,q⟩:=h
 obtain⟨⟨x,S1⟩,e1,e⟩:=bind_some e
 refine⟨Γ,μ,env,S,x,S1,hK,R,e1,fun μ1 H1 x1 R1=>?_⟩
 dsimp only at e
 by_cases hx:x=true
 .rw[if_pos hx] at e ⊢
  exact⟨Γ,μ1,env,S1,fl,env',S',hK,R1,e,fun μ' σ' H' x' R'=>q μ' σ' H' (x1.trans x') R'⟩
 .rw[if_neg hx] at e ⊢
  exact⟨Γ,μ1,env,S1,fl,env',S',hK,R1,e,fun μ' σ' H' x' R'=>q μ' σ' H' (x1.trans x') R'⟩⟩
theorem CV{i:Nat}{x:Str}{pos':Pos}(hN:X.N.Nodup)(he:JE X a fa)(hi:X.N[i]?=some x:=by rfl)(hx:Loc X.env.scope x:=by first|exact U78 rfl|exact U7i rfl)(hs:swapsWith a (some (.Name x pos')) pos.line X.env=pure false:=by rfl)
  (hf:X.fn x=true∨X.env.scope.names.lookup x=some .local:=by first|exact .inl rfl|exact .inr rfl|assumption):JS X (.Assign [.Name x pos'] a pos) (Bk i fa):=⟨PS.imp (yZ hN hi hx he.pe hs hf) fun E σ H h=>by
 obtain⟨Γ,μ,env,S,fl,env',S',hK,R,e,q⟩:=h
 obtain⟨⟨y,S1⟩,e1,e⟩:=bind_some e
 cases e
 exact⟨Γ,μ,env,S,y,S1,hK,R,e1,fun v1 μ1 H1 x1 R1 r1=>q μ1 _ H1 x1 (R1.iB i r1)⟩⟩
theorem BR{i:Nat}{x:Str}(hN:X.N.Nodup)(hi:X.N[i]?=some x:=by rfl)(hx:Loc X.env.scope x:=by first|exact U78 rfl|exact U7i rfl)
  (hf:X.fn x=true∨X.env.scope.names.lookup x=some .local:=by first|exact .inl rfl|exact .inr rfl|assumption):JG X (.Name x pos) (.nm i):=⟨by rw[Pat.raw];exact uN hN hi hx hf⟩
theorem Fi:JGs X [] []:=⟨by rw[Ly];exact uM⟩
theorem Bv{e:Expr}{es:List Expr}{t:Pat}{u:List Pat}(h1:JG X e t)(h2:JGs X es u)
  (hs:(assignEach (e::es) X.env).map (·.2)=assign e X.env::(assignEach es X.env).map (·.2):=by rfl):JGs X (e::es) (t::u):=⟨by rw[Ly];exact qH h1.pg h2.pg hs⟩
theorem Gf{es:List Expr}{k:Nat}{gs:List Pat}(hc:X.calm=true)(h:JGs X es gs)(hn:(assignEach es X.env).length=gs.length:=by rfl)(hst:(assignEach es X.env).findIdx? (·.1)=none:=by rfl):JG X (.Tuple es k pos) (.tp gs) :=
 ⟨by rw[Pat.raw];exact yj hc h.pg hn hst⟩
theorem zV{tg:Expr}{gg:Pat}(he:JE X a fa)(hg:JG X tg gg)(hs:swapsWithSole [tg] a pos.line X.env=pure false:=by rfl)(hw:swappedStores [tg] a X.env=pure none:=by rfl)
  (h1:(assignEach [tg] X.env).map (·.2)=[assign tg X.env]:=by rfl):JS X (.Assign [tg] a pos) (Ze fa gg.sem):=⟨PS.imp (ji he.pe hg.pg hs hw h1) fun E σ H h=>by
 obtain⟨Γ,μ,env,S,fl,env',S',hK,R,e,q⟩:=h
 obtain⟨⟨y,S1⟩,e1,e⟩:=bind_some e
 obtain⟨env1,e2,e⟩:=bind_some e
 cases e
 exact⟨Γ,μ,env,S,y,S1,hK,R,e1,fun v1 μ1 H1 x1 R1 r1=>gg.run X.K R1 r1 e2 fun σ' R'=>q μ1 σ' H1 x1 R'⟩⟩
theorem Ge{tg iter:Expr}{body:List Stmt}{it:M5}{gg:Pat}(hc:X.calm=true)(hi:JI X tg iter it)(hg:JG X tg gg)(hb:JSs X body f)(hp:PassesOwn (model X.prog X.w) X.A X.env X.xe)
  (hs:∀x,foldedSetIterable iter X.env x=pure x:=by intro _;rfl):JS X (.For tg iter body [] pos) (J7 it gg.sem f):=⟨PS.imp (yd hp hc hi.pi hg.pg hb.ps hs) fun E σ H h=>by
 obtain⟨Γ,μ,env,S,fl,env',S',hK,R,e,q⟩:=h
 obtain⟨⟨⟨ds,w⟩,S1⟩,e1,e⟩:=bind_some e
 refine⟨Γ,μ,env,S,ds,w,S1,hK,R,e1,fun J μ1 H1 x1 R1 ok=>?_⟩
 refine⟨fun i m σ2 H2=>∃μ2 env2 S2,m=ds.length-i/\i<=ds.length/\Ext μ1 H1 μ2 H2/\Rep Γ μ2 σ2 H2 env2 S2/\loop w gg.sem f (ds.drop i) env2 S2=some (fl,env',S'),⟨ds.length,μ1,env,S1,rfl,U3x _,Ext.refl _ _,R1,by rw[U54];exact e⟩,?_⟩
 rintro i m σ2 H2 ⟨μ2,env2,S2,rfl,hi,x2,R2,el⟩
 by_cases hlt:i<ds.length
 .rw[U20 hlt] at el
  unfold loop at el
  by_cases hcm:calm w S2
  .rw[if_pos hcm] at el
   obtain⟨env3,e3,el⟩:=bind_some el
   obtain⟨⟨fl4,env4,S4⟩,e4,el⟩:=bind_some el
   obtain⟨go,yl⟩:=ok.step i ds[i] μ2 H2 σ2 env2 S2 (U0i hlt) x2 R2 hcm
   refine .inr ⟨go,fun σ5 H5=>∃μ5 env5 S5,Ext μ1 H1 μ5 H5/\Rep Γ μ5 σ5 H5 env5 S5/\loop w gg.sem f (ds.drop (i+1)) env5 S5=some (fl,env',S'),fun σ5 H5 ⟨μ5,env5,S5,x5,R5,e5⟩=>⟨ds.length-(i+1),by omega,μ5,env5,S5,rfl,hlt,x5,R5,e5⟩,fun x H3 y=>?_⟩
   obtain⟨sm,rx⟩:=yl x H3 y
   obtain⟨R3,x3⟩:=R2.grow sm
   refine gg.run X.K R3 rx e3 fun σ3 R3'=>?_
   refine⟨Γ,μ2,env3,S2,fl4,env4,S4,hK,R3',e4,fun μ4 σ4 H4 x4 R4=>?_⟩
   have x14:=x2.trans (x3.trans x4)
   dsimp only at el
   cases fl4 with
   |nx=>exact⟨μ4,env4,S4,x14,R4,el⟩
   |cnt=>exact⟨μ4,env4,S4,x14,R4,el⟩
   |brk=>cases el;exact q μ4 σ4 H4 (x1.trans x14) R4
   |ret d=>cases el;exact q μ4 σ4 H4 (x1.trans x14) R4
  .rw[if_neg hcm] at el;cases el
 .have hi':i=ds.length:=by omega
  subst hi'
  rw[List.drop_length] at el
  unfold loop at el
  by_cases hcm:calm w S2
  .rw[if_pos hcm] at el
   cases el
   exact .inl ⟨ok.stop μ2 H2 σ2 _ _ x2 R2 hcm,q μ2 σ2 H2 (x1.trans x2) R2⟩
  .rw[if_neg hcm] at el;cases el⟩
theorem qd{c:Expr}{body:List Stmt}{tc:Fo}(n:Nat)(hp:PassesOwn (model X.prog X.w) X.A X.env X.xe)(hc:JT X c tc)(hb:JSs X body f):JS X (.While c body [] pos) (Mp tc f n):=⟨PS.imp (pZ hp hc.pt hb.ps) fun E σ H h=>by
 obtain⟨Γ,μ,env,S,fl,env',S',hK,R,e,q⟩:=h
 refine⟨fun m σ2 H2=>∃μ2 env2 S2,Ext μ H μ2 H2/\Rep Γ μ2 σ2 H2 env2 S2/\Mp tc f m env2 S2=some (fl,env',S'),⟨n,μ,env,S,Ext.refl _ _,R,e⟩,?_⟩
 rintro m σ2 H2 ⟨μ2,env2,S2,x2,R2,el⟩
 cases m with
 |zero=>cases el
 |succ m =>
  unfold Mp at el
  obtain⟨⟨b,S3⟩,e3,el⟩:=bind_some el
  refine⟨Γ,μ2,env2,S2,b,S3,hK,R2,e3,fun μ3 H3 x3 R3=>?_⟩
  dsimp only at el
  by_cases hb':b=true
  .rw[if_pos hb'] at el ⊢
   obtain⟨⟨fl4,env4,S4⟩,e4,el⟩:=bind_some el
   refine⟨fun σ5 H5=>∃μ5 env5 S5,Ext μ H μ5 H5/\Rep Γ μ5 σ5 H5 env5 S5/\Mp tc f m env5 S5=some (fl,env',S'),fun σ5 H5 ⟨μ5,env5,S5,x5,R5,e5⟩=>⟨m,U4v m,μ5,env5,S5,x5,R5,e5⟩,?_⟩
   refine⟨Γ,μ3,env2,S3,fl4,env4,S4,hK,R3,e4,fun μ4 σ4 H4 x4 R4=>?_⟩
   have x14:=x2.trans (x3.trans x4)
   dsimp only at el
   cases fl4 with
   |nx=>exact⟨μ4,env4,S4,x14,R4,el⟩
   |cnt=>exact⟨μ4,env4,S4,x14,R4,el⟩
   |brk=>cases el;exact q μ4 σ4 H4 x14 R4
   |ret d=>cases el;exact q μ4 σ4 H4 x14 R4
  .rw[if_neg hb'] at el ⊢
   cases el
   exact q μ3 σ2 H3 (x2.trans x3) R3⟩
end
end VS
end
section
namespace VS
open PySem PySem.Spec L2
theorem Rep.cap{Γ:Fr}{μ:Mu}{σ:St}{H:Hp}{env:Env}{S:Store}(R:Rep Γ μ σ H env S)(k:Nat)(caps:List Nat):Rep Γ μ (Kw k caps σ) H (Gn k caps env) S:=by
 refine⟨fun i d h=>?_,?_,R.sto,R.liv,R.inj,R.slen,R.ent,R.new⟩
 .unfold Gn at h
  by_cases hi:i<k
  .rw[U1e (by simpa using hi),U36,if_pos hi] at h
   cases h
  .rw[U2d (by simpa using hi),U1f,U0w] at h
   cases e:caps[i-k]? with
   |none=>rw[e] at h;cases h
   |some a =>
    rw[e] at h
    have h':(env[a]?).join=some d:=U1c h
    have h2:env[a]?=some (some d):=by
     cases q:env[a]? with
     |none=>rw[q] at h';cases h'
     |some o=>rw[q] at h';exact congrArg some h'
    obtain⟨v,h3,h4⟩:=R.vals a d h2
    refine⟨v,?_,h4⟩
    unfold Kw
    rw[U2d (by simpa using hi),U1f,U0w,e]
    show some (σ[a]?).join=some (some v)
    rw[h3];rfl
 .unfold Kw Gn
  rw[U0r,U0r,U0k,U0k,U1f,U1f]
section
variable{X:Cx}
theorem Xr{K:U0b}{k:Nat}{caps:List Nat}{it:M5}{p:Pat}{t:Fo}{f:BX}{σ:St}{H:Hp}{Q:VK} (h:∃Γ μ env S ys S',Γ.K=K/\Rep Γ μ σ H env S/\Cw k caps it p.sem t f env S=some (ys,S') /\
  ∀xs μ' H',Ext μ H μ' H'->Rep Γ μ' σ H' env S'->VRs Γ μ' H' xs ys->∀q,H' q=none->Q (.ref q) (upd H' q (.lst xs))):iW k caps (wpI K it) (p.raw K) (wpT K t) (wpE K f) σ H Q:=by
 obtain⟨Γ,μ,env,S,ys,S',hK,R,e,q⟩:=h
 obtain⟨⟨⟨ds,w⟩,S1⟩,e1,e⟩:=bind_some e
 refine⟨Γ,μ,env,S,ds,w,S1,hK,R,e1,fun J μ1 H1 x1 R1 ok=>?_⟩
 refine⟨fun i m zs H2=>∃μ2 S2 dzs,m=ds.length-i/\i<=ds.length/\Ext μ1 H1 μ2 H2/\Rep Γ μ2 σ H2 env S2/\VRs Γ μ2 H2 zs dzs/\Gp w (Gn k caps env) p.sem t f (ds.drop i) dzs S2=some (ys,S'),
  ⟨ds.length,μ1,S1,[],rfl,U3x _,Ext.refl _ _,R1,.nil,by rw[U54];exact e⟩,?_⟩
 rintro i m zs H2 ⟨μ2,S2,dzs,rfl,hi,x2,R2,rz,el⟩
 by_cases hlt:i<ds.length
 .rw[U20 hlt] at el
  unfold Gp at el
  by_cases hcm:calm w S2/\dzs.length<=1000000
  .rw[if_pos hcm] at el
   obtain⟨env3,e3,el⟩:=bind_some el
   obtain⟨⟨b,S4⟩,e4,el⟩:=bind_some el
   have R2c:=R2.cap k caps
   obtain⟨go,yl⟩:=ok.step i ds[i] μ2 H2 _ _ S2 (U0i hlt) x2 R2c hcm.1
   refine .inr ⟨go,by rw[rz.length];exact big hcm.2,fun x H3 y=>?_⟩
   obtain⟨sm,rx⟩:=yl x H3 y
   obtain⟨R3,x3⟩:=R2c.grow sm
   obtain⟨R3o,_⟩:=R2.grow sm
   refine p.run K R3 rx e3 fun σ3 R3'=>?_
   refine⟨Γ,μ2,env3,S2,b,S4,hK,R3',e4,fun μ4 H4 x4 R4=>?_⟩
   dsimp only at el
   by_cases hb:b=true
   .rw[if_pos hb] at el ⊢
    obtain⟨⟨d5,S5⟩,e5,el⟩:=bind_some el
    refine⟨Γ,μ4,env3,S4,d5,S5,hK,R4,e5,fun v μ5 H5 x5 R5 r5=>?_⟩
    exact⟨ds.length-(i+1),by omega,μ5,S5,dzs++[d5],rfl,hlt,x2.trans (x3.trans (x4.trans x5)),R3o.back (x4.trans x5) R5,((rz.ext (x3.trans (x4.trans x5)))).append (.cons r5 .nil),el⟩
   .rw[if_neg hb] at el ⊢
    exact⟨ds.length-(i+1),by omega,μ4,S4,dzs,rfl,hlt,x2.trans (x3.trans x4),R3o.back x4 R4,rz.ext (x3.trans x4),el⟩
  .rw[if_neg hcm] at el;cases el
 .have hi':i=ds.length:=by omega
  subst hi'
  rw[List.drop_length] at el
  unfold Gp at el
  by_cases hcm:calm w S2/\dzs.length<=1000000
  .rw[if_pos hcm] at el
   cases el
   exact .inl ⟨ok.stop μ2 H2 σ env _ x2 R2 hcm.1,fun p hp=>q zs μ2 H2 (x1.trans x2) R2 rz p hp⟩
  .rw[if_neg hcm] at el;cases el
structure JC(X:Cx)(N2:List Str)(scope:Scope)(tg:Expr)(ifs:List Expr)(elt:Expr)(p:Pat)(t:Fo)(f:BX):Prop where
 all:∀(cl:List (Str×Addr))(C:Addr)(s:Shared)(H:Hp)(ex:List Addr),JG (Ek X N2 scope cl C s H ex) tg p/\JTs (Ek X N2 scope cl C s H ex) ifs t/\JE (Ek X N2 scope cl C s H ex) elt f
theorem FP{elt tg iter:Expr}{ifs:List Expr}{scope:Scope}{pos:Pos}{N2:List Str}{k:Nat}{caps:List Nat}{it:M5}{p:Pat}{t:Fo}{f:BX}
  (hc:X.calm=true) (hS:Ds X.env.scope X.N N2 k caps scope) (hlow:p.low k=true) (hi:JI X tg iter it) (hb:JC X N2 scope tg ifs elt p t f)
  (hs:∀x,foldedSetIterable iter X.env x=pure x:=by intro _;rfl):JE X (.ListComp elt [⟨tg,iter,ifs,0⟩] scope pos) (Bt (Cw k caps it p.sem t f)) :=
 ⟨PE.imp (uP hc hS (p.ZR X.K hlow) hi.pi (fun cl C s H ex=>let ⟨a,b,c⟩:=hb.all cl C s H ex;⟨a.pg,b.pt,c.pe⟩) hs) fun σ H Q h=>by
  obtain⟨Γ,μ,env,S,d,S',hK,R,e,q⟩:=h
  obtain⟨⟨ys,S1⟩,e1,e⟩:=bind_some e
  cases e
  refine Xr ⟨Γ,μ,env,S,ys,S1,hK,R,e1,fun xs μ1 H1 x1 R1 r1 z hz=>?_⟩
  obtain⟨R2,x2⟩:=R1.grow (Df hz (.lst xs))
  exact q _ μ1 _ (x1.trans x2) R2 (.lst (R1.ok hz true) (R1.dead hz) Cq (r1.ext x2))⟩
theorem Xx{Γ:Fr}{μ:Mu}{H:Hp}{p:Addr}{n:Nat}(h:n=μ.length):VR Γ (μ++[some p]) H (.ref p) (.ref n):=by
 subst h
 refine .ref (by rw[U0r];simp) fun a h=>?_
 simp at h
 rw[h]
theorem RJ{elt tg iter:Expr}{ifs:List Expr}{scope:Scope}{pos py spos:Pos}{N2:List Str}{k i:Nat}{y:Str}{caps:List Nat}{it:M5}{p:Pat}{t:Fo}{f:BX}
  (hc:X.calm=true) (hN:X.N.Nodup) (hS:Ds X.env.scope X.N N2 k caps scope) (hlow:p.low k=true) (hi:JI X tg iter it) (hb:JC X N2 scope tg ifs elt p t f) (hi':X.N[i]?=some y:=by rfl)
  (hx:X.env.scope.names.lookup y=some .local:=by rfl) (hsw:swapsWith (.ListComp elt [⟨tg,iter,ifs,0⟩] scope pos) (some (.Name y py)) spos.line X.env=pure true:=by rfl)
  (hs:∀x,foldedSetIterable iter X.env x=pure x:=by intro _;rfl):JS X (.Assign [.Name y py] (.ListComp elt [⟨tg,iter,ifs,0⟩] scope pos) spos) (Bk i (Bt (Cw k caps it p.sem t f))) :=
 ⟨PS.imp (fZ hc hN hi' hS (p.ZR X.K hlow) hi.pi (fun cl C s H ex=>let ⟨a,b,c⟩:=hb.all cl C s H ex;⟨a.pg,b.pt,c.pe⟩) hx hsw hs) fun E σ H h=>by
  obtain⟨Γ,μ,env,S,fl,env',S',hK,R,e,q⟩:=h
  obtain⟨⟨d,S1⟩,e1,e⟩:=bind_some e
  cases e
  obtain⟨⟨ys,S2⟩,e2,e1⟩:=bind_some e1
  cases e1
  refine Xr ⟨Γ,μ,env,S,ys,_,hK,R,e2,fun xs μ1 H1 x1 R1 r1 z hz=>?_⟩
  obtain⟨R2,x2⟩:=R1.grow (Df hz (.lst xs))
  exact q μ1 _ _ (x1.trans x2) (R2.iB i (.lst (R1.ok hz true) (R1.dead hz) Cq (r1.ext x2)))⟩
theorem eO{elt tg iter:Expr}{ifs:List Expr}{scope:Scope}{pos py spos:Pos}{N2:List Str}{k i:Nat}{y:Str}{caps:List Nat}{it:M5}{p:Pat}{t:Fo}{f:BX}
  (hc:X.calm=true) (hN:X.N.Nodup) (hS:Ds X.env.scope X.N N2 k caps scope) (hlow:p.low k=true) (hi:JI X tg iter it) (hb:JC X N2 scope tg ifs elt p t f) (hi':X.N[i]?=some y:=by rfl)
  (hx:X.env.scope.names.lookup y=some .local:=by rfl) (hsw:swapsWith (.ListComp elt [⟨tg,iter,ifs,0⟩] scope pos) (some (.Name y py)) spos.line X.env=pure true:=by rfl)
  (hs:∀x,foldedSetIterable iter X.env x=pure x:=by intro _;rfl):JS X (.Assign [.Name y py] (.ListComp elt [⟨tg,iter,ifs,0⟩] scope pos) spos) (Bk i (Gs (Cw k caps it p.sem t f))) :=
 ⟨PS.imp (fZ hc hN hi' hS (p.ZR X.K hlow) hi.pi (fun cl C s H ex=>let ⟨a,b,c⟩:=hb.all cl C s H ex;⟨a.pg,b.pt,c.pe⟩) hx hsw hs) fun E σ H h=>by
  obtain⟨Γ,μ,env,S,fl,env',S',hK,R,e,q⟩:=h
  obtain⟨⟨d,S1⟩,e1,e⟩:=bind_some e
  cases e
  obtain⟨⟨ys,S2⟩,e2,e1⟩:=bind_some e1
  cases e1
  refine Xr ⟨Γ,μ,env,S,ys,_,hK,R,e2,fun xs μ1 H1 x1 R1 r1 z hz=>?_⟩
  obtain⟨R2,x2⟩:=R1.laid hz r1
  exact q _ _ _ (x1.trans x2) (R2.iB i (Xx R1.slen))⟩
end
def listOf(S:Store):D->Option (List D)
 |.lst _ ds=>some ds
 |.ref i=>(S[i]?).join
 |_=>none
def CJ(S:Store):D->Option (List D)
 |.tup ds=>some ds
 |.scr ns=>some (ns.map .int)
 |d=>listOf S d
def idOf(ds:List D):D->List (Nat×List D)
 |.ref i=>[(i,ds)]
 |_=>[]
section
variable{Γ:Fr}{μ:Mu}{σ:St}{H:Hp}{env:Env}{S:Store}{v:V}{d:D}{ds:List D}
theorem join_some{α:Type}{a:Option (Option α)}{b:α}(h:a.join=some b):a=some (some b):=by
 cases a with
 |none=>cases h
 |some o=>exact congrArg some h
theorem VR.list(R:Rep Γ μ σ H env S)(r:VR Γ μ H v d)(h:listOf S d=some ds):∃a xs,v=.ref a/\H a=some (.lst xs)/\VRs Γ μ H xs ds:=by
 cases r with
 |lst o n hb rs=>cases h;exact⟨_,_,rfl,hb,rs⟩
 |@ref i v hi f =>
  obtain⟨a,xs,h1,h2,h3⟩:=R.sto i ds (join_some h)
  exact⟨a,xs,f a h1,h2,h3⟩
 |_=>cases h
theorem VR.seq(hK:Γ.K=K)(R:Rep Γ μ σ H env S)(r:VR Γ μ H v d)(h:CJ S d=some ds):∃a xs,v=.ref a/\(SqL K H a xs∨SqT K H a xs)/\VRs Γ μ H xs ds:=by
 subst hK
 cases d with
 |tup es=>cases r with|tup hb rs=>cases h;exact⟨_,_,rfl,.inr (SqT.of hb),rs⟩
 |scr ns =>
  cases h
  cases r with
  |scrK hk=>exact⟨_,_,rfl,.inl (hk H),VRs.ints ns⟩
  |scrR n hb=>exact⟨_,_,rfl,.inl (.inl (.inr ⟨_,hb⟩)),VRs.ints ns⟩
 |lst m es=>obtain⟨a,xs,e1,e2,e3⟩:=VR.list R r h;exact⟨a,xs,e1,.inl (SqL.of e2),e3⟩
 |ref i=>obtain⟨a,xs,e1,e2,e3⟩:=VR.list R r h;exact⟨a,xs,e1,.inl (SqL.of e2),e3⟩
 |_=>cases h
end
def DK(a:BX):M5:=fun env S=>(a env S).bind fun p=>(CJ p.2 p.1).map fun ds=>((ds,idOf ds p.1),p.2)
section
variable{X:Cx}{tg:Expr}
def Jat(K:U0b)(tl:TE):TI:=fun σ H R=>tl σ H fun x H1=>∃a,x=.ref a/\(((∃xs,SqL K H1 a xs)/\R (Itl K a) H1)∨((∃xs,SqT K H1 a xs)/\R (Itt K a) H1))
theorem yh{l:Expr}{tl:TE}(hl:PE X l tl):PI X tg l (Jat X.K tl):=by
 intro pins s σ H R I h
 refine thn (hl pins s σ H _ I h) fun v s1 ⟨x,H1,I1,r1,q1⟩=>?_
 obtain⟨a,e,⟨⟨xs,hq⟩,q⟩|⟨⟨xs,hq⟩,q⟩⟩:=q1
 .subst e
  cases r1
  obtain⟨its,rv,p,hz⟩:=I1.list hq
  refine U5b p.isList ?_
  refine⟨s1.heap.objs.size,[s1.heap.objs.size],_,_,H1,rfl,I1.kept (t':=s1.toks) fun b o e=>U0d _ e,kh a _,⟨_,U0v _ rfl,rfl,rfl⟩,fun b hb=>?_,q⟩
  have e:b=s1.heap.objs.size:=by simpa using hb
  subst e
  exact I1.Xp (U0t _) (I1.hok.fresh (U0t _))
 .subst e
  cases r1
  obtain⟨its,rv,p,hz⟩:=I1.tuple hq
  refine U5y (show s1.heap.IsTuple a its.toArray from p) ?_
  refine⟨s1.heap.objs.size,[s1.heap.objs.size],_,_,H1,rfl,I1.kept (t':=s1.toks) fun b o e=>U0d _ e,iu a _,⟨_,U0v _ rfl,rfl,rfl⟩,fun b hb=>?_,q⟩
  have e:b=s1.heap.objs.size:=by simpa using hb
  subst e
  exact I1.Xp (U0t _) (I1.hok.fresh (U0t _))
theorem lH{d:D}{ds:List D}{S S':Store}(h:CJ S d=some ds)(c:calm (idOf ds d) S'):CJ S' d=some ds:=by
 cases d with
 |ref i =>
  have c':S'[i]?=some (some ds):=c (i,ds) (U07.mpr rfl)
  show(S'[i]?).join=some ds
  rw[c'];rfl
 |_=>exact h
theorem VR.iC{K:U0b}{Γ:Fr}{μ:Mu}{σ:St}{H:Hp}{env:Env}{S:Store}{v:V}{d:D}{ds:List D}(hK:Γ.K=K)(R:Rep Γ μ σ H env S)(r:VR Γ μ H v d)(h:CJ S d=some ds):(∃es,d=.tup es)∨∃a xs,v=.ref a/\SqL K H a xs/\VRs Γ μ H xs ds:=by
 subst hK
 cases d with
 |tup es=>exact .inl ⟨es,rfl⟩
 |scr ns =>
  cases h
  cases r with
  |scrK hk=>exact .inr ⟨_,_,rfl,hk H,VRs.ints ns⟩
  |scrR n hb=>exact .inr ⟨_,_,rfl,.inl (.inr ⟨_,hb⟩),VRs.ints ns⟩
 |lst m es=>obtain⟨a,xs,e1,e2,e3⟩:=VR.list R r h;exact .inr ⟨a,xs,e1,SqL.of e2,e3⟩
 |ref i=>obtain⟨a,xs,e1,e2,e3⟩:=VR.list R r h;exact .inr ⟨a,xs,e1,SqL.of e2,e3⟩
 |_=>cases h
theorem vJ{Γ:Fr}{μ:Mu}{H:Hp}{a:Addr}{ds:List D}{K:U0b}{w:List (Nat×List D)}(hr:∀μ' H' σ' env' S',Ext μ H μ' H'->Rep Γ μ' σ' H' env' S'->calm w S'->∃xs,SqL K H' a xs/\VRs Γ μ' H' xs ds):Xq Γ μ H (Itl K a) ds w:=by
 refine⟨fun i d μ' H' σ' env' S' hi x R c=>?_,fun μ' H' σ' env' S' x R c=>?_⟩
 .obtain⟨xs,h1,h2⟩:=hr μ' H' σ' env' S' x R c
  obtain⟨y,e1,e2⟩:=h2.get hi
  refine⟨⟨xs,y,h1,e1⟩,fun z H'' yl=>?_⟩
  obtain⟨e,f⟩:=yl
  subst e
  have:=f xs h1
  rw[e1] at this;cases this
  exact⟨Same.refl _,e2⟩
 .obtain⟨xs,h1,h2⟩:=hr μ' H' σ' env' S' x R c
  exact⟨xs,h1,by rw[h2.length];exact U0t _⟩
theorem jr{Γ:Fr}{μ:Mu}{H:Hp}{a:Addr}{ds:List D}{K:U0b}{w:List (Nat×List D)}(hr:∀μ' H' σ' env' S',Ext μ H μ' H'->Rep Γ μ' σ' H' env' S'->calm w S'->∃xs,SqT K H' a xs/\VRs Γ μ' H' xs ds):Xq Γ μ H (Itt K a) ds w:=by
 refine⟨fun i d μ' H' σ' env' S' hi x R c=>?_,fun μ' H' σ' env' S' x R c=>?_⟩
 .obtain⟨xs,h1,h2⟩:=hr μ' H' σ' env' S' x R c
  obtain⟨y,e1,e2⟩:=h2.get hi
  refine⟨⟨xs,y,h1,e1⟩,fun z H'' yl=>?_⟩
  obtain⟨e,f⟩:=yl
  subst e
  have:=f xs h1
  rw[e1] at this;cases this
  exact⟨Same.refl _,e2⟩
 .obtain⟨xs,h1,h2⟩:=hr μ' H' σ' env' S' x R c
  exact⟨xs,h1,by rw[h2.length];exact U0t _⟩
theorem Ea{l:Expr}{f:BX}(hl:JE X l f):JI X tg l (DK f):=⟨PI.imp (yh hl.pe) fun σ H Q h=>by
 obtain⟨Γ,μ,env,S,ds,w,S',hK,R,e,q⟩:=h
 obtain⟨⟨d,S1⟩,e1,e⟩:=bind_some e
 obtain⟨ds',e2,e⟩:=map_some e
 cases e
 refine⟨Γ,μ,env,S,d,S1,hK,R,e1,fun v μ1 H1 x1 R1 r1=>?_⟩
 rcases VR.iC hK R1 r1 e2 with ⟨es,rfl⟩|⟨a,xs,rfl,hq,rs⟩
 .cases r1 with
  |@tup a xs _ hb rs =>
   refine⟨a,rfl,.inr ⟨⟨xs,SqT.of hb⟩,q _ μ1 H1 x1 R1 (jr fun μ' H' σ' env' S' x' R' c=>?_)⟩⟩
   have e2':es=ds:=U1c e2
   subst e2'
   exact⟨xs,SqT.of (x'.tups _ _ hb),rs.ext x'⟩
 .by_cases ht:∃es,d=.tup es
  .obtain⟨es,rfl⟩:=ht
   cases r1 with
   |@tup b ys _ hb rs' =>
    refine⟨a,rfl,.inr ⟨⟨ys,SqT.of hb⟩,q _ μ1 H1 x1 R1 (jr fun μ' H' σ' env' S' x' R' c=>?_)⟩⟩
    have e2':es=ds:=U1c e2
    subst e2'
    exact⟨ys,SqT.of (x'.tups _ _ hb),rs'.ext x'⟩
  .refine⟨a,rfl,.inl ⟨⟨xs,hq⟩,q _ μ1 H1 x1 R1 (vJ fun μ' H' σ' env' S' x' R' c=>?_)⟩⟩
   rcases VR.iC hK R' (r1.ext x') (lH e2 c) with z|⟨b,ys,e,h1,h2⟩
   .exact absurd z ht
   .cases e
    exact⟨ys,h1,h2⟩⟩
def upD(lo:Int)(n:Nat):List D:=(U0g n).map fun(i:Nat)=>.int (lo+i)
theorem qu{Γ:Fr}{μ:Mu}{H:Hp}(lo:Int)(n:Nat):Xq Γ μ H (Itr lo n) (upD lo n) []:=by
 have len:(upD lo n).length=n:=by unfold upD;rw[U0k,U2s]
 refine⟨fun i d μ' H' σ' env' S' hi x R c=>?_,fun μ' H' σ' env' S' x R c=>?_⟩
 .have hi':i<n:=by rw[←len];exact(U0n.mp hi).1
  refine⟨hi',fun y H'' yl=>?_⟩
  obtain⟨e1,e2⟩:=yl
  subst e1 e2
  unfold upD at hi
  rw[U0w,U5m hi'] at hi
  cases hi
  exact⟨Same.refl _,.int _⟩
 .show n<=(upD lo n).length
  rw[len];exact U0t _
def r62(j:Int):Prop:=-(2^62)<=j/\j<2^62
instance(j:Int):Decidable (r62 j):=by unfold r62;infer_instance
def Fj(a:Bm):M5:=fun env S=>(a env S).bind fun p=>match p.1 with|[.int j]=>if r62 j then some ((upD 0 j.toNat,[]),p.2) else none|_=>none
theorem VRs.one{Γ:Fr}{μ:Mu}{H:Hp}{vs:List V}{d:D}(h:VRs Γ μ H vs [d]):∃v,vs=[v]/\VR Γ μ H v d:=by
 cases h with|cons r t=>cases t;exact⟨_,rfl,r⟩
theorem VRs.two{Γ:Fr}{μ:Mu}{H:Hp}{vs:List V}{d e:D}(h:VRs Γ μ H vs [d,e]):∃v u,vs=[v,u]/\VR Γ μ H v d/\VR Γ μ H u e:=by
 cases h with|cons r t=>cases t with|cons r' t=>cases t;exact⟨_,_,rfl,r,r'⟩
theorem Jf{a:Expr}{f:Bm}{p pos:Pos}(hg:Gl X "range")(hm:X.mg "range"=none)(ha:JA X [a] f)(hs:starEach [a] X.env=[(false,eval a X.env)]:=by rfl):JI X tg (.Call (.Name "range" p) [a] [] pos) (Fj f) :=
 ⟨PI.imp (mC hg hm ha.pa hs) fun σ H Q h=>by
  obtain⟨Γ,μ,env,S,ds,w,S',hK,R,e,q⟩:=h
  obtain⟨⟨d,S1⟩,e1,e⟩:=bind_some e
  refine⟨Γ,μ,env,S,d,S1,hK,R,e1,fun v μ1 H1 x1 R1 r1=>?_⟩
  dsimp only at e
  split at e
  .rename_i j
   by_cases hj:r62 j
   .rw[if_pos hj] at e
    cases e
    obtain⟨v,rfl,r⟩:=r1.one
    cases r
    exact⟨j,rfl,hj.1,hj.2,q _ μ1 H1 x1 R1 (qu 0 _)⟩
   .rw[if_neg hj] at e;cases e
  .cases e⟩
end
end VS
end
section
namespace VS
open PySem PySem.Spec L2
section
variable{X:Cx}{tg:Expr}
def Dj:List D->List D->List D
 |x::xs,y::ys=>.tup [x,y]::Dj xs ys
 |_,_=>[]
theorem aC:∀{xs ys:List D} {i:Nat} {d:D},(Dj xs ys)[i]?=some d->∃x y,xs[i]?=some x/\ys[i]?=some y/\d=.tup [x,y]
 |[],_,_,_,h=>by simp[Dj] at h
 |_::_,[],_,_,h=>by simp[Dj] at h
 |x::xs,y::ys,0,d,h=>by simp[Dj] at h;exact⟨x,y,rfl,rfl,h.symm⟩
 |x::xs,y::ys,i+1,d,h=>by
  simp[Dj] at h
  obtain⟨a,b,h1,h2,h3⟩:=aC h
  exact⟨a,b,by simpa using h1,by simpa using h2,h3⟩
theorem aA:∀(xs ys:List D),((Dj xs ys).length=xs.length/\xs.length<=ys.length)∨((Dj xs ys).length<xs.length/\(Dj xs ys).length=ys.length)
 |[],_=>.inl ⟨rfl,U3x _⟩
 |_::_,[]=>.inr ⟨by simp[Dj],rfl⟩
 |x::xs,y::ys=>by
  rcases aA xs ys with ⟨h1,h2⟩|⟨h1,h2⟩
  .left;simp[Dj];omega
  .right;simp[Dj];omega
def Qh(a:Bm):M5:=fun env S=>(a env S).bind fun p=>match p.1 with
 |[.tup xs,.tup ys]=>some ((Dj xs ys,[]),p.2)
 |[x,.tup ys]=>(listOf p.2 x).bind fun xs=>some ((Dj xs ys,idOf xs x),p.2)
 |[x,y]=>(listOf p.2 x).bind fun xs=>(listOf p.2 y).bind fun ys=>some ((Dj xs ys,idOf xs x++idOf ys y),p.2)
 |_=>none
theorem Mv{d:D}{ds:List D}{S S':Store}(h:listOf S d=some ds)(c:calm (idOf ds d) S'):listOf S' d=some ds:=by
 cases d with
 |ref i =>
  have c':S'[i]?=some (some ds):=c (i,ds) (U07.mpr rfl)
  show(S'[i]?).join=some ds
  rw[c'];rfl
 |_=>exact h
theorem Zt{Γ:Fr}{μ:Mu}{H:Hp}{L M:Bool}{a b:Addr}{xs ys:List D}{w:List (Nat×List D)}(hr:∀μ' H' σ' env' S',Ext μ H μ' H'->Rep Γ μ' σ' H' env' S'->calm w S'->∃us vs,H' a=some (HB L us)/\VRs Γ μ' H' us xs/\H' b=some (HB M vs)/\VRs Γ μ' H' vs ys) :
  Xq Γ μ H (Itz L M a b) (Dj xs ys) w:=by
 refine⟨fun i d μ' H' σ' env' S' hi x R c=>?_,fun μ' H' σ' env' S' x R c=>?_⟩
 .obtain⟨us,vs,h1,h2,h3,h4⟩:=hr μ' H' σ' env' S' x R c
  obtain⟨p,q,e1,e2,e3⟩:=aC hi
  obtain⟨u,f1,f2⟩:=h2.get e1
  obtain⟨v,g1,g2⟩:=h4.get e2
  refine⟨⟨us,vs,u,v,h1,h3,f1,g1⟩,fun z H'' yl=>?_⟩
  obtain⟨t,u',v',ht,rfl,rfl,k1,k2⟩:=yl
  have k1':=k1 us h1
  have k2':=k2 vs h3
  rw[f1] at k1';cases k1'
  rw[g1] at k2';cases k2'
  subst e3
  have sm:=Df ht (.tup [u,v])
  obtain⟨_,x2⟩:=R.grow sm
  exact⟨sm,.tup Cq (.cons (f2.ext x2) (.cons (g2.ext x2) .nil))⟩
 .obtain⟨us,vs,h1,h2,h3,h4⟩:=hr μ' H' σ' env' S' x R c
  refine⟨us,vs,h1,h3,?_⟩
  rw[h2.length,h4.length]
  rcases aA xs ys with z|z
  .exact .inl z.1
  .exact .inr z
theorem PI.or{e:Expr}{t u:TI}(h:PI X tg e t)(k:PI X tg e u):PI X tg e (fun σ H R=>t σ H R∨u σ H R):=fun pins s σ H R I q=>q.elim (fun z=>h pins s σ H R I z) fun z=>k pins s σ H R I z
theorem Zr{a b:Expr}{f:Bm}{p pos:Pos}{elts:List Expr}{x1:Nat}{tpos:Pos}(hg:Gl X "zip")(hm:X.mg "zip"=none)(ha:JA X [a,b] f)(hs:starEach [a,b] X.env=[(false,eval a X.env),(false,eval b X.env)]:=by rfl)(hs2:starEach [b] X.env=[(false,eval b X.env)]:=by rfl) :
  JI X (.Tuple elts x1 tpos) (.Call (.Name "zip" p) [a,b] [] pos) (Qh f) :=
 ⟨PI.imp (PI.or (Zm true true (.inl rfl) hg hm ha.pa hs hs2) (PI.or (Zm false false (.inl rfl) hg hm ha.pa hs hs2) (Zm true false (.inr ⟨rfl,rfl⟩) hg hm ha.pa hs hs2))) fun σ H Q h=>by
  obtain⟨Γ,μ,env,S,ds,w,S',hK,R,e,q⟩:=h
  obtain⟨⟨d,S1⟩,e1,e⟩:=bind_some e
  dsimp only at e
  split at e
  .rename_i xs ys
   cases e
   refine .inr (.inl ⟨Γ,μ,env,S,_,_,hK,R,e1,fun v μ1 H1 x1 R1 r1=>?_⟩)
   obtain⟨u,v,rfl,r,r'⟩:=r1.two
   cases r with
   |@tup a us _ ha ra =>
    cases r' with
    |@tup b vs _ hb rb =>
     exact⟨a,b,us,vs,rfl,ha,hb,q _ μ1 H1 x1 R1 (Zt fun μ' H' σ' env' S' x' R' c=>⟨us,vs,x'.tups _ _ ha,ra.ext x',x'.tups _ _ hb,rb.ext x'⟩)⟩
  .rename_i x ys _
   obtain⟨xs,e2,e⟩:=bind_some e
   cases e
   refine .inr (.inr ⟨Γ,μ,env,S,_,_,hK,R,e1,fun v μ1 H1 x1 R1 r1=>?_⟩)
   obtain⟨u,v,rfl,r,r'⟩:=r1.two
   obtain⟨a,us,rfl,ha,ra⟩:=VR.list R1 r e2
   cases r' with
   |@tup b vs _ hb rb =>
    refine⟨a,b,us,vs,rfl,ha,hb,q _ μ1 H1 x1 R1 (Zt fun μ' H' σ' env' S' x' R' c=>?_)⟩
    obtain⟨a',us',e4,ha',ra'⟩:=VR.list R' (r.ext x') (Mv e2 c)
    cases e4
    exact⟨us',vs,ha',ra',x'.tups _ _ hb,rb.ext x'⟩
  .rename_i x y _ _
   obtain⟨xs,e2,e⟩:=bind_some e
   obtain⟨ys,e3,e⟩:=bind_some e
   cases e
   refine .inl ⟨Γ,μ,env,S,_,_,hK,R,e1,fun v μ1 H1 x1 R1 r1=>?_⟩
   obtain⟨u,v,rfl,r,r'⟩:=r1.two
   obtain⟨a,us,rfl,ha,ra⟩:=VR.list R1 r e2
   obtain⟨b,vs,rfl,hb,rb⟩:=VR.list R1 r' e3
   refine⟨a,b,us,vs,rfl,ha,hb,q _ μ1 H1 x1 R1 (Zt fun μ' H' σ' env' S' x' R' c=>?_)⟩
   obtain⟨a',us',e4,ha',ra'⟩:=VR.list R' (r.ext x') (Mv e2 fun p hp=>c p (U3y _ hp))
   obtain⟨b',vs',e5,hb',rb'⟩:=VR.list R' (r'.ext x') (Mv e3 fun p hp=>c p (U1q _ hp))
   cases e4
   cases e5
   exact⟨us',vs',ha',ra',hb',rb'⟩
  .cases e⟩
def Mi(n:Nat):List D->List D
 |[]=>[]
 |x::xs=>.tup [.int n,x]::Mi (n+1) xs
theorem Yo:∀{xs:List D} {n i:Nat} {d:D},(Mi n xs)[i]?=some d->∃x,xs[i]?=some x/\d=.tup [.int ((n+i:Nat):Int),x]
 |[],_,_,_,h=>by simp[Mi] at h
 |x::xs,n,0,d,h=>by simp[Mi] at h;exact⟨x,rfl,h.symm⟩
 |x::xs,n,i+1,d,h=>by
  simp[Mi] at h
  obtain⟨y,h1,h2⟩:=Yo h
  exact⟨y,by simpa using h1,by rw[h2,show n+1+i=n+(i+1) by omega]⟩
theorem Yn:∀(xs:List D)(n:Nat),(Mi n xs).length=xs.length
 |[],_=>rfl
 |_::xs,n=>by rw[Mi,U0j,U0j,Yn xs]
def Zu(a:Bm):M5:=fun env S=>(a env S).bind fun p=>match p.1 with
 |[x]=>(listOf p.2 x).bind fun xs=>some ((Mi 0 xs,idOf xs x),p.2)
 |_=>none
theorem v9{a:Expr}{f:Bm}{p pos:Pos}{elts:List Expr}{x1:Nat}{tpos:Pos}(hg:Gl X "enumerate")(hm:X.mg "enumerate"=none)(ha:JA X [a] f)(hs:starEach [a] X.env=[(false,eval a X.env)]:=by rfl) :
  JI X (.Tuple elts x1 tpos) (.Call (.Name "enumerate" p) [a] [] pos) (Zu f) :=
 ⟨PI.imp (uL hg hm ha.pa hs) fun σ H Q h=>by
  obtain⟨Γ,μ,env,S,ds,w,S',hK,R,e,q⟩:=h
  obtain⟨⟨d,S1⟩,e1,e⟩:=bind_some e
  dsimp only at e
  split at e
  .rename_i x
   obtain⟨xs,e2,e⟩:=bind_some e
   cases e
   refine⟨Γ,μ,env,S,_,_,hK,R,e1,fun v μ1 H1 x1 R1 r1=>?_⟩
   obtain⟨u,rfl,r⟩:=r1.one
   obtain⟨a,us,rfl,ha,ra⟩:=VR.list R1 r e2
   refine⟨a,rfl,⟨us,SqL.of ha⟩,q _ μ1 H1 x1 R1 ⟨fun i d μ' H' σ' env' S' hi x' R' c=>?_,fun μ' H' σ' env' S' x' R' c=>?_⟩⟩
   .obtain⟨a',us',e4,ha',ra'⟩:=VR.list R' (r.ext x') (Mv e2 c)
    cases e4
    obtain⟨y,f1,rfl⟩:=Yo hi
    obtain⟨z,g1,g2⟩:=ra'.get f1
    refine⟨⟨us',z,SqL.of ha',g1⟩,fun y' H'' yl=>?_⟩
    obtain⟨t,z',ht,rfl,rfl,k⟩:=yl
    have k':=k us' (SqL.of ha')
    rw[g1] at k';cases k'
    have sm:=Df ht (.tup [.int i,z])
    obtain⟨_,x2⟩:=R'.grow sm
    refine⟨sm,.tup Cq (.cons ?_ (.cons (g2.ext x2) .nil))⟩
    rw[U7j]
    exact .int _
   .obtain⟨a',us',e4,ha',ra'⟩:=VR.list R' (r.ext x') (Mv e2 c)
    cases e4
    exact⟨us',SqL.of ha',by rw[ra'.length,Yn];exact U0t _⟩
  .cases e⟩
def TV(K:U0b)(r:V->List V->Hp->VK->Prop)(g:Store->D->List D->Option (D×Store)):Prop:=∀(Γ:Fr)(μ:Mu)(σ:St)(H:Hp)(env:Env)(S:Store)(x:V)(xs:List V)(dx:D)(ds:List D)(d:D)(S':Store),Γ.K=K->Rep Γ μ σ H env S->VR Γ μ H x dx->VRs Γ μ H xs ds->g S dx ds=some (d,S') ->
 ∀Q:VK,(∀v μ' H',Ext μ H μ' H'->Rep Γ μ' σ H' env S'->VR Γ μ' H' v d->Q v H')->r x xs H Q
def GP(g:Store->D->List D->Option (D×Store))(o:BX)(a:Bm):BX:=fun env S=>(o env S).bind fun p=>if (listOf p.2 p.1).isSome then (a env p.2).bind fun q=>g q.2 p.1 q.1 else none
theorem tE{K:U0b}{r:V->List V->Hp->VK->Prop}{g:Store->D->List D->Option (D×Store)}{o:BX}{a:Bm}(hs:TV K r g){σ:St}{H:Hp}{Q:VK}(h:wpE K (GP g o a) σ H Q):tBM K "list" r (wpE K o) (wpA K a) σ H Q:=by
 obtain⟨Γ,μ,env,S,d,S',hK,R,e,q⟩:=h
 obtain⟨⟨x,S1⟩,e1,e⟩:=bind_some e
 refine⟨Γ,μ,env,S,x,S1,hK,R,e1,fun v1 μ1 H1 x1 R1 r1=>?_⟩
 dsimp only at e
 by_cases hl:(listOf S1 x).isSome=true
 .rw[if_pos hl] at e
  obtain⟨⟨ds,S2⟩,e2,e⟩:=bind_some e
  obtain⟨xs,hx⟩:=U4s.mp hl
  obtain⟨b,us,rfl,hb,rb⟩:=VR.list R1 r1 hx
  refine⟨.inl ⟨rfl,us,SqL.of hb⟩,Γ,μ1,env,S1,ds,S2,hK,R1,e2,fun vs μ2 H2 x2 R2 r2=>?_⟩
  exact hs Γ μ2 σ H2 env S2 _ vs x ds d S' hK R2 (r1.ext x2) r2 e Q fun v μ' H' x' R' rv=>q v μ' H' (x1.trans (x2.trans x')) R' rv
 .rw[if_neg hl] at e;cases e
theorem oH{K:U0b}{r:V->List V->Hp->VK->Prop}{g:Store->D->List D->Option (D×Store)}{o:BX}(hs:TV K r g){σ:St}{H:Hp}{Q:VK}(h:wpE K (GP g o Ae) σ H Q):wz K "list" r (wpE K o) σ H Q:=by
 obtain⟨Γ,μ,env,S,d,S',hK,R,e,q⟩:=h
 obtain⟨⟨x,S1⟩,e1,e⟩:=bind_some e
 refine⟨Γ,μ,env,S,x,S1,hK,R,e1,fun v1 μ1 H1 x1 R1 r1=>?_⟩
 dsimp only at e
 by_cases hl:(listOf S1 x).isSome=true
 .rw[if_pos hl] at e
  obtain⟨⟨ds,S2⟩,e2,e⟩:=bind_some e
  cases e2
  obtain⟨xs,hx⟩:=U4s.mp hl
  obtain⟨b,us,rfl,hb,rb⟩:=VR.list R1 r1 hx
  refine⟨.inl ⟨rfl,us,SqL.of hb⟩,?_⟩
  exact hs Γ μ1 σ H1 env _ _ [] x [] d S' hK R1 r1 .nil e Q fun v μ' H' x' R' rv=>q v μ' H' (x1.trans x') R' rv
 .rw[if_neg hl] at e;cases e
variable{o e:Expr}{es:List Expr}{fo:BX}{fa:Bm}{name:Str}{apos cpos:Pos}{id:String}{r:V->List V->Hp->VK->Prop}{g:Store->D->List D->Option (D×Store)}
theorem qg(pa:PlainAttrs "list")(slot:Slot "list" name id)(hty:typeOf (.builtin id)=pure (.type "method_descriptor"))(hm:MtR X id r)(hsm:TV X.K r g)(ho:JE X o fo)
  (hbase:attributeBase o name X.env (eval o X.env)=eval o X.env:=by rfl) (hline:(apos.endLine==cpos.line)=true:=by rfl):JE X (.Call (.Attribute o name apos) [] [] cpos) (GP g fo Ae) :=
 ⟨PE.imp (yu pa slot hty hm ho.pe hbase hline) fun _ _ _ h=>oH hsm h⟩
theorem IW(pa:PlainAttrs "list")(slot:Slot "list" name id)(hty:typeOf (.builtin id)=pure (.type "method_descriptor"))(hm:MtR X id r)(hsm:TV X.K r g)(ho:JE X o fo)(ha:JA X (e::es) fa)
  (hbase:attributeBase o name X.env (eval o X.env)=eval o X.env:=by rfl)
  (hfew:((backTo cpos (starEach (e::es) X.env)).all (fun x=>!x.1)&&(backToKw cpos (keywordEach [] X.env)).all (fun x=>x.1.isSome)
   && decide ((e::es).length+([]:List Keyword).length+(if ([]:List Keyword).isEmpty then 0 else 1)<30))=true:=by rfl)
  (hline:(apos.endLine==cpos.line)=true:=by rfl) (hs:starEach (e::es) X.env=(false,eval e X.env)::starEach es X.env:=by rfl) (hplain:(backTo cpos (starEach es X.env)).any (·.1)=false:=by rfl) :
  JE X (.Call (.Attribute o name apos) (e::es) [] cpos) (GP g fo fa) :=
 ⟨PE.imp (Jba pa slot hty hm ho.pe ha.pa hbase hfew hline hs hplain) fun _ _ _ h=>tE hsm h⟩
theorem VR.Vq{Γ:Fr}{μ:Mu}{σ:St}{H:Hp}{env:Env}{S:Store}{v:V}{i:Nat}{ds:List D}(R:Rep Γ μ σ H env S)(r:VR Γ μ H v (.ref i))(h:S[i]?=some (some ds)):∃a xs,v=.ref a/\μ[i]?=some (some a)/\H a=some (.lst xs)/\VRs Γ μ H xs ds:=by
 cases r with
 |ref hi f =>
  obtain⟨a,xs,h1,h2,h3⟩:=R.sto i ds h
  exact⟨a,xs,f a h1,h1,h2,h3⟩
def Fw(S:Store):D->List D->Option (D×Store)
 |.ref i,[d]=>match S[i]? with
  |some (some ds)=>if ds.length<1000000 then some (.non,S.set i (some (ds++[d]))) else none
  |_=>none
 |_,_=>none
theorem HJ{K:U0b}:TV K fY Fw:=by
 intro Γ μ σ H env S x xs dx ds d S' hK R rx rs e Q q
 unfold Fw at e
 split at e
 .rename_i i d1
  split at e
  .rename_i es he
   by_cases hl:es.length<1000000
   .rw[if_pos hl] at e
    cases e
    obtain⟨a,us,rfl,h1,h2,h3⟩:=VR.Vq R rx he
    obtain⟨y,rfl,ry⟩:=rs.one
    obtain⟨R2,x2⟩:=R.put h1 (h3.append (.cons ry .nil))
    exact⟨a,us,y,rfl,rfl,h2,by rw[h3.length];exact big (U2w hl),q _ μ _ x2 R2 .non⟩
   .rw[if_neg hl] at e;cases e
  .cases e
 .cases e
def V4(S:Store):D->List D->Option (D×Store)
 |.ref i,[y]=>match S[i]?,listOf S y with
  |some (some ds),some es=>if ds.length+es.length<=1000000 then some (.non,S.set i (some (ds++es))) else none
  |_,_=>none
 |_,_=>none
theorem lG{K:U0b}:TV K fX V4:=by
 intro Γ μ σ H env S x xs dx ds d S' hK R rx rs e Q q
 unfold V4 at e
 split at e
 .rename_i i y
  split at e
  .rename_i es gs he hg
   by_cases hl:es.length+gs.length<=1000000
   .rw[if_pos hl] at e
    cases e
    obtain⟨a,us,rfl,h1,h2,h3⟩:=VR.Vq R rx he
    obtain⟨y,rfl,ry⟩:=rs.one
    obtain⟨b,vs,rfl,hb,rb⟩:=VR.list R ry hg
    obtain⟨R2,x2⟩:=R.put h1 (h3.append rb)
    exact⟨a,b,us,vs,rfl,rfl,h2,hb,by rw[h3.length,rb.length];exact U2w (big hl),q _ μ _ x2 R2 .non⟩
   .rw[if_neg hl] at e;cases e
  .cases e
 .cases e
def Jc9(S:Store):D->List D->Option (D×Store)
 |.ref i,[]=>match S[i]? with
  |some (some _)=>some (.non,S.set i (some []))
  |_=>none
 |_,_=>none
def Q5(S:Store):D->List D->Option (D×Store)
 |.ref i,[.int k]=>match S[i]? with
  |some (some ds)=>if -(2^63)<=k/\k<2^63 then (PySem.seqIndex? k ds.length).bind fun j=>(ds[j]?).bind fun d=>some (d,S.set i (some (ds.eraseIdx j))) else none
  |_=>none
 |_,_=>none
theorem pP{K:U0b}:TV K jh Q5:=by
 intro Γ μ σ H env S x xs dx ds d S' hK R rx rs e Q q
 unfold Q5 at e
 split at e
 .rename_i i k
  split at e
  .rename_i es he
   by_cases hl:-(2^63)<=k/\k<2^63
   .rw[if_pos hl] at e
    obtain⟨j,e2,e⟩:=bind_some e
    obtain⟨d',e3,e⟩:=bind_some e
    cases e
    obtain⟨a,us,rfl,h1,h2,h3⟩:=VR.Vq R rx he
    obtain⟨y,rfl,ry⟩:=rs.one
    cases ry
    obtain⟨u,f1,f2⟩:=h3.get e3
    obtain⟨R2,x2⟩:=R.put h1 (h3.eraseIdx j)
    exact⟨a,us,k,j,u,rfl,rfl,h2,hl.1,hl.2,by rw[h3.length];exact e2,f1,q _ μ _ x2 R2 (f2.ext x2)⟩
   .rw[if_neg hl] at e;cases e
  .cases e
 .cases e
def nq(S:Store):D->List D->Option (D×Store)
 |.ref i,[]=>match S[i]? with
  |some (some ds)=>(ds[ds.length-1]?).bind fun d=>some (d,S.set i (some ds.dropLast))
  |_=>none
 |_,_=>none
theorem VRs.dropLast{Γ:Fr}{μ:Mu}{H:Hp}{xs:List V}{ds:List D}(h:VRs Γ μ H xs ds):VRs Γ μ H xs.dropLast ds.dropLast:=by
 rw[List.dropLast_eq_take,List.dropLast_eq_take,h.length]
 exact h.take _
theorem yL{K:U0b}:TV K xR nq:=by
 intro Γ μ σ H env S x xs dx ds d S' hK R rx rs e Q q
 unfold nq at e
 split at e
 .rename_i i
  split at e
  .rename_i es he
   obtain⟨d',e3,e⟩:=bind_some e
   cases e
   obtain⟨a,us,rfl,h1,h2,h3⟩:=VR.Vq R rx he
   cases rs
   obtain⟨u,f1,f2⟩:=h3.get e3
   obtain⟨R2,x2⟩:=R.put h1 h3.dropLast
   exact⟨a,us,u,rfl,rfl,h2,by rw[h3.length];exact f1,q _ μ _ x2 R2 (f2.ext x2)⟩
  .cases e
 .cases e
def Ij(v o i:BX):BL:=fun env S=>(v env S).bind fun p=>(o env p.2).bind fun q=>(i env q.2).bind fun r=>match q.1,r.1 with
 |.ref j,.int k=>(match r.2[j]? with
  |some (some ds)=>(ixN ds.length k).bind fun n=>some (.nx,env,r.2.set j (some (ds.set n p.1)))
  |_=>none)
 |_,_=>none
theorem Jj{a i:Expr}{fv fi:BX}{pos tpos:Pos}(he:JE X a fv)(ho:JE X o fo)(hi:JE X i fi)
  (ha:∀v,assign (.Subscript o i tpos) X.env v=(do
   let ov ←holding [v] (eval o X.env)
   let iv ←holding [v,ov] (eval i X.env)
   standAt tpos
   holding [v,ov,iv] (setItem ov iv v)
   release [v,ov,iv] []):=by intro _;rfl)
  (hs:swapsWithSole [.Subscript o i tpos] a pos.line X.env=pure false:=by rfl) (hw:swappedStores [.Subscript o i tpos] a X.env=pure none:=by rfl)
  (h1:(assignEach [.Subscript o i tpos] X.env).map (·.2)=[assign (.Subscript o i tpos) X.env]:=by rfl):JS X (.Assign [.Subscript o i tpos] a pos) (Ij fv fo fi) :=
 ⟨PS.imp (ji he.pe (yp ho.pe hi.pe set_list ha) hs hw h1) fun E σ H h=>by
  obtain⟨Γ,μ,env,S,fl,env',S',hK,R,e,q⟩:=h
  obtain⟨⟨x,S1⟩,e1,e⟩:=bind_some e
  obtain⟨⟨y,S2⟩,e2,e⟩:=bind_some e
  obtain⟨⟨z,S3⟩,e3,e⟩:=bind_some e
  refine⟨Γ,μ,env,S,x,S1,hK,R,e1,fun v1 μ1 H1 x1 R1 r1=>?_⟩
  refine⟨Γ,μ1,env,S1,y,S2,hK,R1,e2,fun v2 μ2 H2 x2 R2 r2=>?_⟩
  refine⟨Γ,μ2,env,S2,z,S3,hK,R2,e3,fun v3 μ3 H3 x3 R3 r3=>?_⟩
  dsimp only at e
  split at e
  .rename_i j k
   split at e
   .rename_i ds hd
    obtain⟨n,e4,e⟩:=bind_some e
    cases e
    obtain⟨b,us,rfl,g1,g2,g3⟩:=VR.Vq R3 (r2.ext x3) hd
    cases r3
    have r1':=r1.ext (x2.trans x3)
    obtain⟨R4,x4⟩:=R3.put g1 (g3.set r1' n)
    exact⟨b,us,_,n,rfl,rfl,g2,by rw[g3.length];exact e4,q μ3 σ _ (x1.trans (x2.trans (x3.trans x4))) R4⟩
   .cases e
  .cases e⟩
end
end VS
end
section
namespace VS
open PySem PySem.Spec L2
mutual
def BW:D->Bool
 |.ref _=>false
 |.tup ds=>Ay ds
 |.lst _ ds=>Ay ds
 |_=>true
def Ay:List D->Bool
 |[]=>true
 |d::r=>BW d&&Ay r
end
mutual
def Dy:D->Bool
 |.ref _=>false
 |.lst _ _=>false
 |.scr _=>false
 |.emp=>false
 |.tup ds=>FQ ds
 |_=>true
def FQ:List D->Bool
 |[]=>true
 |d::r=>Dy d&&FQ r
end
mutual
def newD:D->Bool
 |.ref _=>false
 |.lst m ds=>m&&newL ds
 |.scr _=>false
 |.emp=>false
 |.tup ds=>newL ds
 |_=>true
def newL:List D->Bool
 |[]=>true
 |d::r=>newD d&&newL r
end
mutual
def den(k:Nat)(S:Store):D->Option D
 |.tup ds=>(DW k S ds).map .tup
 |.lst m ds=>(DW k S ds).map (.lst m)
 |.ref i=>if i<k then none else match S[i]? with|some (some ds)=>if Ay ds=true then some (.lst true ds) else none|_=>none
 |.non=>some .non
 |.bl b=>some (.bl b)
 |.int i=>some (.int i)
 |.str x=>some (.str x)
 |.ty n=>some (.ty n)
 |.scr ns=>some (.scr ns)
 |.emp=>some .emp
def DW(k:Nat)(S:Store):List D->Option (List D)
 |[]=>some []
 |d::r=>(den k S d).bind fun x=>(DW k S r).bind fun xs=>some (x::xs)
end
mutual
def age:D->D
 |.tup ds=>.tup (Bj ds)
 |.lst _ ds=>.lst false (Bj ds)
 |.ref i=>.ref i
 |.non=>.non
 |.bl b=>.bl b
 |.int i=>.int i
 |.str x=>.str x
 |.ty n=>.ty n
 |.scr ns=>.scr ns
 |.emp=>.emp
def Bj:List D->List D
 |[]=>[]
 |d::r=>age d::Bj r
end
mutual
theorem Ka:∀{d:D},Dy d=true->BW d=true
 |.ref _,h=>by simp[Dy] at h
 |.lst _ _,h=>by simp[Dy] at h
 |.scr _,h=>by simp[Dy] at h
 |.emp,h=>by simp[Dy] at h
 |.tup ds,h=>by rw[Dy] at h;rw[BW];exact Ca h
 |.non,_=>rfl
 |.bl _,_=>rfl
 |.int _,_=>rfl
 |.str _,_=>rfl
 |.ty _,_=>rfl
theorem Ca:∀{ds:List D},FQ ds=true->Ay ds=true
 |[],_=>rfl
 |d::r,h=>by
  rw[FQ,U1h] at h
  rw[Ay,Ka h.1,Ca h.2];rfl
end
mutual
theorem W8:∀{d:D},Dy d=true->newD d=true
 |.ref _,h=>by simp[Dy] at h
 |.lst _ _,h=>by simp[Dy] at h
 |.scr _,h=>by simp[Dy] at h
 |.emp,h=>by simp[Dy] at h
 |.tup ds,h=>by rw[Dy] at h;rw[newD];exact O9 h
 |.non,_=>rfl
 |.bl _,_=>rfl
 |.int _,_=>rfl
 |.str _,_=>rfl
 |.ty _,_=>rfl
theorem O9:∀{ds:List D},FQ ds=true->newL ds=true
 |[],_=>rfl
 |d::r,h=>by
  rw[FQ,U1h] at h
  rw[newL,W8 h.1,O9 h.2];rfl
end
mutual
theorem M8(k:Nat)(S:Store):∀{d:D},BW d=true->den k S d=some d
 |.ref _,h=>by simp[BW] at h
 |.lst m ds,h=>by rw[BW] at h;rw[den,Ce k S h];rfl
 |.tup ds,h=>by rw[BW] at h;rw[den,Ce k S h];rfl
 |.non,_=>by rw[den]
 |.bl _,_=>by rw[den]
 |.int _,_=>by rw[den]
 |.str _,_=>by rw[den]
 |.ty _,_=>by rw[den]
 |.scr _,_=>by rw[den]
 |.emp,_=>by rw[den]
theorem Ce(k:Nat)(S:Store):∀{ds:List D},Ay ds=true->DW k S ds=some ds
 |[],_=>by rw[DW]
 |d::r,h=>by
  rw[Ay,U1h] at h
  rw[DW,M8 k S h.1,Ce k S h.2];rfl
end
mutual
theorem SJ:∀{d:D},Dy d=true->age d=d
 |.ref _,h=>by simp[Dy] at h
 |.lst _ _,h=>by simp[Dy] at h
 |.scr _,h=>by simp[Dy] at h
 |.emp,h=>by simp[Dy] at h
 |.tup ds,h=>by rw[Dy] at h;rw[age,J3 h]
 |.non,_=>by rw[age]
 |.bl _,_=>by rw[age]
 |.int _,_=>by rw[age]
 |.str _,_=>by rw[age]
 |.ty _,_=>by rw[age]
theorem J3:∀{ds:List D},FQ ds=true->Bj ds=ds
 |[],_=>by rw[Bj]
 |d::r,h=>by
  rw[FQ,U1h] at h
  rw[Bj,SJ h.1,J3 h.2]
end
section
variable{Γ Γ':Fr}{μ μ':Mu}{H:Hp}
mutual
theorem VR.age(hK:Γ'.K=Γ.K)(hN:∀a,¬Dh μ a->Γ.N a∨Γ.H0 a=none->Γ'.N a)(hl:∀a o,H a=some o->¬Dh μ a->¬Dh μ' a):∀{v:V} {d:D},BW d=true->VR Γ μ H v d->VR Γ' μ' H v (VS.age d)
 |_,_,_,.non=>by rw[VS.age];exact .non
 |_,_,_,.bl b=>by rw[VS.age];exact .bl b
 |_,_,_,.int i=>by rw[VS.age];exact .int i
 |_,_,_,.str x=>by rw[VS.age];exact .str x
 |_,_,_,.ty n=>by rw[VS.age];exact .ty n
 |_,_,h,.tup hb t=>by rw[BW] at h;rw[VS.age];exact .tup hb (VRs.age hK hN hl h t)
 |_,_,h,.lst o n hb t=>by rw[BW] at h;rw[VS.age];exact .lst ⟨fun z=>(by cases z),.inl (hN _ n o.2)⟩ (hl _ _ hb n) hb (VRs.age hK hN hl h t)
 |_,_,h,.ref _ _=>by simp[BW] at h
 |_,_,_,.scrK k=>by rw[VS.age];exact .scrK (by rw[hK];exact k)
 |_,_,_,.scrR n hb=>by rw[VS.age];exact .scrR (hl _ _ hb n) hb
 |_,_,_,.emp n hb=>by rw[VS.age];exact .emp (hl _ _ hb n) hb
theorem VRs.age(hK:Γ'.K=Γ.K)(hN:∀a,¬Dh μ a->Γ.N a∨Γ.H0 a=none->Γ'.N a)(hl:∀a o,H a=some o->¬Dh μ a->¬Dh μ' a):∀{v:List V} {d:List D},Ay d=true->VRs Γ μ H v d->VRs Γ' μ' H v (Bj d)
 |_,_,_,.nil=>by rw[Bj];exact .nil
 |_,_,h,.cons r t=>by
  rw[Ay,U1h] at h
  rw[Bj];exact .cons (VR.age hK hN hl h.1 r) (VRs.age hK hN hl h.2 t)
end
mutual
theorem VR.pure(hK:Γ'.K=Γ.K)(hN:∀m a xs,¬Dh μ a->Γ.Ok m a->H a=some (.lst xs)->Γ'.Ok m a/\¬Dh μ' a)(ho:∀a o,H a=some o->¬Dh μ a->(∀xs,o≠.lst xs)->¬Dh μ' a):∀{v:V} {d:D},BW d=true->VR Γ μ H v d->VR Γ' μ' H v d
 |_,_,_,.non=>.non
 |_,_,_,.bl b=>.bl b
 |_,_,_,.int i=>.int i
 |_,_,_,.str x=>.str x
 |_,_,_,.ty n=>.ty n
 |_,_,h,.tup hb t=>by rw[BW] at h;exact .tup hb (VRs.pure hK hN ho h t)
 |_,_,h,.lst o n hb t=>by rw[BW] at h;exact .lst (hN _ _ _ n o hb).1 (hN _ _ _ n o hb).2 hb (VRs.pure hK hN ho h t)
 |_,_,h,.ref _ _=>by simp[BW] at h
 |_,_,_,.scrK k=>.scrK (by rw[hK];exact k)
 |_,_,_,.scrR n hb=>.scrR (ho _ _ hb n fun _ z=>by cases z) hb
 |_,_,_,.emp n hb=>.emp (ho _ _ hb n fun _ z=>by cases z) hb
theorem VRs.pure(hK:Γ'.K=Γ.K)(hN:∀m a xs,¬Dh μ a->Γ.Ok m a->H a=some (.lst xs)->Γ'.Ok m a/\¬Dh μ' a)(ho:∀a o,H a=some o->¬Dh μ a->(∀xs,o≠.lst xs)->¬Dh μ' a):∀{v:List V} {d:List D},Ay d=true->VRs Γ μ H v d->VRs Γ' μ' H v d
 |_,_,_,.nil=>.nil
 |_,_,h,.cons r t=>by
  rw[Ay,U1h] at h
  exact .cons (VR.pure hK hN ho h.1 r) (VRs.pure hK hN ho h.2 t)
end
mutual
theorem VR.den{σ:St}{env:Env}{S S0:Store}{k:Nat}(R:Rep Γ μ σ H env S)(hK:Γ'.K=Γ.K)(h0:∀(i:Nat)(ds:List D)(a:Addr),k<=i->S0[i]?=some (some ds)->S[i]?=some (some ds)/\(μ[i]?=some (some a)->¬Dh μ' a/\Γ'.Ok true a))
  (hN:∀m a,¬Dh μ a->Γ.Ok m a->Γ'.Ok m a) (hl:∀a o,H a=some o->¬Dh μ a->¬Dh μ' a):∀{v:V} {d e:D},VR Γ μ H v d->VS.den k S0 d=some e->VR Γ' μ' H v e
 |_,_,_,.non,h=>by rw[VS.den] at h;cases h;exact .non
 |_,_,_,.bl b,h=>by rw[VS.den] at h;cases h;exact .bl b
 |_,_,_,.int i,h=>by rw[VS.den] at h;cases h;exact .int i
 |_,_,_,.str x,h=>by rw[VS.den] at h;cases h;exact .str x
 |_,_,_,.ty n,h=>by rw[VS.den] at h;cases h;exact .ty n
 |_,_,_,.tup hb t,h=>by
  rw[VS.den] at h
  obtain⟨es,e1,e2⟩:=map_some h
  subst e2
  exact .tup hb (VRs.den R hK h0 hN hl t e1)
 |_,_,_,.lst o n hb t,h=>by
  rw[VS.den] at h
  obtain⟨es,e1,e2⟩:=map_some h
  subst e2
  exact .lst (hN _ _ n o) (hl _ _ hb n) hb (VRs.den R hK h0 hN hl t e1)
 |_,.ref i,_,.ref hi f,h=>by
  rw[VS.den] at h
  by_cases hk:i<k
  .rw[if_pos hk] at h;cases h
  .rw[if_neg hk] at h
   split at h
   .rename_i ds hd
    by_cases hp:Ay ds=true
    .rw[if_pos hp] at h
     cases h
     have hS:=(h0 i ds 0 (by omega) hd).1
     obtain⟨a,xs,h1,h2,h3⟩:=R.sto i ds hS
     have hv:=f a h1
     subst hv
     obtain⟨z1,z2⟩:=(h0 i ds a (by omega) hd).2 h1
     exact .lst z2 z1 h2 (VRs.pure hK (fun m b ys n o hb=>⟨hN m b n o,hl b _ hb n⟩) (fun b o hb n _=>hl b o hb n) hp h3)
    .rw[if_neg hp] at h;cases h
   .cases h
 |_,_,_,.scrK k,h=>by rw[VS.den] at h;cases h;exact .scrK (by rw[hK];exact k)
 |_,_,_,.scrR n hb,h=>by rw[VS.den] at h;cases h;exact .scrR (hl _ _ hb n) hb
 |_,_,_,.emp n hb,h=>by rw[VS.den] at h;cases h;exact .emp (hl _ _ hb n) hb
theorem VRs.den{σ:St}{env:Env}{S S0:Store}{k:Nat}(R:Rep Γ μ σ H env S)(hK:Γ'.K=Γ.K)(h0:∀(i:Nat)(ds:List D)(a:Addr),k<=i->S0[i]?=some (some ds)->S[i]?=some (some ds)/\(μ[i]?=some (some a)->¬Dh μ' a/\Γ'.Ok true a))
  (hN:∀m a,¬Dh μ a->Γ.Ok m a->Γ'.Ok m a) (hl:∀a o,H a=some o->¬Dh μ a->¬Dh μ' a):∀{v:List V} {d e:List D},VRs Γ μ H v d->VS.DW k S0 d=some e->VRs Γ' μ' H v e
 |_,_,_,.nil,h=>by rw[DW] at h;cases h;exact .nil
 |_,_,_,.cons r t,h=>by
  rw[DW] at h
  obtain⟨x,e1,h⟩:=bind_some h
  obtain⟨xs,e2,h⟩:=bind_some h
  cases h
  exact .cons (VR.den R hK h0 hN hl r e1) (VRs.den R hK h0 hN hl t e2)
end
mutual
theorem VR.new(hN:∀a xs,¬Dh μ a->Γ.Ok true a->H a=some (.lst xs)->Γ'.Ok true a/\¬Dh μ' a):∀{v:V} {d:D},newD d=true->VR Γ μ H v d->VR Γ' μ' H v d
 |_,_,_,.non=>.non
 |_,_,_,.bl b=>.bl b
 |_,_,_,.int i=>.int i
 |_,_,_,.str x=>.str x
 |_,_,_,.ty n=>.ty n
 |_,_,h,.tup hb t=>by rw[newD] at h;exact .tup hb (VRs.new hN h t)
 |_,.lst m ds,h,.lst o n hb t=>by
  rw[newD,U1h] at h
  obtain⟨rfl,h⟩:=h
  exact .lst (hN _ _ n o hb).1 (hN _ _ n o hb).2 hb (VRs.new hN h t)
 |_,_,h,.ref _ _=>by simp[newD] at h
 |_,_,h,.scrK _=>by simp[newD] at h
 |_,_,h,.scrR _ _=>by simp[newD] at h
 |_,_,h,.emp _ _=>by simp[newD] at h
theorem VRs.new(hN:∀a xs,¬Dh μ a->Γ.Ok true a->H a=some (.lst xs)->Γ'.Ok true a/\¬Dh μ' a):∀{v:List V} {d:List D},newL d=true->VRs Γ μ H v d->VRs Γ' μ' H v d
 |_,_,_,.nil=>.nil
 |_,_,h,.cons r t=>by
  rw[newL,U1h] at h
  exact .cons (VR.new hN h.1 r) (VRs.new hN h.2 t)
end
mutual
theorem VR.flat:∀{v:V} {d:D},Dy d=true->VR Γ μ H v d->VR Γ' μ' H v d
 |_,_,_,.non=>.non
 |_,_,_,.bl b=>.bl b
 |_,_,_,.int i=>.int i
 |_,_,_,.str x=>.str x
 |_,_,_,.ty n=>.ty n
 |_,_,h,.tup hb t=>by rw[Dy] at h;exact .tup hb (VRs.flat h t)
 |_,_,h,.lst _ _ _ _=>by simp[Dy] at h
 |_,_,h,.ref _ _=>by simp[Dy] at h
 |_,_,h,.scrK _=>by simp[Dy] at h
 |_,_,h,.scrR _ _=>by simp[Dy] at h
 |_,_,h,.emp _ _=>by simp[Dy] at h
theorem VRs.flat:∀{v:List V} {d:List D},FQ d=true->VRs Γ μ H v d->VRs Γ' μ' H v d
 |_,_,_,.nil=>.nil
 |_,_,h,.cons r t=>by
  rw[FQ,U1h] at h
  exact .cons (VR.flat h.1 r) (VRs.flat h.2 t)
end
mutual
theorem WD{k:Nat}{S:Store}:∀{d e:D},den k S d=some e->BW e=true
 |.tup ds,e,h=>by
  rw[den] at h
  obtain⟨es,e1,e2⟩:=map_some h
  subst e2
  rw[BW];exact Qp e1
 |.lst m ds,e,h=>by
  rw[den] at h
  obtain⟨es,e1,e2⟩:=map_some h
  subst e2
  rw[BW];exact Qp e1
 |.ref i,e,h=>by
  rw[den] at h
  by_cases hk:i<k
  .rw[if_pos hk] at h;cases h
  .rw[if_neg hk] at h
   split at h
   .rename_i ds hd
    by_cases hp:Ay ds=true
    .rw[if_pos hp] at h;cases h;rw[BW];exact hp
    .rw[if_neg hp] at h;cases h
   .cases h
 |.non,e,h=>by rw[den] at h;cases h;rfl
 |.bl _,e,h=>by rw[den] at h;cases h;rfl
 |.int _,e,h=>by rw[den] at h;cases h;rfl
 |.str _,e,h=>by rw[den] at h;cases h;rfl
 |.ty _,e,h=>by rw[den] at h;cases h;rfl
 |.scr _,e,h=>by rw[den] at h;cases h;rfl
 |.emp,e,h=>by rw[den] at h;cases h;rfl
theorem Qp{k:Nat}{S:Store}:∀{d e:List D},DW k S d=some e->Ay e=true
 |[],e,h=>by rw[DW] at h;cases h;rfl
 |d::r,e,h=>by
  rw[DW] at h
  obtain⟨x,e1,h⟩:=bind_some h
  obtain⟨xs,e2,h⟩:=bind_some h
  cases h
  rw[Ay,WD e1,Qp e2];rfl
end
end
end VS
end
section
namespace VS
open PySem PySem.Spec L2
abbrev Cz:=List D->Option D
abbrev KH:=List Int->List D->Option (D×List Int)
def intsOf:List D->Option (List Int)
 |[]=>some []
 |.int i::r=>(intsOf r).map (i::·)
 |_=>none
theorem JF:∀{ds:List D} {ns:List Int},intsOf ds=some ns->ds=ns.map D.int
 |[],_,h=>by cases h;rfl
 |.int i::r,ns,h=>by
  obtain⟨ms,e1,e2⟩:=map_some h
  subst e2
  rw[U0m,JF e1]
 |.non::_,_,h=>by cases h
 |.bl _::_,_,h=>by cases h
 |.str _::_,_,h=>by cases h
 |.ty _::_,_,h=>by cases h
 |.tup _::_,_,h=>by cases h
 |.lst _ _::_,_,h=>by cases h
 |.ref _::_,_,h=>by cases h
 |.scr _::_,_,h=>by cases h
 |.emp::_,_,h=>by cases h
@[simp] theorem Jm(ns:List Int):intsOf (ns.map D.int)=some ns:=by
 induction ns with
 |nil=>rfl
 |cons n r ih=>rw[U0m,intsOf,ih];rfl
def Ef(np n:Nat)(f:BL):Cz:=fun ds=>if ds.length=np then (f (ds.map some++U0l (n-ds.length) none) []).bind fun p=>match p.1 with|.ret d=>den 0 p.2.2 d|.nx=>some .non|_=>none else none
def runM(np n:Nat)(f:BL):KH:=fun ns ds=>if ds.length+1=np then (f (some (.ref 0)::(ds.map some++U0l (n-1-ds.length) none)) [some (ns.map D.int)]).bind fun p=>match p.2.2[0]? with
 |some (some cs)=>(intsOf cs).bind fun ms=>(match p.1 with|.ret d=>(den 1 p.2.2 d).map fun r=>(r,ms)|.nx=>some (.non,ms)|_=>none)
 |_=>none
 else none
def spP(K:U0b)(sem:Cz)(n:Nat):Sp:=fun vs H Q _=>∃(N:Addr->Prop)(ds:List D)(r:D),vs.length=n/\VRs ⟨K,H,N,[]⟩ [] H vs ds/\sem ds=some r/\∀v H',Same H H'->VR ⟨K,H,N,[]⟩ [] H' v r->Q v H'
def spM(K:U0b)(sem:KH)(n:Nat):Sp:=fun vs H Q _=>∃(N:Addr->Prop)(a:Addr)(us:List V)(ns:List Int)(ds:List D)(r:D)(ms:List Int),vs=.ref a::us/\vs.length=n/\H a=some (.lst (ns.map V.int))/\VRs ⟨K,H,N,[a]⟩ [some a] H us ds/\sem ns ds=some (r,ms) /\
 ∀v H',(∀b o,b≠a->H b=some o->H' b=some o)->H' a=some (.lst (ms.map V.int))->VR ⟨K,H,N,[a]⟩ [some a] H' v r->Q v H'
section
variable{P:Program}{w:World}{K:U0b}{mg:Str->Option Value}{base:Heap}
theorem YK{N:List Str}{vs:List V}{ds:List D}{Γ:Fr}{μ:Mu}{H:Hp}(r:VRs Γ μ H vs ds){i:Nat}{d:D}{n:Nat}(h:(ds.map some++U0l n none:Env)[i]?=some (some d)):∃v,(vs.map some++U0l (N.length-vs.length) none:St)[i]?=some (some v)/\VR Γ μ H v d:=by
 have hi:i<ds.length:=by
  by_cases hi:i<ds.length
  .exact hi
  .rw[U2d (by simpa using hi),U36] at h
   split at h<;>cases h
 rw[U1e (by simpa using hi),U0w] at h
 have h2:ds[i]?=some d:=by
  cases q:ds[i]? with
  |none=>rw[q] at h;cases h
  |some e=>rw[q] at h;cases h;rfl
 obtain⟨v,e1,e2⟩:=r.get h2
 refine⟨v,?_,e2⟩
 rw[U1e (by rw[U0k,r.length];exact hi),U0w,e1]
 rfl
theorem KR{a:Addr}:¬Dh [] a:=fun z=>by simp[Dh] at z
theorem QF{a b:Addr}:Dh [some b] a↔a=b:=by simp[Dh]
theorem fnP{x qual:Str}{st:Stmt}{f:Addr}{fd:FuncData}{N ps:List Str}{k:Nat}{fs:BL}(F:Fun K x qual st f fd)(Sc:CG N ps (Aj st))
  (hb:∀(cdv:Value)(A:Around)(outer:List PySem.Env)(s:Shared)(H:Hp)(E:XK),Gb k (A.deeper (PyProof.Rows.envOfC qual (Aj st) s.heap.objs.size f cdv))->JSs (TJ CX0 P w K mg base N qual (Aj st) f cdv A outer s H E).nox (Br st) fs) :
  DG P w K mg base CX0 (k+1) f fd ps (spP K (Ef ps.length N.length fs) ps.length):=by
 refine F.ok Sc (fun vs H Q E h=>?_) (fun cdv A outer s H vs Q E hr h=>?_)
 .obtain⟨_,_,_,hl,_⟩:=h;exact hl
 obtain⟨Nn,ds,r,hl,rs,e,q⟩:=h
 refine⟨_,(hb cdv A outer s H E hr).ps,?_⟩
 have hdl:=rs.length
 unfold Ef at e
 rw[if_pos (by omega)] at e
 obtain⟨⟨fl,env',S'⟩,e1,e⟩:=bind_some e
 have hpl:ps.length<=N.length:=by have:=congrArg U5j Sc.pre;rw[U19] at this;omega
 refine⟨⟨K,H,Nn,[]⟩,[],_,[],fl,env',S',rfl,⟨fun i d h=>YK rs h,?_,fun i ds h=>by simp at h,fun i a h=>by simp at h,fun i j a h=>by simp at h,rfl,Ext.refl _ _,fun i a _ h=>by simp at h⟩,e1,fun μ' σ' H' x' R'=>?_⟩
 .unfold L2.start
  rw[U0r,U0k,U1f,U0r,U0k,U1f,hdl]
 have sm:Same H H':=fun b o hb=>(x'.keep b o hb KR).1
 dsimp only at e
 cases fl with
 |nx=>cases e;exact q _ H' sm .non
 |brk=>cases e
 |cnt=>cases e
 |ret d =>
  intro v rv
  refine q v H' sm (VR.den R' rfl (fun i ds a _ hs=>⟨hs,fun hm=>⟨KR,?_⟩⟩) (fun m a _ o=>o) (fun a o _ _=>KR) rv e)
  have hn:=R'.new i a (U3x _) hm
  exact⟨fun _=>hn,.inr hn⟩
theorem fnM{x qual:Str}{st:Stmt}{f:Addr}{fd:FuncData}{N ps:List Str}{k:Nat}{fs:BL}(F:Fun K x qual st f fd)(Sc:CG N ps (Aj st))
  (hb:∀(cdv:Value)(A:Around)(outer:List PySem.Env)(s:Shared)(H:Hp)(E:XK),Gb k (A.deeper (PyProof.Rows.envOfC qual (Aj st) s.heap.objs.size f cdv))->JSs (TJ CX0 P w K mg base N qual (Aj st) f cdv A outer s H E).nox (Br st) fs) :
  DG P w K mg base CX0 (k+1) f fd ps (spM K (runM ps.length N.length fs) ps.length):=by
 refine F.ok Sc (fun vs H Q E h=>?_) (fun cdv A outer s H vs Q E hr h=>?_)
 .obtain⟨_,_,_,_,_,_,_,_,hl,_⟩:=h;exact hl
 obtain⟨Nn,a,us,ns,ds,r,ms,rfl,hl,ha,rs,e,q⟩:=h
 refine⟨_,(hb cdv A outer s H E hr).ps,?_⟩
 have hdl:=rs.length
 rw[U0j] at hl
 unfold runM at e
 rw[if_pos (by omega)] at e
 obtain⟨⟨fl,env',S'⟩,e1,e⟩:=bind_some e
 have hpl:ps.length<=N.length:=by have:=congrArg U5j Sc.pre;rw[U19] at this;omega
 refine⟨⟨K,H,Nn,[a]⟩,[some a],_,[some (ns.map D.int)],fl,env',S',rfl,⟨fun i d h=>?_,?_,fun i es h=>?_,fun i b h=>?_,fun i j b h1 h2=>?_,rfl,Ext.refl _ _,fun i b hi h=>?_⟩,e1,fun μ' σ' H' x' R'=>?_⟩
 .cases i with
  |zero =>
   simp at h
   subst h
   refine⟨.ref a,by simp[L2.start],.ref (by simp) fun b hb=>?_⟩
   simp at hb;rw[hb]
  |succ i =>
   rw[List.getElem?_cons_succ] at h
   obtain⟨v,e1,e2⟩:=YK (N:=U0l (N.length-1) "") rs h
   refine⟨v,?_,e2⟩
   unfold L2.start
   rw[U0m,U11,List.getElem?_cons_succ,U0j]
   rw[U1f] at e1
   rw[show N.length-(us.length+1)=N.length-1-us.length by omega]
   exact e1
 .unfold L2.start
  rw[U0r,U0k,U1f,U0j,U0j,U0r,U0k,U1f,hdl]
  omega
 .cases i with
  |zero=>simp at h;subst h;exact⟨a,_,by simp,ha,VRs.ints ns⟩
  |succ i=>simp at h
 .cases i with
  |zero=>exact⟨_,rfl⟩
  |succ i=>simp at h
 .cases i with
  |zero=>cases j with
   |zero=>rfl
   |succ j=>simp at h2
  |succ i=>simp at h1
 .cases i with
  |zero=>simp at hi
  |succ i=>simp at h
 have sm:∀b o,b≠a->H b=some o->H' b=some o:=fun b o hb h=>(x'.keep b o h fun z=>hb (QF.mp z)).1
 dsimp only at e
 split at e
 .rename_i cs hc
  obtain⟨ms',e3,e5⟩:=bind_some e
  clear e
  obtain⟨a',xs',g1,g2,g3⟩:=R'.sto 0 cs hc
  have ea:a'=a:=by
   have:=x'.ids 0 a' (by simp) g1
   simp at this;exact this.symm
  subst ea
  have ec:=JF e3
  subst ec
  have ex:=g3.Ru
  subst ex
  cases fl with
  |nx=>cases e5;exact q _ H' sm g2 .non
  |brk=>cases e5
  |cnt=>cases e5
  |ret d =>
   intro v rv
   dsimp only at e5
   obtain⟨r',e4,e6⟩:=map_some e5
   cases e6
   refine q v H' sm g2 (VR.den R' rfl (fun i es b hi hs=>⟨hs,fun hm=>⟨fun z=>?_,?_⟩⟩) (fun m b _ o=>o) (fun b o _ n z=>n ?_) rv e4)
   .have:b=a':=QF.mp z
    subst this
    have:=R'.inj 0 i b g1 hm
    omega
   .have hn:=R'.new i b hi hm
    exact⟨fun _=>hn,.inr hn⟩
   .have:b=a':=QF.mp z
    subst this
    exact U1k g1
 .cases e
end
theorem Ci{np n:Nat}{f:BL}{ds:List D}{r:D}(h:Ef np n f ds=some r):ds.length=np/\BW r=true:=by
 unfold Ef at h
 by_cases hl:ds.length=np
 .rw[if_pos hl] at h
  obtain⟨⟨fl,env',S'⟩,e1,e⟩:=bind_some h
  refine⟨hl,?_⟩
  dsimp only at e
  cases fl with
  |nx=>cases e;rfl
  |brk=>cases e
  |cnt=>cases e
  |ret d=>exact WD e
 .rw[if_neg hl] at h;cases h
theorem Pg{np n:Nat}{f:BL}{ns:List Int}{ds:List D}{r:D×List Int}(h:runM np n f ns ds=some r):ds.length+1=np/\BW r.1=true:=by
 unfold runM at h
 by_cases hl:ds.length+1=np
 .rw[if_pos hl] at h
  obtain⟨⟨fl,env',S'⟩,e1,e⟩:=bind_some h
  refine⟨hl,?_⟩
  dsimp only at e
  split at e
  .rename_i cs hc
   obtain⟨ms',e3,e⟩:=bind_some e
   cases fl with
   |nx=>cases e;rfl
   |brk=>cases e
   |cnt=>cases e
   |ret d =>
    dsimp only at e
    obtain⟨r',e4,e⟩:=map_some e
    cases e
    exact WD e4
  .cases e
 .rw[if_neg hl] at h;cases h
end VS
end
section
namespace VS
open PySem PySem.Spec L2
structure Bu(P:Program)(w:World)(K:U0b)(mg:Str->Option Value)(base:Heap)(x:Str)(k:Nat)(sem:Cz):Prop where
 cal:∃ps,Cal P w K mg base x k ps (spP K sem ps.length)/\∀ds r,sem ds=some r->ds.length=ps.length/\BW r=true
structure KJ(P:Program)(w:World)(K:U0b)(mg:Str->Option Value)(base:Heap)(x:Str)(k:Nat)(sem:KH):Prop where
 cal:∃ps,Cal P w K mg base x k ps (spM K sem ps.length)/\∀ns ds r,sem ns ds=some r->ds.length+1=ps.length/\BW r.1=true
def Aw(sem:Cz)(a:Bm):BX:=fun env S=>(a env S).bind fun p=>(DW 0 p.2 p.1).bind fun ds=>(sem (Bj ds)).bind fun r=>if (Ay p.1||newD r)=true then some (r,p.2) else none
def Bl(sem:KH)(a:Bm):BX:=fun env S=>(a env S).bind fun p=>match p.1 with
 |.ref i::rest=>(match p.2[i]? with
  |some (some cs)=>(intsOf cs).bind fun ns=>(DW 0 (p.2.set i none) rest).bind fun ds=>(sem ns (Bj ds)).bind fun r=>if (Ay rest||newD r.1)=true then some (r.1,p.2.set i (some (r.2.map D.int))) else none
  |_=>none)
 |_=>none
def ZM(n:Nat):List D->Option (List D×List D)
 |[]=>none
 |d::r=>if Dy d=true then (ZM n r).map fun p=>(d::p.1,p.2) else match d with
  |.lst true ds=>if (FQ ds&&FQ r)=true then some (.ref n::r,ds) else none
  |_=>none
def Oa(n:Nat):D->Option (D×List D)
 |.lst true ds=>if FQ ds=true then some (.ref n,ds) else none
 |.tup es=>(ZM n es).map fun p=>(.tup p.1,p.2)
 |_=>none
def Q8(sem:Cz)(a:Bm):BX:=fun env S=>(Aw sem a env S).bind fun p=>(Oa p.2.length p.1).bind fun q=>some (q.1,p.2++[some q.2])
def Tj(sem:KH)(a:Bm):BX:=fun env S=>(Bl sem a env S).bind fun p=>(Oa p.2.length p.1).bind fun q=>some (q.1,p.2++[some q.2])
section
variable{Γ:Fr}{μ:Mu}{σ:St}{H H':Hp}{env:Env}{S:Store}
theorem lend{K:U0b}(hK:Γ.K=K)(R:Rep Γ μ σ H env S){S0:Store}{m0:List Addr}{vs:List V}{ds es:List D}(r:VRs Γ μ H vs ds)(e:DW 0 S0 ds=some es)(h0:∀(i:Nat)(ds:List D)(a:Addr),S0[i]?=some (some ds)->S[i]?=some (some ds)/\(μ[i]?=some (some a)->¬Dh (m0.map some) a))(hm:∀a∈m0,Dh μ a)
  (c:Bool) (hc:(Ay ds||c)=true):∃N:Addr->Prop,VRs ⟨K,H,N,m0⟩ (m0.map some) H vs (Bj es)/\(c=true∨∀a,N a->¬Dh μ a/\(Γ.N a∨Γ.H0 a=none)):=by
 subst hK
 have hl:∀a o,H a=some o->¬Dh μ a->¬Dh (m0.map some) a:=fun a o _ n z=>n (hm a (by simpa [Dh] using z))
 by_cases hp:Ay ds=true
 .rw[Ce 0 S0 hp] at e
  cases e
  exact⟨fun a=>¬Dh μ a/\(Γ.N a∨Γ.H0 a=none),VRs.age (Γ:=Γ) (Γ':=⟨Γ.K,H,fun a=>¬Dh μ a/\(Γ.N a∨Γ.H0 a=none),m0⟩) rfl (fun a n o=>⟨n,o⟩) hl hp r,.inr fun a z=>z⟩
 .have hc':c=true:=by simpa [hp] using hc
  refine⟨fun _=>True,?_,.inl hc'⟩
  have r1:VRs ⟨Γ.K,fun _=>none,fun _=>True,m0⟩ (m0.map some) H vs es:=VRs.den (Γ':=⟨Γ.K,fun _=>none,fun _=>True,m0⟩) R rfl (fun i ds a _ hs=>⟨(h0 i ds a hs).1,fun z=>⟨(h0 i ds a hs).2 z,⟨fun _=>rfl,.inl trivial⟩⟩⟩) (fun m a _ _=>⟨fun _=>rfl,.inl trivial⟩) hl r e
  exact VRs.age (Γ:=⟨Γ.K,fun _=>none,fun _=>True,m0⟩) (Γ':=⟨Γ.K,H,fun _=>True,m0⟩) (μ:=m0.map some) rfl (fun a _ _=>trivial) (fun a o _ n=>n) (Qp e) r1
theorem home{K:U0b}(hK:Γ.K=K)(R:Rep Γ μ σ H env S){N:Addr->Prop}{m0:List Addr}{v:V}{r:D}(lv:∀a,Dh μ a->∃xs,H' a=some (.lst xs))(hp:BW r=true)(c:newD r=true∨∀a,N a->¬Dh μ a/\(Γ.N a∨Γ.H0 a=none))
  (rv:VR ⟨K,H,N,m0⟩ (m0.map some) H' v r):VR Γ μ H' v r:=by
 subst hK
 rcases c with c|c
 .exact VR.new (fun a xs n o hb=>⟨R.ok (o.1 rfl) true,R.dead (o.1 rfl)⟩) c rv
 .refine VR.pure (Γ:=⟨Γ.K,H,N,m0⟩) (Γ':=Γ) rfl (fun m a xs n o hb=>?_) (fun a o hb n hx z=>?_) hp rv
  .rcases o.2 with z|z
   .refine⟨⟨fun hm=>R.fresh (o.1 hm),(c a z).2⟩,(c a z).1⟩
   .exact⟨R.ok z m,R.dead z⟩
  .obtain⟨xs,q⟩:=lv a z
   rw[q] at hb
   exact hx xs (U1c hb).symm
theorem Rep.adopt(R:Rep Γ μ σ H env S)(sm:Same H H'){a:Addr}{xs:List V}{ds:List D}(hn:H a=none)(ha:H' a=some (.lst xs))(hf:FQ ds=true){Γ':Fr}{μ':Mu}(rs:VRs Γ' μ' H' xs ds) :
  Rep Γ (μ++[some a]) σ H' env (S++[some ds])/\Ext μ H (μ++[some a]) H':=by
 have ne:∀b o,H b=some o->b≠a:=fun b o h z=>by rw[z,hn] at h;cases h
 have x:Ext μ H (μ++[some a]) H':=by
  refine⟨fun b o h n=>⟨sm b o h,fun z=>?_⟩,fun b ys h=>sm b _ h,fun b h=>sm.free h,fun i b hi h=>?_,by rw[U0r];omega⟩
  .rcases U12.mp z with z|z
   .exact n z
   .have z':b=a:=by simpa using z
    exact ne b o h z'
  .rw[U1e hi] at h;exact h
 have idx:∀i b,(μ++[some a])[i]?=some (some b)->(i<μ.length/\μ[i]?=some (some b))∨(i=μ.length/\b=a):=fun i b h=>by
  by_cases hi:i<μ.length
  .rw[U1e hi] at h;exact .inl ⟨hi,h⟩
  .rw[U2d (by omega)] at h
   have hl:=(U0n.mp h).1
   have hi':i=μ.length:=by simp at hl;omega
   subst hi'
   simp at h
   exact .inr ⟨rfl,h.symm⟩
 have no:∀i,μ[i]?=some (some a)->False:=fun i h=>R.dead hn (U1k h)
 refine⟨⟨fun i d h=>?_,R.len,fun i es h=>?_,fun i b h=>?_,fun i j b h1 h2=>?_,by rw[U0r,U0r,R.slen];rfl,R.ent.trans x,fun i b hi h=>?_⟩,x⟩
 .obtain⟨v,h1,h2⟩:=R.vals i d h
  exact⟨v,h1,h2.ext x⟩
 .by_cases hi:i<S.length
  .rw[U1e hi] at h
   obtain⟨b,ys,h1,h2,h3⟩:=R.sto i es h
   exact⟨b,ys,by rw[U1e (by rw[←R.slen];exact hi)];exact h1,sm _ _ h2,h3.ext x⟩
  .rw[U2d (by omega)] at h
   have hl:=(U0n.mp h).1
   have hi':i=S.length:=by simp at hl;omega
   subst hi'
   simp at h
   subst h
   exact⟨a,xs,by rw[R.slen];simp,ha,VRs.flat hf rs⟩
 .rcases idx i b h with ⟨hi,h⟩|⟨rfl,rfl⟩
  .obtain⟨ds',q⟩:=R.liv i b h
   exact⟨ds',by rw[U1e (by rw[R.slen];exact hi)];exact q⟩
  .exact⟨ds,by rw[←R.slen];simp⟩
 .rcases idx i b h1 with ⟨_,g1⟩|⟨e1,e2⟩
  .rcases idx j b h2 with ⟨_,g2⟩|⟨e3,e4⟩
   .exact R.inj i j b g1 g2
   .exact(no i (e4 ▸ g1)).elim
  .rcases idx j b h2 with ⟨_,g2⟩|⟨e3,_⟩
   .exact(no j (e2 ▸ g2)).elim
   .rw[e1,e3]
 .rcases idx i b h with ⟨_,h⟩|⟨rfl,rfl⟩
  .exact R.new i b hi h
  .exact R.fresh hn
end
theorem aL{Γ:Fr}{μ:Mu}{H:Hp}{n:Nat}:∀{vs:List V} {ds:List D} {p:List D×List D},ZM n ds=some p->VRs Γ μ H vs ds ->
  ∃a xs,Γ.Ok true a/\H a=some (.lst xs)/\VRs Γ μ H xs p.2/\FQ p.2=true/\∀(Γ':Fr)(μ':Mu),μ'[n]?=some (some a)->VRs Γ' μ' H vs p.1
 |_,[],_,h,_=>by cases h
 |_,d::r,p,h,.cons (xs:=vr) rd rr=>by
  unfold ZM at h
  by_cases hf:Dy d=true
  .rw[if_pos hf] at h
   obtain⟨q,e1,e2⟩:=map_some h
   subst e2
   obtain⟨a,xs,h1,h2,h3,h4,h5⟩:=aL e1 rr
   exact⟨a,xs,h1,h2,h3,h4,fun Γ' μ' z=>.cons (VR.flat hf rd) (h5 Γ' μ' z)⟩
  .rw[if_neg hf] at h
   split at h
   .rename_i ds
    by_cases hg:(FQ ds&&FQ r)=true
    .rw[if_pos hg] at h
     cases h
     rw[U1h] at hg
     cases rd with
     |@lst _ a xs _ o nl hb t =>
      refine⟨a,xs,o,hb,t,hg.1,fun Γ' μ' z=>.cons (.ref (U0n.mp z).1 fun b hb'=>?_) (VRs.flat hg.2 rr)⟩
      rw[z] at hb';cases hb';rfl
    .rw[if_neg hg] at h;cases h
   .cases h
theorem fP{Γ:Fr}{μ:Mu}{H:Hp}{n:Nat}{v:V}{d:D}{p:D×List D}(h:Oa n d=some p)(r:VR Γ μ H v d) :
  ∃a xs,Γ.Ok true a/\H a=some (.lst xs)/\VRs Γ μ H xs p.2/\FQ p.2=true/\∀(Γ':Fr)(μ':Mu),μ'[n]?=some (some a)->VR Γ' μ' H v p.1:=by
 unfold Oa at h
 split at h
 .rename_i ds
  by_cases hg:FQ ds=true
  .rw[if_pos hg] at h
   cases h
   cases r with
   |@lst _ a xs _ o nl hb t =>
    refine⟨a,xs,o,hb,t,hg,fun Γ' μ' z=>.ref (U0n.mp z).1 fun b hb'=>?_⟩
    rw[z] at hb';cases hb';rfl
  .rw[if_neg hg] at h;cases h
 .rename_i es
  obtain⟨q,e1,e2⟩:=map_some h
  subst e2
  cases r with
  |@tup b xs _ hb t =>
   obtain⟨a,ys,h1,h2,h3,h4,h5⟩:=aL e1 t
   exact⟨a,ys,h1,h2,h3,h4,fun Γ' μ' z=>.tup hb (h5 Γ' μ' z)⟩
 .cases h
section
variable{X:Cx}{x:Str}{k k':Nat}{e:Expr}{es:List Expr}{f:Bm}{p pos:Pos}
theorem Bo{sem:Cz}(c:Bu X.prog X.w X.K X.mg X.base x k sem)(hr:Gb k' X.A)(hk:k<=k')(hg:Gl X x)(ha:JA X (e::es) f)
  (hdb:(x==("__debug__":Str))=false:=by decide) (he:starEach (e::es) X.env=(false,eval e X.env)::starEach es X.env:=by rfl) (hpl:(backTo pos (starEach es X.env)).any (·.1)=false:=by rfl) :
  JE X (.Call (.Name x p) (e::es) [] pos) (Aw sem f):=by
 obtain⟨ps,c,hok⟩:=c.cal
 refine⟨PE.imp (S6 c hr hk hg ha.pa hdb he hpl) fun σ H Q h=>?_⟩
 obtain⟨Γ,μ,env,S,d,S',hK,R,e,q⟩:=h
 obtain⟨⟨as,S1⟩,e1,e⟩:=bind_some e
 obtain⟨ds,e2,e⟩:=bind_some e
 obtain⟨r,e3,e⟩:=bind_some e
 refine⟨Γ,μ,env,S,as,S1,hK,R,e1,fun vs μ1 H1 x1 R1 r1=>?_⟩
 show spP X.K sem ps.length (vs++[]) H1 Q E0
 rw[U15]
 dsimp only at e e2
 by_cases hc:(Ay as||newD r)=true
 .rw[if_pos hc] at e
  cases e
  obtain⟨hl,hp⟩:=hok _ _ e3
  obtain⟨N,rs,cN⟩:=lend hK R1 (m0:=[]) r1 e2 (fun i ds a hs=>⟨hs,fun _=>KR⟩) (fun a z=>by simp at z) (newD d) hc
  refine⟨N,_,d,?_,rs,e3,fun v H' sm rv=>?_⟩
  .rw[rs.length,hl]
  obtain⟨R2,x2⟩:=R1.grow sm
  exact q v μ1 H' (x1.trans x2) R2 (home hK R1 (fun a z=>R2.live z) hp cN rv)
 .rw[if_neg hc] at e;cases e
theorem bH{sem:Cz}(c:Bu X.prog X.w X.K X.mg X.base x k sem)(hr:Gb k' X.A)(hk:k<=k')(hg:Gl X x)(ha:JA X (e::es) f)
  (hdb:(x==("__debug__":Str))=false:=by decide) (he:starEach (e::es) X.env=(false,eval e X.env)::starEach es X.env:=by rfl) (hpl:(backTo pos (starEach es X.env)).any (·.1)=false:=by rfl) :
  JE X (.Call (.Name x p) (e::es) [] pos) (Q8 sem f):=by
 obtain⟨ps,c,hok⟩:=c.cal
 refine⟨PE.imp (S6 c hr hk hg ha.pa hdb he hpl) fun σ H Q h=>?_⟩
 obtain⟨Γ,μ,env,S,d,S',hK,R,e,q⟩:=h
 obtain⟨⟨d0,S0⟩,e0,e⟩:=bind_some e
 obtain⟨t,et,e⟩:=bind_some e
 cases e
 obtain⟨⟨as,S1⟩,e1,e⟩:=bind_some e0
 obtain⟨ds,e2,e⟩:=bind_some e
 obtain⟨r,e3,e⟩:=bind_some e
 refine⟨Γ,μ,env,S,as,S1,hK,R,e1,fun vs μ1 H1 x1 R1 r1=>?_⟩
 show spP X.K sem ps.length (vs++[]) H1 Q E0
 rw[U15]
 dsimp only at e e2
 by_cases hc:(Ay as||newD r)=true
 .rw[if_pos hc] at e
  cases e
  obtain⟨hl,hp⟩:=hok _ _ e3
  obtain⟨N,rs,cN⟩:=lend hK R1 (m0:=[]) r1 e2 (fun i ds a hs=>⟨hs,fun _=>KR⟩) (fun a z=>by simp at z) (newD d0) hc
  refine⟨N,_,d0,?_,rs,e3,fun v H' sm rv=>?_⟩
  .rw[rs.length,hl]
  obtain⟨a,xs,h1,h2,h3,h4,h5⟩:=fP et rv
  obtain⟨R2,x2⟩:=R1.adopt sm (h1.1 rfl) h2 h4 h3
  exact q v _ H' (x1.trans x2) R2 (h5 _ _ (by rw[R1.slen];simp))
 .rw[if_neg hc] at e;cases e
theorem Dt{sem:KH}(c:KJ X.prog X.w X.K X.mg X.base x k sem)(hr:Gb k' X.A)(hk:k<=k')(hg:Gl X x)(ha:JA X (e::es) f)
  (hdb:(x==("__debug__":Str))=false:=by decide) (he:starEach (e::es) X.env=(false,eval e X.env)::starEach es X.env:=by rfl) (hpl:(backTo pos (starEach es X.env)).any (·.1)=false:=by rfl) :
  JE X (.Call (.Name x p) (e::es) [] pos) (Bl sem f):=by
 obtain⟨ps,c,hok⟩:=c.cal
 refine⟨PE.imp (S6 c hr hk hg ha.pa hdb he hpl) fun σ H Q h=>?_⟩
 obtain⟨Γ,μ,env,S,d,S',hK,R,e,q⟩:=h
 obtain⟨⟨as,S1⟩,e1,e⟩:=bind_some e
 refine⟨Γ,μ,env,S,as,S1,hK,R,e1,fun vs μ1 H1 x1 R1 r1=>?_⟩
 show spM X.K sem ps.length (vs++[]) H1 Q E0
 rw[U15]
 dsimp only at e
 split at e
 .rename_i i rest
  split at e
  .rename_i cs hcs
   obtain⟨ns,e4,e⟩:=bind_some e
   obtain⟨ds,e2,e⟩:=bind_some e
   obtain⟨⟨r,ms⟩,e3,e⟩:=bind_some e
   dsimp only at e
   by_cases hc:(Ay rest||newD r)=true
   .rw[if_pos hc] at e
    cases e
    obtain⟨hl,hp⟩:=hok _ _ _ e3
    have ecs:=JF e4
    subst ecs
    cases r1 with
    |@cons v0 _ us _ r0 rr =>
     obtain⟨a,xs,rfl,h1,h2,h3⟩:=VR.Vq R1 r0 hcs
     have ex:=h3.Ru
     subst ex
     have hi:i<S1.length:=(U0n.mp hcs).1
     obtain⟨N,rs,cN⟩:=lend hK R1 (S0:=S1.set i none) (m0:=[a]) rr e2 (fun j es b hs=>by
      have hj:i≠j:=fun z=>by
       subst z
       rw[U2u hi] at hs;cases hs
      rw[U2y hj] at hs
      exact⟨hs,fun hm z=>hj (R1.inj i j a h1 (by rw[show a=b from (QF.mp z).symm];exact hm))⟩) (fun b z=>by
       have:b=a:=by simpa using z
       rw[this];exact U1k h1) (newD d) hc
     refine⟨N,a,us,ns,_,d,ms,rfl,?_,h2,rs,e3,fun v H' sm ha' rv=>?_⟩
     .rw[U0j,rs.length,hl]
     obtain⟨R2,x2⟩:=R1.put h1 (VRs.ints ms)
     have sm2:Same (upd H1 a (.lst (ms.map V.int))) H':=fun b o hb=>by
      by_cases z:b=a
      .rw[z,Cq] at hb;cases hb;rw[z];exact ha'
      .rw[CK z] at hb;exact sm b o z hb
     obtain⟨R3,x3⟩:=R2.grow sm2
     exact q v μ1 H' (x1.trans (x2.trans x3)) R3 (home hK R1 (fun a z=>R3.live z) hp cN rv)
   .rw[if_neg hc] at e;cases e
  .cases e
 .cases e
theorem qe{sem:KH}(c:KJ X.prog X.w X.K X.mg X.base x k sem)(hr:Gb k' X.A)(hk:k<=k')(hg:Gl X x)(ha:JA X (e::es) f)
  (hdb:(x==("__debug__":Str))=false:=by decide) (he:starEach (e::es) X.env=(false,eval e X.env)::starEach es X.env:=by rfl) (hpl:(backTo pos (starEach es X.env)).any (·.1)=false:=by rfl) :
  JE X (.Call (.Name x p) (e::es) [] pos) (Tj sem f):=by
 obtain⟨ps,c,hok⟩:=c.cal
 refine⟨PE.imp (S6 c hr hk hg ha.pa hdb he hpl) fun σ H Q h=>?_⟩
 obtain⟨Γ,μ,env,S,d,S',hK,R,e,q⟩:=h
 obtain⟨⟨d0,S0⟩,e0,e⟩:=bind_some e
 obtain⟨t,et,e⟩:=bind_some e
 cases e
 obtain⟨⟨as,S1⟩,e1,e⟩:=bind_some e0
 refine⟨Γ,μ,env,S,as,S1,hK,R,e1,fun vs μ1 H1 x1 R1 r1=>?_⟩
 show spM X.K sem ps.length (vs++[]) H1 Q E0
 rw[U15]
 dsimp only at e
 split at e
 .rename_i i rest
  split at e
  .rename_i cs hcs
   obtain⟨ns,e4,e⟩:=bind_some e
   obtain⟨ds,e2,e⟩:=bind_some e
   obtain⟨⟨r,ms⟩,e3,e⟩:=bind_some e
   dsimp only at e
   by_cases hc:(Ay rest||newD r)=true
   .rw[if_pos hc] at e
    cases e
    obtain⟨hl,hp⟩:=hok _ _ _ e3
    have ecs:=JF e4
    subst ecs
    cases r1 with
    |@cons v0 _ us _ r0 rr =>
     obtain⟨a,xs,rfl,h1,h2,h3⟩:=VR.Vq R1 r0 hcs
     have ex:=h3.Ru
     subst ex
     have hi:i<S1.length:=(U0n.mp hcs).1
     obtain⟨N,rs,cN⟩:=lend hK R1 (S0:=S1.set i none) (m0:=[a]) rr e2 (fun j es b hs=>by
      have hj:i≠j:=fun z=>by
       subst z
       rw[U2u hi] at hs;cases hs
      rw[U2y hj] at hs
      exact⟨hs,fun hm z=>hj (R1.inj i j a h1 (by rw[show a=b from (QF.mp z).symm];exact hm))⟩) (fun b z=>by
       have:b=a:=by simpa using z
       rw[this];exact U1k h1) (newD d0) hc
     refine⟨N,a,us,ns,_,d0,ms,rfl,?_,h2,rs,e3,fun v H' sm ha' rv=>?_⟩
     .rw[U0j,rs.length,hl]
     obtain⟨R2,x2⟩:=R1.put h1 (VRs.ints ms)
     have sm2:Same (upd H1 a (.lst (ms.map V.int))) H':=fun b o hb=>by
      by_cases z:b=a
      .rw[z,Cq] at hb;cases hb;rw[z];exact ha'
      .rw[CK z] at hb;exact sm b o z hb
     obtain⟨b,ys,g1,g2,g3,g4,g5⟩:=fP et rv
     have hb:upd H1 a (.lst (ms.map V.int)) b=none:=by
      have hn:H1 b=none:=g1.1 rfl
      rw[CK (fun z=>by rw[z,h2] at hn;cases hn)];exact hn
     obtain⟨R3,x3⟩:=R2.adopt sm2 hb g2 g4 g3
     exact q v _ H' (x1.trans (x2.trans x3)) R3 (g5 _ _ (by rw[U30,R1.slen];simp))
   .rw[if_neg hc] at e;cases e
  .cases e
 .cases e
end
end VS
end
section
namespace VS
open PySem PySem.Spec L2
theorem OpR.or{X:Cx}{f:Value->Value->Sem Value}{r r':R2}(h:OpR X f r)(h':OpR X f r'):OpR X f (fun x y H Q=>r x y H Q∨r' x y H Q):=fun pins s σ H x y v u Q I rx ry q=>q.elim (fun z=>h pins s σ H x y v u Q I rx ry z) fun z=>h' pins s σ H x y v u Q I rx ry z
theorem Eb.or{X:Cx}{f:Value}{r r':List V->Hp->VK->Prop}(h:Eb X f r)(h':Eb X f r'):Eb X f (fun xs H Q=>r xs H Q∨r' xs H Q):=fun pins s σ H xs us Q I rs q=>q.elim (fun z=>h pins s σ H xs us Q I rs z) fun z=>h' pins s σ H xs us Q I rs z
def oI(c:Int->Int->Bool)(g:Int->Int->D)(_:Store):D->D->Option D
 |.int i,.int j=>if c i j=true then some (g i j) else none
 |_,_=>none
def Hx(_ _:Int):Bool:=true
theorem ZP{K:U0b}{C:Int->Int->Prop}{c:Int->Int->Bool}(g:Int->Int->Int)(hc:∀i j,c i j=true->C i j):HD K (rI C fun i j=>.int (g i j)) (oI c fun i j=>.int (g i j)):=by
 intro Γ μ σ H env S x y dx dy d hK R rx ry e Q q
 unfold oI at e
 split at e
 .rename_i i j
  by_cases h:c i j=true
  .rw[if_pos h] at e;cases e;cases rx;cases ry
   exact⟨i,j,rfl,rfl,hc i j h,q _ H (Same.refl H) (.int _)⟩
  .rw[if_neg h] at e;cases e
 .cases e
theorem yN{K:U0b}(g:Int->Int->Int):HD K (rI0 fun i j=>.int (g i j)) (oI Hx fun i j=>.int (g i j)):=by
 intro Γ μ σ H env S x y dx dy d hK R rx ry e Q q
 unfold oI at e
 split at e
 .rename_i i j
  rw[if_pos (show Hx i j=true from rfl)] at e;cases e;cases rx;cases ry
  exact⟨i,j,rfl,rfl,q _ H (Same.refl H) (.int _)⟩
 .cases e
theorem Wf{K:U0b}(g:Int->Int->Bool):HD K (rI0 fun i j=>.bl (g i j)) (oI Hx fun i j=>.bl (g i j)):=by
 intro Γ μ σ H env S x y dx dy d hK R rx ry e Q q
 unfold oI at e
 split at e
 .rename_i i j
  rw[if_pos (show Hx i j=true from rfl)] at e;cases e;cases rx;cases ry
  exact⟨i,j,rfl,rfl,q _ H (Same.refl H) (.bl _)⟩
 .cases e
def Dw:=oI Hx fun i j=>.int (i-j)
def Pr(i j:Int):Bool:=(decide (-(2^64)<i)&&decide (i<2^64))||(decide (-(2^64)<j)&&decide (j<2^64))
def Vt(_ j:Int):Bool:=decide (0<j)&&decide (j<2^64)
def TQ(_ j:Int):Bool:=decide (0<j)
def Pq(i j:Int):Bool:=decide (0<=j)&&decide (j<=1000000)&&decide (i.natAbs<2^64)
def oDiv:=oI Vt fun i j=>.int (i/j)
def oMod:=oI TQ fun i j=>.int (i%j)
def GZ:=oI Pq fun i j=>.int (i^j.toNat)
def oLt:=oI Hx fun i j=>.bl (decide (i<j))
def oLe:=oI Hx fun i j=>.bl (decide (i<=j))
def oGt:=oI Hx fun i j=>.bl (decide (j<i))
def oGe:=oI Hx fun i j=>.bl (decide (j<=i))
theorem Fv{K:U0b}:HD K (rI0 fun i j=>.int (i-j)) Dw:=yN _
theorem RW{K:U0b}:HD K (rI (fun _ j=>0<j/\j<2^64) fun i j=>.int (i/j)) oDiv:=ZP _ fun i j h=>by simpa [Vt] using h
theorem Kg{K:U0b}:HD K (rI (fun _ j=>0<j) fun i j=>.int (i%j)) oMod:=ZP _ fun i j h=>by simpa [TQ] using h
theorem Js{K:U0b}:HD K (rI oF fun i j=>.int (i^j.toNat)) GZ:=ZP _ fun i j h=>by simpa [Pq,oF,and_assoc] using h
theorem Td{K:U0b}:HD K (rI0 fun i j=>.bl (decide (i<j))) oLt:=Wf _
theorem je{K:U0b}:HD K (rI0 fun i j=>.bl (decide (i<=j))) oLe:=Wf _
theorem Ml{K:U0b}:HD K (rI0 fun i j=>.bl (decide (j<i))) oGt:=Wf _
theorem Wd{K:U0b}:HD K (rI0 fun i j=>.bl (decide (j<=i))) oGe:=Wf _
def Ga(_:Store):D->Option D
 |.int i=>some (.int (-i))
 |_=>none
theorem JX{K:U0b}:xu K (rU fun i=>.int (-i)) Ga:=by
 intro Γ μ σ H env S x dx d hK R rx e Q q
 unfold Ga at e
 split at e
 .cases e;cases rx;exact⟨_,rfl,q _ H (Same.refl H) (.int _)⟩
 .cases e
def Dl(S:Store):D->D->Option D
 |.int i,.int j=>some (.int (i+j))
 |.tup a,.tup b=>if a.length+b.length<=1000000 then some (.tup (a++b)) else none
 |.str x,.str y=>if x.length+y.length<=1000000 then some (.str (x++y)) else none
 |x,y=>(listOf S x).bind fun a=>(listOf S y).bind fun b=>if a.length+b.length<=1000000 then some (.lst true (a++b)) else none
def rZ:R2:=fun x y H Q=>∃(a b:Addr)(xs ys:List V),x=.ref a/\y=.ref b/\H a=some (.tup xs)/\H b=some (.tup ys)/\xs.length+ys.length<=sizeLine/\∀p H',Same H H'->H' p=some (.tup (xs++ys))->Q (.ref p) H'
def Ja5:R2:=fun x y H Q=>∃i j,x=.str i/\y=.str j/\i.length+j.length<=sizeLine/\Q (.str (i++j)) H
def rm:R2:=fun x y H Q=>(rI0 fun i j=>.int (i+j)) x y H Q∨rZ x y H Q∨Ja5 x y H Q∨xY x y H Q
theorem Dv{X:Cx}:OpR X (binaryOp .Add) rm:=OpR.or zF (OpR.or uV (OpR.or jA zE))
theorem Du{K:U0b}:HD K rm Dl:=by
 intro Γ μ σ H env S x y dx dy d hK R rx ry e Q q
 unfold Dl at e
 split at e
 .cases e;cases rx;cases ry;exact .inl ⟨_,_,rfl,rfl,q _ H (Same.refl H) (.int _)⟩
 .rename_i a b
  by_cases h:a.length+b.length<=1000000
  .rw[if_pos h] at e;cases e
   cases rx with
   |@tup p xs _ hp rp =>
    cases ry with
    |@tup p2 ys _ hp2 rp2 =>
     refine .inr (.inl ⟨p,p2,xs,ys,rfl,rfl,hp,hp2,by rw[rp.length,rp2.length];exact U2w (big h),fun t H' sm ht=>?_⟩)
     obtain⟨R2,x2⟩:=R.grow sm
     exact q _ H' sm (.tup ht ((rp.append rp2).ext x2))
  .rw[if_neg h] at e;cases e
 .rename_i a b
  by_cases h:a.length+b.length<=1000000
  .rw[if_pos h] at e;cases e;cases rx;cases ry
   exact .inr (.inr (.inl ⟨_,_,rfl,rfl,U2w (big h),q _ H (Same.refl H) (.str _)⟩))
  .rw[if_neg h] at e;cases e
 .obtain⟨a,e1,e⟩:=bind_some e
  obtain⟨b,e2,e⟩:=bind_some e
  by_cases h:a.length+b.length<=1000000
  .rw[if_pos h] at e;cases e
   obtain⟨p,xs,rfl,hp,rp⟩:=VR.list R rx e1
   obtain⟨p2,ys,rfl,hp2,rp2⟩:=VR.list R ry e2
   refine .inr (.inr (.inr ⟨p,p2,xs,ys,rfl,rfl,hp,hp2,by rw[rp.length,rp2.length];exact U2w (big h),fun t ht=>?_⟩))
   obtain⟨R2,x2⟩:=R.grow (Df ht (.lst (xs++ys)))
   exact q _ _ (Df ht _) (.lst (R.ok ht true) (R.dead ht) Cq ((rp.append rp2).ext x2))
  .rw[if_neg h] at e;cases e
def J8(S:Store):D->D->Option D
 |.int i,.int j=>if Pr i j=true then some (.int (i*j)) else none
 |.tup a,.int k=>if a≠[]/\1<=k/\k<2^60/\a.length*k.toNat<=1000000 then some (.tup (U0l k.toNat a).flatten) else none
 |x,.int k=>(listOf S x).bind fun a=>if -(2^63)<=k/\k<2^63/\a.length*k.toNat<=1000000 then some (.lst true (U0l k.toNat a).flatten) else none
 |_,_=>none
def rY:R2:=fun x y H Q=>(rI Zk fun i j=>.int (i*j)) x y H Q∨rW x y H Q∨xQ x y H Q
theorem Jv{X:Cx}:OpR X (binaryOp .Mult) rY:=OpR.or zA (OpR.or uT jm)
theorem Jt{K:U0b}:HD K rY J8:=by
 intro Γ μ σ H env S x y dx dy d hK R rx ry e Q q
 unfold J8 at e
 split at e
 .rename_i i j
  by_cases h:Pr i j=true
  .rw[if_pos h] at e;cases e;cases rx;cases ry
   exact .inl ⟨_,_,rfl,rfl,by simpa [Pr,Zk] using h,q _ H (Same.refl H) (.int _)⟩
  .rw[if_neg h] at e;cases e
 .rename_i a k
  by_cases h:a≠[]/\1<=k/\k<2^60/\a.length*k.toNat<=1000000
  .rw[if_pos h] at e;cases e
   cases ry
   cases rx with
   |@tup p xs _ hp rp =>
    have hl:=rp.length
    refine .inr (.inl ⟨p,k,xs,rfl,rfl,hp,fun z=>h.1 (U2n.mp (by rw[←hl,z];rfl)),h.2.1,h.2.2.1,by rw[hl];exact U2w (big h.2.2.2),fun t H' sm ht=>?_⟩)
    obtain⟨R2,x2⟩:=R.grow sm
    exact q _ H' sm (.tup ht ((rp.rep _).ext x2))
  .rw[if_neg h] at e;cases e
 .rename_i k _ _
  obtain⟨a,e1,e⟩:=bind_some e
  by_cases h:-(2^63)<=k/\k<2^63/\a.length*k.toNat<=1000000
  .rw[if_pos h] at e;cases e
   cases ry
   obtain⟨p,xs,rfl,hp,rp⟩:=VR.list R rx e1
   refine .inr (.inr ⟨p,k,xs,rfl,rfl,hp,h.1,h.2.1,by rw[rp.length];exact U2w (big h.2.2),fun t ht=>?_⟩)
   obtain⟨R2,x2⟩:=R.grow (Df ht (.lst (U0l k.toNat xs).flatten))
   exact q _ _ (Df ht _) (.lst (R.ok ht true) (R.dead ht) Cq ((rp.rep _).ext x2))
  .rw[if_neg h] at e;cases e
 .cases e
def oIx(S:Store):D->D->Option D
 |x,.int i=>(CJ S x).bind fun ds=>atI ds i
 |_,_=>none
theorem vq{Γ:Fr}{μ:Mu}{H:Hp}{xs:List V}{ds:List D}{i:Int}{d:D}(r:VRs Γ μ H xs ds)(h:atI ds i=some d):∃x,atI xs i=some x/\VR Γ μ H x d:=by
 unfold atI at h ⊢
 obtain⟨j,e1,e2⟩:=bind_some h
 obtain⟨x,f1,f2⟩:=r.get e2
 exact⟨x,by rw[r.length,e1];exact f1,f2⟩
theorem Bd{K:U0b}:HD K (rIx K) oIx:=by
 intro Γ μ σ H env S x y dx dy d hK R rx ry e Q q
 unfold oIx at e
 split at e
 .rename_i i
  obtain⟨ds,e1,e⟩:=bind_some e
  cases ry
  obtain⟨a,xs,rfl,hq,rs⟩:=VR.seq hK R rx e1
  obtain⟨v,f1,f2⟩:=vq rs e
  rcases hq with hq|hq
  .exact .inl ⟨a,xs,i,v,rfl,rfl,hq,f1,q _ H (Same.refl H) f2⟩
  .exact .inr (.inl ⟨a,xs,i,v,rfl,rfl,hq,f1,q _ H (Same.refl H) f2⟩)
 .cases e
def cut(xs:List D)(lo hi:Option Int):List D:=(xs.drop (HT.sIx xs.length 0 lo)).take (HT.sIx xs.length xs.length hi-HT.sIx xs.length 0 lo)
def oSl(S:Store)(x:D)(lo hi:Option Int):Option D:=match x with
 |.tup ds=>some (.tup (cut ds lo hi))
 |x=>(CJ S x).map fun ds=>.lst true (cut ds lo hi)
def xO:V->Option Int->Option Int->Hp->VK->Prop:=fun x lo hi H Q=>∃(a:Addr)(xs:List V),x=.ref a/\H a=some (.tup xs)/\∀p H',Same H H'->H' p=some (.tup (Mf xs lo hi))->Q (.ref p) H'
def xP(K:U0b):V->Option Int->Option Int->Hp->VK->Prop:=fun x lo hi H Q=>xO x lo hi H Q∨xM K x lo hi H Q
theorem TY{X:Cx}:SlR X (xP X.K):=SlR.or tQ tR
theorem Tc{K:U0b}:sS K (xP K) oSl:=by
 intro Γ μ σ H env S x dx d l h hK R rx e Q q
 have key:∀{xs:List V} {ds:List D} {H':Hp},VRs Γ μ H' xs ds->VRs Γ μ H' (Mf xs l h) (cut ds l h):=fun r=>by
  unfold Mf cut
  rw[r.length]
  exact(r.drop _).take _
 unfold oSl at e
 split at e
 .cases e
  cases rx with
  |@tup p xs _ hp rp =>
   refine .inl ⟨p,xs,rfl,hp,fun t H' sm ht=>?_⟩
   obtain⟨R2,x2⟩:=R.grow sm
   exact q _ H' sm (.tup ht (key (rp.ext x2)))
 .rename_i ht
  obtain⟨ds,e1,e2⟩:=map_some e
  subst e2
  rcases VR.iC hK R rx e1 with ⟨es,z⟩|⟨a,xs,rfl,hq,rs⟩
  .exact absurd z (ht es)
  .refine .inr ⟨a,xs,rfl,hq,fun t htt=>?_⟩
   obtain⟨R2,x2⟩:=R.grow (Df htt (.lst (Mf xs l h)))
   exact q _ _ (Df htt _) (.lst (R.ok htt true) (R.dead htt) Cq (key (rs.ext x2)))
def Dm(S:Store):List D->Option D
 |[x]=>(CJ S x).map fun ds=>.int ds.length
 |_=>none
theorem Gj{K:U0b}:Px K (Jcd K) Dm:=by
 intro Γ μ σ H env S xs ds d hK R rs e Q q
 unfold Dm at e
 split at e
 .obtain⟨es,e1,e2⟩:=map_some e
  subst e2
  obtain⟨v,rfl,r⟩:=rs.one
  obtain⟨a,xs,rfl,hq,rx⟩:=VR.seq hK R r e1
  refine⟨a,xs,rfl,hq,?_⟩
  rw[rx.length]
  exact q _ H (Same.refl H) (.int _)
 .cases e
def Vu(S:Store):List D->Option D
 |[x]=>(CJ S x).map fun ds=>.tup ds
 |_=>none
theorem U9{K:U0b}:Px K (pW K) Vu:=by
 intro Γ μ σ H env S xs ds d hK R rs e Q q
 unfold Vu at e
 split at e
 .rename_i x
  obtain⟨es,e1,e2⟩:=map_some e
  subst e2
  obtain⟨v,rfl,r⟩:=rs.one
  rcases VR.iC hK R r e1 with ⟨fs,rfl⟩|⟨a,xs,rfl,hq,rx⟩
  .cases r with
   |@tup p xs _ hp rp=>cases e1;exact⟨p,xs,rfl,.inr ⟨SqT.of hp,q _ H (Same.refl H) (.tup hp rp)⟩⟩
  .refine⟨a,xs,rfl,.inl ⟨hq,fun l hl=>?_⟩⟩
   obtain⟨R2,x2⟩:=R.grow (Df hl (.tup xs))
   exact q _ _ (Df hl _) (.tup Cq (rx.ext x2))
 .cases e
def Pu(S:Store):List D->Option D
 |[x]=>(listOf S x).bind fun ds=>(boolsOf ds).map fun bs=>.bl (bs.all id)
 |_=>none
where boolsOf:List D->Option (List Bool)
 |[]=>some []
 |.bl b::r=>(boolsOf r).map (b::·)
 |_=>none
@[simp] theorem fC(bs:List Bool):Pu.boolsOf (bs.map D.bl)=some bs:=by
 induction bs with
 |nil=>rfl
 |cons b r ih=>rw[U0m,Pu.boolsOf,ih];rfl
theorem Vo{Γ:Fr}{μ:Mu}{H:Hp}:∀{xs:List V} {ds:List D} {bs:List Bool},VRs Γ μ H xs ds->Pu.boolsOf ds=some bs->xs=bs.map V.bl
 |_,[],_,.nil,h=>by cases h;rfl
 |_,.bl b::r,bs,.cons q t,h=>by
  rw[Pu.boolsOf] at h
  obtain⟨cs,e1,e2⟩:=map_some h
  subst e2
  cases q
  rw[U0m,Vo t e1]
 |_,.non::_,_,_,h=>by cases h
 |_,.int _::_,_,_,h=>by cases h
 |_,.str _::_,_,_,h=>by cases h
 |_,.ty _::_,_,_,h=>by cases h
 |_,.tup _::_,_,_,h=>by cases h
 |_,.lst _ _::_,_,_,h=>by cases h
 |_,.ref _::_,_,_,h=>by cases h
 |_,.scr _::_,_,_,h=>by cases h
 |_,.emp::_,_,_,h=>by cases h
def Jcg(K:U0b):List V->Hp->VK->Prop:=fun xs H Q=>∃(p:Addr)(bs:List Bool),xs=[.ref p]/\SqL K H p (bs.map V.bl)/\Q (.bl (bs.all id)) H
theorem fW{K:U0b}:Px K (Jcg K) Pu:=by
 intro Γ μ σ H env S xs ds d hK R rs e Q q
 unfold Pu at e
 split at e
 .obtain⟨es,e1,e⟩:=bind_some e
  obtain⟨bs,e2,e3⟩:=map_some e
  subst e3
  obtain⟨v,rfl,r⟩:=rs.one
  obtain⟨a,xs,rfl,ha,rx⟩:=VR.list R r e1
  have:=Vo rx e2
  subst this
  exact⟨a,bs,rfl,SqL.of ha,q _ H (Same.refl H) (.bl _)⟩
 .cases e
def Zb(_:Store):List D->Option D
 |[.int i,.int j]=>some (.int (if j>i then j else i))
 |_=>none
def Wb(_:Store):List D->Option D
 |[.int i,.int j]=>some (.int (if j<i then j else i))
 |_=>none
def Qy(_:Store):List D->Option D
 |[.int i]=>some (.int i)
 |[.bl k]=>some (.int (if k then 1 else 0))
 |_=>none
theorem pQ{K:U0b}:Px K (fun xs H Q=>∃i j,xs=[.int i,.int j]/\Q (.int (if j>i then j else i)) H) Zb:=by
 intro Γ μ σ H env S xs ds d hK R rs e Q q
 unfold Zb at e
 split at e
 .cases e
  obtain⟨v,u,rfl,r1,r2⟩:=rs.two
  cases r1;cases r2
  exact⟨_,_,rfl,q _ H (Same.refl H) (.int _)⟩
 .cases e
theorem aR{K:U0b}:Px K (fun xs H Q=>∃i j,xs=[.int i,.int j]/\Q (.int (if j<i then j else i)) H) Wb:=by
 intro Γ μ σ H env S xs ds d hK R rs e Q q
 unfold Wb at e
 split at e
 .cases e
  obtain⟨v,u,rfl,r1,r2⟩:=rs.two
  cases r1;cases r2
  exact⟨_,_,rfl,q _ H (Same.refl H) (.int _)⟩
 .cases e
theorem fV{K:U0b}:Px K (fun xs H Q=>(∃i,xs=[.int i]/\Q (.int i) H)∨∃k,xs=[.bl k]/\Q (.int (if k then 1 else 0)) H) Qy:=by
 intro Γ μ σ H env S xs ds d hK R rs e Q q
 unfold Qy at e
 split at e
 .cases e
  obtain⟨v,rfl,r1⟩:=rs.one
  cases r1
  exact .inl ⟨_,rfl,q _ H (Same.refl H) (.int _)⟩
 .cases e
  obtain⟨v,rfl,r1⟩:=rs.one
  cases r1
  exact .inr ⟨_,rfl,q _ H (Same.refl H) (.int _)⟩
 .cases e
def Ob:List Int->Option Int
 |[]=>none
 |n::r=>some (r.foldl (fun a b=>if a<b then b else a) n)
theorem vg(r:List Int):∀n:Int,(r.foldl (fun a b=>if a<b then b else a) n=n∨r.foldl (fun a b=>if a<b then b else a) n∈r)/\n<=r.foldl (fun a b=>if a<b then b else a) n/\∀m∈r,m<=r.foldl (fun a b=>if a<b then b else a) n:=by
 induction r with
 |nil=>intro n;exact⟨.inl rfl,Int.le_refl _,fun m h=>by simp at h⟩
 |cons x r ih =>
  intro n
  rw[U13]
  by_cases h:n<x
  .rw[if_pos h]
   obtain⟨h1,h2,h3⟩:=ih x
   refine⟨.inr (by rcases h1 with z|z;(rw[z];exact U0x);exact U0p _ z),by omega,fun m hm=>?_⟩
   rcases U00.mp hm with z|z
   .rw[z];exact h2
   .exact h3 m z
  .rw[if_neg h]
   obtain⟨h1,h2,h3⟩:=ih n
   refine⟨by rcases h1 with z|z;exact .inl z;exact .inr (U0p _ z),h2,fun m hm=>?_⟩
   rcases U00.mp hm with z|z
   .rw[z];omega
   .exact h3 m z
theorem gF{ns:List Int}{m:Int}(h:Ob ns=some m):m∈ns/\∀n∈ns,n<=m:=by
 cases ns with
 |nil=>cases h
 |cons x r =>
  cases h
  obtain⟨h1,h2,h3⟩:=vg r x
  refine⟨by rcases h1 with z|z;(rw[z];exact U0x);exact U0p _ z,fun n hn=>?_⟩
  rcases U00.mp hn with z|z
  .rw[z];exact h2
  .exact h3 n z
def Zi(K:U0b)(r:List V->Hp->VK->Prop)(g:Store->List D->Option (List D)):Prop:=∀(Γ:Fr)(μ:Mu)(σ:St)(H:Hp)(env:Env)(S:Store)(xs:List V)(ds es:List D),Γ.K=K->Rep Γ μ σ H env S->VRs Γ μ H xs ds->g S ds=some es ->
 ∀Q:VK,(∀l ys,H l=none->VRs Γ μ H ys es->Q (.ref l) (upd H l (.lst ys)))->r xs H Q
def Za(g:Store->List D->Option (List D))(a:Bm):BX:=fun env S=>(a env S).bind fun p=>(g p.2 p.1).map fun es=>(.lst true es,p.2)
def ZX(g:Store->List D->Option (List D))(a:Bm):BX:=fun env S=>(a env S).bind fun p=>(g p.2 p.1).map fun es=>(.ref p.2.length,p.2++[some es])
theorem tD{K:U0b}{r:List V->Hp->VK->Prop}{g:Store->List D->Option (List D)}{f:Bm}(hs:Zi K r g){σ:St}{H:Hp}{Q:VK}(h:wpE K (Za g f) σ H Q):tCB r (wpA K f) σ H Q:=by
 obtain⟨Γ,μ,env,S,d,S',hK,R,e,q⟩:=h
 obtain⟨⟨x,S1⟩,e1,e⟩:=bind_some e
 obtain⟨z,e4,e⟩:=map_some e
 cases e
 refine⟨Γ,μ,env,S,x,S1,hK,R,e1,fun v1 μ1 H1 x1 R1 r1=>?_⟩
 refine hs Γ μ1 σ H1 env S1 v1 x _ hK R1 r1 e4 Q fun l ys hl ry=>?_
 obtain⟨R4,x4⟩:=R1.grow (Df hl (.lst ys))
 exact q _ μ1 _ (x1.trans x4) R4 (.lst (R1.ok hl true) (R1.dead hl) Cq (ry.ext x4))
theorem su{K:U0b}{r:List V->Hp->VK->Prop}{g:Store->List D->Option (List D)}{f:Bm}(hs:Zi K r g){σ:St}{H:Hp}{Q:VK}(h:wpE K (ZX g f) σ H Q):tCB r (wpA K f) σ H Q:=by
 obtain⟨Γ,μ,env,S,d,S',hK,R,e,q⟩:=h
 obtain⟨⟨x,S1⟩,e1,e⟩:=bind_some e
 obtain⟨z,e4,e⟩:=map_some e
 cases e
 refine⟨Γ,μ,env,S,x,S1,hK,R,e1,fun v1 μ1 H1 x1 R1 r1=>?_⟩
 refine hs Γ μ1 σ H1 env S1 v1 x _ hK R1 r1 e4 Q fun l ys hl ry=>?_
 obtain⟨R4,x4⟩:=R1.laid hl ry
 exact q _ _ _ (x1.trans x4) R4 (Xx R1.slen)
section
variable{X:Cx}{x:Str}{p pos:Pos}{e:Expr}{es:List Expr}{T:String}{f:Bm}{r:List V->Hp->VK->Prop}{g:Store->List D->Option (List D)}
theorem vD(hc:Eb X (.type T) r)(hsm:Zi X.K r g)(hg:Gl X x)(hm:X.mg x=none)(hv:bootBuiltins x=some (.type T))(ha:JA X (e::es) f)(hn:x≠"__name__":=by decide)(hdb:(x==("__debug__":Str))=false:=by decide)
  (he:starEach (e::es) X.env=(false,eval e X.env)::starEach es X.env:=by rfl) (hpl:(backTo pos (starEach es X.env)).any (·.1)=false:=by rfl):JE X (.Call (.Name x p) (e::es) [] pos) (Za g f) :=
 ⟨PE.imp (MP hc hg hm hv ha.pa hn hdb he hpl) fun _ _ _ h=>tD hsm h⟩
theorem vC(hc:Eb X (.type T) r)(hsm:Zi X.K r g)(hg:Gl X x)(hm:X.mg x=none)(hv:bootBuiltins x=some (.type T))(ha:JA X (e::es) f)(hn:x≠"__name__":=by decide)(hdb:(x==("__debug__":Str))=false:=by decide)
  (he:starEach (e::es) X.env=(false,eval e X.env)::starEach es X.env:=by rfl) (hpl:(backTo pos (starEach es X.env)).any (·.1)=false:=by rfl):JE X (.Call (.Name x p) (e::es) [] pos) (ZX g f) :=
 ⟨PE.imp (MP hc hg hm hv ha.pa hn hdb he hpl) fun _ _ _ h=>su hsm h⟩
end
def nList(S:Store):List D->Option (List D)
 |[x]=>CJ S x
 |_=>none
theorem aU{K:U0b}:Zi K (u6 K) nList:=by
 intro Γ μ σ H env S xs ds es hK R rs e Q q
 unfold nList at e
 split at e
 .obtain⟨v,rfl,r⟩:=rs.one
  obtain⟨a,ys,rfl,hq,ry⟩:=VR.seq hK R r e
  exact⟨a,ys,rfl,hq,fun l hl=>q l ys hl ry⟩
 .cases e
end VS
end
section
namespace VS
open PySem PySem.Spec L2
mutual
def toP:D->Option PyData
 |.non=>some .none
 |.bl b=>some (.bool b)
 |.int i=>some (.int i)
 |.str x=>some (.str x)
 |.tup ds=>(K6 ds).map .tuple
 |.lst _ ds=>(K6 ds).map .list
 |.emp=>some (.dict [])
 |.ref _=>none
 |.scr _=>none
 |.ty _=>none
def K6:List D->Option (List PyData)
 |[]=>some []
 |d::r=>(toP d).bind fun x=>(K6 r).bind fun xs=>some (x::xs)
end
mutual
theorem VR.tr{Γ:Fr}{μ:Mu}{H:Hp}:∀{v:V} {d:D} {p:PyData},VR Γ μ H v d->toP d=some p->Tr (fun _=>True) H v p
 |_,_,_,.non,h=>by rw[toP] at h;cases h;exact .non
 |_,_,_,.bl b,h=>by rw[toP] at h;cases h;exact .bl b
 |_,_,_,.int i,h=>by rw[toP] at h;cases h;exact .int i
 |_,_,_,.str x,h=>by rw[toP] at h;cases h;exact .str x
 |_,_,_,.ty _,h=>by rw[toP] at h;cases h
 |_,_,_,.tup hb t,h=>by
  rw[toP] at h
  obtain⟨ps,e1,e2⟩:=map_some h
  subst e2
  exact .tup trivial hb (VRs.tr t e1)
 |_,_,_,.lst _ _ hb t,h=>by
  rw[toP] at h
  obtain⟨ps,e1,e2⟩:=map_some h
  subst e2
  exact .lst trivial hb (VRs.tr t e1)
 |_,_,_,.ref _ _,h=>by rw[toP] at h;cases h
 |_,_,_,.scrK _,h=>by rw[toP] at h;cases h
 |_,_,_,.scrR _ _,h=>by rw[toP] at h;cases h
 |_,_,_,.emp _ hb,h=>by rw[toP] at h;cases h;exact .dct trivial hb
theorem VRs.tr{Γ:Fr}{μ:Mu}{H:Hp}:∀{v:List V} {d:List D} {p:List PyData},VRs Γ μ H v d->K6 d=some p->Mj (fun _=>True) H v p
 |_,_,_,.nil,h=>by rw[K6] at h;cases h;exact .nil
 |_,_,_,.cons r t,h=>by
  rw[K6] at h
  obtain⟨x,e1,h⟩:=bind_some h
  obtain⟨xs,e2,h⟩:=bind_some h
  cases h
  exact .cons (VR.tr r e1) (VRs.tr t e2)
end
def Dk(S:Store)(d:D):Option PyData:=(den 0 S d).bind toP
theorem VR.see{Γ:Fr}{μ:Mu}{σ:St}{H:Hp}{env:Env}{S:Store}{v:V}{d:D}{p:PyData}(R:Rep Γ μ σ H env S)(r:VR Γ μ H v d)(h:Dk S d=some p):Tr (fun _=>True) H v p:=by
 obtain⟨e,e1,e2⟩:=bind_some h
 have r1:VR ⟨Γ.K,fun _=>none,fun _=>True,[]⟩ [] H v e:=VR.den (Γ':=⟨Γ.K,fun _=>none,fun _=>True,[]⟩) R rfl (fun i ds a _ hs=>⟨hs,fun z=>⟨KR,⟨fun _=>rfl,.inl trivial⟩⟩⟩) (fun m a _ _=>⟨fun _=>rfl,.inl trivial⟩) (fun a o _ _=>KR) r e1
 exact r1.tr e2
def eqP(neg:Bool)(S:Store)(x y:D):Option D:=(Dk S x).bind fun p=>(Dk S y).bind fun q=>if (U21 p&&U21 q)=true then some (.bl (neg ^^ U70 p q)) else none
def oEq(neg:Bool)(S:Store):D->D->Option D
 |.int i,.int j=>some (.bl (neg ^^ decide (i=j)))
 |x,y=>eqP neg S x y
def Jcf:R2:=fun x y H Q=>∃(N N':Addr->Prop)(d e:PyData),Tr N H x d/\Tr N' H y e/\U21 d=true/\U21 e=true/\Q (.bl (U70 d e)) H
def Jcc:R2:=fun x y H Q=>∃(N N':Addr->Prop)(d e:PyData),Tr N H x d/\Tr N' H y e/\U21 d=true/\U21 e=true/\Q (.bl (!PyData.eqv d e)) H
def xX:R2:=fun x y H Q=>rEq x y H Q∨Jcf x y H Q
def xT:R2:=fun x y H Q=>rNe x y H Q∨Jcc x y H Q
theorem GC{X:Cx}{k:Nat}(hr:Gb k X.A):OpR X (compareOp .Eq) xX:=OpR.or Jbe (zB hr)
theorem Q0{X:Cx}{k:Nat}(hr:Gb k X.A):OpR X (compareOp .NotEq) xT:=OpR.or Jbd (yx hr)
theorem G9{K:U0b}:HD K xX (oEq false):=by
 intro Γ μ σ H env S x y dx dy d hK R rx ry e Q q
 unfold oEq at e
 split at e
 .rename_i i j
  cases e;cases rx;cases ry
  refine .inl ⟨rfl,?_⟩
  have:decide (V.int i=V.int j)=decide (i=j):=by simp
  rw[this]
  exact q _ H (Same.refl H) (by simpa using VR.bl (decide (i=j)))
 .unfold eqP at e
  obtain⟨p,e1,e⟩:=bind_some e
  obtain⟨p2,e2,e⟩:=bind_some e
  by_cases h:(U21 p&&U21 p2)=true
  .rw[if_pos h] at e
   cases e
   rw[U1h] at h
   exact .inr ⟨_,_,p,p2,rx.see R e1,ry.see R e2,h.1,h.2,q _ H (Same.refl H) (by simpa using VR.bl (U70 p p2))⟩
  .rw[if_neg h] at e;cases e
theorem Pz{K:U0b}:HD K xT (oEq true):=by
 intro Γ μ σ H env S x y dx dy d hK R rx ry e Q q
 unfold oEq at e
 split at e
 .rename_i i j
  cases e;cases rx;cases ry
  refine .inl ⟨rfl,?_⟩
  have:decide (V.int i=V.int j)=decide (i=j):=by simp
  rw[this]
  exact q _ H (Same.refl H) (by simpa using VR.bl (!decide (i=j)))
 .unfold eqP at e
  obtain⟨p,e1,e⟩:=bind_some e
  obtain⟨p2,e2,e⟩:=bind_some e
  by_cases h:(U21 p&&U21 p2)=true
  .rw[if_pos h] at e
   cases e
   rw[U1h] at h
   exact .inr ⟨_,_,p,p2,rx.see R e1,ry.see R e2,h.1,h.2,q _ H (Same.refl H) (by simpa using VR.bl (!PyData.eqv p p2))⟩
  .rw[if_neg h] at e;cases e
def Zf(D:List (PyData×PyData))(_:Store):VS.D->Option VS.D
 |.int i=>some (.bl (lookup (.int i) D).isSome)
 |_=>none
def Wg(D:List (PyData×PyData))(_:Store):VS.D->Option VS.D
 |.int i=>match lookup (.int i) D with|some (.int j)=>some (.int j)|_=>none
 |_=>none
section
variable{X:Cx}{a:Expr}{fa:BX}{x:Str}{p pos:Pos}{dM:Addr}{D:List (PyData×PyData)}
theorem yG{K:U0b}{σ:St}{H:Hp}{Q:VK}(h:wpE K (eUn (Zf D) fa) σ H Q):tOp (fun x y H Q=>∃(i:Int),x=.int i/\y=.ref dM/\Q (.bl (lookup (.int i) D).isSome) H) (wpE K fa) (tC (.ref dM)) σ H Q:=by
 obtain⟨Γ,μ,env,S,d,S',hK,R,e,q⟩:=h
 obtain⟨⟨y,S1⟩,e1,e⟩:=bind_some e
 obtain⟨z,e3,e⟩:=map_some e
 cases e
 refine⟨Γ,μ,env,S,y,S1,hK,R,e1,fun v1 μ1 H1 x1 R1 r1=>?_⟩
 dsimp only at e3
 unfold Zf at e3
 split at e3
 .cases e3;cases r1;exact⟨_,rfl,rfl,q _ μ1 H1 x1 R1 (.bl _)⟩
 .cases e3
theorem qm(hT:∀h,X.K.In h->U5n X.prog X.w h dM D)(ha:JE X a fa)(hg:Gl X x)(hm:X.mg x=some (.ref dM))(hk:behindInMarks .In (.Name x p)=false:=by with_unfolding_all rfl)(hd:(x==("__debug__":Str))=false:=by decide):JE X (.Compare a [.In] [.Name x p] pos) (eUn (Zf D) fa) :=
 ⟨PE.imp (gC (qM hT) ha.pe (fu (v:=.ref dM) hg hm rfl hd) hk) fun _ _ _ h=>yG h⟩
theorem qj(hT:∀h,X.K.In h->U5n X.prog X.w h dM D)(hb:JE X a fa)(hg:Gl X x)(hm:X.mg x=some (.ref dM))(hs:V9 a)(hd:(x==("__debug__":Str))=false:=by decide)
  (hgo:∀r,letTemporaryGo (.Name x p) (.ref dM) r=pure ():=by intro _;with_unfolding_all rfl):JE X (.Subscript (.Name x p) a pos) (eUn (Wg D) fa) :=
 ⟨PE.imp (qJ hT (fu (v:=.ref dM) hg hm rfl hd) hb.pe hs hgo) fun σ H Q h=>by
  obtain⟨Γ,μ,env,S,d,S',hK,R,e,q⟩:=h
  obtain⟨⟨y,S1⟩,e1,e⟩:=bind_some e
  obtain⟨z,e3,e⟩:=map_some e
  cases e
  refine⟨Γ,μ,env,S,y,S1,hK,R,e1,fun v1 μ1 H1 x1 R1 r1=>?_⟩
  dsimp only at e3
  unfold Wg at e3
  split at e3
  .split at e3
   .rename_i hl
    cases e3;cases r1;exact⟨_,_,rfl,rfl,hl,q _ μ1 H1 x1 R1 (.int _)⟩
   .cases e3
  .cases e3⟩
end
def isT(T:String)(d:PyData):Bool:=match T with
 |"str"=>(match d with|.str _=>true|_=>false)
 |T=>Zg T d
theorem ux{K:U0b}(d:PyData):U3n K (.type (tyName d)) (.type "str")=some (isT "str" d):=by
 cases d with
 |none=>exact DX (a:="NoneType") (r:=false) (by decide +kernel)
 |bool _=>exact DX (a:="bool") (r:=false) (by decide +kernel)
 |int _=>exact DX (a:="int") (r:=false) (by decide +kernel)
 |str _=>exact DX (a:="str") (r:=true) (by decide +kernel)
 |list _=>exact DX (a:="list") (r:=false) (by decide +kernel)
 |tuple _=>exact DX (a:="tuple") (r:=false) (by decide +kernel)
 |dict _=>exact DX (a:="dict") (r:=false) (by decide +kernel)
def J9(S:Store):List D->Option D
 |[x,.ty "int"]=>(Dk S x).map fun p=>.bl (isT "int" p)
 |[x,.ty "bool"]=>(Dk S x).map fun p=>.bl (isT "bool" p)
 |[x,.ty "tuple"]=>(Dk S x).map fun p=>.bl (isT "tuple" p)
 |[x,.ty "list"]=>(Dk S x).map fun p=>.bl (isT "list" p)
 |[x,.ty "str"]=>(Dk S x).map fun p=>.bl (isT "str" p)
 |[x,.tup [.ty "tuple",.ty "list"]]=>(Dk S x).bind fun p=>if noDict p=true then some (.bl (isSeq p)) else none
 |_=>none
def Jce(K:U0b):List V->Hp->VK->Prop:=fun xs H Q=>∃(x:V)(T:String)(t:Value)(b:Bool),xs=[x,.ty T]/\Lz K H x t/\U3n K t (.type T)=some b/\Q (.bl b) H
def Ja3:List V->Hp->VK->Prop:=fun xs H Q=>∃(N:Addr->Prop)(x:V)(d:PyData)(p:Addr),xs=[x,.ref p]/\H p=some (.tup [.ty "tuple",.ty "list"])/\Tr N H x d/\noDict d=true/\Q (.bl (isSeq d)) H
def iY(K:U0b):List V->Hp->VK->Prop:=fun xs H Q=>Jce K xs H Q∨Ja3 xs H Q
theorem Ik{X:Cx}:Eb X (.builtin "isinstance") (iY X.K):=Eb.or eZ ZJ
theorem JZ{K:U0b}:Px K (iY K) J9:=by
 intro Γ μ σ H env S xs ds d hK R rs e Q q
 have go:∀(T:String)(x:D),(∀p:PyData,U3n K (.type (tyName p)) (.type T)=some (isT T p))->ds=[x,.ty T]->((Dk S x).map fun p=>D.bl (isT T p))=some d->iY K xs H Q:=fun T x hk hd e'=>by
  subst hd
  obtain⟨p,e1,e2⟩:=map_some e'
  subst e2
  obtain⟨v,u,rfl,r1,r2⟩:=rs.two
  cases r2
  exact .inl ⟨v,T,_,_,rfl,(r1.see R e1).ty,hk p,q _ H (Same.refl H) (.bl _)⟩
 unfold J9 at e
 split at e
 .exact go "int" _ uy rfl e
 .exact go "bool" _ qb rfl e
 .exact go "tuple" _ kit_tuple rfl e
 .exact go "list" _ qZ rfl e
 .exact go "str" _ ux rfl e
 .obtain⟨p,e1,e⟩:=bind_some e
  by_cases h:noDict p=true
  .rw[if_pos h] at e
   cases e
   obtain⟨v,u,rfl,r1,r2⟩:=rs.two
   cases r2 with
   |@tup a ys _ ha ry =>
    cases ry with
    |cons q1 t1 =>
     cases t1 with
     |cons q2 t2 =>
      cases t2;cases q1;cases q2
      exact .inr ⟨_,v,p,a,rfl,ha,r1.see R e1,h,q _ H (Same.refl H) (.bl _)⟩
  .rw[if_neg h] at e;cases e
 .cases e
def Gd(ns:List Int):List Int:=(SetP.once ns).mergeSort fun a b=>decide (a<=b)
theorem Wn{ns ms:List Int}(h:ms.Perm (SetP.once ns))(s:ms.Pairwise (·<=·)):ms=Gd ns:=by
 have h2:(Gd ns).Perm (SetP.once ns):=U5o _ _
 have s2:(Gd ns).Pairwise (·<=·):=by
  have:=List.pairwise_mergeSort (le:=fun a b:Int=>decide (a<=b)) (by intro a b c h1 h2;simp at *;omega) (by intro a b;simp;omega) (SetP.once ns)
  exact this.imp fun h=>by simpa using h
 exact U4p.eq_of_pairwise (fun a b _ _ h1 h2=>Int.le_antisymm h1 h2) s s2 (h.trans h2.symm)
def W9(a:BX):BX:=fun env S=>(a env S).bind fun p=>(listOf p.2 p.1).bind fun ds=>(intsOf ds).bind fun ns=>if ns.length<1000/\(SetP.once ns).length<64 then some (.lst true ((Gd ns).map .int),p.2) else none
theorem jM{X:Cx}{a:Expr}{f:BX}{p p2 pos pos2:Pos}(hc:X.calm=true)(ha:JE X a f)(hg:Gl X "sorted")(hm:X.mg "sorted"=none)(hg2:Gl X "set")(hm2:X.mg "set"=none) 
  (he:starEach [a] X.env=[(false,eval a X.env)]:=by rfl) (he2:starEach [.Call (.Name "set" p2) [a] [] pos2] X.env=[(false,eval (.Call (.Name "set" p2) [a] [] pos2) X.env)]:=by rfl):JE X (.Call (.Name "sorted" p) [.Call (.Name "set" p2) [a] [] pos2] [] pos) (W9 f) :=
 ⟨PE.imp (aZ (YD hc) hg hm nR (RZ (MP (rH hc) hg2 hm2 zq (RZ ha.pe Tf he) (he:=he) (hpl:=rfl)) Tf he2) (he:=he2) (hpl:=rfl)) fun σ H Q h=>by
  obtain⟨Γ,μ,env,S,d,S',hK,R,e,q⟩:=h
  obtain⟨⟨y,S1⟩,e1,e⟩:=bind_some e
  obtain⟨ds,e2,e⟩:=bind_some e
  obtain⟨ns,e3,e⟩:=bind_some e
  by_cases hl:ns.length<1000/\(SetP.once ns).length<64
  .rw[if_pos hl] at e
   cases e
   refine⟨Γ,μ,env,S,y,_,hK,R,e1,fun v1 μ1 H1 x1 R1 r1=>?_⟩
   obtain⟨b,xs,rfl,hb,rb⟩:=VR.list R1 r1 e2
   have:=JF e3
   subst this
   have:=rb.Ru
   subst this
   refine⟨b,ns,rfl,SqL.of hb,hl.1,fun s hs=>?_⟩
   obtain⟨R2,x2⟩:=R1.grow (Df hs (Zd X.prog X.w s (SetP.once ns)))
   refine⟨s,_,rfl,Cq,hl.2,fun l ms hl' hp hsrt=>?_⟩
   have:=Wn hp hsrt
   subst this
   obtain⟨R3,x3⟩:=R2.grow (Df hl' (.lst ((Gd ns).map V.int)))
   exact q _ μ1 _ (x1.trans (x2.trans x3)) R3 (.lst (R2.ok hl' true) (R2.dead hl') Cq (VRs.ints _))
  .rw[if_neg hl] at e;cases e⟩
def J5(a:Bm):BX:=fun env S=>(a env S).bind fun p=>match p.1 with
 |[.int j]=>if r62 j/\j.toNat<=1000 then some (.lst true (upD 0 j.toNat),p.2) else none
 |[.int i,.int j]=>if r62 i/\r62 j/\(j-i).toNat<=1000 then some (.lst true (upD i (j-i).toNat),p.2) else none
 |_=>none
theorem tH{Γ:Fr}{μ:Mu}{H:Hp}(lo:Int)(n:Nat):VRs Γ μ H ((upTo lo n).map V.int) (upD lo n):=by
 have:upD lo n=(upTo lo n).map D.int:=by unfold upD L2.upTo;rw[U0c];rfl
 rw[this];exact VRs.ints _
def aY:List V->Hp->VK->Prop:=fun xs H Q=>(∃(n:Int),xs=[.int n]/\∀p,H p=none->Q (.ref p) (upd H p (.rng 0 n)))∨∃(a b:Int),xs=[.int a,.int b]/\∀p,H p=none->Q (.ref p) (upd H p (.rng a b))
theorem dH{X:Cx}:Eb X (.type "range") aY:=Eb.or eY eX
theorem cL{K:U0b}{f:Bm}{σ:St}{H:Hp}{Q:VK} (h:∃Γ μ env S ds S',Γ.K=K/\Rep Γ μ σ H env S/\f env S=some (ds,S')/\∃lo n,((∃j,ds=[.int j]/\r62 j/\j.toNat<=1000/\lo=0/\n=j.toNat)∨∃i j,ds=[.int i,.int j]/\r62 i/\r62 j/\(j-i).toNat<=1000/\lo=i/\n=(j-i).toNat) /\
   ∀μ' H',Ext μ H μ' H'->Rep Γ μ' σ H' env S'->∀l,H' l=none->Q (.ref l) (upd H' l (.lst ((upTo lo n).map V.int)))) :
  tCB (fun xs H Q=>∃(r:Addr)(lo hi:Int),xs=[.ref r]/\H r=some (.rng lo hi)/\-(2^62)<=lo/\lo<2^62/\-(2^62)<=hi/\hi<2^62/\(hi-lo).toNat<=1000/\∀l,H l=none->Q (.ref l) (upd H l (.lst ((upTo lo (hi-lo).toNat).map V.int)))) (rR (tCB aY (wpA K f)) wu) σ H Q:=by
 obtain⟨Γ,μ,env,S,ds,S',hK,R,e1,lo,n,hc,q⟩:=h
 refine⟨Γ,μ,env,S,ds,S',hK,R,e1,fun vs μ1 H1 x1 R1 r1=>?_⟩
 rcases hc with ⟨j,rfl,h1,h2,rfl,rfl⟩|⟨i,j,rfl,h1,h2,h3,rfl,rfl⟩
 .obtain⟨v,rfl,r⟩:=r1.one
  cases r
  refine .inl ⟨j,rfl,fun p hp=>⟨p,0,j,rfl,Cq,by decide,by decide,h1.1,h1.2,by simpa using h2,fun l hl=>?_⟩⟩
  obtain⟨R2,x2⟩:=R1.grow (Df hp (.rng 0 j))
  have:=q μ1 _ (x1.trans x2) R2 l hl
  simpa using this
 .obtain⟨v,u,rfl,r,r'⟩:=r1.two
  cases r
  cases r'
  refine .inr ⟨lo,j,rfl,fun p hp=>⟨p,lo,j,rfl,Cq,h1.1,h1.2,h2.1,h2.2,h3,fun l hl=>?_⟩⟩
  obtain⟨R2,x2⟩:=R1.grow (Df hp (.rng lo j))
  exact q μ1 _ (x1.trans x2) R2 l hl
section
variable{X:Cx}{a:Expr}{as:List Expr}{f:Bm}{p p2 pos pos2:Pos}
theorem Us(hc:X.calm=true)(ha:JA X (a::as) f)(hg:Gl X "list")(hm:X.mg "list"=none)(hg2:Gl X "range")(hm2:X.mg "range"=none)
  (he:starEach (a::as) X.env=(false,eval a X.env)::starEach as X.env:=by rfl) (hpl:(backTo pos2 (starEach as X.env)).any (·.1)=false:=by rfl) (he2:starEach [.Call (.Name "range" p2) (a::as) [] pos2] X.env=[(false,eval (.Call (.Name "range" p2) (a::as) [] pos2) X.env)]:=by rfl) :
  JE X (.Call (.Name "list" p) [.Call (.Name "range" p2) (a::as) [] pos2] [] pos) (J5 f) :=
 ⟨PE.imp (MP (YF hc) hg hm Rg (RZ (MP dH hg2 hm2 rK ha.pa (he:=he) (hpl:=hpl)) Tf he2) (he:=he2) (hpl:=rfl)) fun σ H Q h=>by
  obtain⟨Γ,μ,env,S,d,S',hK,R,e,q⟩:=h
  obtain⟨⟨ds,S1⟩,e1,e⟩:=bind_some e
  refine cL ⟨Γ,μ,env,S,ds,S1,hK,R,e1,?_⟩
  have fin:∀lo n,d=.lst true (upD lo n)->S1=S'->∀μ' H',Ext μ H μ' H'->Rep Γ μ' σ H' env S1->∀l,H' l=none->Q (.ref l) (upd H' l (.lst ((upTo lo n).map V.int))):=fun lo n hd hs μ' H' x' R' l hl=>by
   subst hd hs
   obtain⟨R2,x2⟩:=R'.grow (Df hl (.lst ((upTo lo n).map V.int)))
   exact q _ μ' _ (x'.trans x2) R2 (.lst (R'.ok hl true) (R'.dead hl) Cq (tH lo n))
  dsimp only at e
  split at e
  .rename_i j
   by_cases hj:r62 j/\j.toNat<=1000
   .rw[if_pos hj] at e;cases e
    exact⟨0,_,.inl ⟨j,rfl,hj.1,hj.2,rfl,rfl⟩,fin _ _ rfl rfl⟩
   .rw[if_neg hj] at e;cases e
  .rename_i i j
   by_cases hj:r62 i/\r62 j/\(j-i).toNat<=1000
   .rw[if_pos hj] at e;cases e
    exact⟨i,_,.inr ⟨i,j,rfl,hj.1,hj.2.1,hj.2.2,rfl,rfl⟩,fin _ _ rfl rfl⟩
   .rw[if_neg hj] at e;cases e
  .cases e⟩
end
end VS
end
section
namespace VS
open PySem PySem.Spec L2
def Wc(K:U0b):Sp:=fun vs H Q _=>∃(l:Addr)(ns:List Int),vs=[.ref l]/\Only H/\ns.length<=63/\SqL K H l (ns.map V.int)/\∀H',Q (.bl true) H'
theorem zO{K:U0b}{sem:Cz}(h:∀ns:List Int,ns.length<=63->sem [.scr ns]=some (.bl true)):∀vs H Q E,Wc K vs H Q E->spP K sem 1 vs H Q E:=by
 intro vs H Q E ⟨l,ns,e,hO,hl,hq,q⟩
 subst e
 refine⟨fun _=>False,[.scr ns],.bl true,rfl,.cons ?_ .nil,h ns hl,fun v H' sm rv=>?_⟩
 .rcases hq with hq|hq
  .rcases hq with hq|⟨o,hq⟩
   .rcases hO l with z|⟨o,xs,z⟩
    .rw[z] at hq;cases hq
    .rw[z] at hq;cases hq
   .exact .scrR KR hq
  .exact .scrK fun H'=>.inr hq
 .cases rv;exact q H'
theorem vh{P:Program}{w:World}{K:U0b}{mg:Str->Option Value}{base:Heap}{k:Nat}{f:Addr}{fd:FuncData}{ps:List Str}{n:Nat}(hn:n=ps.length):DG P w K mg base CX0 k f fd ps (spP K (fun _=>none) n) :=
 ⟨fun vs H Q E ⟨_,_,_,hl,_⟩=>hl.trans hn,fun A outer s H args us vs Q E hr e0 hb hv ⟨_,_,_,_,_,e,_⟩=>by cases e⟩
end VS
end
section
namespace VS
open PySem L2
theorem Ju(a b:BL)(env:VS.Env)(S:Store):VS.Bh a b env S=(a env S).bind fun p=>match p.1 with|.nx=>b p.2.1 p.2.2|f=>some (f,p.2.1,p.2.2):=rfl
theorem CW(i:Nat)(a:BX)(env:VS.Env)(S:Store):VS.Bk i a env S=(a env S).bind fun p=>some (.nx,env.set i (some p.1),p.2):=rfl
theorem Cg(a:BX)(env:VS.Env)(S:Store):VS.DN a env S=(a env S).bind fun p=>some (.ret p.1,env,p.2):=rfl
theorem LR(c:Fo)(a b:BL)(env:VS.Env)(S:Store):VS.sIf c a b env S=(c env S).bind fun p=>if p.1=true then a env p.2 else b env p.2:=rfl
theorem tu(a:BX)(g:M6)(env:VS.Env)(S:Store):VS.Ze a g env S=(a env S).bind fun p=>(g p.1 env).bind fun e=>some (.nx,e,p.2):=rfl
theorem Gk(a:BX)(env:VS.Env)(S:Store):VS.GX a env S=(a env S).bind fun p=>some (.nx,env,p.2):=rfl
theorem MF(env:VS.Env)(S:Store):VS.Ed  env S=some (.nx,env,S):=rfl
theorem lR(env:VS.Env)(S:Store):VS.Mq  env S=none:=rfl
theorem Fg(it:M5)(g:M6)(b:BL)(env:VS.Env)(S:Store):VS.J7 it g b env S=(it env S).bind fun p=>loop p.1.2 g b p.1.1 env p.2:=rfl
theorem Je(v o i:BX)(env:VS.Env)(S:Store):VS.Ij v o i env S=(v env S).bind fun p=>(o env p.2).bind fun q=>(i env q.2).bind fun r=>match q.1,r.1 with
 |.ref j,.int k=>(match r.2[j]? with
  |some (some ds)=>(ixN ds.length k).bind fun n=>some (.nx,env,r.2.set j (some (ds.set n p.1)))
  |_=>none)
 |_,_=>none:=rfl
theorem Aq(i:Nat)(env:VS.Env)(S:Store):VS.Ab i env S=(env[i]?.join).map fun d=>(d,S):=rfl
theorem CT(d:D)(env:VS.Env)(S:Store):VS.eC d env S=some (d,S):=rfl
theorem BJ(g:Store->D->D->Option D)(a b:BX)(env:VS.Env)(S:Store):VS.eOp g a b env S=(a env S).bind fun p=>(b env p.2).bind fun q=>(g q.2 p.1 q.1).map fun d=>(d,q.2):=rfl
theorem zc(g:Store->D->Option D)(a:BX)(env:VS.Env)(S:Store):VS.eUn g a env S=(a env S).bind fun p=>(g p.2 p.1).map fun d=>(d,p.2):=rfl
theorem BZ(env:VS.Env)(S:Store):VS.Ae  env S=some ([],S):=rfl
theorem Al(a:BX)(r:Bm)(env:VS.Env)(S:Store):VS.Aa a r env S=(a env S).bind fun p=>(r env p.2).bind fun q=>some (p.1::q.1,q.2):=rfl
theorem Eu(g:Store->List D->Option D)(a:Bm)(env:VS.Env)(S:Store):VS.eCB g a env S=(a env S).bind fun p=>(g p.2 p.1).map fun d=>(d,p.2):=rfl
theorem Rf(a b:BX)(env:VS.Env)(S:Store):VS.Rq a b env S=(a env S).bind fun p=>match p.1 with|.bl true=>b env p.2|.bl false=>some (.bl false,p.2)|_=>none:=rfl
theorem gR(a:BX)(env:VS.Env)(S:Store):VS.iI a env S=(a env S).bind fun p=>match p.1 with|.bl c=>some (.bl (!c),p.2)|_=>none:=rfl
theorem Yq(g g':Store->D->D->Option D)(a b c:BX)(env:VS.Env)(S:Store):VS.Tn g g' a b c env S=(a env S).bind fun p=>(b env p.2).bind fun q=>(g q.2 p.1 q.1).bind fun z=>match z with
 |.bl true=>(c env q.2).bind fun r=>(g' r.2 q.1 r.1).map fun d=>(d,r.2)
 |.bl false=>some (.bl false,q.2)
 |_=>none:=rfl
theorem DP(a:BX)(env:VS.Env)(S:Store):VS.BK a env S=(a env S).bind fun p=>match p.1 with|.bl c=>some (c,p.2)|_=>none:=rfl
theorem Ng(a b:Fo)(env:VS.Env)(S:Store):VS.Ii a b env S=(a env S).bind fun p=>if p.1=true then b env p.2 else some (false,p.2):=rfl
theorem Py(a b:Fo)(env:VS.Env)(S:Store):VS.tOr a b env S=(a env S).bind fun p=>if p.1=true then some (true,p.2) else b env p.2:=rfl
theorem M9(a:Fo)(env:VS.Env)(S:Store):VS.Hy a env S=(a env S).bind fun p=>some (!p.1,p.2):=rfl
theorem W0(env:VS.Env)(S:Store):VS.Ke  env S=some (none,S):=rfl
theorem Vz(a:BX)(env:VS.Env)(S:Store):VS.Kd a env S=(a env S).bind fun p=>match p.1 with|.int i=>some (some i,p.2)|_=>none:=rfl
theorem Zv(g:Store->D->Option Int->Option Int->Option D)(a:BX)(l h:Vv)(env:VS.Env)(S:Store):VS.eSl g a l h env S=(a env S).bind fun p=>(l env p.2).bind fun q=>(h env q.2).bind fun r=>(g r.2 p.1 q.1 r.1).map fun d=>(d,r.2):=rfl
theorem DQ(a:Bm)(env:VS.Env)(S:Store):VS.Bt a env S=(a env S).bind fun p=>some (.lst true p.1,p.2):=rfl
theorem Pk(a:Bm)(env:VS.Env)(S:Store):VS.Gs a env S=(a env S).bind fun p=>some (.ref p.2.length,p.2++[some p.1]):=rfl
theorem Ia(a:Bm)(env:VS.Env)(S:Store):VS.Bq a env S=(a env S).bind fun p=>some (.tup p.1,p.2):=rfl
theorem HX(sem:Cz)(a:Bm)(env:VS.Env)(S:Store):VS.Aw sem a env S=(a env S).bind fun p=>(DW 0 p.2 p.1).bind fun ds=>(sem (Bj ds)).bind fun r=>if (Ay p.1||newD r)=true then some (r,p.2) else none:=rfl
theorem OD(sem:KH)(a:Bm)(env:VS.Env)(S:Store):VS.Bl sem a env S=(a env S).bind fun p=>match p.1 with
 |.ref i::rest=>(match p.2[i]? with
  |some (some cs)=>(intsOf cs).bind fun ns=>(DW 0 (p.2.set i none) rest).bind fun ds=>(sem ns (Bj ds)).bind fun r=>if (Ay rest||newD r.1)=true then some (r.1,p.2.set i (some (r.2.map D.int))) else none
  |_=>none)
 |_=>none:=rfl
theorem nF(sem:Cz)(a:Bm)(env:VS.Env)(S:Store):VS.Q8 sem a env S=(Aw sem a env S).bind fun p=>(Oa p.2.length p.1).bind fun q=>some (q.1,p.2++[some q.2]):=rfl
theorem nG(sem:KH)(a:Bm)(env:VS.Env)(S:Store):VS.Tj sem a env S=(Bl sem a env S).bind fun p=>(Oa p.2.length p.1).bind fun q=>some (q.1,p.2++[some q.2]):=rfl
theorem bV(g:Store->D->List D->Option (D×Store))(o:BX)(a:Bm)(env:VS.Env)(S:Store):VS.GP g o a env S=(o env S).bind fun p=>if (listOf p.2 p.1).isSome then (a env p.2).bind fun q=>g q.2 p.1 q.1 else none:=rfl
theorem rD(g:Store->List D->Option (List D))(a:Bm)(env:VS.Env)(S:Store):VS.Za g a env S=(a env S).bind fun p=>(g p.2 p.1).map fun es=>(.lst true es,p.2):=rfl
theorem rC(g:Store->List D->Option (List D))(a:Bm)(env:VS.Env)(S:Store):VS.ZX g a env S=(a env S).bind fun p=>(g p.2 p.1).map fun es=>(.ref p.2.length,p.2++[some es]):=rfl
theorem T3(a:Bm)(env:VS.Env)(S:Store):VS.J5 a env S=(a env S).bind fun p=>match p.1 with
 |[.int j]=>if r62 j/\j.toNat<=1000 then some (.lst true (upD 0 j.toNat),p.2) else none
 |[.int i,.int j]=>if r62 i/\r62 j/\(j-i).toNat<=1000 then some (.lst true (upD i (j-i).toNat),p.2) else none
 |_=>none:=rfl
theorem eV(a:BX)(env:VS.Env)(S:Store):VS.W9 a env S=(a env S).bind fun p=>(listOf p.2 p.1).bind fun ds=>(intsOf ds).bind fun ns=>if ns.length<1000/\(SetP.once ns).length<64 then some (.lst true ((Gd ns).map .int),p.2) else none:=rfl
theorem FW(a:BX)(env:VS.Env)(S:Store):VS.DK a env S=(a env S).bind fun p=>(CJ p.2 p.1).map fun ds=>((ds,idOf ds p.1),p.2):=rfl
theorem bJ(a:Bm)(env:VS.Env)(S:Store):VS.Qh a env S=(a env S).bind fun p=>match p.1 with
 |[.tup xs,.tup ys]=>some ((Dj xs ys,[]),p.2)
 |[x,.tup ys]=>(VS.listOf p.2 x).bind fun xs=>some ((Dj xs ys,VS.idOf xs x),p.2)
 |[x,y]=>(listOf p.2 x).bind fun xs=>(listOf p.2 y).bind fun ys=>some ((Dj xs ys,idOf xs x++idOf ys y),p.2)
 |_=>none:=rfl
theorem Ck(np n:Nat)(f:BL)(ds:List D):VS.Ef np n f ds=if ds.length=np then (f (ds.map some++U0l (n-ds.length) none) []).bind fun p=>match p.1 with|.ret d=>den 0 p.2.2 d|.nx=>some .non|_=>none else none:=rfl
theorem Nh(np n:Nat)(f:BL)(ns:List Int)(ds:List D):VS.runM np n f ns ds=if ds.length+1=np then (f (some (.ref 0)::(ds.map some++U0l (n-1-ds.length) none)) [some (ns.map D.int)]).bind fun p=>match p.2.2[0]? with
 |some (some cs)=>(intsOf cs).bind fun ms=>(match p.1 with|.ret d=>(den 1 p.2.2 d).map fun r=>(r,ms)|.nx=>some (.non,ms)|_=>none)
 |_=>none
 else none:=rfl
theorem Cr(i:Nat)(d:D)(env:VS.Env):Pat.sem (.nm i) d env=some (env.set i (some d)):=by rw[Pat.sem]
theorem HF(ps:List Pat)(ds:List D)(env:VS.Env):Pat.sem (.tp ps) (.tup ds) env=Jh ps ds env:=by rw[Pat.sem]
theorem FZ(env:VS.Env):Jh [] [] env=some env:=by rw[Jh]
theorem El(p:Pat)(ps:List Pat)(d:D)(ds:List D)(env:VS.Env):Jh (p::ps) (d::ds) env=(Pat.sem p d env).bind fun e=>Jh ps ds e:=by rw[Jh]
@[simp] theorem Jcz(S:Store):calm [] S=True:=by simp[calm]
@[simp] theorem Jcy(i:Nat)(ds:List D)(S:Store):calm [(i,ds)] S=(S[i]?=some (some ds)):=by simp[calm]
@[simp] theorem Jda{α:Type}(S:List α)(a:α):(S++[a])[S.length]?=some a:=by simp
@[simp] theorem Jc6{α:Type}(S:List α)(a b:α):(S++[a]).set S.length b=S++[b]:=by simp
theorem Pj{n k:Nat}(h:k<n):ixN n (k:Int)=some k:=by
 unfold ixN
 rw[if_pos (by omega),if_pos (by omega)];simp
@[simp] theorem sJ{n:Nat}:ixN (n+1) 0=some 0:=Pj (k:=0) (by omega)
@[simp] theorem Jbk{n:Nat}:ixN (n+2) 1=some 1:=Pj (k:=1) (by omega)
@[simp] theorem Jbj{n:Nat}:ixN (n+3) 2=some 2:=Pj (k:=2) (by omega)
@[simp] theorem Jbi{n:Nat}:ixN (n+4) 3=some 3:=Pj (k:=3) (by omega)
@[simp] theorem Jbr{α:Type}(a:α)(l:List α):atI (a::l) 0=some a:=by unfold atI;rw[U0j,sJ];rfl
@[simp] theorem Jdd{α:Type}(a b:α)(l:List α):atI (a::b::l) 1=some b:=by unfold atI;rw[U0j,U0j,Jbk];rfl
@[simp] theorem Jbq{α:Type}(a b c:α)(l:List α):atI (a::b::c::l) 2=some c:=by unfold atI;rw[U0j,U0j,U0j,Jbj];rfl
@[simp] theorem Jdc{α:Type}(a b c d:α)(l:List α):atI (a::b::c::d::l) 3=some d:=by unfold atI;rw[U0j,U0j,U0j,U0j,Jbi];rfl
theorem ug{w:List (Nat×List D)}{g:M6}{b:BL}(I:Nat->Env->Store->Prop)(R:D->Store->Prop){ds:List D}{env:Env}{S:Store}(h0:I 0 env S)(hc:∀i env S,I i env S->calm w S)
  (step:∀i d env S,ds[i]?=some d->I i env S->∃env1,g d env=some env1/\((∃env2 S2,(b env1 S=some (.nx,env2,S2)∨b env1 S=some (.cnt,env2,S2))/\I (i+1) env2 S2)∨∃r env2 S2,b env1 S=some (.ret r,env2,S2)/\R r S2)) :
  (∃env' S',loop w g b ds env S=some (.nx,env',S')/\I ds.length env' S')∨∃r env' S',loop w g b ds env S=some (.ret r,env',S')/\R r S':=by
 have key:∀(l:List D)(i:Nat)(env:Env)(S:Store),ds.drop i=l->i<=ds.length->I i env S->(∃env' S',loop w g b l env S=some (.nx,env',S')/\I ds.length env' S')∨∃r env' S',loop w g b l env S=some (.ret r,env',S')/\R r S':=by
  intro l
  induction l with
  |nil =>
   intro i env S hd hi h
   have:i=ds.length:=by
    have:=congrArg U5j hd
    simp at this;omega
   subst this
   exact .inl ⟨env,S,by unfold loop;rw[if_pos (hc _ _ _ h)],h⟩
  |cons d r ih =>
   intro i env S hd hi h
   have hlt:i<ds.length:=by
    have:=congrArg U5j hd
    simp at this;omega
   have e:ds[i]?=some d:=by
    rw[U20 hlt] at hd
    rw[U0i hlt,(U7b hd).1]
   have hr:ds.drop (i+1)=r:=by
    rw[U20 hlt] at hd
    exact(U7b hd).2
   obtain⟨env1,e1,q⟩:=step i d env S e h
   rcases q with ⟨env2,S2,e2,q⟩|⟨v,env2,S2,e2,q⟩
   .have e3:loop w g b (d::r) env S=loop w g b r env2 S2:=by
     rcases e2 with e2|e2<;>(rw[loop,if_pos (hc _ _ _ h),e1];show(b env1 S).bind _=_;rw[e2];rfl)
    rw[e3]
    exact ih (i+1) env2 S2 hr hlt q
   .refine .inr ⟨v,env2,S2,?_,q⟩
    rw[loop,if_pos (hc _ _ _ h),e1]
    show(b env1 S).bind _=_
    rw[e2];rfl
 exact key ds 0 env S (by simp) (U3x _) h0
theorem Ep{w:List (Nat×List D)}{g:M6}{b:BL}(I:Nat->Env->Store->Prop){ds:List D}{env:Env}{S:Store}(h0:I 0 env S)(hc:∀i env S,I i env S->calm w S)
  (step:∀i d env S,ds[i]?=some d->I i env S->∃env1,g d env=some env1/\∃env2 S2,b env1 S=some (.nx,env2,S2)/\I (i+1) env2 S2) :
  ∃env' S',loop w g b ds env S=some (.nx,env',S')/\I ds.length env' S':=by
 rcases ug I (fun _ _=>False) h0 hc (fun i d env S e h=>by
  obtain⟨env1,e1,env2,S2,e2,q⟩:=step i d env S e h
  exact⟨env1,e1,.inl ⟨env2,S2,.inl e2,q⟩⟩) with h|⟨_,_,_,_,h⟩
 .exact h
 .exact h.elim
theorem comp_map{w:List (Nat×List D)}{e0:Env}{g:M6}{t:Fo}{f:BX}{S:Store}(hc:calm w S)(p:D->Bool)(F:D->D):∀(ds ys:List D),ys.length+ds.length<=1000000 ->
  (∀d∈ds,∃e1,g d e0=some e1/\t e1 S=some (p d,S)/\(p d=true->f e1 S=some (F d,S)))->Gp w e0 g t f ds ys S=some (ys++(ds.filter p).map F,S)
 |[],ys,hl,_=>by unfold Gp;rw[if_pos ⟨hc,by simpa using hl⟩];simp
 |d::r,ys,hl,h=>by
  rw[U0j] at hl
  obtain⟨e1,h1,h2,h3⟩:=h d U0x
  unfold Gp
  rw[if_pos ⟨hc,by omega⟩,h1]
  show(t e1 S).bind _=_
  rw[h2]
  show(if p d=true then _ else _)=_
  have hr:∀x∈r,_:=fun x hx=>h x (U0p _ hx)
  by_cases hp:p d=true
  .rw[if_pos hp,h3 hp]
   show Gp w e0 g t f r (ys++[F d]) S=_
   rw[comp_map hc p F r (ys++[F d]) (by rw[U0r];simp;omega) hr,U57 hp]
   simp
  .rw[if_neg hp,U58 hp]
   exact comp_map hc p F r ys (by omega) hr
theorem bw{w:List (Nat×List D)}{e0:Env}{g:M6}{f:BX}{S:Store}(hc:calm w S)(F:D->D)(ds:List D)(hl:ds.length<=1000000)(h:∀d∈ds,∃e1,g d e0=some e1/\f e1 S=some (F d,S)):Gp w e0 g GQ f ds [] S=some (ds.map F,S):=by
 have:=comp_map (t:=GQ) hc (fun _=>true) F ds [] (by simpa using hl) (fun d hd=>let ⟨e1,h1,h2⟩:=h d hd;⟨e1,h1,rfl,fun _=>h2⟩)
 rw[this,U1n,U5p.mpr (by simp)]
theorem bh{w:List (Nat×List D)}{e0:Env}{g:M6}{f:BX}(I:Nat->List D->Store->Prop){ds:List D}{S:Store}(h0:I 0 [] S)(hc:∀i ys S,I i ys S->calm w S/\ys.length<=1000000)
  (step:∀i d ys S,ds[i]?=some d->I i ys S->∃e1 y S2,g d e0=some e1/\f e1 S=some (y,S2)/\I (i+1) (ys++[y]) S2):∃ys S',Gp w e0 g GQ f ds [] S=some (ys,S')/\I ds.length ys S':=by
 have key:∀(l:List D)(i:Nat)(ys:List D)(S:Store),ds.drop i=l->i<=ds.length->I i ys S->∃ys' S',Gp w e0 g GQ f l ys S=some (ys',S')/\I ds.length ys' S':=by
  intro l
  induction l with
  |nil =>
   intro i ys S hd hi h
   have:i=ds.length:=by
    have:=congrArg U5j hd
    simp at this;omega
   subst this
   exact⟨ys,S,by unfold Gp;rw[if_pos (hc _ _ _ h)],h⟩
  |cons d r ih =>
   intro i ys S hd hi h
   have hlt:i<ds.length:=by
    have:=congrArg U5j hd
    simp at this;omega
   have e:ds[i]?=some d:=by
    rw[U20 hlt] at hd
    rw[U0i hlt,(U7b hd).1]
   have hr:ds.drop (i+1)=r:=by
    rw[U20 hlt] at hd
    exact(U7b hd).2
   obtain⟨e1,y,S2,h1,h2,h3⟩:=step i d ys S e h
   obtain⟨ys',S',h4,h5⟩:=ih (i+1) (ys++[y]) S2 hr hlt h3
   refine⟨ys',S',?_,h5⟩
   unfold Gp
   rw[if_pos (hc _ _ _ h),h1]
   simp only[U0a,GQ,if_true,h2]
   exact h4
 exact key ds 0 [] S (by simp) (U3x _) h0
theorem MJ{α:Type}{w:List (Nat×List D)}{e0:VS.Env}{g:M6}{t:Fo}{f:BX}{S:Store}(hc:calm w S)(enc:α->D)(p:α->Bool)(F:α->D):∀(l:List α)(ys:List D),ys.length+l.length<=1000000 ->
  (∀a∈l,∃e1,g (enc a) e0=some e1/\t e1 S=some (p a,S)/\(p a=true->f e1 S=some (F a,S)))->Gp w e0 g t f (l.map enc) ys S=some (ys++(l.filter p).map F,S)
 |[],ys,hl,_=>by rw[U08,Gp,if_pos ⟨hc,by simpa using hl⟩];simp
 |d::r,ys,hl,h=>by
  rw[U0j] at hl
  obtain⟨e1,h1,h2,h3⟩:=h d U0x
  have hr:∀x∈r,_:=fun x hx=>h x (U0p _ hx)
  rw[U0m,Gp,if_pos ⟨hc,by omega⟩,h1]
  simp only[U0a,h2]
  by_cases hp:p d=true
  .simp only[hp,if_true,h3 hp,U0a]
   rw[MJ hc enc p F r (ys++[F d]) (by rw[U0r];simp;omega) hr,U57 hp]
   simp
  .rw[if_neg hp,U58 hp]
   exact MJ hc enc p F r ys (by omega) hr
theorem Ip{α:Type}{w:List (Nat×List D)}{e0:VS.Env}{g:M6}{f:BX}{S:Store}(hc:calm w S)(enc F:α->D)(l:List α)(hl:l.length<=1000000)(h:∀a∈l,∃e1,g (enc a) e0=some e1/\f e1 S=some (F a,S)):Gp w e0 g VS.GQ f (l.map enc) [] S=some (l.map F,S):=by
 have:=MJ (t:=VS.GQ) hc enc (fun _=>true) F l [] (by simpa using hl) (fun d hd=>let ⟨e1,h1,h2⟩:=h d hd;⟨e1,h1,rfl,fun _=>h2⟩)
 rw[this,U1n,U5p.mpr (by simp)]
theorem gb{w:List (Nat×List D)}{e0:VS.Env}{g:M6}{f:BX}{S:Store}(hc:calm w S)(n:Nat)(F:Nat->D)(hl:n<=1000000)(h:∀i<n,∃e1,g (.int i) e0=some e1/\f e1 S=some (F i,S)):Gp w e0 g VS.GQ f (upD 0 n) [] S=some ((U0g n).map F,S):=by
 have e:upD 0 n=(U0g n).map fun(i:Nat)=>D.int i:=by unfold upD;simp
 rw[e]
 exact Ip hc (fun(i:Nat)=>D.int i) F (U0g n) (by simpa using hl) fun i hi=>h i (U2h.mp hi)
theorem Pb(lo:Int)(n:Nat):(upD lo n).length=n:=by unfold upD;rw[U0k,U2s]
theorem RV{lo:Int}{n i:Nat}{d:D}(h:(upD lo n)[i]?=some d):i<n/\d=.int (lo+i):=by
 have hi:i<n:=by rw[←Pb lo n];exact(U0n.mp h).1
 unfold upD at h
 rw[U0w,U5m hi] at h
 cases h
 exact⟨hi,rfl⟩
theorem YQ{j:Int}(h0:-1000000<=j)(h1:j<=1000000):r62 j:=⟨Int.le_trans (by decide) h0,Int.lt_of_le_of_lt h1 (by decide)⟩
theorem O4{f:Bm}{env:VS.Env}{S S':Store}{j:Int}(n:Nat)(hf:f env S=some ([.int j],S'))(hn:j.toNat=n)(h0:-1000000<=j)(h1:j<=1000000):Fj f env S=some ((upD 0 n,[]),S'):=by
 unfold Fj
 rw[hf,U0a]
 show(if r62 j then some ((upD 0 j.toNat,([]:List (Nat×List D))),S') else none)=_
 rw[if_pos (YQ h0 h1),hn]
theorem Ue{S:Store}{ds:List D}(h:FQ ds=true):DW 0 S ds=some ds:=Ce 0 S (Ca h)
theorem HW{α:Type}{F:α->D}(l:List α)(h:∀a∈l,Dy (F a)=true):FQ (l.map F)=true:=by
 induction l with
 |nil=>rfl
 |cons a r ih=>rw[U0m,FQ,h a U0x,ih fun b hb=>h b (U0p _ hb)];rfl
theorem aJ{α:Type}{F:α->D}{G:α->PyData}(l:List α)(h:∀a∈l,toP (F a)=some (G a)):K6 (l.map F)=some (l.map G):=by
 induction l with
 |nil=>rw[U08,K6];rfl
 |cons a r ih=>rw[U0m,K6,h a U0x,ih fun b hb=>h b (U0p _ hb)];rfl
abbrev St2:=Int×Int
def Av(p:St2):D:=.tup [.int p.1,.int p.2]
def Af(b:List St2):D:=.tup (b.map Av)
def Ak(m:Bool)(n:Nat)(bs:List (List St2)):D:=.tup [.int n,.lst m (bs.map Af)]
@[simp] theorem HS(p:St2):Dy (Av p)=true:=rfl
@[simp] theorem Jg(b:List St2):Dy (Af b)=true:=by rw[Af,Dy];exact HW b fun p _=>HS p
theorem Cp(bs:List (List St2)):FQ (bs.map Af)=true:=HW bs fun b _=>Jg b
def pS(p:St2):PyData:=.tuple [.int p.1,.int p.2]
def pB(b:List St2):PyData:=.tuple (b.map pS)
theorem aG(p:St2):toP (Av p)=some (pS p):=by simp[Av,toP,K6,pS]
theorem aH(b:List St2):toP (Af b)=some (pB b):=by rw[Af,toP,aJ b fun p _=>aG p];rfl
theorem iy(bs:List (List St2)):K6 (bs.map Af)=some (bs.map pB):=aJ bs fun b _=>aH b
@[simp] theorem Jc2(S:Store)(x:D):J9 S [x,.ty "int"]=(Dk S x).map fun p=>.bl (isT "int" p):=rfl
@[simp] theorem Jae:isT "int" (.none)=false:=rfl
@[simp] theorem Jah(b:Bool):isT "int" (.bool b)=true:=rfl
@[simp] theorem Jao(i:Int):isT "int" (.int i)=true:=rfl
@[simp] theorem Jam(s:Str):isT "int" (.str s)=false:=rfl
@[simp] theorem Jaf(l:List PyData):isT "int" (.list l)=false:=rfl
@[simp] theorem wR(l:List PyData):isT "int" (.tuple l)=false:=rfl
@[simp] theorem Jag(l:List (PyData×PyData)):isT "int" (.dict l)=false:=rfl
@[simp] theorem Jb2(S:Store)(x:D):J9 S [x,.ty "bool"]=(Dk S x).map fun p=>.bl (isT "bool" p):=rfl
@[simp] theorem wU:isT "bool" (.none)=false:=rfl
@[simp] theorem wX(b:Bool):isT "bool" (.bool b)=true:=rfl
@[simp] theorem Jaj(i:Int):isT "bool" (.int i)=false:=rfl
@[simp] theorem Jai(s:Str):isT "bool" (.str s)=false:=rfl
@[simp] theorem wV(l:List PyData):isT "bool" (.list l)=false:=rfl
@[simp] theorem wI(l:List PyData):isT "bool" (.tuple l)=false:=rfl
@[simp] theorem wW(l:List (PyData×PyData)):isT "bool" (.dict l)=false:=rfl
@[simp] theorem Jbw(S:Store)(x:D):J9 S [x,.ty "tuple"]=(Dk S x).map fun p=>.bl (isT "tuple" p):=rfl
@[simp] theorem wC:isT "tuple" (.none)=false:=rfl
@[simp] theorem wG(b:Bool):isT "tuple" (.bool b)=false:=rfl
@[simp] theorem wK(i:Int):isT "tuple" (.int i)=false:=rfl
@[simp] theorem wJ(s:Str):isT "tuple" (.str s)=false:=rfl
@[simp] theorem wD(l:List PyData):isT "tuple" (.list l)=false:=rfl
@[simp] theorem sV(l:List PyData):isT "tuple" (.tuple l)=true:=rfl
@[simp] theorem wF(l:List (PyData×PyData)):isT "tuple" (.dict l)=false:=rfl
@[simp] theorem Jb1(S:Store)(x:D):J9 S [x,.ty "list"]=(Dk S x).map fun p=>.bl (isT "list" p):=rfl
@[simp] theorem wM:isT "list" (.none)=false:=rfl
@[simp] theorem wQ(b:Bool):isT "list" (.bool b)=false:=rfl
@[simp] theorem Jad(i:Int):isT "list" (.int i)=false:=rfl
@[simp] theorem Jac(s:Str):isT "list" (.str s)=false:=rfl
@[simp] theorem wN(l:List PyData):isT "list" (.list l)=true:=rfl
@[simp] theorem wH(l:List PyData):isT "list" (.tuple l)=false:=rfl
@[simp] theorem wO(l:List (PyData×PyData)):isT "list" (.dict l)=false:=rfl
@[simp] theorem Jc0(S:Store)(x:D):J9 S [x,.ty "str"]=(Dk S x).map fun p=>.bl (isT "str" p):=rfl
@[simp] theorem zx:isT "str" (.none)=false:=rfl
@[simp] theorem Jab(b:Bool):isT "str" (.bool b)=false:=rfl
@[simp] theorem Jal(i:Int):isT "str" (.int i)=false:=rfl
@[simp] theorem Jak(s:Str):isT "str" (.str s)=true:=rfl
@[simp] theorem zy(l:List PyData):isT "str" (.list l)=false:=rfl
@[simp] theorem wL(l:List PyData):isT "str" (.tuple l)=false:=rfl
@[simp] theorem Jaa(l:List (PyData×PyData)):isT "str" (.dict l)=false:=rfl
@[simp] theorem Jc1(S:Store)(x:D):J9 S [x,.tup [.ty "tuple",.ty "list"]]=(Dk S x).bind fun p=>if noDict p=true then some (.bl (isSeq p)) else none:=rfl
@[simp] theorem Jcq(S:Store)(i:Int):Dk S (.int i)=some (.int i):=by simp[Dk,den,toP]
@[simp] theorem Jc7(S:Store)(b:Bool):Dk S (.bl b)=some (.bool b):=by simp[Dk,den,toP]
@[simp] theorem Jcp(S:Store):Dk S .non=some .none:=by simp[Dk,den,toP]
@[simp] theorem Jco(S:Store)(x:Str):Dk S (.str x)=some (.str x):=by simp[Dk,den,toP]
@[simp] theorem lJ(S:Store)(p:St2):Dk S (Av p)=some (pS p):=by rw[Dk,M8 0 S (Ka (HS p))];exact aG p
@[simp] theorem lK(S:Store)(b:List St2):Dk S (Af b)=some (pB b):=by rw[Dk,M8 0 S (Ka (Jg b))];exact aH b
theorem Wt(S:Store)(m:Bool)(bs:List (List St2)):Dk S (.lst m (bs.map Af))=some (.list (bs.map pB)):=by
 rw[Dk,den,Ue (Cp bs)]
 show toP (.lst m (bs.map Af))=_
 rw[toP,iy];rfl
theorem UG(S:Store)(m:Bool)(n:Nat)(bs:List (List St2)):Dk S (Ak m n bs)=some (.tuple [.int n,.list (bs.map pB)]):=by
 have h:=Wt S m bs
 rw[Dk,den,Ue (Cp bs)] at h
 have h':toP (.lst m (bs.map Af))=some (.list (bs.map pB)):=h
 simp[Dk,Ak,den,DW,Ue (Cp bs),toP,K6]
 rw[toP] at h'
 obtain⟨ps,e1,e2⟩:=map_some h'
 rw[e1]
 cases e2
 rfl
@[simp] theorem Pa(ns:List Int):FQ (ns.map D.int)=true:=HW ns fun _ _=>rfl
@[simp] theorem nH(k:Nat)(S:Store)(ns:List Int):DW k S (ns.map D.int)=some (ns.map D.int):=Ce k S (Ca (Pa ns))
@[simp] theorem Ma(ns:List Int):Bj (ns.map D.int)=ns.map D.int:=J3 (Pa ns)
@[simp] theorem Fz(ns:List Int):Ay (ns.map D.int)=true:=Ca (Pa ns)
@[simp] theorem Jb0(ns:List Int):newL (ns.map D.int)=true:=O9 (Pa ns)
theorem aF(lo:Int)(n:Nat):upD lo n=((U0g n).map fun(i:Nat)=>lo+(i:Int)).map D.int:=by unfold upD;rw[U0c];rfl
@[simp] theorem Jcx(k:Nat)(S:Store)(lo:Int)(n:Nat):DW k S (upD lo n)=some (upD lo n):=by rw[aF];exact nH ..
@[simp] theorem Jbz(lo:Int)(n:Nat):Ay (upD lo n)=true:=by rw[aF];exact Fz _
@[simp] theorem Jbv(k:Nat)(S:Store)(bs:List (List St2)):DW k S (bs.map Af)=some (bs.map Af):=Ce k S (Ca (Cp bs))
@[simp] theorem jX(bs:List (List St2)):Bj (bs.map Af)=bs.map Af:=J3 (Cp bs)
@[simp] theorem dY(bs:List (List St2)):Ay (bs.map Af)=true:=Ca (Cp bs)
@[simp] theorem Jbu(bs:List (List St2)):newL (bs.map Af)=true:=O9 (Cp bs)
@[simp] theorem Jap(bs:List (List St2)):FQ (bs.map Af)=true:=Cp bs
@[simp] theorem Jcu(k:Nat)(S:Store)(p:St2):den k S (Av p)=some (Av p):=M8 k S (Ka (HS p))
@[simp] theorem Jcw(k:Nat)(S:Store)(b:List St2):den k S (Af b)=some (Af b):=M8 k S (Ka (Jg b))
@[simp] theorem Jc3(p:St2):age (Av p)=Av p:=SJ (HS p)
@[simp] theorem Jc5(b:List St2):age (Af b)=Af b:=SJ (Jg b)
@[simp] theorem Jbx(p:St2):BW (Av p)=true:=Ka (HS p)
@[simp] theorem YS(b:List St2):BW (Af b)=true:=Ka (Jg b)
@[simp] theorem Jcs(p:St2):newD (Av p)=true:=W8 (HS p)
@[simp] theorem Jct(b:List St2):newD (Af b)=true:=W8 (Jg b)
@[simp] theorem Jcv(k:Nat)(S:Store)(m:Bool)(n:Nat)(bs:List (List St2)):den k S (Ak m n bs)=some (Ak m n bs):=by simp[Ak,den,DW,Ce k S (Ca (Cp bs))]
@[simp] theorem Jc4(m:Bool)(n:Nat)(bs:List (List St2)):age (Ak m n bs)=Ak false n bs:=by simp[Ak,age,Bj,J3 (Cp bs)]
@[simp] theorem Jby(m:Bool)(n:Nat)(bs:List (List St2)):BW (Ak m n bs)=true:=by simp[Ak,BW,Ay,Ca (Cp bs)]
structure Good(n:Nat)(bs:List (List St2)):Prop where
 ways:n=1∨n=2∨n=3
 most:bs.length<=[0,20,10,6].getD n 0
 box:∀b∈bs,b.length=n/\∀p∈b,p.1<p.2/\-1000000000<=p.1/\p.2<=1000000000
theorem Good.n3{n:Nat}{bs:List (List St2)}(g:Good n bs):1<=n/\n<=3:=by have:=g.ways;omega
theorem Good.few{n:Nat}{bs:List (List St2)}(g:Good n bs):bs.length<=20:=by
 have:=g.most
 rcases g.ways with h|h|h<;>subst h<;>simp at this<;>omega
theorem kI{α:Type}{l:List α}{i:Int}{j:Nat}(e:i=(j:Int))(h:j<l.length):atI l i=some l[j]:=by
 subst e
 exact Nj (U0i h)
theorem aW{n d:Nat}{a:Int}(h0:0<=a)(h1:a<=n):HT.sIx n d (some a)=a.toNat:=by
 show(if a<0 then (a+(n:Int)).toNat else min a.toNat n)=a.toNat
 rw[if_neg (by omega)]
 omega
theorem zj{xs:List D}{a:Int}(h0:0<=a)(h1:a<=xs.length):cut xs none (some a)=xs.take a.toNat:=by
 unfold cut
 rw[aW h0 h1]
 simp[HT.sIx]
theorem bZ{xs:List D}{a:Int}(h0:0<=a)(h1:a<=xs.length):cut xs (some a) none=xs.drop a.toNat:=by
 unfold cut
 rw[aW h0 h1]
 simp only[HT.sIx]
 rw[U6d]
 simp
def lev:Nat->PyData->Bool
 |_,.none=>true
 |_,.bool _=>true
 |_,.int _=>true
 |k+1,.list xs=>xs.all (lev k)
 |k+1,.tuple xs=>xs.all (lev k)
 |_,_=>false
theorem Xz{k:Nat}(ih:∀d,lev k d=true->U4r d=true/\d.depth<=k):∀xs:List PyData,xs.all (lev k)=true->U6 xs=true/\U6u xs<=k
 |[],_=>⟨by rw[U6],by rw[U6u];omega⟩
 |x::xs,h=>by
  rw[U5i,U1h] at h
  obtain⟨h1,h2⟩:=ih x h.1
  obtain⟨h3,h4⟩:=Xz ih xs h.2
  exact⟨by rw[U6,h1,h3];rfl,by rw[U6u];omega⟩
theorem Wh:∀(k:Nat)(d:PyData),lev k d=true->U4r d=true/\d.depth<=k
 |k,.none,_=>⟨by rw[U4r],by rw[U6w];omega⟩
 |k,.bool _,_=>⟨by rw[U4r],by rw[U6w];omega⟩
 |k,.int _,_=>⟨by rw[U4r],by rw[U6w];omega⟩
 |0,.list _,h=>by simp[lev] at h
 |0,.tuple _,h=>by simp[lev] at h
 |k,.str _,h=>by cases k<;>simp[lev] at h
 |k,.dict _,h=>by cases k<;>simp[lev] at h
 |k+1,.list xs,h=>by
  rw[lev] at h
  obtain⟨h1,h2⟩:=Xz (Wh k) xs h
  exact⟨by rw[U4r];exact h1,by rw[U6w];omega⟩
 |k+1,.tuple xs,h=>by
  rw[lev] at h
  obtain⟨h1,h2⟩:=Xz (Wh k) xs h
  exact⟨by rw[U4r];exact h1,by rw[U6w];omega⟩
theorem Wu{k:Nat}{d:PyData}(h:lev k d=true)(hk:k<=60):U21 d=true:=by
 obtain⟨h1,h2⟩:=Wh k d h
 unfold U21
 rw[h1,Bool.true_and]
 exact decide_eq_true (by omega)
theorem bR{neg:Bool}{S:Store}{x y:D}{p:PyData}(k:Nat)(hx:Dk S x=some p)(hy:Dk S y=some p)(h:lev k p=true)(hk:k<=60):eqP neg S x y=some (.bl (neg ^^ true)):=by
 unfold eqP
 rw[hx,hy]
 simp only[U0a]
 rw[Wu h hk,SeqAt.eqv_refl _ (Wh k p h).1];rfl
theorem V7{neg:Bool}{S:Store}{x:D}{m:Bool}{l:List PyData}(k:Nat)(hx:Dk S x=some (.list l))(h:lev k (.list l)=true)(hk:k<=60):eqP neg S x (.lst m [])=some (.bl (neg ^^ l.isEmpty)):=by
 unfold eqP
 have hy:Dk S (.lst m [])=some (.list []):=by simp[Dk,den,DW,toP,K6]
 rw[hx,hy]
 simp only[U0a]
 rw[Wu h hk]
 cases l with
 |nil=>rfl
 |cons a r=>rfl
theorem zM(k:Nat)(p:St2):lev (k+1) (pS p)=true:=by simp[pS,lev]
theorem zN(k:Nat)(b:List St2):lev (k+2) (pB b)=true:=by
 rw[pB,lev,U7l,U37]
 exact fun p _=>zM k p
theorem mR(k:Nat)(bs:List (List St2)):lev (k+3) (.list (bs.map pB))=true:=by
 rw[lev,U7l,U37]
 exact fun p _=>zN k p
theorem qW(k:Nat)(n:Nat)(bs:List (List St2)):lev (k+4) (.tuple [.int n,.list (bs.map pB)])=true:=by
 rw[lev,U5i,U5i,mR k bs]
 rfl
theorem BP{a b:BL}{env env1:VS.Env}{S S1:Store}(h:a env S=some (.nx,env1,S1)):Bh a b env S=b env1 S1:=by rw[Ju,h];rfl
theorem KQ{c:Fo}{a b:BL}{env:VS.Env}{S S1:Store}(h:c env S=some (true,S1)):sIf c a b env S=a env S1:=by rw[LR,h];rfl
theorem Hi{c:Fo}{a b:BL}{env:VS.Env}{S S1:Store}(h:c env S=some (false,S1)):sIf c a b env S=b env S1:=by rw[LR,h];rfl
end VS
end
section
namespace VS
open PySem PySem.Spec L2
end VS
namespace HT
open PySem PySem.Spec PyProof PyProof.Rows
end HT
namespace L2
open PySem PySem.Spec PyProof PyProof.Rows
end L2
namespace VS
open PySem PySem.Spec L2
end VS
end
section
set_option maxRecDepth 100000
namespace HT
open PySem PySem.Spec PyProof.Rows
section
variable{prog:Program}{w:World}{A:Around}{E:Value->Shared->Prop}{s:Shared}
theorem dI{a:Addr}{o:Obj}{Q:Option Obj->Shared->Prop}(e:s.heap.get? a=some o)(q:Q (some o) s):wpAny (model prog w) A (loadIfAlive a) Q E s:=by
 intro Γ p _
 unfold loadIfAlive
 rw[Sem.wp_loadIfAlive,e]
 exact(Sem.wp_pure ..).mpr q
abbrev QB(h:Heap)(z TI TO T:Addr)(c:Bool):Prop:=h.get? z=some { cls:=.type "zip",dict:=none,data:=.fields #[rawInt T,.bool c,.bool false,.ref TI,.ref TO],slots:=#[] }
variable{z TI TO i1 i2 T:Addr}{fp1 fp2:List Addr}{n1 n2 k:Nat}{P1 P2:Nat->Value->Prop}{S1 S2:Nat->Heap->Prop}{c:Bool}
theorem fK{Q:Bool->Shared->Prop}(hZ:QB s.heap z TI TO T c)(hT:∃o,s.heap.get? T=some o)(q:∀h',QB h' z TI TO T true->U1b z s.heap h'->Q false { s with heap:=h' }) :
  wpAny (model prog w) A (U17 (.ref z)) Q E s:=by
 obtain⟨o,hT⟩:=hT
 unfold U17
 refine U0 (U2l hZ rfl (x:=rawInt T) rfl ?_)
 show wpAny _ _ (loadIfAlive (Int.toNat (T:Int)) >>= _) _ _ _
 rw[U26]
 refine U0 (dI hT ?_)
 simp only[Option.isNone_some,U1o,if_false]
 refine U0 (U2l hZ rfl (x:=.bool c) rfl ?_)
 cases c with
 |false =>
  rw[if_pos (by decide)]
  refine U0 (U3w hZ (by simp) fun g z' m=>?_)
  exact U0f (q g z' m)
 |true =>
  rw[if_neg (by decide)]
  exact U0f (q s.heap hZ (U1b.refl ..))
theorem Jb3{Q:Value->Shared->Prop}(D1:Draws prog w A i1 fp1 n1 P1 S1)(D2:Draws prog w A i2 fp2 n2 P2 S2)(D:Apart z TI TO i1 i2 fp1 fp2)(hZ:QB s.heap z TI TO T c)(hI:IsPair s.heap TI (.ref i1) (.ref i2))(hT:∃o,s.heap.get? T=some o)
  (s1:S1 k s.heap) (s2:S2 k s.heap) (k1:k<n1) (k2:k<n2)
  (q:∀x y h' tk,P1 k x->P2 k y->QB h' z TI TO T true->S1 (k+1) h'->S2 (k+1) h'->IsPair h' s.heap.objs.size x y->h'.objs.size=s.heap.objs.size+1 ->
   (∀c o,c≠z->c≠i1->c≠i2->s.heap.get? c=some o->h'.get? c=some o)->Q (.ref s.heap.objs.size) { s with heap:=h',toks:=tk }) :
  wpAny (model prog w) A (Builtin.«zip.__next__» ⟨[.ref z],[]⟩) (fun fin s'=>∃v,fin=.done (.ret v)/\Q v s') E s:=by
 obtain⟨hp,g,d,tk0,os⟩:=s
 refine(show wpAny _ _ (field (.ref z) 2 >>= _) _ _ _ from U0 (U2l hZ rfl (x:=.bool false) rfl ?_))
 refine(show wpAny _ _ (field (.ref z) 3 >>= _) _ _ _ from U0 (U2l hZ rfl (x:=.ref TI) rfl (U0 (U2q hI rfl ?_))))
 refine(show wpAny _ _ (U17 (.ref z) >>= _) _ _ _ from U0 (fK hZ hT fun g1 z1 m1=>?_))
 replace m1:U1b z hp g1:=m1
 simp only[U1o,if_false]
 have t1:S1 k g1:=D1.frame _ _ _ s1 fun c hc o e=>m1.extBut _ _ (D.b1 c hc).1 e
 have u1:S2 k g1:=D2.frame _ _ _ s2 fun c hc o e=>m1.extBut _ _ (D.b2 c hc).1 e
 refine U0 ?_
 simp only[List.forIn_toArray,U4d,U53]
 refine U0 (U0 (U2j (show wpAny _ _ (U1m (.ref i1) >>= _) _ _ _ from U0 (D1.item k ⟨g1,g,d,tk0,os⟩ _ _ k1 t1 fun x g2 tk1 px t2 m2=>U0f ?_))))
 replace m2:U1b i1 g1 g2:=m2
 have u2:S2 k g2:=D2.frame _ _ _ u1 fun c hc o e=>m2.extBut _ _ (D.b2 c hc).2.2 e
 refine U0f ?_
 refine U0 (U0 (U2j (show wpAny _ _ (U1m (.ref i2) >>= _) _ _ _ from U0 (D2.item k ⟨g2,g,d,tk1,os⟩ _ _ k2 u2 fun y g3 tk2 py u3 m3=>U0f ?_))))
 replace m3:U1b i2 g2 g3:=m3
 refine U0f (U0f ?_)
 refine U0 (wpAny_newTuple ?_ (by simp[sizeLine]))
 have sz:g3.objs.size=hp.objs.size:=by rw[m3.1,m2.1,m1.1]
 refine U0f ⟨_,rfl,?_⟩
 show Q (.ref g3.objs.size) _
 have z3:QB g3 z TI TO T true:=m3.extBut _ _ (U1y D.c2.1) (m2.extBut _ _ (U1y D.c1.1) z1)
 have q3:=q x y (g3.push { cls:=.type "tuple",data:=.seq #[x,y] }) tk2 px py (U0d _ z3)
  (D1.frame _ _ _ t2 fun c hc o e=>U0d _ (m3.extBut _ _ (D.b1 c hc).2.2 e)) (D2.frame _ _ _ u3 fun c hc o e=>U0d _ e)
  (by show IsPair _ hp.objs.size x y;rw[←sz];exact U0v _ rfl) (by rw[U2e,sz])
  fun c o n1 n3 n4 e=>U0d _ (m3.extBut _ _ n4 (m2.extBut _ _ n3 (m1.extBut _ _ n1 e)))
 rw[sz]
 exact q3
theorem Jaq{Q:PySem.Fin->Shared->Prop}(D1:Draws prog w A i1 fp1 n1 P1 S1)(D2:Draws prog w A i2 fp2 n2 P2 S2)(D:Apart z TI TO i1 i2 fp1 fp2)(hZ:QB s.heap z TI TO T c)(hI:IsPair s.heap TI (.ref i1) (.ref i2))(hT:∃o,s.heap.get? T=some o)
  (s1:S1 k s.heap) (s2:S2 k s.heap) (ke:k=n1∨(k<n1/\k=n2))
  (q:∀h' e tk,(∀c o,c≠z->c≠i1->c≠i2->s.heap.get? c=some o->h'.get? c=some o)->(∃o,h'.get? e=some o/\o.cls=.type "StopIteration")->E (.ref e) { s with heap:=h',toks:=tk }) :
  wpAny (model prog w) A (Builtin.«zip.__next__» ⟨[.ref z],[]⟩) Q E s:=by
 obtain⟨hp,g,d,tk0,os⟩:=s
 refine(show wpAny _ _ (field (.ref z) 2 >>= _) _ _ _ from U0 (U2l hZ rfl (x:=.bool false) rfl ?_))
 refine(show wpAny _ _ (field (.ref z) 3 >>= _) _ _ _ from U0 (U2l hZ rfl (x:=.ref TI) rfl (U0 (U2q hI rfl ?_))))
 refine(show wpAny _ _ (U17 (.ref z) >>= _) _ _ _ from U0 (fK hZ hT fun g1 z1 m1=>?_))
 replace m1:U1b z hp g1:=m1
 simp only[U1o,if_false]
 have t1:S1 k g1:=D1.frame _ _ _ s1 fun c hc o e=>m1.extBut _ _ (D.b1 c hc).1 e
 have u1:S2 k g1:=D2.frame _ _ _ s2 fun c hc o e=>m1.extBut _ _ (D.b2 c hc).1 e
 refine U0 ?_
 simp only[List.forIn_toArray,U4d,U53]
 rcases ke with ke|⟨k1,ke⟩
 .subst ke
  refine U0 (U0 (U2j (show wpAny _ _ (U1m (.ref i1) >>= _) _ _ _ from U0 (D1.done ⟨g1,g,d,tk0,os⟩ _ _ t1 fun g2 e m2 he=>?_))))
  replace m2:U5k i1 g1 g2:=m2
  exact q g2 e tk0 (fun c o n1 n3 _ x=>m2 _ _ n3 (m1.extBut _ _ n1 x)) he
 .refine U0 (U0 (U2j (show wpAny _ _ (U1m (.ref i1) >>= _) _ _ _ from U0 (D1.item k ⟨g1,g,d,tk0,os⟩ _ _ k1 t1 fun x g2 tk1 px t2 m2=>U0f ?_))))
  replace m2:U1b i1 g1 g2:=m2
  have u2:S2 k g2:=D2.frame _ _ _ u1 fun c hc o e=>m2.extBut _ _ (D.b2 c hc).2.2 e
  rw[ke] at u2
  refine U0f ?_
  refine U0 (U0 (U2j (show wpAny _ _ (U1m (.ref i2) >>= _) _ _ _ from U0 (D2.done ⟨g2,g,d,tk1,os⟩ _ _ u2 fun g3 e m3 he=>?_))))
  replace m3:U5k i2 g2 g3:=m3
  exact q g3 e tk1 (fun c o n1 n3 n4 x=>m3 _ _ n4 (m2.extBut _ _ n3 (m1.extBut _ _ n1 x))) he
def ZS(z TI TO i1 i2:Addr)(S1 S2:Nat->Heap->Prop)(k:Nat)(h:Heap):Prop :=
 IsPair h TI (.ref i1) (.ref i2)/\S1 k h/\S2 k h/\((∃a b,IsZip h z TI TO .none/\IsPair h TO a b)∨∃T c o,QB h z TI TO T c/\h.get? T=some o/\T≠z/\T≠i1/\T≠i2)
theorem ZS.type(st:ZS z TI TO i1 i2 S1 S2 k s.heap):s.TypeIs (.ref z) "zip":=by
 obtain⟨_,_,_,⟨_,_,h,_⟩|⟨_,_,_,h,_⟩⟩:=st
 .exact⟨_,h,rfl⟩
 .exact⟨_,h,rfl⟩
theorem ZS.lt{h:Heap}(st:ZS z TI TO i1 i2 S1 S2 k h):z<h.objs.size:=by
 obtain⟨_,_,_,⟨_,_,h,_⟩|⟨_,_,_,h,_⟩⟩:=st
 .exact U0q h
 .exact U0q h
theorem ZS.frame{h h':Heap}(D1:Draws prog w A i1 fp1 n1 P1 S1)(D2:Draws prog w A i2 fp2 n2 P2 S2)(st:ZS z TI TO i1 i2 S1 S2 k h){S:Addr}(f1:S ∉ fp1)(f2:S ∉ fp2)(n1:S≠z)(n2:S≠TI)(n3:S≠TO)(lv:∃o,h'.get? S=some o)(m:∀c o,c≠S->h.get? c=some o->h'.get? c=some o):ZS z TI TO i1 i2 S1 S2 k h':=by
 obtain⟨a1,a2,a3,a4⟩:=st
 refine⟨m _ _ (U1y n2) a1,D1.frame _ _ _ a2 fun c hc o e=>m c o (fun q=>f1 (q ▸ hc)) e,D2.frame _ _ _ a3 fun c hc o e=>m c o (fun q=>f2 (q ▸ hc)) e,?_⟩
 rcases a4 with ⟨a,b,b1,b2⟩|⟨T,c,o,b1,b2,b3⟩
 .exact .inl ⟨a,b,m _ _ (U1y n1) b1,m _ _ (U1y n3) b2⟩
 .by_cases q:T=S
  .obtain⟨o',e⟩:=lv
   exact .inr ⟨T,c,o',m _ _ (U1y n1) b1,q ▸ e,b3⟩
  .exact .inr ⟨T,c,o,m _ _ (U1y n1) b1,m _ _ q b2,b3⟩
theorem yE{Q:Option Value->Shared->Prop}(D1:Draws prog w A.in1 i1 fp1 n1 P1 S1)(D2:Draws prog w A.in1 i2 fp2 n2 P2 S2)(D:Apart z TI TO i1 i2 fp1 fp2)(st:ZS z TI TO i1 i2 S1 S2 k s.heap)(k1:k<n1)(k2:k<n2)
  (q:∀x y h' tk,P1 k x->P2 k y->ZS z TI TO i1 i2 S1 S2 (k+1) h'->IsPair h' s.heap.objs.size x y->h'.objs.size=s.heap.objs.size+1->(∀c o,c≠z->c≠TO->c≠i1->c≠i2->s.heap.get? c=some o->h'.get? c=some o)->Q (some (.ref s.heap.objs.size)) { s with heap:=h',toks:=tk }) :
  wpAny (model prog w) A (pyNext (.ref z)) Q E s:=by
 have T:=st.type
 have lz:=st.lt
 obtain⟨a1,a2,a3,a4⟩:=st
 obtain⟨_,l1⟩:=D1.live _ _ a2
 obtain⟨_,l2⟩:=D2.live _ _ a3
 rcases a4 with ⟨a,b,b1,b2⟩|⟨T',c,o,b1,b2,b3,b4,b5⟩
 .refine fJ D1 D2 D b1 a1 b2 a2 a3 k1 k2 fun x y h' tk p1 p2 c1 c2 c3 c4 c5 c6 c7=>q x y h' tk p1 p2 ⟨c7 _ _ D.a1 D.a3 (U1y D.c1.2.2) (U1y D.c2.2.2) a1,c3,c4,.inr ⟨_,false,_,c1,c5,U1x lz,U1x (U0q l1),U1x (U0q l2)⟩⟩ c5 c6 c7
 .unfold pyNext
  refine U0 (U5h (wpAny_callSpecial?_slot (name:=U3r "__next__") T U25 (U2p U25 T U49 (Jb3 D1 D2 D b1 a1 ⟨o,b2⟩ a2 a3 k1 k2 fun x y h' tk p1 p2 c1 c3 c4 c5 c6 c7=>U0f (q x y h' tk p1 p2 ?_ c5 c6 fun c o n1 _ n3 n4 e=>c7 c o n1 n3 n4 e)) (U41 _))))
  exact⟨c7 _ _ D.a1 (U1y D.c1.2.2) (U1y D.c2.2.2) a1,c3,c4,.inr ⟨T',true,o,c1,c7 _ _ b3 b4 b5 b2,b3,b4,b5⟩⟩
theorem sW{Q:Option Value->Shared->Prop}(D1:Draws prog w A.in1 i1 fp1 n1 P1 S1)(D2:Draws prog w A.in1 i2 fp2 n2 P2 S2)(D:Apart z TI TO i1 i2 fp1 fp2)(st:ZS z TI TO i1 i2 S1 S2 k s.heap)(ke:k=n1∨(k<n1/\k=n2))
  (q:∀h' tk,(∀c o,c≠z->c≠TO->c≠i1->c≠i2->s.heap.get? c=some o->h'.get? c=some o)->Q none { s with heap:=h',toks:=tk }):wpAny (model prog w) A (pyNext (.ref z)) Q E s:=by
 have T:=st.type
 obtain⟨a1,a2,a3,a4⟩:=st
 rcases a4 with ⟨a,b,b1,b2⟩|⟨T',c,o,b1,b2,b3,b4,b5⟩
 .exact fH D1 D2 D b1 a1 b2 a2 a3 ke q
 .unfold pyNext
  refine U0 (U5h (wpAny_callSpecial?_slot (name:=U3r "__next__") T U25 (U2p U25 T U49 (Jaq D1 D2 D b1 a1 ⟨o,b2⟩ a2 a3 ke fun h' e tk kk he=>?_) (U41 _))))
  obtain⟨o,e1,e2⟩:=he
  exact U0 (U5f (T:="StopIteration") (b:=true) ⟨o,e1,e2⟩ isSubtype_stop (U0f (q h' tk fun c o n1 _ n3 n4 e=>kk c o n1 n3 n4 e)))
def Laid(P1 P2:Nat->Value->Prop)(t0 k:Nat)(h:Heap):Prop:=∀j,j<k->∃x y,P1 j x/\P2 j y/\IsPair h (t0+j) x y
theorem sZ{R:Result->Shared->Prop}(D1:Draws prog w A.in1.in1 i1 fp1 n1 P1 S1)(D2:Draws prog w A.in1.in1 i2 fp2 n2 P2 S2)(D:Apart z TI TO i1 i2 fp1 fp2){m t0:Nat}(hm:∀k,k<m->k<n1/\k<n2)(he:m=n1∨(m<n1/\m=n2))(hs:m<=1000000)(S:Addr)(f1:S ∉ fp1)(f2:S ∉ fp2)(e1:S≠z)(e2:S≠TI)(e3:S≠TO)(e4:S≠i1)(e5:S≠i2)(e6:S<t0)
  (far:z<t0/\TO<t0/\i1<t0/\i2<t0) (res:Value) :
  ∀(j k:Nat)(s:Shared)(acc:Array Value)(c:Nat),m-k=j->k<=m->ZS z TI TO i1 i2 S1 S2 k s.heap->s.heap.get? S=some { cls:=.type "list",dict:=none,data:=.seq acc c,slots:=#[] }->acc=((U0g k).map fun j=>U2v (t0+j)).toArray->s.heap.objs.size=t0+k->Laid P1 P2 t0 k s.heap ->
  (∀h' tk c',(∀b o,b≠z->b≠TO->b≠i1->b≠i2->b≠S->s.heap.get? b=some o->h'.get? b=some o)->h'.get? S=some { cls:=.type "list",dict:=none,data:=.seq ((U0g m).map fun j=>U2v (t0+j)).toArray c',slots:=#[] }->Laid P1 P2 t0 m h'->R (.ok (.ret res)) { s with heap:=h',toks:=tk }) ->
  codeAny (model prog w) A (.builtin "list.extend.loop" ⟨[.ref S,.ref z,res],[]⟩) R s:=by
 have aw:∀j:Nat,t0+j≠z/\t0+j≠TO/\t0+j≠i1/\t0+j≠i2/\t0+j≠S:=fun j=>⟨U1x (U0y far.1 (U1r _ _)),U1x (U0y far.2.1 (U1r _ _)),U1x (U0y far.2.2.1 (U1r _ _)),U1x (U0y far.2.2.2 (U1r _ _)),U1x (U0y e6 (U1r _ _))⟩
 have hs2:m<=sizeLine:=U1a hs (by decide)
 intro j
 induction j with
 |zero =>
  intro k s acc c hj hk st hS ha hz hl q
  have hkm:k=m:=by omega
  subst hkm
  refine codeAny_builtin PySem.F.entry_extend_loop ?_
  rw[U2z U4n _]
  show wpAny _ A.in1 (pyNext (.ref z) >>= _) _ _ s
  refine U0 (sW D1 D2 D st he fun h' tk kk=>U0f (q h' tk c (fun b o n1 n2 n3 n4 _ e=>kk b o n1 n2 n3 n4 e) ?_ ?_))
  .rw[←ha];exact kk _ _ e1 e3 e4 e5 hS
  .intro j hj
   obtain⟨x,y,p1,p2,t⟩:=hl j hj
   exact⟨x,y,p1,p2,kk _ _ (aw j).1 (aw j).2.1 (aw j).2.2.1 (aw j).2.2.2.1 t⟩
 |succ j ih =>
  intro k s acc c hj hk st hS ha hz hl q
  have hlt:k<m:=by omega
  refine codeAny_builtin PySem.F.entry_extend_loop ?_
  rw[U2z U4n _]
  show wpAny _ A.in1 (pyNext (.ref z) >>= _) _ _ s
  refine U0 (yE D1 D2 D st (hm k hlt).1 (hm k hlt).2 fun x y h' tk p1 p2 st' tp sz kk=>?_)
  have hS':=kk _ _ e1 e3 e4 e5 hS
  have hlen:acc.size=k:=by rw[ha];simp
  show wpAny _ A.in1 (updateSeq S (·.push (.ref s.heap.objs.size)) >>= _) _ _ _
  refine U0 ?_
  have oth:∀b o,b≠S->h'.get? b=some o->(h'.update S (U2m (·.push (U2v s.heap.objs.size)))).get? b=some o:=fun b o n e=>(U1d _ _ (U1y n)).trans e
  have hS2:=U18 (U2m (·.push (U2v s.heap.objs.size))) hS' rfl
  have szu:(h'.update S (U2m (·.push (U2v s.heap.objs.size)))).objs.size=h'.objs.size:=(U16 ..).1
  refine U3q hS' rfl (U0f ⟨plainId_quiet U4n _,ih (k+1) _ (acc.push (.ref s.heap.objs.size)) _ (by omega) hlt (ZS.frame D1 D2 st' f1 f2 e1 e2 e3 ⟨_,hS2⟩ oth) hS2 ?_ ?_ ?_ fun h'' tk'' c'' kk2 hS3 hl3=>?_⟩)
   (by rw[hlen];omega) (by show(acc.push _).size<=sizeLine+1;rw[Array.size_push,hlen];omega)
  .rw[ha,hz,List.range_succ];simp
  .rw[show(U68 _).objs.size=_ from szu,sz,hz];omega
  .intro j hj
   by_cases q':j=k
   .subst q'
    refine⟨x,y,p1,p2,oth _ _ (aw _).2.2.2.2 ?_⟩
    rw[←hz];exact tp
   .obtain⟨x',y',r1,r2,t⟩:=hl j (by omega)
    exact⟨x',y',r1,r2,oth _ _ (aw j).2.2.2.2 (kk _ _ (aw j).1 (aw j).2.1 (aw j).2.2.1 (aw j).2.2.2.1 t)⟩
  .exact q h'' tk'' c'' (fun b o n1 n2 n3 n4 n5 e=>kk2 b o n1 n2 n3 n4 n5 (oth b o n5 (kk b o n1 n2 n3 n4 e))) hS3 hl3
theorem oG:typeLookup (.type "zip") "__len__"=pure none:=by rw[typeLookup_type,builtinLookup_eq_fast];kernel_rfl
theorem kJ:typeLookup (.type "zip") "__length_hint__"=pure none:=by rw[typeLookup_type,builtinLookup_eq_fast];kernel_rfl
theorem ZS.push{h:Heap}(D1:Draws prog w A i1 fp1 n1 P1 S1)(D2:Draws prog w A i2 fp2 n2 P2 S2)(st:ZS z TI TO i1 i2 S1 S2 k h)(o:Obj):ZS z TI TO i1 i2 S1 S2 k (h.push o):=by
 obtain⟨a1,a2,a3,a4⟩:=st
 refine⟨U0d _ a1,D1.frame _ _ _ a2 fun c hc o e=>U0d _ e,D2.frame _ _ _ a3 fun c hc o e=>U0d _ e,?_⟩
 rcases a4 with ⟨a,b,b1,b2⟩|⟨T,c,o,b1,b2,b3⟩
 .exact .inl ⟨a,b,U0d _ b1,U0d _ b2⟩
 .exact .inr ⟨T,c,o,U0d _ b1,U0d _ b2,b3⟩
theorem vI{Q:Value->Shared->Prop}(T:s.TypeIs (.ref z) "zip")(q:Q (.ref z) s):wpAny (model prog w) A (pyIter (.ref z)) Q E s :=
 U7f T PySem.F.slot_zip_iter (U2p PySem.F.slot_zip_iter T PySem.F.entry_zip_iter (show wpAny _ _ (ret (.ref z)) _ _ s from U0f ⟨_,rfl,"zip",_,T,U25.lookup,q⟩) (PySem.F.args_zip_iter_1 _))
theorem uo{Q:Value->Shared->Prop}(D1:Draws prog w A.in1.in1.in1 i1 fp1 n1 P1 S1)(D2:Draws prog w A.in1.in1.in1 i2 fp2 n2 P2 S2)(D:Apart z TI TO i1 i2 fp1 fp2){m:Nat}(hm:∀k,k<m->k<n1/\k<n2)(he:m=n1∨(m<n1/\m=n2))(hs:m<=1000000)(st:ZS z TI TO i1 i2 S1 S2 0 s.heap)
  (l1:∀b∈fp1,b<s.heap.objs.size) (l2:∀b∈fp2,b<s.heap.objs.size) (l3:z<s.heap.objs.size/\TI<s.heap.objs.size/\TO<s.heap.objs.size/\i1<s.heap.objs.size/\i2<s.heap.objs.size)
  (q:∀h' tk c',(∀b o,b≠z->b≠TO->b≠i1->b≠i2->s.heap.get? b=some o->h'.get? b=some o)->h'.get? s.heap.objs.size=some { cls:=.type "list",dict:=none,data:=.seq ((U0g m).map fun j=>U2v (s.heap.objs.size+1+j)).toArray c',slots:=#[] } ->
   Laid P1 P2 (s.heap.objs.size+1) m h'->Q (.ref s.heap.objs.size) { s with heap:=h',toks:=tk }):wpAny (model prog w) A (call (.type "list") [.ref z]) Q E s:=by
 refine callType_codes (Q₁:=fun obj s₁=>obj=.ref s.heap.objs.size/\s₁={ s with heap:=s.heap.push { cls:=.type "list",data:=.seq #[] } }) PySem.F.called_list (PySem.F.typeCall_list_1 _) PySem.F.entry_list_init (code_list_new _ ⟨rfl,rfl⟩) fun obj s₁ h₁=>?_
 obtain⟨rfl,rfl⟩:=h₁
 have g0:(s.heap.push { cls:=.type "list",data:=.seq #[] }).get? s.heap.objs.size=some { cls:=.type "list",data:=.seq #[] }:=U0v _ rfl
 refine⟨⟨_,g0,rfl⟩,PySem.F.args_list_init_2 _ _,?_⟩
 generalize hS:s.heap.objs.size=S at *
 have st0:=ZS.push D1 D2 st { cls:=.type "list",data:=.seq #[] }
 have sz0:(s.heap.push { cls:=.type "list",data:=.seq #[] }).objs.size=S+1:=by rw[U2e,hS]
 have k0:∀b o,s.heap.get? b=some o->(s.heap.push { cls:=.type "list",data:=.seq #[] }).get? b=some o:=fun b o e=>U0d _ e
 generalize s.heap.push { cls:=.type "list",data:=.seq #[] }=h0 at *
 have ne1:S≠z:=U1x l3.1
 have ne2:S≠TI:=U1x l3.2.1
 have ne3:S≠TO:=U1x l3.2.2.1
 have ne4:S≠i1:=U1x l3.2.2.2.1
 have ne5:S≠i2:=U1x l3.2.2.2.2
 have nf1:S ∉ fp1:=fun z=>U33 _ (l1 _ z)
 have nf2:S ∉ fp2:=fun z=>U33 _ (l2 _ z)
 -- one write of the new list after the other
 have wr:∀(h:Heap)(f:Array Value->Array Value)(xs:Array Value)(c:Nat),h.get? S=some { cls:=.type "list",data:=.seq xs c }->(∀b o,b≠S->h.get? b=some o->(h.update S (U2m f)).get? b=some o)/\(h.update S (U2m f)).objs.size=h.objs.size:=fun h f xs c e=>⟨fun b o n e=>(U1d _ _ (U1y n)).trans e,(U16 ..).1⟩
 refine(show wpAny _ _ (do let old ←Builtin.List.listItems (.ref S);Builtin.List.listUpdate (.ref S) (fun _=>#[]);letGo old.toList.reverse;U3p (.ref S) (.ref z) .none) _ _ _ from U0 ?_)
 unfold Builtin.List.listItems
 refine U0 (U2q g0 rfl (U0f (show wpAny _ _ (updateSeq S (fun _=>#[]) >>= fun _=>letGo (#[]:Array Value).toList.reverse >>= fun _=>U3p (.ref S) (.ref z) .none) _ _ _ from U0 (U3q g0 rfl (U0 (U48 ?_))))))
 have g1:=U18 (U2m (fun _=>(#[]:Array Value))) g0 rfl
 obtain⟨o1,z1⟩:=wr h0 (fun _=>#[]) _ _ g0
 have st1:=ZS.frame D1 D2 st0 nf1 nf2 ne1 ne2 ne3 ⟨_,g1⟩ o1
 unfold U3p
 refine U0 (U5v (st1.type (s:={ s with heap:=_ })) ?_)
 have b1:U4y (.ref S) (.ref z)=false:=by simp[U4y,ne1]
 rw[if_neg (by rw[b1];decide)]
 have ty1:U6g { s with heap:=h0.update S (U2m (fun _=>(#[]:Array Value))) } (.ref z) "zip":=st1.type (s:={ s with heap:=_ })
 refine U0 (vI ty1 ?_)
 refine U0 (U2j ?_)
 unfold U5d
 refine U0 (U7q ty1 oG ?_)
 refine(show wpAny _ _ (specialOf (U2v z) (U3r "__length_hint__") >>= _) _ _ _ from U0 (U7q ty1 kJ (U0f ?_)))
 refine(show wpAny _ _ (rule "list.extend.makes-room" >>= fun _=>Builtin.List.listTouch (.ref S) >>= fun _=>again (.builtin "list.extend.loop" ⟨[.ref S,.ref z,.none],[]⟩)) _ _ _ from U0 (U45 (U0 ?_)))
 refine(show wpAny _ _ (updateSeq S (·.push .none) >>= fun _=>updateSeq S (·.pop)) _ _ _ from U0 (U3q g1 rfl ?_))
 have g2:=U18 (U2m (·.push U22)) g1 rfl
 obtain⟨o2,z2⟩:=wr _ (·.push U22) _ _ g1
 have g3:=U18 (U2m (·.pop)) g2 rfl
 obtain⟨o3,z3⟩:=wr _ (·.pop) _ _ g2
 refine U3q (hz:=by seq_fits) g2 rfl ?_
 have st3:=ZS.frame D1 D2 (ZS.frame D1 D2 st1 nf1 nf2 ne1 ne2 ne3 ⟨_,g2⟩ o2) nf1 nf2 ne1 ne2 ne3 ⟨_,g3⟩ o3
 refine U0f ⟨plainId_quiet U4n _,sZ D1 D2 D (t0:=S+1) hm he hs S nf1 nf2 ne1 ne2 ne3 ne4 ne5 (U4v _) ⟨U3a l3.1,U3a l3.2.2.1,U3a l3.2.2.2.1,U3a l3.2.2.2.2⟩ _ m 0 _ _ _ rfl (U3x _) st3 g3 ?_ ?_ (fun j hj=>absurd hj (U7p _)) fun h' tk c' kk hS' hl=>⟨rfl,q h' tk c' (fun b o n1 n2 n3 n4 e=>?_) hS' hl⟩⟩
 .simp
 .show(Heap.update _ _ _).objs.size=_
  rw[z3,z2,z1,sz0]
 .have nb:b≠S:=U03 (hS ▸ U0q e)
  exact kk b o n1 n2 n3 n4 nb (o3 b o nb (o2 b o nb (o1 b o nb (k0 b o e))))
end
end HT
end
section
namespace L2
open PySem PySem.Spec PyProof.Rows
section
variable{X:Cx}{pins:List (Addr×Obj)}{σ:St}{H:Hp}{s:Shared}
theorem Inv.Jbh{H':Hp}{h':Heap}{d':Drawn}{t':Nat}(I:Inv X pins σ H s)(k:∀b u,s.heap.get? b=some u->h'.get? b=some u)(old:∀b,b<s.heap.objs.size->H' b=H b)(ext:∀b o,H b=some o->H' b=some o)
  (new:∀b o,H' b=some o->H b=none->FJ X.prog X.w H' h' b o):Inv X pins σ H' { s with heap:=h',drawn:=d',toks:=t' }:=by
 refine I.step (g':=s.gens) (ch:=[]) (fun _ z=>nomatch z) (fun b u _ _ _ e _=>k b u e) (fun b u _ _ _ e _=>⟨u.slots,k b u e⟩) (fun b u _ e n=>by rw[old b (U0q e)];exact n) (fun b u _ e=>⟨u,k b u e⟩)
  (fun b xs e=>ext _ _ e) (fun b u xs e=>ext _ _ e) (fun b ps e=>⟨#[],by rw[ext _ _ e];simp⟩) (fun m hm=>?_) (fun b u e=>?_) I.bare (fun n=>by rw[old _ I.iK];exact n)
 .obtain⟨ob,es,ep,e,r⟩:=hm
  exact⟨ob,es,ep,k _ _ e,r⟩
 .cases q:H b with
  |none=>exact new b u e q
  |some o =>
   have:=ext b o q
   rw[this] at e
   cases e
   exact(I.hok b _ q).stay (fun c v _ q=>k c v q) (fun c q=>ext _ _ q) fun c xs q=>ext _ _ q
end
def oZ(L:Bool)(ta:TA):TE:=fun σ H Q=>ta σ H fun vs H1=>∃a b xs ys,vs=[.ref a,.ref b]/\H1 a=some (HB L xs)/\H1 b=some (HB L ys)/\(xs.zip ys).length<=1000000 /\
 ∀l t0 H2,H1 l=none->(∀c o,H1 c=some o->H2 c=some o)->H2 l=some (.lst ((U0g (xs.zip ys).length).map fun j=>V.ref (t0+j)))->(∀j p,(xs.zip ys)[j]?=some p->H2 (t0+j)=some (.tup [p.1,p.2]))->Q (.ref l) H2
section
variable{X:Cx}
theorem j8(L:Bool){a b:Expr}{ta:TA}{p p2 pos pos2:Pos}(hc:X.calm=true)(hg:Gl X "list")(hm:X.mg "list"=none)(hg2:Gl X "zip")(hm2:X.mg "zip"=none)(ha:PA X [a,b] ta)(hs:starEach [a,b] X.env=[(false,eval a X.env),(false,eval b X.env)]:=by rfl)(hs2:starEach [b] X.env=[(false,eval b X.env)]:=by rfl)
  (he2:starEach [.Call (.Name "zip" p2) [a,b] [] pos2] X.env=[(false,eval (.Call (.Name "zip" p2) [a,b] [] pos2) X.env)]:=by rfl):PE X (.Call (.Name "list" p) [.Call (.Name "zip" p2) [a,b] [] pos2] [] pos) (oZ L ta):=by
 intro pins s σ H Q I h
 refine U42 (Lb I hg hm (by decide +kernel:bootBuiltins "list"=some (.type "list")) (U23 ?_ he2 rfl))
 rw[he2]
 refine(show wpAny _ _ (spliced ((false,eval (.Call (.Name "zip" p2) [a,b] [] pos2) X.env)::backTo pos (starEach [] X.env))) _ _ s from Calls.spliced_cons ?_)
 refine Call_ (Lb I hg2 hm2 (by decide +kernel:bootBuiltins "zip"=some (.type "zip")) (U23 (thn (ha pos2 pins s σ H _ I h) fun us s1 ⟨vs,H1,I1,r1,q1⟩=>?_) (by rw[hs,hs2]) (by rw[hs2];rfl)))
 obtain⟨l,m,xs,ys,e,e1,e2,hl,q⟩:=q1
 subst e
 obtain⟨us1,us2⟩:us=[.ref l,.ref m]/\True:=by
  cases r1 with
  |cons r rr =>
   cases rr with
   |cons r' rr =>
    cases rr
    cases r
    cases r'
    exact⟨rfl,trivial⟩
 subst us1
 obtain⟨its1,rv1,p1⟩:=I1.T6 e1
 obtain⟨its2,rv2,p2⟩:=I1.T6 e2
 have fin:∀h',IsZip h' (s1.heap.objs.size+4) (s1.heap.objs.size+2) (s1.heap.objs.size+3) .none->IsPair h' (s1.heap.objs.size+2) (.ref s1.heap.objs.size) (.ref (s1.heap.objs.size+1))->IsPair h' (s1.heap.objs.size+3) .none .none ->
   Lh L h' s1.heap.objs.size l 0->Lh L h' (s1.heap.objs.size+1) m 0->(∀c o,s1.heap.get? c=some o->h'.get? c=some o)->wpAny (model X.prog X.w) X.A (spliced (backTo pos (starEach [] X.env))) (fun us s2=>wpAny (model X.prog X.w) X.A (call (.type "list") (.ref (s1.heap.objs.size+4)::us)) (fun v s3=>∃x H',Inv X pins σ H' s3/\RelV x v/\Q x H') X.xe s2) X.xe { s1 with heap:=h' }:=fun h' c1 c2 c3 c4 c5 k=>by
  refine Calls.spliced_nil ?_
  generalize hn:s1.heap.objs.size=n at *
  have seqAt:∀(t:Addr)(ws:Array Value),iM L s1.heap t ws->iM L h' t ws/\t<n:=fun t ws x=>by
   cases L with
   |true =>
    refine⟨Heap.IsList.at x fun o e=>k _ _ e,?_⟩
    obtain⟨o,e,_⟩:=(show s1.heap.IsList t ws from x)
    exact hn ▸ U0q e
   |false =>
    refine⟨U5x.at x fun o e=>k _ _ e,?_⟩
    obtain⟨o,e,_⟩:=(show s1.heap.IsTuple t ws from x)
    exact hn ▸ U0q e
  obtain⟨q1,ll⟩:=seqAt _ _ p1
  obtain⟨q2,lm⟩:=seqAt _ _ p2
  have lz:n+4<h'.objs.size:=U0q c1
  have lz0:n<h'.objs.size:=U3f (Nat.lt_add_of_pos_right (by decide)) lz
  have lz1:n+1<h'.objs.size:=U3f (U60 (by decide) n) lz
  have lz2:n+2<h'.objs.size:=U3f (U60 (by decide) n) lz
  have lz3:n+3<h'.objs.size:=U3f (U60 (by decide) n) lz
  have hh:X.A.in1.in1.in1.handled=none:=I1.ok.hd hc
  have sl1:=rv1.length
  have sl2:=rv2.length
  have hlen:(xs.zip ys).length=min its1.length its2.length:=by rw[U4e,sl1,sl2]
  refine HT.uo (z:=n+4) (TI:=n+2) (TO:=n+3) (i1:=n) (i2:=n+1) (m:=(xs.zip ys).length) (RQ L hh n l (U03 ll) its1.toArray) (RQ L hh (n+1) m (U03 (U3a lm)) its2.toArray)
   (WL (by simp) (by simp) (by simp) ⟨by simp,by simp,by simp⟩ ⟨by simp,by simp,by simp⟩ (by simp) (by simp only[U00,U1l,or_false,not_or];exact⟨U03 (U0y ll (U1r _ _)),U03 (U0y ll (U1r _ _)),U03 (U0y ll (U1r _ _)),U03 ll,U03 (U0y ll (U1r _ _))⟩)
    (by simp only[U00,U1l,or_false,not_or];exact⟨U03 (U0y lm (U1r _ _)),U03 (U0y lm (U1r _ _)),U03 (U0y lm (U1r _ _)),U03 lm,U03 (U0y lm (U1r _ _))⟩))
   (fun j hj=>by rw[hlen] at hj;simp;omega) (by rw[hlen];simp;omega) hl ⟨c2,⟨c4,q1⟩,⟨c5,q2⟩,.inl ⟨_,_,c1,c3⟩⟩ ?_ ?_ ⟨lz,lz2,lz3,lz0,lz1⟩ fun h2 tk c' kk hS hL=>?_
  .intro b hb
   simp only[U00,U1l,or_false] at hb
   show b<h'.objs.size
   rcases hb with rfl|rfl
   .exact lz0
   .exact U3f ll lz0
  .intro b hb
   simp only[U00,U1l,or_false] at hb
   show b<h'.objs.size
   rcases hb with rfl|rfl
   .exact lz1
   .exact U3f lm lz0
  .generalize hS':h'.objs.size=S at *
   have up:∀b u,s1.heap.get? b=some u->b<n:=fun b u e=>hn ▸ U0q e
   have k2:∀b u,s1.heap.get? b=some u->h2.get? b=some u:=fun b u e=>by
    have:=up b u e
    exact kk b u (U03 (U0y this (U1r _ _))) (U03 (U0y this (U1r _ _))) (U03 this) (U03 (U0y this (U1r _ _))) (k b u e)
   let refs:List V:=(U0g (xs.zip ys).length).map fun j=>V.ref (S+1+j)
   let H2:Hp:=fun b=>if b=S then some (.lst refs) else match (if S+1<=b then (xs.zip ys)[b-(S+1)]? else none) with|some p=>some (.tup [p.1,p.2])|none=>H1 b
   have old:∀b,b<n->H2 b=H1 b:=fun b hb=>by
    have h1:b≠S:=U03 (U3f hb lz0)
    have h2:¬S+1<=b:=Nat.not_le_of_lt (U3f hb (U3a lz0))
    show(if b=S then _ else _)=_
    rw[if_neg h1,if_neg h2]
   have ext:∀b o,H1 b=some o->H2 b=some o:=fun b o e=>by
    obtain⟨ob,e'⟩:=(I1.hok b o e).obj
    rw[old b (up b ob e')];exact e
   have hpair:∀j p,(xs.zip ys)[j]?=some p->H2 (S+1+j)=some (.tup [p.1,p.2]):=fun j p e=>by
    show(if S+1+j=S then _ else _)=_
    rw[if_neg (by omega),if_pos (by omega),show S+1+j-(S+1)=j by omega,e]
   have hlst:H2 S=some (.lst refs):=by show(if S=S then _ else _)=_;rw[if_pos rfl]
   have fresh:∀b,n<=b->H1 b=none:=fun b hb=>I1.hok.fresh (hn ▸ hb)
   refine⟨.ref S,H2,I1.Jbh (h':=h2) (d':=s1.drawn) (t':=tk) k2 (hn ▸ old) ext fun b o e e'=>?_,rfl,q S (S+1) H2 (fresh S (U2w lz0)) ext hlst hpair⟩
   by_cases hb:b=S
   .subst hb
    rw[hlst] at e
    cases e
    refine⟨?_,(U0g (xs.zip ys).length).map (fun j=>U2v (b+1+j)),c',?_,hS⟩
    .show((U0g (xs.zip ys).length).map _).length<=_
     rw[U0k,U2s];exact U1a hl (by decide)
    .show Vals ((U0g (xs.zip ys).length).map _) _
     generalize U0g (xs.zip ys).length=r
     induction r with
     |nil=>exact .nil
     |cons j r ih=>exact .cons rfl ih
   .by_cases hb2:S+1<=b
    .obtain⟨j,rfl⟩:∃j,b=S+1+j:=⟨b-(S+1),(Nat.add_sub_cancel' hb2).symm⟩
     cases hz:(xs.zip ys)[j]? with
     |none =>
      have:H2 (S+1+j)=H1 (S+1+j):=by
       show(if S+1+j=S then _ else _)=_
       rw[if_neg hb,if_pos hb2,show S+1+j-(S+1)=j by omega,hz]
      rw[this,e'] at e;cases e
     |some p =>
      rw[hpair j p hz] at e
      cases e
      obtain⟨hj,_⟩:=U0n.mp hz
      obtain⟨x,y,r1,r2,t⟩:=hL j hj
      have z1:=List.getElem?_zip_eq_some.mp hz
      obtain⟨u,hu,ru⟩:=rv1.get z1.1
      obtain⟨v,hv,rv⟩:=rv2.get z1.2
      have g1:its1[j]?=some x:=by simpa using r1
      have g2:its2[j]?=some y:=by simpa using r2
      rw[hu] at g1
      rw[hv] at g2
      have g1':=U1c g1
      have g2':=U1c g2
      rw[g1'] at ru
      rw[g2'] at rv
      exact⟨(by decide:2<=sizeLine),[x,y],.cons ru (.cons rv .nil),⟨_,t,rfl,_,rfl⟩⟩
    .have:H2 b=H1 b:=by
      show(if b=S then _ else _)=_
      rw[if_neg hb,if_neg hb2]
     rw[this,e'] at e;cases e
 cases L with
 |true=>exact call_zip_2 p1 p2 fun h' c1 c2 c3 c4 c5 _ k=>fin h' c1 c2 c3 c4 c5 k
 |false=>exact HT.cH p1 p2 fun h' c1 c2 c3 c4 c5 k=>fin h' c1 c2 c3 c4 c5 k
end
end L2
end
section
namespace VS
open PySem PySem.Spec L2 PyProof.Rows
theorem YZ{Γ:Fr}{μ:Mu}{H:Hp}:∀{as bs:List V} {xs ys:List D} (t0:Nat),VRs Γ μ H as xs->VRs Γ μ H bs ys->(∀j p,(as.zip bs)[j]?=some p->H (t0+j)=some (.tup [p.1,p.2]))->VRs Γ μ H ((U8e t0 (as.zip bs).length).map V.ref) (Dj xs ys)
 |[],_,_,_,_,.nil,_,_=>by simp[Dj];exact .nil
 |_::_,[],_,_,_,.cons _ _,.nil,_=>by simp[Dj];exact .nil
 |a::as,b::bs,_,_,t0,.cons ra rs,.cons rb rt,h=>by
  rw[U4,U0j,List.range'_succ,U0m,Dj]
  refine .cons (.tup (h 0 (a,b) rfl) (.cons ra (.cons rb .nil))) (YZ (t0+1) rs rt fun j p hp=>?_)
  have:=h (j+1) p (by simpa using hp)
  rw[show t0+1+j=t0+(j+1) by omega]
  exact this
theorem YG:∀(xs ys:List D),(Dj xs ys).length=(xs.zip ys).length
 |[],_=>by simp[Dj]
 |_::_,[]=>by simp[Dj]
 |_::xs,_::ys=>by simp[Dj,YG xs ys]
def QJ(a:Bm):BX:=fun env S=>(a env S).bind fun p=>match p.1 with
 |[x,y]=>(listOf p.2 x).bind fun xs=>(listOf p.2 y).bind fun ys=>if (Dj xs ys).length<=1000000 then some (.lst true (Dj xs ys),p.2) else none
 |_=>none
theorem Ww{X:Cx}{a b:Expr}{f:Bm}{p p2 pos pos2:Pos}(hc:X.calm=true)(ha:JA X [a,b] f)(hg:Gl X "list")(hm:X.mg "list"=none)(hg2:Gl X "zip")(hm2:X.mg "zip"=none)(hs:starEach [a,b] X.env=[(false,eval a X.env),(false,eval b X.env)]:=by rfl)(hs2:starEach [b] X.env=[(false,eval b X.env)]:=by rfl)
  (he2:starEach [.Call (.Name "zip" p2) [a,b] [] pos2] X.env=[(false,eval (.Call (.Name "zip" p2) [a,b] [] pos2) X.env)]:=by rfl):JE X (.Call (.Name "list" p) [.Call (.Name "zip" p2) [a,b] [] pos2] [] pos) (QJ f) :=
 ⟨PE.imp (j8 true hc hg hm hg2 hm2 ha.pa hs hs2 he2) fun σ H Q h=>by
  obtain⟨Γ,μ,env,S,d,S',hK,R,e,q⟩:=h
  obtain⟨⟨ds,S1⟩,e1,e⟩:=bind_some e
  dsimp only at e
  split at e
  .rename_i x y
   obtain⟨xs,e2,e⟩:=bind_some e
   obtain⟨ys,e3,e⟩:=bind_some e
   by_cases hl:(Dj xs ys).length<=1000000
   .rw[if_pos hl] at e;cases e
    refine⟨Γ,μ,env,S,[x,y],_,hK,R,e1,fun vs μ1 H1 x1 R1 r1=>?_⟩
    obtain⟨v,u,rfl,ra,rb⟩:=r1.two
    obtain⟨pa,as,rfl,ha',rx⟩:=VR.list R1 ra e2
    obtain⟨pb,bs,rfl,hb',ry⟩:=VR.list R1 rb e3
    refine⟨pa,pb,as,bs,rfl,ha',hb',?_,fun l t0 H2 hn hx hl2 hp=>?_⟩
    .rw[YG,U4e,←rx.length,←ry.length] at hl
     rw[U4e];exact hl
    .obtain⟨R2,x2⟩:=R1.grow (show Same H1 H2 from hx)
     have hr:(U0g (as.zip bs).length).map (fun j=>V.ref (t0+j))=(U8e t0 (as.zip bs).length).map V.ref:=by
      rw[List.range'_eq_map_range,U0c];rfl
     exact q _ μ1 H2 (x1.trans x2) R2 (.lst (R1.ok hn true) (R1.dead hn) hl2 (by rw[hr];exact YZ t0 (rx.ext x2) (ry.ext x2) hp))
   .rw[if_neg hl] at e;cases e
  .cases e⟩
def Rw(a b:BX):BX:=fun env S=>(a env S).bind fun p=>(b env p.2).bind fun q=>match q.1 with
 |.int k=>(listOf q.2 p.1).bind fun ds=>if -(2^63)<=k/\k<2^63/\ds.length*k.toNat<=1000000 then some (.ref q.2.length,q.2++[some (U0l k.toNat ds).flatten]) else none
 |_=>none
theorem gM{X:Cx}{a b:Expr}{fa fb:BX}{pos:Pos}(ha:JE X a fa)(hb:JE X b fb):JE X (.BinOp a .Mult b pos) (Rw fa fb) :=
 ⟨PE.imp (sE jm ha.pe hb.pe) fun σ H Q h=>by
  obtain⟨Γ,μ,env,S,d,S',hK,R,e,q⟩:=h
  obtain⟨⟨x,S1⟩,e1,e⟩:=bind_some e
  obtain⟨⟨y,S2⟩,e2,e⟩:=bind_some e
  dsimp only at e
  split at e
  .rename_i k
   obtain⟨ds,e3,e⟩:=bind_some e
   by_cases hl:-(2^63)<=k/\k<2^63/\ds.length*k.toNat<=1000000
   .rw[if_pos hl] at e;cases e
    refine⟨Γ,μ,env,S,x,S1,hK,R,e1,fun v1 μ1 H1 x1 R1 r1=>?_⟩
    refine⟨Γ,μ1,env,S1,.int k,S2,hK,R1,e2,fun v2 μ2 H2 x2 R2 r2=>?_⟩
    cases r2
    obtain⟨p,xs,rfl,hp,rp⟩:=VR.list R2 (r1.ext x2) e3
    refine⟨p,k,xs,rfl,rfl,hp,hl.1,hl.2.1,by rw[rp.length];exact U2w (big hl.2.2),fun t ht=>?_⟩
    obtain⟨R3,x3⟩:=R2.laid ht (rp.rep k.toNat)
    exact q _ _ _ (x1.trans (x2.trans x3)) R3 (Xx R2.slen)
   .rw[if_neg hl] at e;cases e
  .cases e⟩
theorem RL(a:Bm)(env:VS.Env)(S:Store):VS.QJ a env S=(a env S).bind fun p=>match p.1 with
 |[x,y]=>(listOf p.2 x).bind fun xs=>(listOf p.2 y).bind fun ys=>if (Dj xs ys).length<=1000000 then some (.lst true (Dj xs ys),p.2) else none
 |_=>none:=rfl
theorem rB(a b:BX)(env:VS.Env)(S:Store):VS.Rw a b env S=(a env S).bind fun p=>(b env p.2).bind fun q=>match q.1 with
 |.int k=>(listOf q.2 p.1).bind fun ds=>if -(2^63)<=k/\k<2^63/\ds.length*k.toNat<=1000000 then some (.ref q.2.length,q.2++[some (U0l k.toNat ds).flatten]) else none
 |_=>none:=rfl
end VS
end
section
namespace VS
open PySem PySem.Spec L2
end VS
end
section
namespace HT
open PySem PySem.Spec PyProof PyProof.Rows
def half{α:Type}(a:Nat)(l:List α):List α:=(U0g ((l.length+1-a)/2)).filterMap fun k=>l[a+2*k]?
theorem bK{α:Type}(a:Nat)(l:List α):(half a l).length<=l.length:=by
 refine U1a (List.length_filterMap_le ..) ?_
 rw[U2s]
 omega
theorem Xf(xs:Array Value):slicePick xs none none (some 2)=(half 0 xs.toList).toArray:=by
 have b:sliceBounds none none (some 2) xs.size=(0,(xs.size:Int),2):=by simp[sliceBounds]
 unfold slicePick
 rw[b]
 unfold sliceRange half
 simp only[show((2:Int)>0) by decide,if_true]
 have e:(if (0:Int)<(xs.size:Int) then ((xs.size:Int)-0+2-1)/2 else 0).toNat=(xs.toList.length+1-0)/2:=by
  rw[U1u]
  split<;>omega
 rw[e,U43]
 refine congrArg U79 (congrArg (fun f=>List.filterMap f _) (funext fun k=>?_))
 show xs[((0:Int)+2*(k:Int)).toNat]?=_
 rw[show((0:Int)+2*(k:Int)).toNat=0+2*k by omega,U24]
theorem Xe(xs:Array Value):slicePick xs (some 1) none (some 2)=(half 1 xs.toList).toArray:=by
 have b:sliceBounds (some 1) none (some 2) xs.size=(min 1 (xs.size:Int),(xs.size:Int),2):=by
  simp[sliceBounds]
  omega
 unfold slicePick
 rw[b]
 unfold sliceRange half
 simp only[show((2:Int)>0) by decide,if_true]
 have e:(if min 1 (xs.size:Int)<(xs.size:Int) then ((xs.size:Int)-min 1 (xs.size:Int)+2-1)/2 else 0).toNat=(xs.toList.length+1-1)/2:=by
  rw[U1u]
  split<;>omega
 rw[e,U43]
 by_cases hn:xs.size=0
 .have:xs.toList.length=0:=by rw[U1u];exact hn
  rw[this];rfl
 refine congrArg U79 (congrArg (fun f=>List.filterMap f _) (funext fun k=>?_))
 show xs[(min 1 (xs.size:Int)+2*(k:Int)).toNat]?=_
 rw[show(min 1 (xs.size:Int)+2*(k:Int)).toNat=1+2*k by omega,U24]
end HT
namespace L2
open PySem PySem.Spec PyProof PyProof.Rows
theorem Vals.pick{xs:List V}{us:List Value}(r:Vals xs us):∀ks:List Nat,Vals (ks.filterMap (xs[·]?)) (ks.filterMap (us[·]?))
 |[]=>.nil
 |k::ks=>by
  have hl:=r.length
  cases h:xs[k]? with
  |none =>
   have h':us[k]?=none:=by rw[List.getElem?_eq_none_iff] at h ⊢;omega
   rw[U40 h,U40 h']
   exact r.pick ks
  |some x =>
   obtain⟨u,hu,ru⟩:=r.get h
   rw[U3b h,U3b hu]
   exact .cons ru (r.pick ks)
theorem Qo{α:Type}(a:Nat)(l:List α):HT.half a l=((U0g ((l.length+1-a)/2)).map fun k=>a+2*k).filterMap (l[·]?):=by
 unfold HT.half
 rw[U43];rfl
theorem Vals.half{xs:List V}{us:List Value}(r:Vals xs us)(a:Nat):Vals (HT.half a xs) (HT.half a us):=by
 rw[Qo,Qo,←r.length]
 exact r.pick _
def iV(K:U0b)(k:Nat)(te:TE):TE:=fun σ H Q=>te σ H fun x H1=>∃(a:Addr)(xs:List V),x=.ref a/\SqL K H1 a xs/\∀p,H1 p=none->Q (.ref p) (upd H1 p (.lst (HT.half k xs)))
theorem qL{X:Cx}{e:Expr}{te:TE}{j:Nat}{p0 p2 pos:Pos}(he:PE X e te):PE X (.Subscript e (.Slice none none (some (.Constant (.int 2) j p0)) p2) pos) (iV X.K 0 te):=by
 intro pins s σ H Q I h
 refine Subscript_ (thn (he pins s σ H _ I h) fun v s1 ⟨x,H1,I1,r1,q1⟩=>?_)
 obtain⟨a,xs,rfl,ha,q⟩:=q1
 cases r1
 refine wpAny_Slice ?_
 rw[evalPart_none]
 refine U0f (U0f ?_)
 rw[evalPart_some]
 refine thn (Te pins s1 σ H1 (fun x H2=>x=.int 2/\H2=H1) I1 ⟨rfl,rfl⟩) fun u s2 ⟨y,H2,I2,r2,e1,e2⟩=>?_
 subst e1 e2
 obtain⟨t0,rfl⟩:=(show ∃t,u=U3m 2 t from r2)
 have I4:Inv X pins σ H2 { s2 with heap:=s2.heap.push { cls:=.type "slice",data:=.fields #[.none,.none,.int 2 t0] } }:=I2.kept (t':=s2.toks) fun b ob q=>U0d _ q
 obtain⟨its,rv,ht,hz⟩:=I4.list ha
 have hlen:=rv.length
 show wpAny (model X.prog X.w) X.A (subscriptTail e (.Slice none none (some (.Constant (.int 2) j p0)) p2) (.ref a) (.ref s2.heap.objs.size)) (EP X pins σ Q) X.xe { s2 with heap:=s2.heap.push { cls:=.type "slice",data:=.fields #[.none,.none,.int 2 t0] } }
 refine tail_any (ops:=[.ref a,.ref s2.heap.objs.size]) ht.isList.typeIs slot_list_getitem.lookup ?_ (by with_unfolding_all rfl)
 refine U5w ht.isList (U69 ..) .none .none (.int 2 t0) (by simp) ?_ (by rw[U0s,←hlen];exact hz)
 rw[HT.Xf]
 refine⟨.ref _,_,I4.laid (t':=s2.toks) (o:=.lst (HT.half 0 xs)) (fun b ob q=>U0d _ q) (U0t _) ?_,rfl,q _ (I4.hok.fresh (U0t _))⟩
 exact⟨U1a (HT.bK 0 xs) hz,HT.half 0 its,0,rv.half 0,U0v _ rfl⟩
theorem qK{X:Cx}{e:Expr}{te:TE}{i j:Nat}{p0 p1 p2 pos:Pos}(he:PE X e te):PE X (.Subscript e (.Slice (some (.Constant (.int 1) i p1)) none (some (.Constant (.int 2) j p0)) p2) pos) (iV X.K 1 te):=by
 intro pins s σ H Q I h
 refine Subscript_ (thn (he pins s σ H _ I h) fun v s1 ⟨x,H1,I1,r1,q1⟩=>?_)
 obtain⟨a,xs,rfl,ha,q⟩:=q1
 cases r1
 refine wpAny_Slice ?_
 rw[evalPart_some]
 refine thn (Te pins s1 σ H1 (fun x H2=>x=.int 1/\H2=H1) I1 ⟨rfl,rfl⟩) fun u s2 ⟨y,H2,I2,r2,e1,e2⟩=>?_
 subst e1 e2
 obtain⟨t0,rfl⟩:=(show ∃t,u=U3m 1 t from r2)
 rw[evalPart_none]
 refine U0f ?_
 rw[evalPart_some]
 refine thn (Te pins s2 σ H2 (fun x H3=>x=.int 2/\H3=H2) I2 ⟨rfl,rfl⟩) fun u s3 ⟨y,H3,I3,r3,e1,e2⟩=>?_
 subst e1 e2
 obtain⟨t1,rfl⟩:=(show ∃t,u=U3m 2 t from r3)
 have I4:Inv X pins σ H3 { s3 with heap:=s3.heap.push { cls:=.type "slice",data:=.fields #[.int 1 t0,.none,.int 2 t1] } }:=I3.kept (t':=s3.toks) fun b ob q=>U0d _ q
 obtain⟨its,rv,ht,hz⟩:=I4.list ha
 have hlen:=rv.length
 show wpAny (model X.prog X.w) X.A (subscriptTail e (.Slice (some (.Constant (.int 1) i p1)) none (some (.Constant (.int 2) j p0)) p2) (.ref a) (.ref s3.heap.objs.size)) (EP X pins σ Q) X.xe { s3 with heap:=s3.heap.push { cls:=.type "slice",data:=.fields #[.int 1 t0,.none,.int 2 t1] } }
 refine tail_any (ops:=[.ref a,.ref s3.heap.objs.size]) ht.isList.typeIs slot_list_getitem.lookup ?_ (by with_unfolding_all rfl)
 refine U5w ht.isList (U69 ..) (.int 1 t0) .none (.int 2 t1) (by simp) ?_ (by rw[U0s,←hlen];exact hz)
 rw[HT.Xe]
 refine⟨.ref _,_,I4.laid (t':=s3.toks) (o:=.lst (HT.half 1 xs)) (fun b ob q=>U0d _ q) (U0t _) ?_,rfl,q _ (I4.hok.fresh (U0t _))⟩
 exact⟨U1a (HT.bK 1 xs) hz,HT.half 1 its,0,rv.half 1,U0v _ rfl⟩
def Itw(lo:Int)(n:Nat):It:=⟨fun i _=>i<n,fun i H x H'=>H'=H/\x=.int (lo+i*2),fun i _=>n<=i⟩
theorem oO{P:Program}{w:World}{K:U0b}{tg:Expr}(it:Addr)(lo:Int)(n:Nat):Turn P w K tg (Itw lo n) [it] it (fun i h=>IsRangeIter h it (lo+(i:Nat)*2) ((n:Int)-(i:Nat)) 2) where
 mem:=by simp
 obj:=fun i h st b hb=>by
  obtain rfl:b=it:=by simpa using hb
  exact⟨_,st,fun v z=>by
   have z':Data.fields _=Data.cell v:=z
   cases z'⟩
 keep:=fun i h h' st k=>k it (by simp) _ st
 item:=by
  intro X hP hw hK hc i pins s σ H E I hf st hg
  subst hP hw hK
  obtain⟨f0,f1,f2,f3,f4,f5⟩:=hf it (by simp)
  refine(Walks.range (prog:=X.prog) (w:=X.w) (I.ok.hd hc) it lo 2 n).item i s _ _ hg st fun v h' tk hv st' kk=>?_
  obtain⟨t,rfl⟩:=hv
  have I1:Inv X pins σ H { s with heap:=h',toks:=tk }:=I.turned (fun b o hb e=>kk b o (by simpa using hb) e) f0 f1 f3 f4 f5
  exact⟨_,rfl,ZV (s:={ s with heap:=h',toks:=tk }) (n:="range_iterator") st' rfl rfl (by decide) ⟨.int (lo+i*2),H,I1,⟨t,rfl⟩,⟨rfl,rfl⟩,st',fun b hb=>(hf b hb).1⟩⟩
 done:=by
  intro X hP hw hK hc i pins s σ H E I hf st hg
  subst hP hw hK
  obtain⟨f0,f1,f2,f3,f4,f5⟩:=hf it (by simp)
  exact wpAny_pyNext_range_end (I.ok.hd hc) st (by have:n<=i:=hg;omega) fun h' eb=>⟨rfl,I.turned (t':=s.toks) (fun b o hb e=>eb b o hb e) f0 f1 f3 f4 f5⟩
 self:=fun _ _ _ _ _ st h=>wpAny_pyIter_rangeiter st h
theorem lF{a b:Int}(h1:-1000000<=a)(h2:a<=1000000)(h3:-1000000<=b)(h4:b<=1000000):Builtin.Range.small a b 2=true:=by
 unfold Builtin.Range.small
 unfold U35
 simp only[Builtin.Range.rangeFitsLong,U1h,U6s,decide_eq_true_eq,beq_iff_eq,show(2:Int)>0 by decide,if_true]
 split<;>omega
def Nt(lo hi:Int):Nat:=((hi-lo+1)/2).toNat
def Jbm(ta:TA):TI:=fun σ H R=>ta σ H fun vs H1=>∃i j:Int,vs=[.int i,.int j,.int 2]/\(-1000000<=i/\i<=1000000/\-1000000<=j/\j<=1000000)/\R (Itw i (Nt i j)) H1
theorem m9{X:Cx}{tg:Expr}{a b c:Expr}{ta:TA}{p pos:Pos}(hg:Gl X "range")(hm:X.mg "range"=none)(ha:PA X [a,b,c] ta)(hs:starEach [a,b,c] X.env=[(false,eval a X.env),(false,eval b X.env),(false,eval c X.env)]:=by rfl)(hs2:starEach [b,c] X.env=[(false,eval b X.env),(false,eval c X.env)]:=by rfl) :
  PI X tg (.Call (.Name "range" p) [a,b,c] [] pos) (Jbm ta):=by
 intro pins s σ H R I h
 refine Call_ (Lb I hg hm boot_range (U23 (thn (ha pos pins s σ H _ I h) fun us s1 ⟨vs,H1,I1,r1,q1⟩=>?_) (by rw[hs,hs2]) (by rw[hs2];rfl)))
 obtain⟨i,j,e,⟨q1,q2,q3,q4⟩,q⟩:=q1
 subst e
 cases r1 with
 |cons r rr =>
  cases rr with
  |cons r' rr =>
   cases rr with
   |cons r'' rr =>
    cases rr
    obtain⟨t,rfl⟩:=r
    obtain⟨t',rfl⟩:=r'
    obtain⟨t'',rfl⟩:=r''
    refine PySem.call_range_3 (by decide) ?_ (.inl (PyProof.noPylong_small (by decide)))
    refine wpAny_pyIter_range (IsRange.new ..) (lF q1 q2 q3 q4) ?_
    have I2:Inv X pins σ H1 { s1 with heap:=s1.heap.push { cls:=.type "range",data:=.fields #[.int i t,.int j t',.int 2 t''] } }:=I1.kept (t':=s1.toks) fun b o e=>U0d _ e
    refine⟨_,[_],_,_,H1,rfl,I2.kept (t':=s1.toks) fun b o e=>U0d _ e,oO _ i (Nt i j),?_,fun b hb=>?_,q⟩
    .have e1:i+((0:Nat):Int)*2=i:=by simp
     have e2:((Nt i j:Nat):Int)-((0:Nat):Int)=U35 i j 2:=by
      unfold Nt U35
      simp only[show(2:Int)>0 by decide,if_true]
      split<;>omega
     show IsRangeIter _ _ (i+((0:Nat):Int)*2) (((Nt i j:Nat):Int)-((0:Nat):Int)) 2
     rw[e1,e2]
     exact U0v _ rfl
    .obtain rfl:=U07.mp hb
     exact I2.Xp (U0t _) (I2.hok.fresh (U0t _))
end L2
end
section
namespace VS
open PySem PySem.Spec L2
theorem VRs.pick{Γ:Fr}{μ:Mu}{H:Hp}{xs:List V}{ds:List D}(r:VRs Γ μ H xs ds):∀ks:List Nat,VRs Γ μ H (ks.filterMap (xs[·]?)) (ks.filterMap (ds[·]?))
 |[]=>.nil
 |k::ks=>by
  have hl:=r.length
  cases h:ds[k]? with
  |none =>
   have h':xs[k]?=none:=by rw[List.getElem?_eq_none_iff] at h ⊢;omega
   rw[U40 h,U40 h']
   exact r.pick ks
  |some d =>
   obtain⟨u,hu,ru⟩:=r.get h
   rw[U3b h,U3b hu]
   exact .cons ru (r.pick ks)
theorem VRs.half{Γ:Fr}{μ:Mu}{H:Hp}{xs:List V}{ds:List D}(r:VRs Γ μ H xs ds)(a:Nat):VRs Γ μ H (HT.half a xs) (HT.half a ds):=by
 rw[Qo,Qo,r.length]
 exact r.pick _
def Qf(k:Nat)(S:Store)(x:D):Option D:=(listOf S x).map fun ds=>.lst true (HT.half k ds)
theorem fM{K:U0b}{k:Nat}{f:BX}{σ:St}{H:Hp}{Q:VK}(h:wpE K (eUn (Qf k) f) σ H Q):iV K k (wpE K f) σ H Q:=by
 obtain⟨Γ,μ,env,S,d,S',hK,R,e,q⟩:=h
 obtain⟨⟨x,S1⟩,e1,e⟩:=bind_some e
 obtain⟨z,e3,e⟩:=map_some e
 cases e
 refine⟨Γ,μ,env,S,x,S1,hK,R,e1,fun v1 μ1 H1 x1 R1 r1=>?_⟩
 obtain⟨ds,e4,e5⟩:=map_some e3
 subst e5
 obtain⟨a,xs,rfl,ha,rs⟩:=VR.list R1 r1 e4
 refine⟨a,xs,rfl,SqL.of ha,fun t ht=>?_⟩
 obtain⟨R2,x2⟩:=R1.grow (Df ht (.lst (HT.half k xs)))
 exact q _ μ1 _ (x1.trans x2) R2 (.lst (R1.ok ht true) (R1.dead ht) Cq ((rs.half k).ext x2))
theorem qt{X:Cx}{e:Expr}{f:BX}{j:Nat}{p0 p2 pos:Pos}(he:JE X e f):JE X (.Subscript e (.Slice none none (some (.Constant (.int 2) j p0)) p2) pos) (eUn (Qf 0) f):=⟨PE.imp (qL he.pe) fun σ H Q h=>fM h⟩
theorem qp{X:Cx}{e:Expr}{f:BX}{i j:Nat}{p0 p1 p2 pos:Pos}(he:JE X e f):JE X (.Subscript e (.Slice (some (.Constant (.int 1) i p1)) none (some (.Constant (.int 2) j p0)) p2) pos) (eUn (Qf 1) f):=⟨PE.imp (qK he.pe) fun σ H Q h=>fM h⟩
def upW(lo:Int)(n:Nat):List D:=(U0g n).map fun i=>D.int (lo+(i:Nat)*2)
theorem zZ{Γ:Fr}{μ:Mu}{H:Hp}(lo:Int)(n:Nat):Xq Γ μ H (Itw lo n) (upW lo n) []:=by
 have len:(upW lo n).length=n:=by unfold upW;rw[U0k,U2s]
 refine⟨fun i d μ' H' σ' env' S' hi x R c=>?_,fun μ' H' σ' env' S' x R c=>?_⟩
 .have hi':i<n:=by rw[←len];exact(U0n.mp hi).1
  refine⟨hi',fun y H'' yl=>?_⟩
  obtain⟨e1,e2⟩:=yl
  subst e1 e2
  unfold upW at hi
  rw[U0w,U5m hi'] at hi
  cases hi
  exact⟨Same.refl _,.int _⟩
 .show n<=(upW lo n).length
  rw[len];exact U0t _
def V6(a:Bm):M5:=fun env S=>(a env S).bind fun p=>match p.1 with|[.int i,.int j,.int 2]=>if (-1000000<=i/\i<=1000000)/\-1000000<=j/\j<=1000000 then some ((upW i (Nt i j),[]),p.2) else none|_=>none
theorem jP(a:Bm)(env:VS.Env)(S:Store):V6 a env S=(a env S).bind fun p=>match p.1 with|[.int i,.int j,.int 2]=>if (-1000000<=i/\i<=1000000)/\-1000000<=j/\j<=1000000 then some ((upW i (Nt i j),[]),p.2) else none|_=>none:=rfl
theorem VRs.three{Γ:Fr}{μ:Mu}{H:Hp}{vs:List V}{d e f:D}(h:VRs Γ μ H vs [d,e,f]):∃v u t,vs=[v,u,t]/\VR Γ μ H v d/\VR Γ μ H u e/\VR Γ μ H t f:=by
 cases h with|cons r t=>cases t with|cons r' t=>cases t with|cons r'' t=>cases t;exact⟨_,_,_,rfl,r,r',r''⟩
theorem mX{X:Cx}{tg:Expr}{a b c:Expr}{f:Bm}{p pos:Pos}(hg:Gl X "range")(hm:X.mg "range"=none)(ha:JA X [a,b,c] f)(hs:starEach [a,b,c] X.env=[(false,eval a X.env),(false,eval b X.env),(false,eval c X.env)]:=by rfl)(hs2:starEach [b,c] X.env=[(false,eval b X.env),(false,eval c X.env)]:=by rfl) :
  JI X tg (.Call (.Name "range" p) [a,b,c] [] pos) (V6 f) :=
 ⟨PI.imp (m9 hg hm ha.pa hs hs2) fun σ H Q h=>by
  obtain⟨Γ,μ,env,S,ds,w,S',hK,R,e,q⟩:=h
  obtain⟨⟨d,S1⟩,e1,e⟩:=bind_some e
  refine⟨Γ,μ,env,S,d,S1,hK,R,e1,fun v μ1 H1 x1 R1 r1=>?_⟩
  dsimp only at e
  split at e
  .rename_i i j
   by_cases hj:(-1000000<=i/\i<=1000000)/\-1000000<=j/\j<=1000000
   .rw[if_pos hj] at e
    cases e
    obtain⟨v,u,t,rfl,r,r',r''⟩:=r1.three
    cases r
    cases r'
    cases r''
    exact⟨i,j,rfl,⟨hj.1.1,hj.1.2,hj.2.1,hj.2.2⟩,q _ μ1 H1 x1 R1 (zZ i _)⟩
   .rw[if_neg hj] at e;cases e
  .cases e⟩
def iT(i j:Int):Prop:=i.natAbs<2^1024/\j.natAbs<2^1024
theorem iT.ok{i j:Int}(h:iT i j):IntMulOk i j:=by
 have h1:=PyProof.Rows.intBits_le h.1
 have h2:=PyProof.Rows.intBits_le h.2
 have h3:Builtin.Int.intTooBig (Builtin.Int.intBits i+Builtin.Int.intBits j)=false:=by
  unfold Builtin.Int.intTooBig
  refine decide_eq_false ?_
  have:(4096:Int)<=bitsLine:=by decide
  omega
 unfold IntMulOk
 rw[h3]
 simp
theorem V0{X:Cx}:OpR X (binaryOp .Mult) (rI iT fun i j=>.int (i*j)):=opI fun _ _ _ _ _ _ _ hc q=>PyProof.Rows.mul_int q hc.ok
def Zh(i j:Int):Bool:=decide (i.natAbs<2^1024)&&decide (j.natAbs<2^1024)
def Oz:=oI Zh fun i j=>.int (i*j)
theorem Rz{K:U0b}:HD K (rI iT fun i j=>.int (i*j)) Oz:=ZP _ fun i j h=>by
 unfold Zh at h
 rw[U1h,decide_eq_true_eq,decide_eq_true_eq] at h
 exact h
end VS
end
section
namespace L2
open PySem PySem.Spec PyProof PyProof.Rows
section
variable{X:Cx}
def xK(K:U0b):List V->Hp->VK->Prop:=fun xs H Q=>∃(p:Addr)(ns:List Int),xs=[.ref p]/\SqL K H p (ns.map V.int)/\Q (.int ns.sum) H
theorem Ui(hc:X.calm=true):Eb X (.builtin "sum") (xK X.K):=by
 intro pins s σ H xs us Q I r h
 obtain⟨p,ns,rfl,hq,q⟩:=h
 obtain⟨u,rfl,rx⟩:=vals1 r
 cases rx
 obtain⟨its,rv,pl,hz⟩:=I.list hq
 have hi:IntsAre its ns:=intsAre_of rv
 obtain⟨ys,hy⟩:=hi.allInts.items
 have hn:=hi.numsOf
 have hl:=pl.isList
 rw[hy] at hl
 refine sum_intListG (I.ok.hd hc) hl fun h' tk t' hk=>⟨.int ns.sum,H,I.kept (h':=h') (t':=tk) hk,⟨t',?_⟩,q⟩
 have e:its=(intItems ys).toList:=by rw[←hy]
 rw[e,nums_intItems] at hn
 rw[preSum_eq,U6d (by simp),hn]
end
end L2
end
section
namespace HT
open PySem PySem.Spec PyProof PyProof.Rows
section
variable{P0:Program}{wd:World}{Ar:Around}{Er:Value->Shared->Prop}{sh:Shared}
theorem nQ{nm:String}{bi:Builtin}{xs:List Value}{kv:List (Str×Value)}{Qv:Value->Shared->Prop}(k1:builtinKind nm=none)(k2:plainId nm=true)(k3:entryFor table nm=some bi)(k4:argsOk nm ⟨xs,kv⟩)
  (k5:wpAny (model P0 wd) Ar.in1 (bi ⟨xs,kv⟩) (fun fin t=>match fin with
   |.done f=>(match (Except.ok f:Result) with|.ok (.ret v)=>Qv v t|.ok _=>False|.error e=>Er e t)
   |.again c=>c.quiet=true/\codeAny (model P0 wd) Ar c (fun r t'=>match r with|.ok (.ret v)=>Qv v t'|.ok _=>False|.error e=>Er e t') t) Er sh):wpAny (model P0 wd) Ar (call (.builtin nm) xs kv) Qv Er sh:=by
 apply wpAny_call;apply codeAny_call_builtin k2 k3
 simp only[checkBuiltinCall,k1]
 cases g:Manifest.signature? nm with
 |none=>exact U0f k5
 |some sg =>
  have e:Bind.checkArgs nm sg ⟨xs,kv⟩=pure ():=by simpa only[argsOk,g] using k4
  simp only[e];exact U0f k5
theorem V3:(toString "max"++toString ".loop":String)="max.loop":=by decide
variable{J:Addr}{fp wr:List Addr}{n:Nat}{P:Nat->Value->Prop}{St:Nat->Heap->Prop}{Rr:Result->Shared->Prop}{dv:Value}
theorem mO(W:Walks P0 wd Ar.in1 J fp wr n P St)(bt:Nat->Nat->Bool)(hG:CmpOf P0 wd Ar.in1 .Gt P bt)(B:Addr)(nB:B ∉ fp) :
  ∀(k j:Nat)(t:Shared)(vb:Value)(c:Nat),n-(j+1)=k->j+1<=n->St (j+1) t.heap->P (argBest bt j) vb->t.heap.get? B=some { cls:=.type "list",dict:=none,data:=.seq #[vb,vb] c,slots:=#[] } ->
  (∀v h' tk,P (argBest bt (n-1)) v->(∀b o,b ∉ wr->b≠B->t.heap.get? b=some o->h'.get? b=some o)->Rr (.ok (.ret v)) { t with heap:=h',toks:=tk }) ->
  codeAny (model P0 wd) Ar (.builtin "max.loop" ⟨[.ref J,.none,.ref B],[("default",dv)]⟩) Rr t:=by
 have wB:B ∉ wr:=fun h=>nB (W.sub _ h)
 intro k
 induction k with
 |zero =>
  intro j t vb c q1 q2 q3 q4 q5 q6
  have jn:j+1=n:=by omega
  apply codeAny_builtin U7m;rw[U2z U38 _]
  show wpAny _ Ar.in1 (seqItems? (.ref B) >>= _) _ _ t
  apply U0;apply U2q q5 rfl
  show wpAny _ Ar.in1 (tryCatch (pyNext (.ref J)) _ >>= _) _ _ t
  refine U0 (U55 (W.done t _ _ (jn ▸ q3) fun h1 tk1 kp=>?_))
  have q5':=kp B _ wB q5
  show wpAny _ Ar.in1 (updateSeq B (fun _=>#[]) >>= _) _ _ _
  apply U0;apply U3q q5' rfl
  refine U0 (U48 (U0f (q6 vb _ tk1 (by rw[←jn];exact q4) fun b o n1 n2 e=>(U1d _ _ (U1y n2)).trans (kp b o n1 e))))
 |succ k ih =>
  intro j t vb c q1 q2 q3 q4 q5 q6
  have jn:j+1<n:=by omega
  apply codeAny_builtin U7m;rw[U2z U38 _]
  show wpAny _ Ar.in1 (seqItems? (.ref B) >>= _) _ _ t
  apply U0;apply U2q q5 rfl
  show wpAny _ Ar.in1 (tryCatch (pyNext (.ref J)) _ >>= _) _ _ t
  refine U0 (U55 (W.item (j+1) t _ _ jn q3 fun v h1 tk1 pv st1 kp=>?_))
  have q5':=kp B _ wB q5
  show wpAny _ Ar.in1 (tryCatch (holding [v,v] (richCompare .Gt v vb >>= _)) _ >>= _) _ _ _
  refine U0 (U55 (U2j (U0 (hG (j+1) (argBest bt j) v vb _ _ _ pv q4 (U0 (U2j (U3h (U0 (U48 (U0f ?_))))))))))
  cases hb:bt (j+1) (argBest bt j) with
  |true =>
   simp only[if_true]
   apply U0;apply U3q q5' rfl
   refine U0 (U48 ?_)
   rw[V3]
   refine U0f ⟨plainId_quiet U38 _,ih (j+1) _ v _ (by omega) jn (W.frame _ _ _ st1 fun b hbf o e=>(U1d _ _ (fun h:B=b=>nB (by rw[h];exact hbf))).trans e) (by simp only[argBest,hb,if_true];exact pv) (U18 _ q5' rfl) fun v' h2 tk2 pv' kp2=>?_⟩
   exact q6 v' h2 tk2 pv' fun b o n1 n2 e=>kp2 b o n1 n2 ((U1d _ _ (U1y n2)).trans (kp b o n1 e))
  |false =>
   simp only[U1o,if_false]
   refine U0 (U48 ?_)
   rw[V3]
   exact U0f ⟨plainId_quiet U38 _,ih (j+1) _ vb c (by omega) jn st1 (by simp only[argBest,hb,U1o,if_false];exact q4) q5' fun v' h2 tk2 pv' kp2=>q6 v' h2 tk2 pv' fun b o n1 n2 e=>kp2 b o n1 n2 (kp b o n1 e)⟩
theorem uZ(W:Walks P0 wd Ar.in1 J fp wr n P St)(bt:Nat->Nat->Bool)(hG:CmpOf P0 wd Ar.in1 .Gt P bt)(B:Addr)(nB:B ∉ fp){t:Shared}{c:Nat}(st:St 0 t.heap)(q5:t.heap.get? B=some { cls:=.type "list",dict:=none,data:=.seq #[] c,slots:=#[] })
  (q6:∀v h' tk,(n=0/\v=dv∨0<n/\P (argBest bt (n-1)) v)->(∀b o,b ∉ wr->b≠B->t.heap.get? b=some o->h'.get? b=some o)->Rr (.ok (.ret v)) { t with heap:=h',toks:=tk }) :
  codeAny (model P0 wd) Ar (.builtin "max.loop" ⟨[.ref J,.none,.ref B],[("default",dv)]⟩) Rr t:=by
 have wB:B ∉ wr:=fun h=>nB (W.sub _ h)
 apply codeAny_builtin U7m;rw[U2z U38 _]
 show wpAny _ Ar.in1 (seqItems? (.ref B) >>= _) _ _ t
 apply U0;apply U2q q5 rfl
 show wpAny _ Ar.in1 (tryCatch (pyNext (.ref J)) _ >>= _) _ _ t
 by_cases h0:n=0
 .refine U0 (U55 (W.done t _ _ (h0 ▸ st) fun h1 tk1 kp=>?_))
  show wpAny _ Ar.in1 (rule _ >>= _) _ _ _
  exact U0 (U45 (U0f (q6 dv _ tk1 (.inl ⟨h0,rfl⟩) fun b o n1 n2 e=>kp b o n1 e)))
 .have hn:0<n:=by omega
  refine U0 (U55 (W.item 0 t _ _ hn st fun v h1 tk1 pv st1 kp=>?_))
  have q5':=kp B _ wB q5
  show wpAny _ Ar.in1 (updateSeq B (fun _=>#[v,v]) >>= _) _ _ _
  apply U0;apply U3q q5' rfl
  rw[V3]
  refine U0f ⟨plainId_quiet U38 _,mO W bt hG B nB _ 0 _ v _ rfl hn (W.frame _ _ _ st1 fun b hbf o e=>(U1d _ _ (fun h:B=b=>nB (by rw[h];exact hbf))).trans e) pv (U18 _ q5' rfl) fun v' h2 tk2 pv' kp2=>?_⟩
  exact q6 v' h2 tk2 (.inr ⟨hn,pv'⟩) fun b o n1 n2 e=>kp2 b o n1 n2 ((U1d _ _ (U1y n2)).trans (kp b o n1 e))
theorem nT(a d:Value):argsOk "max" ⟨[a],[("default",d)]⟩:=by unfold argsOk;kernel_rfl
end
end HT
namespace L2
open PySem PySem.Spec PyProof PyProof.Rows
section
variable{X:Cx}
theorem nO(hc:X.calm=true){pins:List (Addr×Obj)}{σ:St}{H:Hp}{s:Shared}(I:Inv X pins σ H s){p:Addr}{ns:List Int}{d:Int}{t:Tok}(hq:SqL X.K H p (ns.map V.int)){Q:VK}(q0:ns=[]->Q (.int d) H)(q1:ns≠[]->∀m∈ns,(∀n∈ns,n<=m)->Q (.int m) H) :
  wpAny (model X.prog X.w) X.A (call (.builtin "max") [.ref p] [("default",.int d t)]) (EP X pins σ Q) X.xe s:=by
 obtain⟨its,rv,pl,hz⟩:=I.list hq
 have hlen:=rv.length
 rw[U0k] at hlen
 have hl:=pl.isList
 have hlt:p<s.heap.objs.size:=by obtain⟨o,ho,_⟩:=hl;exact U0q ho
 have hval:∀i v,its.toArray[i]?=some v->∃t,v=U3m (ns.getD i 0) t:=fun i v e=>by
  rw[U5c] at e
  have hi:i<ns.length:=by rw[hlen];exact(U0n.mp e).1
  obtain⟨u,e1,ru⟩:=rv.get (i:=i) (x:=.int ns[i]) (by rw[U0w,U0i hi];rfl)
  rw[e] at e1;cases e1
  rw[show ns.getD i 0=ns[i] by rw[U0h,U0i hi];rfl]
  exact ru
 refine HT.nQ F.kind_max F.plain_max F.entry_max (HT.nT _ _) ?_
 show wpAny _ X.A.in1 (Builtin.Builtins.bindParams "max" ["key","default"] 0 ⟨[],[("default",.int d t)]⟩ >>= _) _ _ s
 refine U0 (wpAny_of_eq (show Builtin.Builtins.bindParams "max" ["key","default"] 0 ⟨[],[("default",.int d t)]⟩=pure [none,some (.int d t)] by kernel_rfl) ?_)
 refine U0 (U0f (U0 (U5b hl (U0 (U2i ?_)))))
 rw[HT.V3]
 have W:=Walks.list (prog:=X.prog) (w:=X.w) (A:=X.A.in1) (by simpa using I.ok.hd hc) s.heap.objs.size p (U03 hlt) its.toArray
 refine U0f ⟨plainId_quiet U38 _,HT.uZ W _ (CmpOf.ints_gt (fun i=>ns.getD i 0) hval) _ ?_ ⟨⟨_,U0d _ (U0v _ rfl),rfl,rfl⟩,(hl.push _).push _⟩ (U0v _ rfl) fun v h' tk hv hk=>?_⟩
 .intro hm
  rw[U2e] at hm
  rcases U00.mp hm with z|z
  .exact absurd z (U1x (U4v _))
  .exact absurd (U07.mp z) (U1x (U3a hlt))
 .have J:Inv X pins σ H { s with heap:=h',toks:=tk }:=I.kept (h':=h') (t':=tk) fun b o e=>hk b o (fun z=>absurd (U07.mp z) (U03 (U0q e))) (fun z=>absurd (U0q e) (by rw[z,U2e];exact U7z.mpr (U4o _))) (U0d _ (U0d _ e))
  rcases hv with ⟨h0,rfl⟩|⟨h0,hP⟩
  .exact⟨.int d,H,J,⟨t,rfl⟩,q0 (U2n.mp (by rw[hlen];simpa using h0))⟩
  .obtain⟨g1,g2⟩:=argBest_gt (fun i=>ns.getD i 0) (its.toArray.size-1)
   obtain⟨t',rfl⟩:=hval _ _ hP
   rw[U0s,←hlen] at g1 g2 h0
   have hb:argBest (fun i j=>decide (ns.getD i 0>ns.getD j 0)) (ns.length-1)<ns.length:=by omega
   rw[U0s,←hlen]
   refine⟨.int _,H,J,⟨t',rfl⟩,q1 (fun z=>by rw[z] at h0;simp at h0) _ ?_ fun n hn=>?_⟩
   .rw[U0h,U0i hb]
    exact U1s hb
   .obtain⟨j,hj,rfl⟩:=List.getElem_of_mem hn
    have:=g2 j (by omega)
    rw[U0h,U0i hj] at this
    exact this
def Jax(K:U0b)(d:Int)(te:TE):TE:=fun σ H Q=>te σ H fun x H1=>∃(p:Addr)(ns:List Int),x=.ref p/\SqL K H1 p (ns.map V.int)/\(ns=[]->Q (.int d) H1)/\(ns≠[]->∀m∈ns,(∀n∈ns,n<=m)->Q (.int m) H1)
theorem uO{e:Expr}{te:TE}{d:Int}{j:Nat}{p pos kp kp0:Pos}(hc:X.calm=true)(hg:Gl X "max")(hm:X.mg "max"=none)(he:PE X e te)(hs:starEach [e] X.env=[(false,eval e X.env)]:=by rfl) :
  PE X (.Call (.Name "max" p) [e] [⟨some "default",.Constant (.int d) j kp0,kp⟩] pos) (Jax X.K d te):=by
 intro pins s σ H Q I h
 refine U42 (Lb I hg hm (by decide +kernel:bootBuiltins "max"=some (.builtin "max")) ?_)
 refine PyProof.Rows.callWith_kw ?_ (by rw[hs];rfl) (by rw[hs];rfl) rfl rfl
 refine thn (RZ he Tf hs pos pins s σ H (fun vs H1=>match vs with
  |[x]=>∃(p:Addr)(ns:List Int),x=.ref p/\SqL X.K H1 p (ns.map V.int)/\(ns=[]->Q (.int d) H1)/\(ns≠[]->∀m∈ns,(∀n∈ns,n<=m)->Q (.int m) H1)
  |_=>False) I h) fun us s1 ⟨vs,H1,I1,r1,q1⟩=>?_
 cases r1 with
 |nil=>exact q1.elim
 |cons rx rr =>
  cases rr with
  |cons _ _=>exact q1.elim
  |nil =>
   obtain⟨a,ns,rfl,hq,q0,q2⟩:=q1
   cases rx
   refine PyProof.Rows.kws_cons (thn (Te pins s1 σ H1 (fun y H2=>y=.int d/\H2=H1) I1 ⟨rfl,rfl⟩) fun u s2 ⟨y,H2,I2,r2,e1,e2⟩=>PyProof.Rows.kws_nil ?_)
   subst e1 e2
   obtain⟨t0,rfl⟩:=(show ∃t,u=U3m d t from r2)
   exact nO hc I2 hq q0 q2
end
end L2
end
section
namespace VS
open PySem PySem.Spec L2
theorem Zw:bootBuiltins "sum"=some (.builtin "sum"):=by decide +kernel
def Qx(S:Store):List D->Option D
 |[x]=>(listOf S x).bind fun ds=>(intsOf ds).map fun ns=>.int ns.sum
 |_=>none
theorem Xv{K:U0b}:Px K (xK K) Qx:=by
 intro Γ μ σ H env S xs ds d hK R rs e Q q
 unfold Qx at e
 split at e
 .obtain⟨es,e1,e⟩:=bind_some e
  obtain⟨ns,e2,e4⟩:=map_some e
  subst e4
  obtain⟨v,rfl,r⟩:=rs.one
  obtain⟨a,ys,rfl,ha,rx⟩:=VR.list R r e1
  have:=JF e2
  subst this
  have:=rx.Ru
  subst this
  exact⟨a,ns,rfl,SqL.of ha,q _ H (Same.refl H) (.int _)⟩
 .cases e
def Wa(d:Int)(a:BX):BX:=fun env S=>(a env S).bind fun p=>(listOf p.2 p.1).bind fun ds=>(intsOf ds).map fun ns=>(.int ((Ob ns).getD d),p.2)
theorem rE(d:Int)(a:BX)(env:VS.Env)(S:Store):Wa d a env S=(a env S).bind fun p=>(listOf p.2 p.1).bind fun ds=>(intsOf ds).map fun ns=>(.int ((Ob ns).getD d),p.2):=rfl
theorem vG{X:Cx}{e:Expr}{f:BX}{d:Int}{j:Nat}{p pos kp kp0:Pos}(hc:X.calm=true)(hg:Gl X "max")(hm:X.mg "max"=none)(he:JE X e f)(hs:starEach [e] X.env=[(false,eval e X.env)]:=by rfl) :
  JE X (.Call (.Name "max" p) [e] [⟨some "default",.Constant (.int d) j kp0,kp⟩] pos) (Wa d f) :=
 ⟨PE.imp (uO hc hg hm he.pe hs) fun σ H Q h=>by
  obtain⟨Γ,μ,env,S,y,S',hK,R,e,q⟩:=h
  obtain⟨⟨x,S1⟩,e1,e⟩:=bind_some e
  obtain⟨ds,e2,e⟩:=bind_some e
  obtain⟨ns,e3,e⟩:=map_some e
  cases e
  refine⟨Γ,μ,env,S,x,S1,hK,R,e1,fun v1 μ1 H1 x1 R1 r1=>?_⟩
  obtain⟨a,xs,rfl,ha,rs⟩:=VR.list R1 r1 e2
  have:=JF e3
  subst this
  have:=rs.Ru
  subst this
  refine⟨a,ns,rfl,SqL.of ha,fun z=>?_,fun z m h1 h2=>?_⟩
  .have:=q (.int ((Ob ns).getD d)) μ1 H1 x1 R1 (.int _)
   rw[z] at this
   exact this
  .cases hm:Ob ns with
   |none =>
    cases ns with
    |nil=>exact absurd rfl z
    |cons a r=>simp[Ob] at hm
   |some m' =>
    obtain⟨g1,g2⟩:=gF hm
    have e:m=m':=Int.le_antisymm (g2 _ h1) (h2 _ g1)
    have:=q (.int ((Ob ns).getD d)) μ1 H1 x1 R1 (.int _)
    rw[hm] at this
    rw[e]
    exact this⟩
end VS
end
section
namespace VS
def at1(bs:List (List St2))(i w:Nat):St2:=(bs.getD i []).getD w (0,0)
def inS(p:St2)(x:Int):Bool:=decide (p.1<=x)&&decide (x<p.2)
def GR(bs:List (List St2))(w:Nat)(x:Int)(ns:List Nat):List Nat:=ns.filter fun i=>inS (at1 bs i w) x
def steps(E:List Int):List St2:=E.zip E.tail
def Cv(bs:List (List St2))(w:Nat)(ns:List Nat):List Int:=Gd (ns.map (fun i=>(at1 bs i w).1)++ns.map (fun i=>(at1 bs i w).2))
def Bg(bs:List (List St2)):Nat->Nat->List Nat->List (List St2×List Nat)
 |0,_,ns=>if ns=[] then [] else [([],ns)]
 |k+1,w,ns=>if ns=[] then [] else (steps (Cv bs w ns)).flatMap fun p=>(Bg bs k (w+1) (GR bs w p.1 ns)).map fun c=>(p::c.1,c.2)
def K7(g:Int->Int)(a:Int):Nat->Int
 |0=>0
 |n+1=>K7 g a n+g (a+n)
def canon(bs:List (List St2))(F:List Nat->Int)(A:Int)(N:Nat):Nat->Nat->List Nat->Int
 |0,_,ns=>F ns
 |k+1,w,ns=>K7 (fun x=>canon bs F A N k (w+1) (GR bs w x ns)) A N
def Dp:List St2->Int
 |[]=>1
 |p::r=>(p.2-p.1)*Dp r
def csum(F:List Nat->Int)(cs:List (List St2×List Nat)):Int:=(cs.map fun c=>Dp c.1*F c.2).sum
theorem W4(g:Int->Int)(a:Int)(m:Nat):∀n:Nat,K7 g a (m+n)=K7 g a m+K7 g (a+m) n
 |0=>by simp[K7]
 |n+1=>by
  rw[show m+(n+1)=m+n+1 by omega,K7,W4 g a m n,K7,show a+((m+n:Nat):Int)=a+m+n by omega]
  omega
theorem Kv(g:Int->Int)(a v:Int):∀n:Nat,(∀x,a<=x->x<a+n->g x=v)->K7 g a n=n*v
 |0,_=>by simp[K7]
 |n+1,h=>by
  rw[K7,Kv g a v n (fun x h1 h2=>h x h1 (by omega)),h (a+n) (by omega) (by omega)]
  rw[show((n+1:Nat):Int)=n+1 by omega,Int.add_mul,U8f]
theorem PL(a b:Int)(r:List Int):steps (a::b::r)=(a,b)::steps (b::r):=rfl
theorem Tw:∀{E:List Int},E.Pairwise (·<·)->∀p∈steps E,p.1<p.2/\p.1∈E/\p.2∈E/\∀e∈E,e<=p.1∨p.2<=e
 |[],_,p,h=>by simp[steps] at h
 |[a],_,p,h=>by simp[steps] at h
 |a::b::r,hp,p,h=>by
  have hab:=(U2x.mp hp).1
  have ht:=(U2x.mp hp).2
  rw[PL] at h
  rcases U00.mp h with z|z
  .subst z
   refine⟨hab b U0x,by simp,by simp,fun e he=>?_⟩
   rcases U00.mp he with q|q
   .left;show e<=a;omega
   .right
    show b<=e
    rcases U00.mp q with q|q
    .omega
    .exact U8 ((U2x.mp ht).1 e q)
  .obtain⟨h1,h2,h3,h4⟩:=Tw ht p z
   refine⟨h1,U0p _ h2,U0p _ h3,fun e he=>?_⟩
   rcases U00.mp he with q|q
   .left;rw[q];exact U8 (hab _ h2)
   .exact h4 e q
def T5(E:List Int)(g:Int->Int):Int:=((steps E).map fun p=>(p.2-p.1)*g p.1).sum
theorem YL(g:Int->Int)(B:Int):∀(r:List Int)(a:Int),(a::r).Pairwise (·<·)->(∀p∈steps (a::r),∀x,p.1<=x->x<p.2->g x=g p.1)->(∀x,(∀e∈a::r,e<=x)->g x=0)->(∀e∈a::r,e<=B)->T5 (a::r) g=K7 g a (B-a).toNat
 |[],a,hp,hc,ho,hB=>by
  have:K7 g a (B-a).toNat=(B-a).toNat*0:=Kv g a 0 _ fun x h1 _=>ho x (by simpa using h1)
  rw[this];simp[T5,steps]
 |b::r,a,hp,hc,ho,hB=>by
  have hab:=(U2x.mp hp).1 b U0x
  have ht:=(U2x.mp hp).2
  have hb:=hB b (by simp)
  have ih:=YL g B r b ht (fun p h=>hc p (by rw[PL];exact U0p _ h)) (fun x h=>ho x fun e he=>by
   rcases U00.mp he with q|q
   .have:=h b U0x;omega
   .exact h e q) fun e he=>hB e (U0p _ he)
  have e1:(B-a).toNat=(b-a).toNat+(B-b).toNat:=by omega
  have e2:K7 g a (b-a).toNat=(b-a).toNat*g a:=Kv g a (g a) _ fun x h1 h2=>hc (a,b) (by rw[PL];exact U0x) x h1 (by show x<b;omega)
  have e3:(((b-a).toNat:Nat):Int)=b-a:=by omega
  rw[e1,W4,e2,e3,show a+(b-a)=b by omega,←ih]
  simp[T5,PL]
theorem lE{E:List Int}{g:Int->Int}{A:Int}{N:Nat}(hp:E.Pairwise (·<·))(hc:∀p∈steps E,∀x,p.1<=x->x<p.2->g x=g p.1)(h0:∀x,(∀e∈E,x<e)->g x=0)(h1:∀x,(∀e∈E,e<=x)->g x=0)(hb:∀e∈E,A<=e/\e<=A+N):T5 E g=K7 g A N:=by
 cases E with
 |nil =>
  have:K7 g A N=N*0:=Kv g A 0 _ fun x _ _=>h0 x fun e he=>by simp at he
  rw[this];simp[T5,steps]
 |cons a r =>
  have ha:=hb a U0x
  rw[YL g (A+N) r a hp hc h1 fun e he=>(hb e he).2]
  have e1:N=(a-A).toNat+(A+N-a).toNat:=by omega
  have e2:K7 g A (a-A).toNat=(a-A).toNat*0:=Kv g A 0 _ fun x _ h2=>h0 x fun e he=>by
   rcases U00.mp he with q|q
   .omega
   .have:=(U2x.mp hp).1 e q;omega
  have e3:A+(((a-A).toNat:Nat):Int)=a:=by omega
  conv=>rhs;rw[e1,W4,e2,e3]
  simp
theorem Vy{α:Type}(F:List Nat->Int)(f:α->List (List St2×List Nat)):∀l:List α,csum F (l.flatMap f)=(l.map fun p=>csum F (f p)).sum
 |[]=>rfl
 |a::l=>by
  rw[U4k,csum,U09,List.sum_append_int,U0m,U2k,←Vy F f l];rfl
theorem Ug(F:List Nat->Int)(p:St2):∀cs:List (List St2×List Nat),csum F (cs.map fun c=>(p::c.1,c.2))=(p.2-p.1)*csum F cs
 |[]=>by simp[csum]
 |c::cs=>by
  have:=Ug F p cs
  simp only[csum,U0m,U2k] at this ⊢
  rw[this,Dp,Int.mul_add,U73]
theorem Qi{ns:List Int}{x:Int}:x∈Gd ns↔x∈ns:=(U5o _ _).mem_iff.trans ((SetP.QD ns).2.2 x)
theorem Wo(ns:List Int):(Gd ns).Pairwise (·<·):=by
 obtain⟨o1,o2,o3⟩:=SetP.QD ns
 have hp:(Gd ns).Perm (SetP.once ns):=U5o _ _
 have hs:(Gd ns).Pairwise (·<=·):=by
  have:=List.pairwise_mergeSort (le:=fun a b:Int=>decide (a<=b)) (by intro a b c h1 h2;simp at *;omega) (by intro a b;simp;omega) (SetP.once ns)
  exact this.imp fun h=>by simpa using h
 exact(hs.and (hp.nodup_iff.mpr o1)).imp fun⟨h,n⟩=>by omega
theorem Jd(ns:List Int):(Gd ns).length<=ns.length:=by
 obtain⟨o1,o2,o3⟩:=SetP.QD ns
 have hp:(Gd ns).Perm (SetP.once ns):=U5o _ _
 rw[hp.length_eq];omega
theorem V5{p:St2}{x:Int}:inS p x=true↔p.1<=x/\x<p.2:=by simp[inS]
theorem dF{bs:List (List St2)}{w:Nat}{ns:List Nat}{E:List Int}(hp:E.Pairwise (·<·))(hE:∀i∈ns,(at1 bs i w).1∈E/\(at1 bs i w).2∈E):∀p∈steps E,∀x,p.1<=x->x<p.2->GR bs w x ns=GR bs w p.1 ns:=fun p h x h1 h2=>by
 obtain⟨g1,g2,g3,g4⟩:=Tw hp p h
 unfold GR
 refine U6a fun i hi=>?_
 rw[U3l,V5,V5]
 have a1:=g4 _ (hE i hi).1
 have a2:=g4 _ (hE i hi).2
 omega
theorem bM{bs:List (List St2)}{w:Nat}{ns:List Nat}{x:Int}(h:∀i∈ns,x<(at1 bs i w).1∨(at1 bs i w).2<=x):GR bs w x ns=[]:=by
 unfold GR
 rw[U6e]
 intro i hi
 rw[V5]
 have:=h i hi
 omega
theorem Qq{bs:List (List St2)}{F:List Nat->Int}{A:Int}{N:Nat}(hF:F []=0):∀k w,canon bs F A N k w []=0
 |0,_=>hF
 |k+1,w=>by
  have:K7 (fun x=>canon bs F A N k (w+1) (GR bs w x [])) A N=N*0:=Kv _ A 0 N fun x _ _=>Qq hF k (w+1)
  rw[canon,this];simp
def Wide(bs:List (List St2))(A:Int)(N:Nat)(w k:Nat)(ns:List Nat):Prop:=∀i∈ns,∀v,w<=v->v<w+k->(at1 bs i v).1<(at1 bs i v).2/\A<=(at1 bs i v).1/\(at1 bs i v).2<=A+N
theorem Wide.sub{bs:List (List St2)}{A:Int}{N w k:Nat}{ns ms:List Nat}(h:Wide bs A N w (k+1) ns)(hs:∀i∈ms,i∈ns):Wide bs A N (w+1) k ms:=fun i hi v h1 h2=>h i (hs i hi) v (by omega) (by omega)
theorem XS{bs:List (List St2)}{F:List Nat->Int}{A:Int}{N k w:Nat}{ns:List Nat}(hF:F []=0)(hw:Wide bs A N w (k+1) ns){E:List Int}(hp:E.Pairwise (·<·))(hE:∀i∈ns,(at1 bs i w).1∈E/\(at1 bs i w).2∈E)(hb:∀e∈E,A<=e/\e<=A+N) :
  T5 E (fun x=>canon bs F A N k (w+1) (GR bs w x ns))=canon bs F A N (k+1) w ns:=by
 rw[canon]
 refine lE hp (fun p h x h1 h2=>by rw[dF hp hE p h x h1 h2]) (fun x h=>?_) (fun x h=>?_) hb
 .rw[bM fun i hi=>.inl (h _ (hE i hi).1),Qq hF]
 .rw[bM fun i hi=>.inr (h _ (hE i hi).2),Qq hF]
theorem jT{bs:List (List St2)}{w:Nat}{ns:List Nat}:∀i∈ns,(at1 bs i w).1∈Cv bs w ns/\(at1 bs i w).2∈Cv bs w ns:=fun i hi =>
 ⟨Qi.mpr (U3y _ (U61 hi)),Qi.mpr (U1q _ (U61 hi))⟩
theorem nA{bs:List (List St2)}{w:Nat}{ns:List Nat}{e:Int}(h:e∈Cv bs w ns):∃i∈ns,e=(at1 bs i w).1∨e=(at1 bs i w).2:=by
 rcases U12.mp (Qi.mp h) with z|z
 .obtain⟨i,hi,e⟩:=U2o.mp z;exact⟨i,hi,.inl e.symm⟩
 .obtain⟨i,hi,e⟩:=U2o.mp z;exact⟨i,hi,.inr e.symm⟩
theorem RK{bs:List (List St2)}{A:Int}{N w k:Nat}{ns:List Nat}(hw:Wide bs A N w (k+1) ns):∀e∈Cv bs w ns,A<=e/\e<=A+N:=fun e he=>by
 obtain⟨i,hi,q⟩:=nA he
 have:=hw i hi w (U0t _) (by omega)
 omega
theorem XM{bs:List (List St2)}{F:List Nat->Int}{A:Int}{N:Nat}(hF:F []=0):∀(k w:Nat)(ns:List Nat),Wide bs A N w k ns->csum F (Bg bs k w ns)=canon bs F A N k w ns
 |0,w,ns,_=>by
  rw[Bg,canon]
  by_cases h:ns=[]
  .rw[if_pos h,h,hF];rfl
  .rw[if_neg h];simp[csum,Dp]
 |k+1,w,ns,hw=>by
  rw[Bg]
  by_cases h:ns=[]
  .rw[if_pos h,h,Qq hF];rfl
  .rw[if_neg h,Vy,←XS hF hw (Wo _) jT (RK hw),T5]
   refine congrArg U71 (U3j fun p _=>?_)
   rw[Ug,XM hF k (w+1) (GR bs w p.1 ns) (hw.sub fun i hi=>(U3k.mp hi).1)]
def Rv(bs:List (List St2)):Nat->List Int->List Nat->List Nat
 |_,[],ns=>ns
 |w,x::xs,ns=>Rv bs (w+1) xs (GR bs w x ns)
def lows(c:List St2):List Int:=c.map fun p=>p.1
def Qw(bs:List (List St2))(w:Nat)(ns:List Nat)(cs:List (List St2)):List (List St2×List Nat):=cs.map fun c=>(c,Rv bs w (lows c) ns)
theorem mV(bs:List (List St2))(F:List Nat->Int)(w:Nat)(ns:List Nat)(p:St2)(cs:List (List St2)):csum F (Qw bs w ns (cs.map (p::·)))=(p.2-p.1)*csum F (Qw bs (w+1) (GR bs w p.1 ns) cs):=by
 rw[←Ug]
 unfold Qw
 rw[U0c,U0c]
 rfl
def own1(i:Nat)(ns:List Nat):Int:=if ns=[i] then 1 else 0
def ownStep(acc:List Int)(c:List St2×List Nat):List Int:=match c.2 with|[i]=>acc.set i (acc.getD i 0+Dp c.1)|_=>acc
theorem Va(acc:List Int)(c:List St2×List Nat):(ownStep acc c).length=acc.length:=by
 unfold ownStep;split<;>simp
theorem j9(acc:List Int)(c:List St2×List Nat)(j:Nat)(hj:j<acc.length):(ownStep acc c).getD j 0=acc.getD j 0+Dp c.1*own1 j c.2:=by
 unfold ownStep own1
 split
 .rename_i i e
  rw[e]
  by_cases q:i=j
  .subst q
   simp[hj]
  .have:¬([i]=[j]):=fun z=>q (by simpa using z)
   rw[if_neg this]
   simp[U0h,U2y q]
 .rename_i h
  have:¬(c.2=[j]):=fun z=>h j z
  rw[if_neg this];simp
theorem Zn:∀(cs:List (List St2×List Nat))(acc:List Int)(j:Nat),j<acc.length->(cs.foldl ownStep acc).getD j 0=acc.getD j 0+csum (own1 j) cs
 |[],acc,j,_=>by simp[csum]
 |c::cs,acc,j,hj=>by
  rw[U13,Zn cs _ j (by rw[Va];exact hj),j9 acc c j hj]
  simp only[csum,U0m,U2k]
  omega
theorem Ph:∀(cs:List (List St2×List Nat))(acc:List Int),(cs.foldl ownStep acc).length=acc.length
 |[],_=>rfl
 |c::cs,acc=>by rw[U13,Ph cs,Va]
theorem Jcr{cs ds:List (List St2×List Nat)}(acc:List Int)(h:∀j,csum (own1 j) cs=csum (own1 j) ds):cs.foldl ownStep acc=ds.foldl ownStep acc:=by
 refine U6l (by rw[Ph,Ph]) fun j h1 h2=>?_
 rw[Ph] at h1
 have:=Zn cs acc j h1
 have q:=Zn ds acc j h1
 rw[h j,←q] at this
 rw[U0h,U0h,U0i (by rw[Ph];exact h1),U0i (by rw[Ph];exact h1)] at this
 exact this
theorem Vn{F:List Nat->Int}(hF:F []=0):∀cs:List (List St2×List Nat),csum F (cs.filter fun c=>decide (c.2≠[]))=csum F cs
 |[]=>rfl
 |c::cs=>by
  have:=Vn hF cs
  by_cases h:c.2=[]
  .rw[U58 (by simp[h]),this]
   simp[csum,h,hF]
  .rw[U57 (by simp[h])]
   simp only[csum,U0m,U2k] at this ⊢
   rw[this]
end VS
end
section
namespace VS
def Ft(t:Nat)(ns:List Nat):Int:=if ns.length=t+1 then 1 else 0
theorem Zy(t:Nat):Ft t []=0:=rfl
def CQ(acc:List Int)(c:List St2×List Nat):List Int:=acc.set (c.2.length-1) (acc.getD (c.2.length-1) 0+Dp c.1)
theorem Li(acc:List Int)(c:List St2×List Nat):(CQ acc c).length=acc.length:=by unfold CQ;simp
theorem KY:∀(cs:List (List St2×List Nat))(acc:List Int),(cs.foldl CQ acc).length=acc.length
 |[],_=>rfl
 |c::r,acc=>by rw[U13,KY r,Li]
theorem cM(acc:List Int)(c:List St2×List Nat)(h:1<=c.2.length){t:Nat}(ht:t<acc.length):(CQ acc c).getD t 0=acc.getD t 0+Dp c.1*Ft t c.2:=by
 unfold CQ Ft
 by_cases e:c.2.length=t+1
 .rw[if_pos e,U67,e,Nat.add_sub_cancel]
  rw[U0h,U2u ht];rfl
 .rw[if_neg e,U8b,Int.add_zero,U0h,U2y (by omega),←U0h]
theorem Vw{t:Nat}:∀(cs:List (List St2×List Nat))(acc:List Int),(∀c∈cs,1<=c.2.length)->t<acc.length->(cs.foldl CQ acc).getD t 0=acc.getD t 0+csum (Ft t) cs
 |[],acc,_,_=>by simp[csum]
 |c::r,acc,h,ht=>by
  rw[U13,Vw r _ (fun d hd=>h d (U0p _ hd)) (by rw[Li];exact ht),cM acc c (h c U0x) ht]
  unfold csum
  rw[U0m,U2k,U6i]
theorem sum_set:∀(l:List Int)(i:Nat)(v:Int),i<l.length->(l.set i (l.getD i 0+v)).sum=l.sum+v
 |a::r,0,v,_=>by
  show(a+v)+r.sum=a+r.sum+v
  omega
 |a::r,i+1,v,h=>by
  have:=sum_set r i v (by simpa using h)
  show a+(r.set i (r.getD i 0+v)).sum=a+r.sum+v
  rw[this];omega
theorem YH:∀(cs:List (List St2×List Nat))(acc:List Int),(∀c∈cs,1<=c.2.length/\c.2.length<=acc.length)->(cs.foldl CQ acc).sum=acc.sum+(cs.map fun c=>Dp c.1).sum
 |[],acc,_=>by simp
 |c::r,acc,h=>by
  have hc:=h c U0x
  rw[U13,YH r _ (fun d hd=>by rw[Li];exact h d (U0p _ hd))]
  unfold CQ
  rw[sum_set _ _ _ (by omega),U0m,U2k]
  omega
def Vs{α:Type}:List (List α)->List (List α)
 |[]=>[[]]
 |l::r=>l.flatMap fun x=>(Vs r).map (x::·)
theorem Yt{α β:Type}(f:β->List α):∀(Es:List β)(acc:List (List α)),Es.foldl (fun acc E=>acc.flatMap fun s=>(f E).map fun x=>s++[x]) acc=acc.flatMap fun s=>(Vs (Es.map f)).map (s++·)
 |[],acc=>by
  show acc=acc.flatMap fun s=>[s++[]]
  simp
 |E::r,acc=>by
  rw[U13,Yt f r,List.flatMap_assoc,U0m]
  refine congrArg (fun g=>U8c g acc) (funext fun s=>?_)
  rw[List.flatMap_map,Vs,U7n]
  refine congrArg (fun g=>U8c g (f E)) (funext fun x=>?_)
  rw[U0c]
  refine U3j fun t _=>?_
  simp
def PJ:List (List Int)->List (List St2)
 |[]=>[[]]
 |E::r=>(steps E).flatMap fun p=>(PJ r).map (p::·)
def Cov(bs:List (List St2))(A:Int)(N:Nat):Nat->List (List Int)->List Nat->Prop
 |_,[],_=>True
 |w,E::r,ns=>(E.Pairwise (·<·)/\(∀i∈ns,(at1 bs i w).1∈E/\(at1 bs i w).2∈E)/\∀e∈E,A<=e/\e<=A+N)/\Cov bs A N (w+1) r ns
theorem Cov.sub{bs:List (List St2)}{A:Int}{N:Nat}{ns ms:List Nat}(h:∀i∈ms,i∈ns):∀{w:Nat} {Es:List (List Int)},Cov bs A N w Es ns->Cov bs A N w Es ms
 |_,[],_=>trivial
 |_,_::_,⟨⟨a,b,c⟩,d⟩=>⟨⟨a,fun i hi=>b i (h i hi),c⟩,d.sub h⟩
theorem Yh{bs:List (List St2)}{F:List Nat->Int}{A:Int}{N:Nat}(hF:F []=0):∀(Es:List (List Int))(w:Nat)(ns:List Nat),Wide bs A N w Es.length ns->Cov bs A N w Es ns->csum F (Qw bs w ns (PJ Es))=canon bs F A N Es.length w ns
 |[],w,ns,_,_=>by simp[PJ,Qw,csum,canon,Rv,lows,Dp]
 |E::r,w,ns,hw,hc=>by
  obtain⟨⟨h1,h2,h3⟩,h4⟩:=hc
  rw[U0j,PJ,←XS hF hw h1 h2 h3,T5]
  have e:Qw bs w ns ((steps E).flatMap fun p=>(PJ r).map (p::·))=(steps E).flatMap fun p=>Qw bs w ns ((PJ r).map (p::·)):=by
   unfold Qw;rw[U7n]
  rw[e,Vy]
  refine congrArg U71 (U3j fun p _=>?_)
  have hs:∀i∈GR bs w p.1 ns,i∈ns:=fun i hi=>(U3k.mp hi).1
  rw[mV,Yh hF r (w+1) (GR bs w p.1 ns) (hw.sub hs) (h4.sub hs)]
def Kf:Nat->List Int->List Int
 |0,l=>l
 |k+1,l=>if l≠[]/\l.getLast?=some 0 then Kf k l.dropLast else l
theorem bW:∀(k:Nat)(P:List Int),(∀x,P.getLast?=some x->x≠0)->∀j≤k,Kf k (P++U0l j 0)=P
 |0,P,hP,j,hj=>by
  have:j=0:=by omega
  subst this
  simp[Kf]
 |k+1,P,hP,0,_=>by
  rw[U06,U15,Kf]
  split
  .rename_i h;exact absurd rfl (hP 0 h.2)
  .rfl
 |k+1,P,hP,j+1,hj=>by
  have e:P++U0l (j+1) (0:Int)=(P++U0l j 0)++[0]:=by
   rw[List.replicate_succ',U5]
  rw[e,Kf,if_pos ⟨by simp,by simp⟩,U3o]
  exact bW k P hP j (by omega)
theorem Tz:∀(c:List St2),(∀p∈c,p.1<p.2)->0<Dp c
 |[],_=>by decide
 |p::r,h=>by
  have h1:=h p U0x
  exact Int.mul_pos (by omega) (Tz r fun q hq=>h q (U0p _ hq))
theorem gZ{t:Nat}:∀(cs:List (List St2×List Nat)),(∀c∈cs,0<Dp c.1)->0<=csum (Ft t) cs
 |[],_=>by simp[csum]
 |c::r,h=>by
  have:=gZ (t:=t) r fun d hd=>h d (U0p _ hd)
  have h1:=h c U0x
  unfold csum at this ⊢
  rw[U0m,U2k]
  have:0<=Dp c.1*Ft t c.2:=Int.mul_nonneg (by omega) (by unfold Ft;split<;>decide)
  omega
theorem bf{t:Nat}:∀(cs:List (List St2×List Nat)),(∀c∈cs,0<Dp c.1)->(∃c∈cs,c.2.length=t+1)->0<csum (Ft t) cs
 |[],_,h=>by obtain⟨c,hc,_⟩:=h;cases hc
 |c::r,h,hx=>by
  have h1:=h c U0x
  have h2:=gZ (t:=t) r fun d hd=>h d (U0p _ hd)
  have h3:0<=Dp c.1*Ft t c.2:=Int.mul_nonneg (by omega) (by unfold Ft;split<;>decide)
  obtain⟨d,hd,e⟩:=hx
  rcases U00.mp hd with z|z
  .subst z
   unfold csum at h2 ⊢
   rw[U0m,U2k]
   have:Dp d.1*Ft t d.2=Dp d.1:=by unfold Ft;rw[if_pos e,U67]
   omega
  .have:=bf r (fun d hd=>h d (U0p _ hd)) ⟨d,z,e⟩
   unfold csum at this ⊢
   rw[U0m,U2k]
   omega
theorem Yr{t:Nat}:∀(cs:List (List St2×List Nat)),(∀c∈cs,c.2.length≠t+1)->csum (Ft t) cs=0
 |[],_=>by simp[csum]
 |c::r,h=>by
  have:=Yr (t:=t) r fun d hd=>h d (U0p _ hd)
  unfold csum at this ⊢
  rw[U0m,U2k,this]
  unfold Ft
  rw[if_neg (h c U0x),U8b];rfl
theorem rA{l m:List Int}(hl:l.length=m.length)(h:∀t<l.length,l.getD t 0=m.getD t 0):l=m:=by
 refine U6l hl fun t h1 h2=>?_
 have:=h t h1
 rw[U0h,U0h,U0i h1,U0i h2] at this
 exact this
theorem W7(n t:Nat):(U0l n (0:Int)).getD t 0=0:=by
 rw[U0h,U36]
 split<;>rfl
theorem jE{cs ls:List (List St2×List Nat)}{K M:Nat}(h1:∀c∈cs,1<=c.2.length/\c.2.length<=K/\0<Dp c.1)(hx:K=0∨∃c∈cs,c.2.length=K)(hl:∀c∈ls,1<=c.2.length)(hs:∀t,csum (Ft t) ls=csum (Ft t) cs)(hKM:K<=M) :
  Kf M (ls.foldl CQ (U0l M 0))=cs.foldl CQ (U0l K 0):=by
 have eP:∀t<K,(cs.foldl CQ (U0l K 0)).getD t 0=csum (Ft t) cs:=fun t ht=>by
  rw[Vw cs _ (fun c hc=>(h1 c hc).1) (by simpa using ht),W7,U5z]
 have lP:(cs.foldl CQ (U0l K 0)).length=K:=by rw[KY,U1f]
 have eL:ls.foldl CQ (U0l M 0)=cs.foldl CQ (U0l K 0)++U0l (M-K) 0:=by
  refine rA (by rw[KY,U1f,U0r,lP,U1f];omega) fun t ht=>?_
  rw[KY,U1f] at ht
  rw[Vw ls _ hl (by simpa using ht),W7,U5z,hs]
  by_cases hk:t<K
  .rw[←eP t hk,U0h,U0h,U1e (by rw[lP];exact hk)]
  .rw[Yr cs fun c hc=>by have:=h1 c hc;omega,U0h,U2d (by rw[lP];omega),←U0h,W7]
 rw[eL]
 refine bW M _ (fun x hx' e=>?_) (M-K) (by omega)
 subst e
 rcases hx with h0|⟨c,hc,e⟩
 .rw[h0] at hx'
  have:(cs.foldl CQ (U0l 0 0))=[]:=U2n.mp (by rw[KY];rfl)
  rw[this] at hx'
  cases hx'
 .have hK:=(h1 c hc).1
  have hp:=bf (t:=K-1) cs (fun d hd=>(h1 d hd).2.2) ⟨c,hc,by omega⟩
  rw[←eP (K-1) (by omega)] at hp
  rw[List.getLast?_eq_getElem?,lP] at hx'
  rw[U0h,hx'] at hp
  exact absurd hp (by decide)
end VS
end
section
namespace VS
def Et(acc:List St2)(p:St2):List St2:=match acc.getLast? with
 |some q=>if q.2=p.1 then acc.dropLast++[(q.1,p.2)] else acc++[p]
 |none=>acc++[p]
def JR(l:List St2):Int:=(l.map fun p=>p.2-p.1).sum
theorem S8(a b:List St2):JR (a++b)=JR a+JR b:=by unfold JR;rw[U09,U7s]
theorem S7(p:St2):JR [p]=p.2-p.1:=by simp[JR]
theorem d7(acc:List St2)(p:St2):JR (Et acc p)=JR acc+(p.2-p.1):=by
 rcases U4f acc with rfl|⟨l,q,rfl⟩
 .simp[Et,JR]
 .rw[U4g]
  unfold Et
  rw[U5g]
  show JR (if q.2=p.1 then _ else _)=_
  split
  .rename_i h
   rw[U3o,S8,S7,S8,S7]
   show _+(p.2-q.1)=_
   omega
  .rw[S8,S7]
theorem bD:∀(l acc:List St2),JR (l.foldl Et acc)=JR acc+JR l
 |[],acc=>by simp[JR]
 |p::r,acc=>by
  rw[U13,bD r,d7]
  show _=JR acc+JR ([p]++r)
  rw[S8,S7,U6i]
abbrev Tr3:=Int×Int×Int
def Dg(acc:List Tr3)(p:Tr3):List Tr3:=match acc.getLast? with
 |some q=>if q.2.1=p.1/\q.2.2=p.2.2 then acc.dropLast++[(q.1,p.2.1,p.2.2)] else acc++[p]
 |none=>acc++[p]
def ar(p:Tr3):Int:=(p.2.1-p.1)*p.2.2
def arS(l:List Tr3):Int:=(l.map ar).sum
theorem Ri(a b:List Tr3):arS (a++b)=arS a+arS b:=by unfold arS;rw[U09,U7s]
theorem Rh(p:Tr3):arS [p]=ar p:=by simp[arS]
theorem d9(acc:List Tr3)(p:Tr3):arS (Dg acc p)=arS acc+ar p:=by
 rcases U4f acc with rfl|⟨l,q,rfl⟩
 .simp[Dg,arS]
 .rw[U4g]
  unfold Dg
  rw[U5g]
  show arS (if q.2.1=p.1/\q.2.2=p.2.2 then _ else _)=_
  split
  .rename_i h
   rw[U3o,Ri,Rh,Ri,Rh]
   unfold ar
   show _+(p.2.1-q.1)*p.2.2=_
   rw[h.1,h.2,U6i,←Int.add_mul]
   congr 2
   omega
  .rw[Ri,Rh]
theorem bG:∀(l acc:List Tr3),arS (l.foldl Dg acc)=arS acc+arS l
 |[],acc=>by simp[arS]
 |p::r,acc=>by
  rw[U13,bG r,d9]
  show _=arS acc+arS ([p]++r)
  rw[Ri,Rh,U6i]
def S1(vs:List St2):Int:=((steps (Gd (vs.map (fun p=>p.1)++vs.map fun p=>p.2))).map fun p=>(p.2-p.1)*(if vs.any (fun v=>inS v p.1) then 1 else 0)).sum
def szs(cs:List (List St2×List Nat)):Int:=(cs.map fun c=>Dp c.1).sum
theorem Vx{α:Type}(f:α->List (List St2×List Nat)):∀l:List α,szs (l.flatMap f)=(l.map fun a=>szs (f a)).sum
 |[]=>rfl
 |a::r=>by
  have:=Vx f r
  unfold szs at this ⊢
  rw[U4k,U09,U7s,this,U0m,U2k]
theorem aN(p:St2)(cs:List (List St2×List Nat)):szs (cs.map fun c=>(p::c.1,c.2))=(p.2-p.1)*szs cs:=by
 unfold szs
 induction cs with
 |nil=>simp
 |cons c r ih =>
  rw[U0m,U0m,U2k,ih,U0m,U2k,Int.mul_add]
  rfl
theorem XQ(bs:List (List St2))(w:Nat)(ns:List Nat):szs (Bg bs 1 w ns)=S1 (ns.map fun i=>at1 bs i w):=by
 rw[Bg]
 split
 .rename_i h
  subst h
  have:Gd ([]:List Int)=[]:=U2n.mp (U8g.mp (Jd []))
  simp[S1,szs,this,steps]
 .rw[Vx]
  unfold S1 Cv
  rw[U0c,U0c]
  refine congrArg U71 (U3j fun p _=>?_)
  rw[aN]
  congr 1
  rw[Bg]
  have e:(ns.map fun i=>at1 bs i w).any (fun v=>inS v p.1)=!decide (GR bs w p.1 ns=[]):=by
   rw[U3l,List.any_map,List.any_eq_true,Bool.not_eq_true',decide_eq_false_iff_not]
   unfold GR
   rw[U6e]
   simp
  rw[e]
  split
  .rename_i h;rw[decide_eq_true h];rfl
  .rename_i h;rw[decide_eq_false h];rfl
theorem jW(bs:List (List St2))(ns:List Nat)(hn:ns≠[]):szs (Bg bs 2 0 ns)=((steps (Cv bs 0 ns)).map fun p=>(p.2-p.1)*S1 ((GR bs 0 p.1 ns).map fun i=>at1 bs i 1)).sum:=by
 rw[Bg,if_neg hn,Vx]
 refine congrArg U71 (U3j fun p _=>?_)
 rw[aN,XQ]
end VS
end
section
namespace W13
open PySem L2 VS
def X8:BL :=
 (DN (Rq (eCB J9 (Aa (Ab 0) (Aa (eC (.ty "int")) Ae))) (iI (eCB J9 (Aa (Ab 0) (Aa (eC (.ty "bool")) Ae))))))
def DY:Cz:=Ef 1 1 X8
def XF:BL :=
 (DN (Rq (Aw DY (Aa (Ab 0) Ae)) (eUn (Zf Bc.D3) (Ab 0))))
def Fy:Cz:=Ef 1 1 XF
def Uv:BL :=
 (Bh (sIf (tOr (Hy (BK (eCB J9 (Aa (Ab 0) (Aa (eC (.ty "tuple")) Ae))))) (BK (eOp (oEq true) (eCB Dm (Aa (Ab 0) Ae)) (eC (.int 2)))))
  (DN (eC (.bl false)))
  Ed)
  (DN (Rq (Aw DY (Aa (eOp oIx (Ab 0) (eC (.int 0))) Ae)) (Rq (Aw DY (Aa (eOp oIx (Ab 0) (eC (.int 1))) Ae)) (eOp oLt (eOp oIx (Ab 0) (eC (.int 0))) (eOp oIx (Ab 0) (eC (.int 1))))))))
def Ib:Cz:=Ef 1 1 Uv
def Uc:Bm :=
 Cw 1 [] (DK (Ab 1)) (Pat.sem (.nm 0)) GQ (Aw Ib (Aa (Ab 0) Ae))
def bO:BL :=
 (Bh (sIf (tOr (Hy (BK (Aw Fy (Aa (Ab 0) Ae)))) (tOr (Hy (BK (eCB J9 (Aa (Ab 1) (Aa (eC (.ty "tuple")) Ae))))) (BK (eOp (oEq true) (eCB Dm (Aa (Ab 1) Ae)) (Ab 0)))))
  (DN (eC (.bl false)))
  Ed)
  (DN (eCB Pu (Aa (Bt Uc) Ae))))
def Kl:Cz:=Ef 2 2 bO
def Sh:Bm :=
 Cw 1 [1] (DK (Ab 2)) (Pat.sem (.nm 0)) GQ (Aw Kl (Aa (Ab 1) (Aa (Ab 0) Ae)))
def Ym:BL :=
 (Bh (sIf (tOr (Hy (BK (eCB J9 (Aa (Ab 0) (Aa (eC (.ty "tuple")) Ae))))) (BK (eOp (oEq true) (eCB Dm (Aa (Ab 0) Ae)) (eC (.int 2)))))
  (DN (eC (.bl false)))
  Ed)
  (Bh (Bk 1 (eOp oIx (Ab 0) (eC (.int 0))))
  (Bh (Bk 2 (eOp oIx (Ab 0) (eC (.int 1))))
  (Bh (sIf (tOr (Hy (BK (Aw Fy (Aa (Ab 1) Ae)))) (tOr (Hy (BK (eCB J9 (Aa (Ab 2) (Aa (eC (.ty "list")) Ae))))) (BK (eOp oGt (eCB Dm (Aa (Ab 2) Ae)) (eUn (Wg Bc.D3) (Ab 1))))))
  (DN (eC (.bl false)))
  Ed)
  (DN (eCB Pu (Aa (Bt Sh) Ae)))))))
def Jw:Cz:=Ef 1 3 Ym
def Vg:BL :=
 (sIf (Hy (BK (Aw Jw (Aa (Ab 0) Ae))))
  Mq
  Ed)
def Fe:Cz:=Ef 1 1 Vg
def Vf:BL :=
 (Bh (GX (Aw Fe (Aa (Ab 0) Ae)))
  (sIf (BK (eOp (oEq true) (eOp oIx (Ab 0) (eC (.int 0))) (Ab 1)))
  Mq
  Ed))
def Ey:Cz:=Ef 2 2 Vf
def RN:BL :=
 (Bk 1 (eOp J8 (Ab 1) (eOp Dw (Ab 3) (Ab 2))))
def RM:BL :=
 J7 (DK (Ab 0)) (Pat.sem (.tp [(.nm 2),(.nm 3)]))
  RN
def XD:BL :=
 (Bh (Bk 1 (eC (.int 1)))
  (Bh RM
  (DN (Ab 1))))
def Im:Cz:=Ef 1 4 XD
def Oo:Bm :=
 Cw 1 [1] (DK (Ab 0)) (Pat.sem (.nm 0)) GQ (eOp oIx (eOp oIx (Ab 0) (Ab 1)) (eC (.int 0)))
def Om:Bm :=
 Cw 1 [1] (DK (Ab 0)) (Pat.sem (.nm 0)) GQ (eOp oIx (eOp oIx (Ab 0) (Ab 1)) (eC (.int 1)))
def Uw:BL :=
 (DN (W9 (eOp Dl (Bt Oo) (Bt Om))))
def Ie:Cz:=Ef 2 2 Uw
def Ol:BL :=
 (Bh (Bk 2 (Aw Ie (Aa (Ab 0) (Aa (Ab 1) Ae))))
  (DN (QJ (Aa (Ab 2) (Aa (eSl oSl (Ab 2) (Kd (eC (.int 1))) Ke) Ae)))))
def Dc:Cz:=Ef 2 3 Ol
def Lr(rec:Cz):Bm :=
 Cw 1 [0] (DK (Ab 1)) (Pat.sem (.nm 0)) GQ (eOp oIx (Ab 1) (Ab 0))
def Lq(rec:Cz):Bm :=
 Cw 1 [0,2,5] (DK (Ab 1)) (Pat.sem (.nm 0)) (BK (Tn oLe oLt (eOp oIx (eOp oIx (eOp oIx (Ab 1) (Ab 0)) (Ab 2)) (eC (.int 0))) (Ab 3) (eOp oIx (eOp oIx (eOp oIx (Ab 1) (Ab 0)) (Ab 2)) (eC (.int 1))))) (Ab 0)
def Lw(rec:Cz):BL :=
 (GX (GP Fw (Ab 4) (Aa (Bq (Aa (eOp Dl (Bq (Aa (Bq (Aa (Ab 5) (Aa (Ab 6) Ae))) Ae)) (Ab 8)) (Aa (Ab 9) Ae))) Ae)))
def Ot(rec:Cz):BL :=
 J7 (DK (Aw rec (Aa (Ab 0) (Aa (Ab 7) (Aa (eOp Dl (Ab 2) (eC (.int 1))) (Aa (Ab 3) Ae)))))) (Pat.sem (.tp [(.nm 8),(.nm 9)]))
  (Lw rec)
def Ls(rec:Cz):BL :=
 (Bh (Bk 7 (Bt (Lq rec)))
  (Ot rec))
def Oq(rec:Cz):BL :=
 J7 (DK (Aw Dc (Aa (Bt (Lr rec)) (Aa (Ab 2) Ae)))) (Pat.sem (.tp [(.nm 5),(.nm 6)]))
  (Ls rec)
def NP(rec:Cz):BL :=
 (Bh (sIf (BK (eOp (oEq false) (eCB Dm (Aa (Ab 1) Ae)) (eC (.int 0))))
  (DN (Bt Ae))
  Ed)
  (Bh (sIf (BK (eOp (oEq false) (Ab 2) (Ab 3)))
  (DN (Bt (Aa (Bq (Aa (Bq Ae) (Aa (Ab 1) Ae))) Ae)))
  Ed)
  (Bh (Bk 4 (Gs Ae))
  (Bh (Oq rec)
  (DN (Ab 4))))))
def Cm:Nat->Cz
 |0=>fun _=>none
 |n+1=>Ef 4 10 (NP (Cm n))
def XC:BL :=
 (DN (Aw (Cm 4) (Aa (eOp oIx (Ab 0) (eC (.int 1))) (Aa (J5 (Aa (eCB Dm (Aa (eOp oIx (Ab 0) (eC (.int 1))) Ae)) Ae)) (Aa (eC (.int 0)) (Aa (eOp oIx (Ab 0) (eC (.int 0))) Ae))))))
def Ew:Cz:=Ef 1 1 XC
def Hu:Bm :=
 Cw 2 [] (DK (Ab 0)) (Pat.sem (.tp [(.nm 0),(.nm 1)])) GQ (eCB Dm (Aa (Ab 1) Ae))
def JM:BL :=
 (Bh (Bk 4 (eCB Dm (Aa (Ab 3) Ae)))
  (Ij (eOp Dl (eOp oIx (Ab 1) (eOp Dw (Ab 4) (eC (.int 1)))) (Aw Im (Aa (Ab 2) Ae))) (Ab 1) (eOp Dw (Ab 4) (eC (.int 1)))))
def Ky:BL :=
 J7 (DK (Ab 0)) (Pat.sem (.tp [(.nm 2),(.nm 3)]))
  JM
def QX:BL :=
 (Bh (Bk 1 (Rw (Bt (Aa (eC (.int 0)) Ae)) (Wa 0 (Bt Hu))))
  (Bh Ky
  (DN (Ab 1))))
def Fd:Cz:=Ef 1 5 QX
def Qn:BL :=
 (sIf (Ii (BK (eOp oGt (eCB Dm (Aa (Ab 1) Ae)) (eC (.int 0)))) (BK (eOp (oEq false) (eOp oIx (eOp oIx (Ab 1) (eUn Ga (eC (.int 1)))) (eC (.int 1))) (Ab 2))))
  (Ij (Bq (Aa (eOp oIx (eOp oIx (Ab 1) (eUn Ga (eC (.int 1)))) (eC (.int 0))) (Aa (Ab 3) Ae))) (Ab 1) (eUn Ga (eC (.int 1))))
  (GX (GP Fw (Ab 1) (Aa (Bq (Aa (Ab 2) (Aa (Ab 3) Ae))) Ae))))
def Ub:BL :=
 J7 (DK (Ab 0)) (Pat.sem (.tp [(.nm 2),(.nm 3)]))
  Qn
def bN:BL :=
 (Bh (Bk 1 (Gs Ae))
  (Bh Ub
  (DN (Ab 1))))
def Kh:Cz:=Ef 1 4 bN
def Nq:Bm :=
 Cw 2 [1] (DK (Aw Ew (Aa (Ab 0) Ae))) (Pat.sem (.tp [(.nm 0),(.nm 1)])) (BK (eOp oGe (eCB Dm (Aa (Ab 1) Ae)) (Ab 2))) (eOp oIx (Ab 0) (eC (.int 0)))
def Sx:BL :=
 (DN (Aw Kh (Aa (Bt Nq) Ae)))
def Gi:Cz:=Ef 2 2 Sx
def Ve:BL :=
 (Bh (GX (Aw Ey (Aa (Ab 0) (Aa (eC (.int 1)) Ae))))
  (DN (Aw Gi (Aa (Ab 0) (Aa (eC (.int 1)) Ae)))))
def Gm:Cz:=Ef 1 1 Ve
def LC:Bm :=
 Cw 2 [] (DK (Aw Gm (Aa (Ab 0) Ae))) (Pat.sem (.tp [(.nm 0),(.nm 1)])) GQ (eOp Dw (Ab 1) (Ab 0))
def Qc:BL :=
 (DN (eCB Qx (Aa (Bt LC) Ae)))
def Eo:Cz:=Ef 1 1 Qc
def X4:BL :=
 (sIf (tOr (Hy (BK (Aw DY (Aa (Ab 1) Ae)))) (tOr (BK (eOp oLt (Ab 1) (eC (.int 0)))) (BK (eOp oGe (Ab 1) (eOp oIx (Ab 0) (eC (.int 0)))))))
  Mq
  Ed)
def Fx:Cz:=Ef 2 2 X4
def NQ:Bm :=
 Cw 1 [1,2] (DK (Ab 0)) (Pat.sem (.nm 0)) (BK (Tn oLe oLt (eOp oIx (eOp oIx (Ab 0) (Ab 1)) (eC (.int 0))) (Ab 2) (eOp oIx (eOp oIx (Ab 0) (Ab 1)) (eC (.int 1))))) (Ab 0)
def QV:Bm :=
 Cw 1 [1] (DK (Ab 3)) (Pat.sem (.nm 0)) GQ (eOp Dl (eSl oSl (Ab 0) Ke (Kd (Ab 1))) (eSl oSl (Ab 0) (Kd (eOp Dl (Ab 1) (eC (.int 1)))) Ke))
def Vl:BL :=
 (Bh (Bk 3 (Bt NQ))
  (DN (Bt QV)))
def Hq:Cz:=Ef 3 4 Vl
def bQ:BL :=
 (Bh (GX (Aw Fe (Aa (Ab 0) Ae)))
  (Bh (sIf (BK (eOp (oEq false) (eOp oIx (Ab 0) (eC (.int 0))) (eC (.int 1))))
  Mq
  Ed)
  (Bh (GX (Aw Fx (Aa (Ab 0) (Aa (Ab 1) Ae))))
  (Bh (sIf (Hy (BK (Aw DY (Aa (Ab 2) Ae))))
  Mq
  Ed)
  (DN (Bq (Aa (eOp Dw (eOp oIx (Ab 0) (eC (.int 0))) (eC (.int 1))) (Aa (Aw Hq (Aa (eOp oIx (Ab 0) (eC (.int 1))) (Aa (Ab 1) (Aa (Ab 2) Ae)))) Ae))))))))
def Hz:Cz:=Ef 3 3 bQ
def KC:BL :=
 (sIf (Ii (BK (eOp oGt (eCB Dm (Aa (Ab 1) Ae)) (eC (.int 0)))) (Ii (BK (eOp (oEq false) (eOp oIx (eOp oIx (Ab 1) (eUn Ga (eC (.int 1)))) (eC (.int 1))) (Ab 2))) (BK (eOp (oEq false) (eOp oIx (eOp oIx (Ab 1) (eUn Ga (eC (.int 1)))) (eC (.int 2))) (Ab 4)))))
  (Ij (Bq (Aa (eOp oIx (eOp oIx (Ab 1) (eUn Ga (eC (.int 1)))) (eC (.int 0))) (Aa (Ab 3) (Aa (Ab 4) Ae)))) (Ab 1) (eUn Ga (eC (.int 1))))
  (GX (GP Fw (Ab 1) (Aa (Bq (Aa (Ab 2) (Aa (Ab 3) (Aa (Ab 4) Ae)))) Ae))))
def NZ:BL :=
 J7 (DK (Ab 0)) (Pat.sem (.tp [(.nm 2),(.nm 3),(.nm 4)]))
  KC
def Rn:BL :=
 (Bh (Bk 1 (Gs Ae))
  (Bh NZ
  (DN (Ab 1))))
def G5:Cz:=Ef 1 5 Rn
def JN:BL :=
 (Bh (Bk 5 (Aw Eo (Aa (Aw Hz (Aa (Ab 0) (Aa (Ab 1) (Aa (Ab 3) Ae)))) Ae)))
  (sIf (BK (eOp oGt (Ab 5) (eC (.int 0))))
  (GX (GP Fw (Ab 2) (Aa (Bq (Aa (Ab 3) (Aa (Ab 4) (Aa (Ab 5) Ae)))) Ae)))
  Ed))
def Kz:BL :=
 J7 (DK (Aw Dc (Aa (eOp oIx (Ab 0) (eC (.int 1))) (Aa (Ab 1) Ae)))) (Pat.sem (.tp [(.nm 3),(.nm 4)]))
  JN
def QZ:BL :=
 (Bh (GX (Aw Ey (Aa (Ab 0) (Aa (eC (.int 2)) Ae))))
  (Bh (GX (Aw Fx (Aa (Ab 0) (Aa (Ab 1) Ae))))
  (Bh (Bk 2 (Gs Ae))
  (Bh Kz
  (DN (Aw G5 (Aa (Ab 2) Ae)))))))
def Em:Cz:=Ef 2 6 QZ
def Nb:Bm :=
 Cw 3 [] (DK (Aw Em (Aa (Ab 0) (Aa (eC (.int 0)) Ae)))) (Pat.sem (.tp [(.nm 0),(.nm 1),(.nm 2)])) GQ (eOp J8 (eOp Dw (Ab 1) (Ab 0)) (Ab 2))
def Ro:BL :=
 (DN (eCB Qx (Aa (Bt Nb) Ae)))
def Dn:Cz:=Ef 1 1 Ro
def Sy:BL :=
 (Bh (GX (Aw Ey (Aa (Ab 0) (Aa (eC (.int 2)) Ae))))
  (DN (Aw Fd (Aa (Aw Ew (Aa (Ab 0) Ae)) Ae))))
def FT:Cz:=Ef 1 1 Sy
def Vj:BL :=
 (Bh (Bk 2 (eOp oMod (eOp J8 (eOp Dl (eOp Dl (eOp oMod (Ab 0) (eC (.int 2147483647))) (eOp J8 (eC (.int 7919)) (Ab 1))) (eC (.int 1))) (eC (.int 48271))) (eC (.int 2147483647))))
  (Bh (Bk 2 (eOp oMod (eOp J8 (Ab 2) (Ab 2)) (eC (.int 2147483629))))
  (DN (eOp oDiv (eOp oMod (eOp J8 (eOp Dl (Ab 2) (eOp J8 (eC (.int 40692)) (eOp Dl (Ab 1) (eC (.int 3))))) (eC (.int 69621))) (eC (.int 2147483579))) (eC (.int 8))))))
def Ir:Cz:=Ef 2 3 Vj
def Yk:BL :=
 (DN (Bt (Aa (eOp Oz (eOp oMod (Ab 0) (eOp Oz (eOp Oz (eOp Oz (eOp GZ (eC (.int 10)) (eC (.int 50))) (eOp GZ (eC (.int 10)) (eC (.int 50)))) (eOp GZ (eC (.int 10)) (eC (.int 50)))) (eOp GZ (eC (.int 10)) (eC (.int 50))))) (eCB Qy (Aa (eOp oGe (Ab 0) (eOp GZ (eC (.int 10)) (eC (.int 18)))) Ae))) (Aa (Ab 0) (Aa (eC (.int 0)) Ae)))))
def JB:Cz:=Ef 1 1 Yk
def Sq:BL :=
 (Bh (Ij (eOp Dl (eOp oIx (Ab 0) (eC (.int 2))) (eC (.int 1))) (Ab 0) (eC (.int 2)))
  (Bh (sIf (BK (eOp oGt (eOp oIx (Ab 0) (eC (.int 0))) (eC (.int 0))))
  (Bh (Bk 2 (eOp oMod (eOp oIx (Ab 0) (eC (.int 0))) (Ab 1)))
  (Bh (Ij (eOp oDiv (eOp oIx (Ab 0) (eC (.int 0))) (Ab 1)) (Ab 0) (eC (.int 0)))
  (DN (Ab 2))))
  Ed)
  (DN (eOp oMod (Aw Ir (Aa (eOp oIx (Ab 0) (eC (.int 1))) (Aa (eOp oIx (Ab 0) (eC (.int 2))) Ae))) (Ab 1)))))
def Ao:KH:=runM 2 3 Sq
def NT:Bm :=
 Cw 1 [2,0] (DK (Ab 1)) (Pat.sem (.nm 0)) GQ (GP Q5 (Ab 1) (Aa (Bl Ao (Aa (Ab 2) (Aa (eCB Dm (Aa (Ab 1) Ae)) Ae))) Ae))
def Rk:BL :=
 (Bh (Bk 2 (ZX nList (Aa (Ab 1) Ae)))
  (DN (Bt NT)))
def G4:KH:=runM 2 3 Rk
def Oe:Bm :=
 Cw 2 [] (DK (Ab 6)) (Pat.sem (.tp [(.nm 0),(.nm 1)])) GQ (Bq (Aa (eCB Wb (Aa (Ab 0) (Aa (Ab 1) Ae))) (Aa (eCB Zb (Aa (Ab 0) (Aa (Ab 1) Ae))) Ae)))
def Ln:BL :=
 (Bh (Bk 5 (Bl G4 (Aa (Ab 0) (Aa (J5 (Aa (eOp J8 (eC (.int 2)) (Ab 2)) Ae)) Ae))))
  (Bh (Bk 6 (QJ (Aa (eUn (Qf 0) (Ab 5)) (Aa (eUn (Qf 1) (Ab 5)) Ae))))
  (GX (GP Fw (Ab 3) (Aa (Bt Oe) Ae)))))
def Oc:BL :=
 J7 (Fj (Aa (Ab 1) Ae)) (Pat.sem (.nm 4))
  Ln
def Lk:Bm :=
 Cw 1 [0] (DK (Ab 1)) (Pat.sem (.nm 0)) GQ (eOp oIx (Ab 0) (Ab 1))
def Od:Bm :=
 Cw 1 [3] (Fj (Aa (Ab 2) Ae)) (Pat.sem (.nm 0)) GQ (eCB Vu (Aa (Bt Lk) Ae))
def Ut:BL :=
 (Bh (Bk 3 (Gs Ae))
  (Bh Oc
  (DN (Bt Od))))
def Gu:KH:=runM 3 7 Ut
def N5:BL :=
 (Bh (Bk 10 (Bl Ao (Aa (Ab 0) (Aa (Ab 5) Ae))))
  (GX (GP Fw (Ab 8) (Aa (Bq (Aa (Ab 10) (Aa (eOp Dl (eOp Dl (Ab 10) (eC (.int 1))) (eOp oIx (Bt (Aa (eC (.int 0)) (Aa (Bl Ao (Aa (Ab 0) (Aa (eOp Dw (Ab 5) (Ab 10)) Ae))) Ae))) (Bl Ao (Aa (Ab 0) (Aa (eC (.int 2)) Ae))))) Ae))) Ae))))
def QM:BL :=
 J7 (Fj (Aa (Ab 1) Ae)) (Pat.sem (.nm 9))
  N5
def Mz:BL :=
 (Bh (Bk 8 (Gs Ae))
  (Bh QM
  (GX (GP Fw (Ab 6) (Aa (eCB Vu (Aa (Ab 8) Ae)) Ae)))))
def QL:BL :=
 J7 (Fj (Aa (Ab 4) Ae)) (Pat.sem (.nm 7))
  Mz
def Mx:Bm :=
 Cw 1 [] (V6 (Aa (eC (.int 0)) (Aa (eOp J8 (eC (.int 2)) (Ab 2)) (Aa (eC (.int 2)) Ae)))) (Pat.sem (.nm 0)) GQ (Bq (Aa (Bq (Aa (eOp oMod (Ab 0) (eC (.int 3))) (Aa (eOp Dl (eOp oMod (Ab 0) (eC (.int 3))) (eC (.int 1))) Ae))) (Aa (Bq (Aa (eOp oDiv (Ab 0) (eC (.int 3))) (Aa (eOp Dl (eOp oDiv (Ab 0) (eC (.int 3))) (eC (.int 1))) Ae))) Ae)))
def Vh:BL :=
 (Bh (Bk 4 (eOp oIx (Bt (Aa (Bl Ao (Aa (Ab 0) (Aa (eOp Dl (Ab 2) (eC (.int 1))) Ae))) (Aa (Ab 2) (Aa (eOp Dl (eC (.int 1)) (Bl Ao (Aa (Ab 0) (Aa (Ab 2) Ae)))) Ae)))) (Bl Ao (Aa (Ab 0) (Aa (eC (.int 3)) Ae)))))
  (Bh (Bk 5 (eOp oIx (Bt (Aa (eC (.int 2)) (Aa (eC (.int 3)) (Aa (eC (.int 5)) (Aa (Ab 3) Ae))))) (Bl Ao (Aa (Ab 0) (Aa (eC (.int 4)) Ae)))))
  (Bh (Bk 6 (Gs Ae))
  (Bh QL
  (Bh (Bk 11 (Bl Ao (Aa (Ab 0) (Aa (eC (.int 8)) Ae))))
  (Bh (sIf (Ii (BK (eOp (oEq false) (Ab 11) (eC (.int 1)))) (BK (eOp oGt (Ab 4) (eC (.int 1)))))
  (Ij (eOp oIx (Ab 6) (Bl Ao (Aa (Ab 0) (Aa (eOp Dw (Ab 4) (eC (.int 1))) Ae)))) (Ab 6) (eUn Ga (eC (.int 1))))
  Ed)
  (Bh (sIf (Ii (BK (eOp (oEq false) (Ab 1) (eC (.int 2)))) (BK (eOp (oEq false) (Ab 11) (eC (.int 2)))))
  (Bh (Bk 12 (Bt (Aa (Bq (Aa (Bq (Aa (eC (.int 0)) (Aa (eC (.int 3)) Ae))) (Aa (Bq (Aa (eC (.int 0)) (Aa (eC (.int 1)) Ae))) Ae))) (Aa (Bq (Aa (Bq (Aa (eC (.int 0)) (Aa (eC (.int 3)) Ae))) (Aa (Bq (Aa (eC (.int 2)) (Aa (eC (.int 3)) Ae))) Ae))) (Aa (Bq (Aa (Bq (Aa (eC (.int 0)) (Aa (eC (.int 1)) Ae))) (Aa (Bq (Aa (eC (.int 0)) (Aa (eC (.int 3)) Ae))) Ae))) (Aa (Bq (Aa (Bq (Aa (eC (.int 2)) (Aa (eC (.int 3)) Ae))) (Aa (Bq (Aa (eC (.int 0)) (Aa (eC (.int 3)) Ae))) Ae))) Ae))))))
  (Bk 6 (eOp Dl (Ab 12) (eSl oSl (Ab 6) Ke (Kd (Bl Ao (Aa (Ab 0) (Aa (eOp Dw (Ab 2) (eC (.int 3))) Ae))))))))
  Ed)
  (Bh (sIf (Ii (BK (eOp (oEq false) (Ab 1) (eC (.int 2)))) (BK (eOp (oEq false) (Ab 11) (eC (.int 3)))))
  (Bk 6 (Gs Mx))
  Ed)
  (Bh (sIf (Ii (BK (eOp oGt (Ab 11) (eC (.int 5)))) (BK (eOp oGt (Ab 3) (eC (.int 8)))))
  (Bk 6 (Tj Gu (Aa (Ab 0) (Aa (Ab 1) (Aa (Ab 4) Ae)))))
  Ed)
  (DN (Ab 6)))))))))))
def Hl:KH:=runM 4 13 Vh
def N8:BL :=
 (GX (GP Fw (Ab 4) (Aa (eCB Wb (Aa (eOp Dl (eOp Dl (eOp oIx (Ab 4) (eUn Ga (eC (.int 1)))) (eC (.int 1))) (Bl Ao (Aa (Ab 0) (Aa (Ab 2) Ae)))) (Aa (eOp Dl (eOp Dw (eOp Dw (eOp GZ (eC (.int 10)) (eC (.int 9))) (eC (.int 200))) (Ab 1)) (Ab 5)) Ae))) Ae)))
def QT:BL :=
 J7 (Fj (Aa (Ab 1) Ae)) (Pat.sem (.nm 5))
  N8
def Vk:BL :=
 (Bh (Bk 2 (eOp oIx (Bt (Aa (eC (.int 1)) (Aa (eC (.int 3)) (Aa (eOp oDiv (eOp GZ (eC (.int 10)) (eC (.int 9))) (Ab 1)) Ae)))) (Bl Ao (Aa (Ab 0) (Aa (eC (.int 3)) Ae)))))
  (Bh (Bk 3 (eOp oIx (Bt (Aa (eC (.int 0)) (Aa (eOp Dw (eC (.int 0)) (Bl Ao (Aa (Ab 0) (Aa (eC (.int 10)) Ae)))) (Aa (eOp Dw (eC (.int 0)) (eOp GZ (eC (.int 10)) (eC (.int 9)))) Ae)))) (Bl Ao (Aa (Ab 0) (Aa (eC (.int 3)) Ae)))))
  (Bh (Bk 4 (Gs (Aa (Ab 3) Ae)))
  (Bh QT
  (Bh (sIf (BK (eOp (oEq false) (Bl Ao (Aa (Ab 0) (Aa (eC (.int 3)) Ae))) (eC (.int 0))))
  (Ij (eOp GZ (eC (.int 10)) (eC (.int 9))) (Ab 4) (eUn Ga (eC (.int 1))))
  Ed)
  (Bh (sIf (BK (eOp (oEq false) (Bl Ao (Aa (Ab 0) (Aa (eC (.int 6)) Ae))) (eC (.int 0))))
  (Ij (eOp Dw (eC (.int 0)) (eOp GZ (eC (.int 10)) (eC (.int 9)))) (Ab 4) (eC (.int 0)))
  Ed)
  (DN (Ab 4))))))))
def Ho:KH:=runM 2 6 Vk
def Nz:Bm :=
 Cw 1 [0,3] (Fj (Aa (Ab 1) Ae)) (Pat.sem (.nm 0)) GQ (Bl Ho (Aa (Ab 1) (Aa (Ab 2) Ae)))
def RD:Bm :=
 Cw 3 [] (Qh (Aa (Ab 5) (Aa (Ab 7) Ae))) (Pat.sem (.tp [(.nm 0),(.tp [(.nm 1),(.nm 2)])])) GQ (Bq (Aa (eOp oIx (Ab 0) (Ab 1)) (Aa (eOp oIx (Ab 0) (Ab 2)) Ae)))
def RG:BL :=
 (GX (GP Fw (Ab 6) (Aa (eCB Vu (Aa (Bt RD) Ae)) Ae)))
def RB:BL :=
 J7 (DK (Ab 4)) (Pat.sem (.nm 7))
  RG
def X7:BL :=
 (Bh (Bk 3 (eOp oIx (Bt (Aa (eC (.int 8)) (Aa (eOp oIx (Bt (Aa (eC (.int 0)) (Aa (eC (.int 40)) (Aa (eC (.int 20)) (Aa (eC (.int 12)) Ae))))) (Ab 1)) Ae))) (eCB Qy (Aa (eOp (oEq false) (Bl Ao (Aa (Ab 0) (Aa (eC (.int 3)) Ae))) (eC (.int 0))) Ae))))
  (Bh (Bk 4 (Bl Hl (Aa (Ab 0) (Aa (Ab 1) (Aa (Ab 2) (Aa (Ab 3) Ae))))))
  (Bh (Bk 5 (Bt Nz))
  (Bh (Bk 6 (Gs Ae))
  (Bh RB
  (DN (Bq (Aa (Ab 4) (Aa (Ab 5) (Aa (Bq (Aa (Ab 1) (Aa (Ab 6) Ae))) Ae))))))))))
def Gg:KH:=runM 3 8 X7
def Yl:BL :=
 (DN (Bq (Aa (eOp oIx (Ab 0) (eC (.int 0))) (Aa (Za nList (Aa (eOp oIx (Ab 0) (eC (.int 1))) Ae)) Ae))))
def IK:Cz:=Ef 1 1 Yl
def Oh:Bm :=
 Cw 1 [4] (Fj (Aa (eOp Dw (eCB Dm (Aa (Ab 2) Ae)) (eC (.int 1))) Ae)) (Pat.sem (.nm 0)) GQ (eOp Dl (Ab 1) (Bq (Aa (Ab 0) Ae)))
def Oj:BL :=
 (GX (GP V4 (Ab 3) (Aa (Bt Oh) Ae)))
def Lp:BL :=
 J7 (DK (Ab 1)) (Pat.sem (.nm 4))
  Oj
def Oi:BL :=
 (Bh (Bk 3 (Gs Ae))
  (Bh Lp
  (Bk 1 (Ab 3))))
def Og:BL :=
 J7 (DK (Ab 0)) (Pat.sem (.nm 2))
  Oi
def Uu:BL :=
 (Bh (Bk 1 (Bt (Aa (Bq Ae) Ae)))
  (Bh Og
  (DN (Ab 1))))
def GK:Cz:=Ef 1 5 Uu
def Ny:Bm :=
 Cw 3 [] (Qh (Aa (Ab 4) (Aa (Ab 1) Ae))) (Pat.sem (.tp [(.tp [(.nm 1),(.nm 2)]),(.nm 0)])) (tOr (BK (eOp oLt (Ab 0) (Ab 1))) (BK (eOp oGe (Ab 0) (Ab 2)))) (eC (.int 1))
def R9:BL :=
 (sIf (BK (eOp (oEq false) (Bt Ny) (Bt Ae)))
  (GX (GP Fw (Ab 2) (Aa (Ab 3) Ae)))
  Ed)
def R8:BL :=
 J7 (Zu (Aa (Ab 0) Ae)) (Pat.sem (.tp [(.nm 3),(.nm 4)]))
  R9
def X6:BL :=
 (Bh (Bk 2 (Gs Ae))
  (Bh R8
  (DN (Ab 2))))
def HY:Cz:=Ef 2 5 X6
def R7:BL :=
 (Bk 2 (eOp J8 (Ab 2) (eOp Dw (eOp oIx (Ab 3) (eOp Dl (Ab 4) (eC (.int 1)))) (eOp oIx (Ab 3) (Ab 4)))))
def R6:BL :=
 J7 (Qh (Aa (Ab 0) (Aa (Ab 1) Ae))) (Pat.sem (.tp [(.nm 3),(.nm 4)]))
  R7
def X5:BL :=
 (Bh (Bk 2 (eC (.int 1)))
  (Bh R6
  (DN (Ab 2))))
def Il:Cz:=Ef 2 5 X5
def N7:BL :=
 (Bh (Bk 5 (eCB Dm (Aa (Aw HY (Aa (Ab 0) (Aa (Ab 4) Ae))) Ae)))
  (sIf (BK (eOp oGt (Ab 5) (eC (.int 0))))
  (Ij (eOp Dl (eOp oIx (Ab 3) (eOp Dw (Ab 5) (eC (.int 1)))) (Aw Il (Aa (Ab 1) (Aa (Ab 4) Ae)))) (Ab 3) (eOp Dw (Ab 5) (eC (.int 1))))
  Ed))
def QS:BL :=
 J7 (DK (Aw GK (Aa (Ab 1) Ae))) (Pat.sem (.nm 4))
  N7
def N6:BL :=
 (GX (GP nq (Ab 3) Ae))
def Ur:BL :=
 Mp (Ii (BK (eOp (oEq true) (Ab 3) (Bt Ae))) (BK (eOp (oEq false) (eOp oIx (Ab 3) (eUn Ga (eC (.int 1)))) (eC (.int 0))))) N6 100000
def Vi:BL :=
 (Bh (Bk 3 (Rw (Bt (Aa (eC (.int 0)) Ae)) (eCB Dm (Aa (Ab 0) Ae))))
  (Bh QS
  (Bh Ur
  (DN (Ab 3)))))
def G3:Cz:=Ef 3 6 Vi
def Rm:BL :=
 (DN (Rq (eCB J9 (Aa (Ab 0) (Aa (eC (.ty "int")) Ae))) (Rq (iI (eCB J9 (Aa (Ab 0) (Aa (eC (.ty "bool")) Ae)))) (eOp (oEq false) (Ab 0) (Ab 1)))))
def Fb:Cz:=Ef 2 2 Rm
def JQ:Bm :=
 Cw 1 [] (DK (Ab 0)) (Pat.sem (.nm 0)) (tOr (BK (eCB J9 (Aa (Ab 0) (Aa (eC (.ty "bool")) Ae)))) (Hy (BK (eCB J9 (Aa (Ab 0) (Aa (eC (.ty "int")) Ae)))))) (Ab 0)
def Qa:BL :=
 (Bh (sIf (tOr (Hy (BK (eCB J9 (Aa (Ab 0) (Aa (eC (.ty "list")) Ae))))) (BK (eOp (oEq true) (Ab 0) (Ab 1))))
  (DN (eC (.bl false)))
  Ed)
  (DN (eOp (oEq false) (Bt JQ) (Bt Ae))))
def En:Cz:=Ef 2 2 Qa
def Wk:BL :=
 (Bh (Bk 9 (Q8 FT (Aa (Ab 7) Ae)))
  (Bh (sIf (tOr (Hy (BK (Aw En (Aa (Ab 9) (Aa (Ab 6) Ae))))) (BK (eOp (oEq true) (Ab 7) (Ab 5))))
  (DN (eC (.bl false)))
  Ed)
  (Bh (sIf (Hy (BK (Aw Fb (Aa (Aw Dn (Aa (Ab 7) Ae)) (Aa (eCB Qx (Aa (Ab 6) Ae)) Ae)))))
  (DN (eC (.bl false)))
  Ed)
  (GX (GP Fw (Ab 9) (Aa (eC (.int 0)) Ae))))))
def Wi:BL :=
 J7 (Fj (Aa (eC (.int 2)) Ae)) (Pat.sem (.nm 8))
  Wk
def Wj:BL :=
 (Bh (Bk 2 (Q8 JB (Aa (Ab 1) Ae)))
  (Bh (Ze (Bl Gg (Aa (Ab 2) (Aa (eC (.int 2)) (Aa (eC (.int 10)) Ae)))) (Pat.sem (.tp [(.nm 3),(.nm 4),(.nm 5)])))
  (Bh (Bk 6 (Aw G3 (Aa (Ab 3) (Aa (Ab 4) (Aa (eC (.int 2)) Ae)))))
  (Bh (Bk 7 (Aw IK (Aa (Ab 5) Ae)))
  Wi))))
def Zq:BL :=
 J7 (DK (eOp Dl (eSl oSl (Ab 0) Ke (Kd (eC (.int 4)))) (Bt (Aa (eCB Dm (Aa (Ab 0) Ae)) Ae)))) (Pat.sem (.nm 1))
  Wj
def sO:BL :=
 (Bh Zq
  (DN (Rq (eOp (oEq false) (Aw FT (Aa (Bq (Aa (eC (.int 2)) (Aa (Bt Ae) Ae))) Ae)) (Bt Ae)) (eOp (oEq false) (Aw Dn (Aa (Bq (Aa (eC (.int 2)) (Aa (Bt (Aa (Bq (Aa (Bq (Aa (eC (.int 0)) (Aa (eC (.int 2)) Ae))) (Aa (Bq (Aa (eC (.int 0)) (Aa (eC (.int 2)) Ae))) Ae))) (Aa (Bq (Aa (Bq (Aa (eC (.int 1)) (Aa (eC (.int 3)) Ae))) (Aa (Bq (Aa (eC (.int 1)) (Aa (eC (.int 3)) Ae))) Ae))) Ae))) Ae))) Ae)) (eC (.int 7))))))
def Xw:Cz:=Ef 1 10 sO
end W13
end
section
namespace W13
open PySem PySem.Spec L2 VS
def top (i : Nat) : Stmt := PySem.Challenge.pw_boxcover_k13_areas_told.main.body.getD i (.Pass ⟨0, 0, 0, 0⟩)
abbrev Kq:Stmt:=top 7
abbrev Ku:Stmt:=top 8
abbrev Jc:Stmt:=top 9
abbrev M7:Stmt:=top 10
abbrev KZ:Stmt:=top 11
abbrev K1:Stmt:=top 12
abbrev Jz:Stmt:=top 13
abbrev Ks:Stmt:=top 14
abbrev Hg:Stmt:=top 16
abbrev Iv:Stmt:=top 17
abbrev Hh:Stmt:=top 18
abbrev Kr:Stmt:=top 19
abbrev G6:Stmt:=top 20
abbrev Nk:Stmt:=top 22
abbrev Hs:Stmt:=top 23
abbrev Jy:Stmt:=top 24
abbrev G8:Stmt:=top 25
abbrev Km:Stmt:=top 27
abbrev IV:Stmt:=top 28
abbrev Nm:Stmt:=top 29
abbrev Ih:Stmt:=top 30
abbrev Gx:Stmt:=top 31
abbrev Gw:Stmt:=top 32
abbrev Iw:Stmt:=top 33
abbrev K4:Stmt:=top 35
abbrev MK:Stmt:=top 36
abbrev Ko:Stmt:=top 37
abbrev Gv:Stmt:=top 38
abbrev Hf:Stmt:=top 39
abbrev JD:Stmt:=top 40
abbrev K5:Stmt:=top 41
abbrev J4:Stmt:=top 42
abbrev MN:Stmt:=top 43
abbrev Io:Stmt:=top 44
abbrev Jl:Stmt:=top 45
abbrev Kp:Stmt:=top 46
abbrev K3:Stmt:=top 47
abbrev Ig:Stmt:=top 48
abbrev G7:Stmt:=top 49
abbrev Ow:Stmt:=top 50
theorem dR:CG ["thing"] ["thing"] (Aj Kq):=⟨rfl,rfl,rfl,by decide +kernel,rfl,by decide +kernel,by decide +kernel⟩
theorem dW:CG ["thing"] ["thing"] (Aj Ku):=⟨rfl,rfl,rfl,by decide +kernel,rfl,by decide +kernel,by decide +kernel⟩
theorem Z6:CG ["thing"] ["thing"] (Aj Jc):=⟨rfl,rfl,rfl,by decide +kernel,rfl,by decide +kernel,by decide +kernel⟩
theorem lO:CG ["ways","thing"] ["ways","thing"] (Aj M7):=⟨rfl,rfl,rfl,by decide +kernel,rfl,by decide +kernel,by decide +kernel⟩
theorem SQ:CG ["thing","ways","boxes"] ["thing"] (Aj KZ):=⟨rfl,rfl,rfl,by decide +kernel,rfl,by decide +kernel,by decide +kernel⟩
theorem cR:CG ["heap"] ["heap"] (Aj K1):=⟨rfl,rfl,rfl,by decide +kernel,rfl,by decide +kernel,by decide +kernel⟩
theorem cQ:CG ["heap","ways"] ["heap","ways"] (Aj Jz):=⟨rfl,rfl,rfl,by decide +kernel,rfl,by decide +kernel,by decide +kernel⟩
theorem Le:CG ["box","size","low","high"] ["box"] (Aj Ks):=⟨rfl,rfl,rfl,by decide +kernel,rfl,by decide +kernel,by decide +kernel⟩
theorem Z7:CG ["boxes","way"] ["boxes","way"] (Aj Hg):=⟨rfl,rfl,rfl,by decide +kernel,rfl,by decide +kernel,by decide +kernel⟩
theorem Rj:CG ["boxes","way","ends"] ["boxes","way"] (Aj Iv):=⟨rfl,rfl,rfl,by decide +kernel,rfl,by decide +kernel,by decide +kernel⟩
theorem Hr:CG ["boxes","numbers","way","ways","cells","low","high","there","rest","held_by"] ["boxes","numbers","way","ways"] (Aj Hh):=⟨rfl,rfl,rfl,by decide +kernel,rfl,by decide +kernel,by decide +kernel⟩
theorem dU:CG ["heap"] ["heap"] (Aj Kr):=⟨rfl,rfl,rfl,by decide +kernel,rfl,by decide +kernel,by decide +kernel⟩
theorem Hv:CG ["cells","sizes","cell","numbers","times"] ["cells"] (Aj G6):=⟨rfl,rfl,rfl,by decide +kernel,rfl,by decide +kernel,by decide +kernel⟩
theorem Qk:CG ["stretches","pieces","low","high"] ["stretches"] (Aj Nk):=⟨rfl,rfl,rfl,by decide +kernel,rfl,by decide +kernel,by decide +kernel⟩
theorem Y6:CG ["heap","least"] ["heap","least"] (Aj Hs):=⟨rfl,rfl,rfl,by decide +kernel,rfl,by decide +kernel,by decide +kernel⟩
theorem cP:CG ["heap"] ["heap"] (Aj Jy):=⟨rfl,rfl,rfl,by decide +kernel,rfl,by decide +kernel,by decide +kernel⟩
theorem VD:CG ["heap"] ["heap"] (Aj G8):=⟨rfl,rfl,rfl,by decide +kernel,rfl,by decide +kernel,by decide +kernel⟩
theorem dO:CG ["heap","way"] ["heap","way"] (Aj Km):=⟨rfl,rfl,rfl,by decide +kernel,rfl,by decide +kernel,by decide +kernel⟩
theorem Ul:CG ["boxes","way","number","there"] ["boxes","way","number"] (Aj IV):=⟨rfl,rfl,rfl,by decide +kernel,rfl,by decide +kernel,by decide +kernel⟩
theorem lQ:CG ["heap","way","number"] ["heap","way","number"] (Aj Nm):=⟨rfl,rfl,rfl,by decide +kernel,rfl,by decide +kernel,by decide +kernel⟩
theorem J6:CG ["steps","longest","low","high","what"] ["steps"] (Aj Ih):=⟨rfl,rfl,rfl,by decide +kernel,rfl,by decide +kernel,by decide +kernel⟩
theorem Hw:CG ["heap","way","steps","low","high","length"] ["heap","way"] (Aj Gx):=⟨rfl,rfl,rfl,by decide +kernel,rfl,by decide +kernel,by decide +kernel⟩
theorem Xh:CG ["heap"] ["heap"] (Aj Gw):=⟨rfl,rfl,rfl,by decide +kernel,rfl,by decide +kernel,by decide +kernel⟩
theorem Y7:CG ["heap"] ["heap"] (Aj Iw):=⟨rfl,rfl,rfl,by decide +kernel,rfl,by decide +kernel,by decide +kernel⟩
theorem QK:CG ["cell","k","number"] ["cell","k"] (Aj K4):=⟨rfl,rfl,rfl,by decide +kernel,rfl,by decide +kernel,by decide +kernel⟩
theorem iz:CG ["cell"] ["cell"] (Aj MK):=⟨rfl,rfl,rfl,by decide +kernel,rfl,by decide +kernel,by decide +kernel⟩
theorem VN:CG ["pot","many","told"] ["pot","many"] (Aj Ko):=⟨rfl,rfl,rfl,by decide +kernel,rfl,by decide +kernel,by decide +kernel⟩
theorem Qt:CG ["pot","things","left"] ["pot","things"] (Aj Gv):=⟨rfl,rfl,rfl,by decide +kernel,rfl,by decide +kernel,by decide +kernel⟩
theorem Jq:CG ["pot","ways","count","sides","way","ends","two"] ["pot","ways","count"] (Aj Hf):=⟨rfl,rfl,rfl,by decide +kernel,rfl,by decide +kernel,by decide +kernel⟩
theorem Eh:CG ["pot","ways","most","many","count","wide","found","k","box","way","low","kind","ring"] ["pot","ways","most","many"] (Aj JD):=⟨rfl,rfl,rfl,by decide +kernel,rfl,by decide +kernel,by decide +kernel⟩
theorem Kc:CG ["pot","many","step","here","found","k"] ["pot","many"] (Aj K5):=⟨rfl,rfl,rfl,by decide +kernel,rfl,by decide +kernel,by decide +kernel⟩
theorem Jx:CG ["pot","ways","most","many","small","marks","boxes","box"] ["pot","ways","most"] (Aj J4):=⟨rfl,rfl,rfl,by decide +kernel,rfl,by decide +kernel,by decide +kernel⟩
theorem j4:CG ["heap"] ["heap"] (Aj MN):=⟨rfl,rfl,rfl,by decide +kernel,rfl,by decide +kernel,by decide +kernel⟩
theorem Iu:CG ["marks","found","some","longer","spot"] ["marks"] (Aj Io):=⟨rfl,rfl,rfl,by decide +kernel,rfl,by decide +kernel,by decide +kernel⟩
theorem Nv:CG ["small","spot","found","number","box"] ["small","spot"] (Aj Jl):=⟨rfl,rfl,rfl,by decide +kernel,rfl,by decide +kernel,by decide +kernel⟩
theorem Ld:CG ["marks","spot","found","some","one"] ["marks","spot"] (Aj Kp):=⟨rfl,rfl,rfl,by decide +kernel,rfl,by decide +kernel,by decide +kernel⟩
theorem Mw:CG ["small","marks","ways","found","spot","many"] ["small","marks","ways"] (Aj K3):=⟨rfl,rfl,rfl,by decide +kernel,rfl,by decide +kernel,by decide +kernel⟩
theorem Xg:CG ["found","due"] ["found","due"] (Aj Ig):=⟨rfl,rfl,rfl,by decide +kernel,rfl,by decide +kernel,by decide +kernel⟩
theorem VB:CG ["found","due"] ["found","due"] (Aj G7):=⟨rfl,rfl,rfl,by decide +kernel,rfl,by decide +kernel,by decide +kernel⟩
theorem LQ:CG ["script","cell","pot","small","marks","heap","due","handed","turn","found"] ["script"] (Aj Ow):=⟨rfl,rfl,rfl,by decide +kernel,rfl,by decide +kernel,by decide +kernel⟩
section
variable{P:Program}{w:World}{K:U0b}{mg:Str->Option Value}{base:Heap}
set_option maxHeartbeats 4000000 in
theorem dz{f:Addr}{fd:FuncData}(F:Fun K "is_whole" "is_whole" Kq f fd)(B:Blt mg):DG P w K mg base CX0 1 f fd ["thing"] (spP K DY 1) :=
 fnP F dR fun cdv A outer s H E hr =>
  (Ax (CN (Q7 (CP Ik JZ rfl (B.is "isinstance") Ez (Ac (Ad 0) (Ac (Mh (n:="int") rfl (B.is "int") Tp) Ag))) (Ti (jq (CP Ik JZ rfl (B.is "isinstance") Ez (Ac (Ad 0) (Ac (Mh (n:="bool") rfl (B.is "bool") Y4) Ag))))))))
set_option maxHeartbeats 4000000 in
theorem eG{f:Addr}{fd:FuncData}(F:Fun K "are_ways" "are_ways" Ku f fd)(B:Blt mg){d_MOST_BOXES:Addr}(M_MOST_BOXES:mg "MOST_BOXES"=some (.ref d_MOST_BOXES))(T_MOST_BOXES:∀h,K.In h->U5n P w h d_MOST_BOXES Bc.D3)(c_is_whole:Bu P w K mg base "is_whole" 1 DY):DG P w K mg base CX0 2 f fd ["thing"] (spP K Fy 1) :=
 fnP F dW fun cdv A outer s H E hr =>
  (Ax (CN (Q7 (Bo c_is_whole hr (by omega) rfl (Ac (Ad 0) Ag)) (Ti (qm T_MOST_BOXES (Ad 0) rfl M_MOST_BOXES)))))
set_option maxHeartbeats 4000000 in
theorem ZC{f:Addr}{fd:FuncData}(F:Fun K "is_stretch" "is_stretch" Jc f fd)(B:Blt mg)(c_is_whole:Bu P w K mg base "is_whole" 1 DY):DG P w K mg base CX0 2 f fd ["thing"] (spP K Ib 1) :=
 fnP F Z6 fun cdv A outer s H E hr =>
  (Am (Fp (JL (Lf (JV (Iz (CP Ik JZ rfl (B.is "isinstance") Ez (Ac (Ad 0) (Ac (Mh (n:="tuple") rfl (B.is "tuple") Np) Ag))))) (Ms (DR (Q0 hr) Pz (CP Dd Gj rfl (B.is "len") Ht (Ac (Ad 0) Ag)) Ah (Cd _)))))
   (Ax (CN Rt))
   EY)
   (Ax (CN (Q7 (Bo c_is_whole hr (by omega) rfl (Ac (Bw Bf Bd (Ad 0) Ah (fun _ _=>rfl)) Ag)) (Q7 (Bo c_is_whole hr (by omega) rfl (Ac (Bw Bf Bd (Ad 0) Ah (fun _ _=>rfl)) Ag)) (Ti (Q6 WX Td (Bw Bf Bd (Ad 0) Ah (fun _ _=>rfl)) (Bw Bf Bd (Ad 0) Ah (fun _ _=>rfl)) (Cd _))))))))
set_option maxHeartbeats 4000000 in
theorem mH{f:Addr}{fd:FuncData}(F:Fun K "is_box" "is_box" M7 f fd)(B:Blt mg)(c_are_ways:Bu P w K mg base "are_ways" 2 Fy)(c_is_stretch:Bu P w K mg base "is_stretch" 2 Ib):DG P w K mg base CX0 3 f fd ["ways","thing"] (spP K Kl 2) :=
 fnP F lO fun cdv A outer s H E hr =>
  (Am (Fp (JL (Lf (JV (Iz (Bo c_are_ways hr (by omega) rfl (Ac (Ad 0) Ag)))) (Lf (JV (Iz (CP Ik JZ rfl (B.is "isinstance") Ez (Ac (Ad 1) (Ac (Mh (n:="tuple") rfl (B.is "tuple") Np) Ag))))) (Ms (DR (Q0 hr) Pz (CP Dd Gj rfl (B.is "len") Ht (Ac (Ad 1) Ag)) (Ad 0) (Cd _))))))
   (Ax (CN Rt))
   EY)
   (Ax (CN (CP (cG rfl) fW rfl (B.is "all") jy (Ac (FP rfl (Ds.of (sc:=Aj M7) (N:=["ways","thing"]) (N2:=["part"]) (k:=1) (caps:=[]) (by decide +kernel)) rfl (Ea (Ad 1)) ⟨fun _ _ _ _ _=>⟨(BR (i:=0) (show U1w (["part"]:List Str) by decide +kernel)),GJ,(Bo c_is_stretch hr (by omega) rfl (Ac (Ad 0) Ag))⟩⟩) Ag)))))
set_option maxHeartbeats 4000000 in
theorem jD{f:Addr}{fd:FuncData}(F:Fun K "is_heap" "is_heap" KZ f fd)(B:Blt mg){d_MOST_BOXES:Addr}(M_MOST_BOXES:mg "MOST_BOXES"=some (.ref d_MOST_BOXES))(T_MOST_BOXES:∀h,K.In h->U5n P w h d_MOST_BOXES Bc.D3)(c_are_ways:Bu P w K mg base "are_ways" 2 Fy)(c_is_box:Bu P w K mg base "is_box" 3 Kl):DG P w K mg base CX0 4 f fd ["thing"] (spP K Jw 1) :=
 fnP F SQ fun cdv A outer s H E hr =>
  (Am (Fp (JL (Lf (JV (Iz (CP Ik JZ rfl (B.is "isinstance") Ez (Ac (Ad 0) (Ac (Mh (n:="tuple") rfl (B.is "tuple") Np) Ag))))) (Ms (DR (Q0 hr) Pz (CP Dd Gj rfl (B.is "len") Ht (Ac (Ad 0) Ag)) Ah (Cd _)))))
   (Ax (CN Rt))
   EY)
   (Am (CV (i:=1) SQ.nd (Bw Bf Bd (Ad 0) Ah (fun _ _=>rfl)))
   (Am (CV (i:=2) SQ.nd (Bw Bf Bd (Ad 0) Ah (fun _ _=>rfl)))
   (Am (Fp (JL (Lf (JV (Iz (Bo c_are_ways hr (by omega) rfl (Ac (Ad 1) Ag)))) (Lf (JV (Iz (CP Ik JZ rfl (B.is "isinstance") Ez (Ac (Ad 2) (Ac (Mh (n:="list") rfl (B.is "list") Rg) Ag))))) (Ms (DR Ox Ml (CP Dd Gj rfl (B.is "len") Ht (Ac (Ad 2) Ag)) (qj T_MOST_BOXES (Ad 1) rfl M_MOST_BOXES (fun _ _=>rfl)) (Cd _))))))
   (Ax (CN Rt))
   EY)
   (Ax (CN (CP (cG rfl) fW rfl (B.is "all") jy (Ac (FP rfl (Ds.of (sc:=Aj KZ) (N:=["thing","ways","boxes"]) (N2:=["box","ways"]) (k:=1) (caps:=[1]) (by decide +kernel)) rfl (Ea (Ad 2)) ⟨fun _ _ _ _ _=>⟨(BR (i:=0) (show U1w (["box","ways"]:List Str) by decide +kernel)),GJ,(Bo c_is_box hr (by omega) rfl (Ac (Ad 1) (Ac (Ad 0) Ag)))⟩⟩) Ag))))))))
set_option maxHeartbeats 4000000 in
theorem cW{f:Addr}{fd:FuncData}(F:Fun K "need_heap" "need_heap" K1 f fd)(B:Blt mg)(c_is_heap:Bu P w K mg base "is_heap" 4 Jw):DG P w K mg base CX0 5 f fd ["heap"] (spP K Fe 1) :=
 fnP F cR fun cdv A outer s H E hr =>
  (Ax (Fp (JV (Iz (Bo c_is_heap hr (by omega) rfl (Ac (Ad 0) Ag))))
   (Ax QG)
   EY))
set_option maxHeartbeats 4000000 in
theorem cV{f:Addr}{fd:FuncData}(F:Fun K "need_ways" "need_ways" Jz f fd)(B:Blt mg)(c_need_heap:Bu P w K mg base "need_heap" 5 Fe):DG P w K mg base CX0 6 f fd ["heap","ways"] (spP K Ey 2) :=
 fnP F cQ fun cdv A outer s H E hr =>
  (Am (GD (Bo c_need_heap hr (by omega) rfl (Ac (Ad 0) Ag)))
   (Ax (Fp (DR (Q0 hr) Pz (Bw Bf Bd (Ad 0) Ah (fun _ _=>rfl)) (Ad 1) (Cd _))
   (Ax QG)
   EY)))
set_option maxHeartbeats 4000000 in
theorem eF{f:Addr}{fd:FuncData}(F:Fun K "box_size" "box_size" Ks f fd)(B:Blt mg):DG P w K mg base CX0 1 f fd ["box"] (spP K Im 1) :=
 fnP F Le fun cdv A outer s H E hr =>
  (Am (CV (i:=1) Le.nd Ah)
   (Am (Ge rfl (Ea (Ad 0)) (Gf rfl (Bv (BR (i:=2) Le.nd) (Bv (BR (i:=3) Le.nd) Fi)))
   (Ax (CV (i:=1) Le.nd (Ba Jv Jt (Ad 1) (Ba Gq Fv (Ad 3) (Ad 2))))) U14)
   (Ax (CN (Ad 1)))))
set_option maxHeartbeats 4000000 in
theorem ZD{f:Addr}{fd:FuncData}(F:Fun K "ends_along" "ends_along" Hg f fd)(B:Blt mg):DG P w K mg base CX0 1 f fd ["boxes","way"] (spP K Ie 2) :=
 fnP F Z7 fun cdv A outer s H E hr =>
  (Ax (CN (jM rfl (Ba Dv Du (FP rfl (Ds.of (sc:=Aj Hg) (N:=["boxes","way"]) (N2:=["box","way"]) (k:=1) (caps:=[1]) (by decide +kernel)) rfl (Ea (Ad 0)) ⟨fun _ _ _ _ _=>⟨(BR (i:=0) (show U1w (["box","way"]:List Str) by decide +kernel)),GJ,(Bw Bf Bd (Bw Bf Bd (Ad 0) (Ad 1) (fun _ _=>rfl)) Ah (fun _ _=>rfl))⟩⟩) (FP rfl (Ds.of (sc:=Aj Hg) (N:=["boxes","way"]) (N2:=["box","way"]) (k:=1) (caps:=[1]) (by decide +kernel)) rfl (Ea (Ad 0)) ⟨fun _ _ _ _ _=>⟨(BR (i:=0) (show U1w (["box","way"]:List Str) by decide +kernel)),GJ,(Bw Bf Bd (Bw Bf Bd (Ad 0) (Ad 1) (fun _ _=>rfl)) Ah (fun _ _=>rfl))⟩⟩)) rfl (B.is "sorted") rfl (B.is "set"))))
set_option maxHeartbeats 4000000 in
theorem Y8{f:Addr}{fd:FuncData}(F:Fun K "steps_along" "steps_along" Iv f fd)(B:Blt mg)(Bz:mg "zip"=none)(c_ends_along:Bu P w K mg base "ends_along" 1 Ie):DG P w K mg base CX0 2 f fd ["boxes","way"] (spP K Dc 2) :=
 fnP F Rj fun cdv A outer s H E hr =>
  (Am (CV (i:=2) Rj.nd (Bo c_ends_along hr (by omega) rfl (Ac (Ad 0) (Ac (Ad 1) Ag))))
   (Ax (CN (Ww rfl (Ac (Ad 2) (Ac (QH TY Tc (Ad 2) (Rb Ah) Rc) Ag)) rfl (B.is "list") rfl Bz))))
set_option maxHeartbeats 4000000 in
theorem Lj{f:Addr}{fd:FuncData}(F:Fun K "cells_from" "cells_from" Hh f fd)(B:Blt mg)(c_steps_along:Bu P w K mg base "steps_along" 2 Dc){n k:Nat}(hk:2<=k)(c_cells_from:Bu P w K mg base "cells_from" k (Cm n)):DG P w K mg base CX0 (k+1) f fd ["boxes","numbers","way","ways"] (spP K (Cm (n+1)) 4) :=
 fnP F Hr fun cdv A outer s H E hr =>
  (Am (Fp (DR (GC hr) G9 (CP Dd Gj rfl (B.is "len") Ht (Ac (Ad 1) Ag)) Ah (Cd _))
   (Ax (CN (FN Ag Az)))
   EY)
   (Am (Fp (DR (GC hr) G9 (Ad 2) (Ad 3) (Cd _))
   (Ax (CN (FN (Ac (Cj (Ac (Cj Ag Az) (Ac (Ad 1) Ag)) (Ai (Ai Az))) Ag) (Ai Az))))
   EY)
   (Am (CV (i:=4) Hr.nd (Jb Ag Az))
   (Am (Ge rfl (Ea (Bo c_steps_along hr (by omega) rfl (Ac (FP rfl (Ds.of (sc:=Aj Hh) (N:=["boxes","numbers","way","ways","cells","low","high","there","rest","held_by"]) (N2:=["number","boxes"]) (k:=1) (caps:=[0]) (by decide +kernel)) rfl (Ea (Ad 1)) ⟨fun _ _ _ _ _=>⟨(BR (i:=0) (show U1w (["number","boxes"]:List Str) by decide +kernel)),GJ,(Bw Bf Bd (Ad 1) (Ad 0) (fun _ _=>rfl))⟩⟩) (Ac (Ad 2) Ag)))) (Gf rfl (Bv (BR (i:=5) Hr.nd) (Bv (BR (i:=6) Hr.nd) Fi)))
   (Am (RJ (i:=7) rfl Hr.nd (Ds.of (sc:=Aj Hh) (N:=["boxes","numbers","way","ways","cells","low","high","there","rest","held_by"]) (N2:=["number","boxes","way","low"]) (k:=1) (caps:=[0,2,5]) (by decide +kernel)) rfl (Ea (Ad 1)) ⟨fun _ _ _ _ _=>⟨(BR (i:=0) (show U1w (["number","boxes","way","low"]:List Str) by decide +kernel)),(Ra (bC sH je WX Td (Bw Bf Bd (Bw Bf Bd (Bw Bf Bd (Ad 1) (Ad 0) (fun _ _=>rfl)) (Ad 2) (fun _ _=>rfl)) Ah (fun _ _=>rfl)) (Ad 3) (Bw Bf Bd (Bw Bf Bd (Bw Bf Bd (Ad 1) (Ad 0) (fun _ _=>rfl)) (Ad 2) (fun _ _=>rfl)) Ah (fun _ _=>rfl)))),(Ad 0)⟩⟩)
   (Ax (Ge rfl (Ea (Bo c_cells_from hr (by omega) rfl (Ac (Ad 0) (Ac (Ad 7) (Ac (Ba Dv Du (Ad 2) Ah) (Ac (Ad 3) Ag)))))) (Gf rfl (Bv (BR (i:=8) Hr.nd) (Bv (BR (i:=9) Hr.nd) Fi)))
   (Ax (GD (IW U1v U2b U2c HN HJ (Ad 4) (Ac (Cj (Ac (Ba Dv Du (Cj (Ac (Cj (Ac (Ad 5) (Ac (Ad 6) Ag)) (Ai (Ai Az))) Ag) (Ai Az)) (Ad 8)) (Ac (Ad 9) Ag)) (Ai (Ai Az))) Ag)))) U14))) U14)
   (Ax (CN (Ad 4)))))))
set_option maxHeartbeats 4000000 in
theorem eE{f:Addr}{fd:FuncData}(F:Fun K "cells_of" "cells_of" Kr f fd)(B:Blt mg)(c_cells_from:Bu P w K mg base "cells_from" 6 (Cm 4)):DG P w K mg base CX0 7 f fd ["heap"] (spP K Ew 1) :=
 fnP F dU fun cdv A outer s H E hr =>
  (Ax (CN (Bo c_cells_from hr (by omega) rfl (Ac (Bw Bf Bd (Ad 0) Ah (fun _ _=>rfl)) (Ac (Us rfl (Ac (CP Dd Gj rfl (B.is "len") Ht (Ac (Bw Bf Bd (Ad 0) Ah (fun _ _=>rfl)) Ag)) Ag) rfl (B.is "list") rfl (B.is "range")) (Ac Ah (Ac (Bw Bf Bd (Ad 0) Ah (fun _ _=>rfl)) Ag)))))))
set_option maxHeartbeats 4000000 in
theorem VF{f:Addr}{fd:FuncData}(F:Fun K "sizes_by_times" "sizes_by_times" G6 f fd)(B:Blt mg)(c_box_size:Bu P w K mg base "box_size" 1 Im):DG P w K mg base CX0 2 f fd ["cells"] (spP K Fd 1) :=
 fnP F Hv fun cdv A outer s H E hr =>
  (Am (CV (i:=1) Hv.nd (gM (FN (Ac Ah Ag) (Ai Az)) (vG rfl rfl (B.is "max") (FP rfl (Ds.of (sc:=Aj G6) (N:=["cells","sizes","cell","numbers","times"]) (N2:=["cell","numbers"]) (k:=2) (caps:=[]) (by decide +kernel)) rfl (Ea (Ad 0)) ⟨fun _ _ _ _ _=>⟨(Gf rfl (Bv (BR (i:=0) (show U1w (["cell","numbers"]:List Str) by decide +kernel)) (Bv (BR (i:=1) (show U1w (["cell","numbers"]:List Str) by decide +kernel)) Fi))),GJ,(CP Dd Gj rfl (B.is "len") Ht (Ac (Ad 1) Ag))⟩⟩))))
   (Am (Ge rfl (Ea (Ad 0)) (Gf rfl (Bv (BR (i:=2) Hv.nd) (Bv (BR (i:=3) Hv.nd) Fi)))
   (Am (CV (i:=4) Hv.nd (CP Dd Gj rfl (B.is "len") Ht (Ac (Ad 3) Ag)))
   (Ax (Jj (Ba Dv Du (Bw Bf Bd (Ad 1) (Ba Gq Fv (Ad 4) Ah) (fun _ _=>rfl)) (Bo c_box_size hr (by omega) rfl (Ac (Ad 2) Ag))) (Ad 1) (Ba Gq Fv (Ad 4) Ah)))) U14)
   (Ax (CN (Ad 1)))))
set_option maxHeartbeats 4000000 in
theorem mG{f:Addr}{fd:FuncData}(F:Fun K "joined" "joined" Nk f fd)(B:Blt mg):DG P w K mg base CX0 1 f fd ["stretches"] (spP K Kh 1) :=
 fnP F Qk fun cdv A outer s H E hr =>
  (Am (CV (i:=1) Qk.nd (Jb Ag Az))
   (Am (Ge rfl (Ea (Ad 0)) (Gf rfl (Bv (BR (i:=2) Qk.nd) (Bv (BR (i:=3) Qk.nd) Fi)))
   (Ax (Fp (JL (O6 (DR Ox Ml (CP Dd Gj rfl (B.is "len") Ht (Ac (Ad 1) Ag)) Ah (Cd _)) (Ni (DR (GC hr) G9 (Bw Bf Bd (Bw Bf Bd (Ad 1) (Mg KN JX Ah) (fun _ _=>rfl)) Ah (fun _ _=>rfl)) (Ad 2) (Cd _)))))
   (Ax (Jj (Cj (Ac (Bw Bf Bd (Bw Bf Bd (Ad 1) (Mg KN JX Ah) (fun _ _=>rfl)) Ah (fun _ _=>rfl)) (Ac (Ad 3) Ag)) (Ai (Ai Az))) (Ad 1) (Mg KN JX Ah)))
   (Ax (GD (IW U1v U2b U2c HN HJ (Ad 1) (Ac (Cj (Ac (Ad 2) (Ac (Ad 3) Ag)) (Ai (Ai Az))) Ag)))))) U14)
   (Ax (CN (Ad 1)))))
set_option maxHeartbeats 4000000 in
theorem Y9{f:Addr}{fd:FuncData}(F:Fun K "pieces_held" "pieces_held" Hs f fd)(B:Blt mg)(c_joined:Bu P w K mg base "joined" 1 Kh)(c_cells_of:Bu P w K mg base "cells_of" 7 Ew):DG P w K mg base CX0 8 f fd ["heap","least"] (spP K Gi 2) :=
 fnP F Y6 fun cdv A outer s H E hr =>
  (Ax (CN (Bo c_joined hr (by omega) rfl (Ac (FP rfl (Ds.of (sc:=Aj Hs) (N:=["heap","least"]) (N2:=["cell","numbers","least"]) (k:=2) (caps:=[1]) (by decide +kernel)) rfl (Ea (Bo c_cells_of hr (by omega) rfl (Ac (Ad 0) Ag))) ⟨fun _ _ _ _ _=>⟨(Gf rfl (Bv (BR (i:=0) (show U1w (["cell","numbers","least"]:List Str) by decide +kernel)) (Bv (BR (i:=1) (show U1w (["cell","numbers","least"]:List Str) by decide +kernel)) Fi))),(Ra (DR ZQ Wd (CP Dd Gj rfl (B.is "len") Ht (Ac (Ad 1) Ag)) (Ad 2) (Cd _))),(Bw Bf Bd (Ad 0) Ah (fun _ _=>rfl))⟩⟩) Ag))))
set_option maxHeartbeats 4000000 in
theorem cU{f:Addr}{fd:FuncData}(F:Fun K "pieces_of" "pieces_of" Jy f fd)(B:Blt mg)(c_need_ways:Bu P w K mg base "need_ways" 6 Ey)(c_pieces_held:Bu P w K mg base "pieces_held" 8 Gi):DG P w K mg base CX0 9 f fd ["heap"] (spP K Gm 1) :=
 fnP F cP fun cdv A outer s H E hr =>
  (Am (GD (Bo c_need_ways hr (by omega) rfl (Ac (Ad 0) (Ac Ah Ag))))
   (Ax (CN (Bo c_pieces_held hr (by omega) rfl (Ac (Ad 0) (Ac Ah Ag))))))
set_option maxHeartbeats 4000000 in
theorem VJ{f:Addr}{fd:FuncData}(F:Fun K "covered_length" "covered_length" G8 f fd)(B:Blt mg)(Bs:mg "sum"=none)(c_pieces_of:Bu P w K mg base "pieces_of" 9 Gm):DG P w K mg base CX0 10 f fd ["heap"] (spP K Eo 1) :=
 fnP F VD fun cdv A outer s H E hr =>
  (Ax (CN (CP (Ui rfl) Xv rfl Bs Zw (Ac (FP rfl (Ds.of (sc:=Aj G8) (N:=["heap"]) (N2:=["low","high"]) (k:=2) (caps:=[]) (by decide +kernel)) rfl (Ea (Bo c_pieces_of hr (by omega) rfl (Ac (Ad 0) Ag))) ⟨fun _ _ _ _ _=>⟨(Gf rfl (Bv (BR (i:=0) (show U1w (["low","high"]:List Str) by decide +kernel)) (Bv (BR (i:=1) (show U1w (["low","high"]:List Str) by decide +kernel)) Fi))),GJ,(Ba Gq Fv (Ad 1) (Ad 0))⟩⟩) Ag))))
set_option maxHeartbeats 4000000 in
theorem dZ{f:Addr}{fd:FuncData}(F:Fun K "need_way" "need_way" Km f fd)(B:Blt mg)(c_is_whole:Bu P w K mg base "is_whole" 1 DY):DG P w K mg base CX0 2 f fd ["heap","way"] (spP K Fx 2) :=
 fnP F dO fun cdv A outer s H E hr =>
  (Ax (Fp (JL (Lf (JV (Iz (Bo c_is_whole hr (by omega) rfl (Ac (Ad 1) Ag)))) (Lf (DR WX Td (Ad 1) Ah (Cd _)) (Ms (DR ZQ Wd (Ad 1) (Bw Bf Bd (Ad 0) Ah (fun _ _=>rfl)) (Cd _))))))
   (Ax QG)
   EY))
set_option maxHeartbeats 4000000 in
theorem cj{f:Addr}{fd:FuncData}(F:Fun K "cut_boxes" "cut_boxes" IV f fd)(B:Blt mg):DG P w K mg base CX0 1 f fd ["boxes","way","number"] (spP K Hq 3) :=
 fnP F Ul fun cdv A outer s H E hr =>
  (Am (RJ (i:=3) rfl Ul.nd (Ds.of (sc:=Aj IV) (N:=["boxes","way","number","there"]) (N2:=["box","way","number"]) (k:=1) (caps:=[1,2]) (by decide +kernel)) rfl (Ea (Ad 0)) ⟨fun _ _ _ _ _=>⟨(BR (i:=0) (show U1w (["box","way","number"]:List Str) by decide +kernel)),(Ra (bC sH je WX Td (Bw Bf Bd (Bw Bf Bd (Ad 0) (Ad 1) (fun _ _=>rfl)) Ah (fun _ _=>rfl)) (Ad 2) (Bw Bf Bd (Bw Bf Bd (Ad 0) (Ad 1) (fun _ _=>rfl)) Ah (fun _ _=>rfl)))),(Ad 0)⟩⟩)
   (Ax (CN (FP rfl (Ds.of (sc:=Aj IV) (N:=["boxes","way","number","there"]) (N2:=["box","way"]) (k:=1) (caps:=[1]) (by decide +kernel)) rfl (Ea (Ad 3)) ⟨fun _ _ _ _ _=>⟨(BR (i:=0) (show U1w (["box","way"]:List Str) by decide +kernel)),GJ,(Ba Dv Du (QH TY Tc (Ad 0) Rc (Rb (Ad 1))) (QH TY Tc (Ad 0) (Rb (Ba Dv Du (Ad 1) Ah)) Rc))⟩⟩))))
set_option maxHeartbeats 4000000 in
theorem mJ{f:Addr}{fd:FuncData}(F:Fun K "cut_at" "cut_at" Nm f fd)(B:Blt mg)(c_need_heap:Bu P w K mg base "need_heap" 5 Fe)(c_need_way:Bu P w K mg base "need_way" 2 Fx)(c_is_whole:Bu P w K mg base "is_whole" 1 DY)(c_cut_boxes:Bu P w K mg base "cut_boxes" 1 Hq):DG P w K mg base CX0 6 f fd ["heap","way","number"] (spP K Hz 3) :=
 fnP F lQ fun cdv A outer s H E hr =>
  (Am (GD (Bo c_need_heap hr (by omega) rfl (Ac (Ad 0) Ag)))
   (Am (Fp (DR (GC hr) G9 (Bw Bf Bd (Ad 0) Ah (fun _ _=>rfl)) Ah (Cd _))
   (Ax QG)
   EY)
   (Am (GD (Bo c_need_way hr (by omega) rfl (Ac (Ad 0) (Ac (Ad 1) Ag))))
   (Am (Fp (JV (Iz (Bo c_is_whole hr (by omega) rfl (Ac (Ad 2) Ag))))
   (Ax QG)
   EY)
   (Ax (CN (Cj (Ac (Ba Gq Fv (Bw Bf Bd (Ad 0) Ah (fun _ _=>rfl)) Ah) (Ac (Bo c_cut_boxes hr (by omega) rfl (Ac (Bw Bf Bd (Ad 0) Ah (fun _ _=>rfl)) (Ac (Ad 1) (Ac (Ad 2) Ag)))) Ag)) (Ai (Ai Az)))))))))
set_option maxHeartbeats 4000000 in
theorem Xk{f:Addr}{fd:FuncData}(F:Fun K "joined_alike" "joined_alike" Ih f fd)(B:Blt mg):DG P w K mg base CX0 1 f fd ["steps"] (spP K G5 1) :=
 fnP F J6 fun cdv A outer s H E hr =>
  (Am (CV (i:=1) J6.nd (Jb Ag Az))
   (Am (Ge rfl (Ea (Ad 0)) (Gf rfl (Bv (BR (i:=2) J6.nd) (Bv (BR (i:=3) J6.nd) (Bv (BR (i:=4) J6.nd) Fi))))
   (Ax (Fp (JL (O6 (DR Ox Ml (CP Dd Gj rfl (B.is "len") Ht (Ac (Ad 1) Ag)) Ah (Cd _)) (O6 (DR (GC hr) G9 (Bw Bf Bd (Bw Bf Bd (Ad 1) (Mg KN JX Ah) (fun _ _=>rfl)) Ah (fun _ _=>rfl)) (Ad 2) (Cd _)) (Ni (DR (GC hr) G9 (Bw Bf Bd (Bw Bf Bd (Ad 1) (Mg KN JX Ah) (fun _ _=>rfl)) Ah (fun _ _=>rfl)) (Ad 4) (Cd _))))))
   (Ax (Jj (Cj (Ac (Bw Bf Bd (Bw Bf Bd (Ad 1) (Mg KN JX Ah) (fun _ _=>rfl)) Ah (fun _ _=>rfl)) (Ac (Ad 3) (Ac (Ad 4) Ag))) (Ai (Ai (Ai Az)))) (Ad 1) (Mg KN JX Ah)))
   (Ax (GD (IW U1v U2b U2c HN HJ (Ad 1) (Ac (Cj (Ac (Ad 2) (Ac (Ad 3) (Ac (Ad 4) Ag))) (Ai (Ai (Ai Az)))) Ag)))))) U14)
   (Ax (CN (Ad 1)))))
set_option maxHeartbeats 4000000 in
theorem VG{f:Addr}{fd:FuncData}(F:Fun K "lengths_across" "lengths_across" Gx f fd)(B:Blt mg)(c_need_ways:Bu P w K mg base "need_ways" 6 Ey)(c_need_way:Bu P w K mg base "need_way" 2 Fx)(c_steps_along:Bu P w K mg base "steps_along" 2 Dc)(c_covered_length:Bu P w K mg base "covered_length" 10 Eo)(c_cut_at:Bu P w K mg base "cut_at" 6 Hz)(c_joined_alike:Bu P w K mg base "joined_alike" 1 G5):DG P w K mg base CX0 11 f fd ["heap","way"] (spP K Em 2) :=
 fnP F Hw fun cdv A outer s H E hr =>
  (Am (GD (Bo c_need_ways hr (by omega) rfl (Ac (Ad 0) (Ac Ah Ag))))
   (Am (GD (Bo c_need_way hr (by omega) rfl (Ac (Ad 0) (Ac (Ad 1) Ag))))
   (Am (CV (i:=2) Hw.nd (Jb Ag Az))
   (Am (Ge rfl (Ea (Bo c_steps_along hr (by omega) rfl (Ac (Bw Bf Bd (Ad 0) Ah (fun _ _=>rfl)) (Ac (Ad 1) Ag)))) (Gf rfl (Bv (BR (i:=3) Hw.nd) (Bv (BR (i:=4) Hw.nd) Fi)))
   (Am (CV (i:=5) Hw.nd (Bo c_covered_length hr (by omega) rfl (Ac (Bo c_cut_at hr (by omega) rfl (Ac (Ad 0) (Ac (Ad 1) (Ac (Ad 3) Ag)))) Ag)))
   (Ax (Fp (DR Ox Ml (Ad 5) Ah (Cd _))
   (Ax (GD (IW U1v U2b U2c HN HJ (Ad 2) (Ac (Cj (Ac (Ad 3) (Ac (Ad 4) (Ac (Ad 5) Ag))) (Ai (Ai (Ai Az)))) Ag))))
   EY))) U14)
   (Ax (CN (Bo c_joined_alike hr (by omega) rfl (Ac (Ad 2) Ag))))))))
set_option maxHeartbeats 4000000 in
theorem Xl{f:Addr}{fd:FuncData}(F:Fun K "covered_area" "covered_area" Gw f fd)(B:Blt mg)(Bs:mg "sum"=none)(c_lengths_across:Bu P w K mg base "lengths_across" 11 Em):DG P w K mg base CX0 12 f fd ["heap"] (spP K Dn 1) :=
 fnP F Xh fun cdv A outer s H E hr =>
  (Ax (CN (CP (Ui rfl) Xv rfl Bs Zw (Ac (FP rfl (Ds.of (sc:=Aj Gw) (N:=["heap"]) (N2:=["low","high","length"]) (k:=3) (caps:=[]) (by decide +kernel)) rfl (Ea (Bo c_lengths_across hr (by omega) rfl (Ac (Ad 0) (Ac Ah Ag)))) ⟨fun _ _ _ _ _=>⟨(Gf rfl (Bv (BR (i:=0) (show U1w (["low","high","length"]:List Str) by decide +kernel)) (Bv (BR (i:=1) (show U1w (["low","high","length"]:List Str) by decide +kernel)) (Bv (BR (i:=2) (show U1w (["low","high","length"]:List Str) by decide +kernel)) Fi)))),GJ,(Ba Jv Jt (Ba Gq Fv (Ad 1) (Ad 0)) (Ad 2))⟩⟩) Ag))))
set_option maxHeartbeats 4000000 in
theorem YB{f:Addr}{fd:FuncData}(F:Fun K "areas_often" "areas_often" Iw f fd)(B:Blt mg)(c_need_ways:Bu P w K mg base "need_ways" 6 Ey)(c_sizes_by_times:Bu P w K mg base "sizes_by_times" 2 Fd)(c_cells_of:Bu P w K mg base "cells_of" 7 Ew):DG P w K mg base CX0 8 f fd ["heap"] (spP K FT 1) :=
 fnP F Y7 fun cdv A outer s H E hr =>
  (Am (GD (Bo c_need_ways hr (by omega) rfl (Ac (Ad 0) (Ac Ah Ag))))
   (Ax (CN (Bo c_sizes_by_times hr (by omega) rfl (Ac (Bo c_cells_of hr (by omega) rfl (Ac (Ad 0) Ag)) Ag)))))
set_option maxHeartbeats 4000000 in
theorem cZ{f:Addr}{fd:FuncData}(F:Fun K "_law_mixed" "_law_mixed" K4 f fd)(B:Blt mg):DG P w K mg base CX0 1 f fd ["cell","k"] (spP K Ir 2) :=
 fnP F QK fun cdv A outer s H E hr =>
  (Am (CV (i:=2) QK.nd (Ba Mr Kg (Ba Jv Jt (Ba Dv Du (Ba Dv Du (Ba Mr Kg (Ad 0) Ah) (Ba Jv Jt Ah (Ad 1))) Ah) Ah) Ah))
   (Am (CV (i:=2) QK.nd (Ba Mr Kg (Ba Jv Jt (Ad 2) (Ad 2)) Ah))
   (Ax (CN (Ba QC RW (Ba Mr Kg (Ba Jv Jt (Ba Dv Du (Ad 2) (Ba Jv Jt Ah (Ba Dv Du (Ad 1) Ah))) Ah) Ah) Ah)))))
set_option maxHeartbeats 4000000 in
theorem jB{f:Addr}{fd:FuncData}(F:Fun K "_law_pot" "_law_pot" MK f fd)(B:Blt mg):DG P w K mg base CX0 1 f fd ["cell"] (spP K JB 1) :=
 fnP F iz fun cdv A outer s H E hr =>
  (Ax (CN (FN (Ac (Ba V0 Rz (Ba Mr Kg (Ad 0) (Ba V0 Rz (Ba V0 Rz (Ba V0 Rz (Ba La Js Ah Ah) (Ba La Js Ah Ah)) (Ba La Js Ah Ah)) (Ba La Js Ah Ah))) (O8 Yv fV rfl (B.is "int") Tp (Ac (Q6 ZQ Wd (Ad 0) (Ba La Js Ah Ah) (Cd _)) Ag))) (Ac (Ad 0) (Ac Ah Ag))) (Ai (Ai (Ai Az))))))
set_option maxHeartbeats 4000000 in
theorem dg{f:Addr}{fd:FuncData}(F:Fun K "_law_take" "_law_take" Ko f fd)(B:Blt mg)(c_law_mixed:Bu P w K mg base "_law_mixed" 1 Ir):DG P w K mg base CX0 2 f fd ["pot","many"] (spM K Ao 2) :=
 fnM F VN fun cdv A outer s H E hr =>
  (Am (Jj (Ba Dv Du (Bw Bf Bd (Ad 0) Ah (fun _ _=>rfl)) Ah) (Ad 0) Ah)
   (Am (Fp (DR Ox Ml (Bw Bf Bd (Ad 0) Ah (fun _ _=>rfl)) Ah (Cd _))
   (Am (CV (i:=2) VN.nd (Ba Mr Kg (Bw Bf Bd (Ad 0) Ah (fun _ _=>rfl)) (Ad 1)))
   (Am (Jj (Ba QC RW (Bw Bf Bd (Ad 0) Ah (fun _ _=>rfl)) (Ad 1)) (Ad 0) Ah)
   (Ax (CN (Ad 2)))))
   EY)
   (Ax (CN (Ba Mr Kg (Bo c_law_mixed hr (by omega) rfl (Ac (Bw Bf Bd (Ad 0) Ah (fun _ _=>rfl)) (Ac (Bw Bf Bd (Ad 0) Ah (fun _ _=>rfl)) Ag))) (Ad 1))))))
set_option maxHeartbeats 4000000 in
theorem Xi{f:Addr}{fd:FuncData}(F:Fun K "_law_mixed_up" "_law_mixed_up" Gv f fd)(B:Blt mg)(c_law_take:KJ P w K mg base "_law_take" 2 Ao):DG P w K mg base CX0 3 f fd ["pot","things"] (spM K G4 2) :=
 fnM F Qt fun cdv A outer s H E hr =>
  (Am (CV (i:=2) Qt.nd (vC Ux aU rfl (B.is "list") Rg (Ac (Ad 1) Ag)))
   (Ax (CN (FP rfl (Ds.of (sc:=Aj Gv) (N:=["pot","things","left"]) (N2:=["thing","left","pot"]) (k:=1) (caps:=[2,0]) (by decide +kernel)) rfl (Ea (Ad 1)) ⟨fun _ _ _ _ _=>⟨(BR (i:=0) (show U1w (["thing","left","pot"]:List Str) by decide +kernel)),GJ,(IW U1v PySem.F.slot_list_pop PySem.F.type_list_pop qO pP (Ad 1) (Ac (Dt c_law_take hr (by omega) rfl (Ac (Ad 2) (Ac (CP Dd Gj rfl (B.is "len") Ht (Ac (Ad 1) Ag)) Ag))) Ag))⟩⟩))))
set_option maxHeartbeats 4000000 in
theorem Z8{f:Addr}{fd:FuncData}(F:Fun K "_law_unlike" "_law_unlike" Hf f fd)(B:Blt mg)(Bz:mg "zip"=none)(c_law_mixed_up:KJ P w K mg base "_law_mixed_up" 3 G4):DG P w K mg base CX0 4 f fd ["pot","ways","count"] (spM K Gu 3) :=
 fnM F Jq fun cdv A outer s H E hr =>
  (Am (CV (i:=3) Jq.nd (Jb Ag Az))
   (Am (Ge rfl (Jf rfl (B.is "range") (Ac (Ad 1) Ag)) (BR (i:=4) Jq.nd)
   (Am (CV (i:=5) Jq.nd (Dt c_law_mixed_up hr (by omega) rfl (Ac (Ad 0) (Ac (Us rfl (Ac (Ba Jv Jt Ah (Ad 2)) Ag) rfl (B.is "list") rfl (B.is "range")) Ag))))
   (Am (CV (i:=6) Jq.nd (Ww rfl (Ac (qt (Ad 5)) (Ac (qp (Ad 5)) Ag)) rfl (B.is "list") rfl Bz))
   (Ax (GD (IW U1v U2b U2c HN HJ (Ad 3) (Ac (FP rfl (Ds.of (sc:=Aj Hf) (N:=["pot","ways","count","sides","way","ends","two"]) (N2:=["one","other"]) (k:=2) (caps:=[]) (by decide +kernel)) rfl (Ea (Ad 6)) ⟨fun _ _ _ _ _=>⟨(Gf rfl (Bv (BR (i:=0) (show U1w (["one","other"]:List Str) by decide +kernel)) (Bv (BR (i:=1) (show U1w (["one","other"]:List Str) by decide +kernel)) Fi))),GJ,(Cj (Ac (CP (Yu rfl) aR rfl (B.is "min") jx (Ac (Ad 0) (Ac (Ad 1) Ag))) (Ac (CP (nP rfl) pQ rfl (B.is "max") zu (Ac (Ad 0) (Ac (Ad 1) Ag))) Ag)) (Ai (Ai Az)))⟩⟩) Ag)))))) U14)
   (Ax (CN (FP rfl (Ds.of (sc:=Aj Hf) (N:=["pot","ways","count","sides","way","ends","two"]) (N2:=["k","sides"]) (k:=1) (caps:=[3]) (by decide +kernel)) rfl (Jf rfl (B.is "range") (Ac (Ad 2) Ag)) ⟨fun _ _ _ _ _=>⟨(BR (i:=0) (show U1w (["k","sides"]:List Str) by decide +kernel)),GJ,(O8 Ov U9 rfl (B.is "tuple") Np (Ac (FP rfl (Ds.of (N:=["k","sides"]) (N2:=["side","k"]) (k:=1) (caps:=[0]) (by kernel_rfl)) rfl (Ea (Ad 1)) ⟨fun _ _ _ _ _=>⟨(BR (i:=0) (show U1w (["side","k"]:List Str) by decide +kernel)),GJ,(Bw Bf Bd (Ad 0) (Ad 1) (fun _ _=>rfl))⟩⟩) Ag))⟩⟩)))))
set_option maxHeartbeats 4000000 in
theorem cX{f:Addr}{fd:FuncData}(F:Fun K "_law_small" "_law_small" JD f fd)(B:Blt mg)(c_law_take:KJ P w K mg base "_law_take" 2 Ao)(c_law_unlike:KJ P w K mg base "_law_unlike" 4 Gu):DG P w K mg base CX0 5 f fd ["pot","ways","most","many"] (spM K Hl 4) :=
 fnM F Eh fun cdv A outer s H E hr =>
  (Am (CV (i:=4) Eh.nd (Bw Bf Bd (FN (Ac (Dt c_law_take hr (by omega) rfl (Ac (Ad 0) (Ac (Ba Dv Du (Ad 2) Ah) Ag))) (Ac (Ad 2) (Ac (Ba Dv Du Ah (Dt c_law_take hr (by omega) rfl (Ac (Ad 0) (Ac (Ad 2) Ag)))) Ag))) (Ai (Ai (Ai Az)))) (Dt c_law_take hr (by omega) rfl (Ac (Ad 0) (Ac Ah Ag))) (fun _ _=>rfl)))
   (Am (CV (i:=5) Eh.nd (Bw Bf Bd (FN (Ac Ah (Ac Ah (Ac Ah (Ac (Ad 3) Ag)))) (Ai (Ai (Ai (Ai Az))))) (Dt c_law_take hr (by omega) rfl (Ac (Ad 0) (Ac Ah Ag))) (fun _ _=>rfl)))
   (Am (CV (i:=6) Eh.nd (Jb Ag Az))
   (Am (Ge rfl (Jf rfl (B.is "range") (Ac (Ad 4) Ag)) (BR (i:=7) Eh.nd)
   (Am (CV (i:=8) Eh.nd (Jb Ag Az))
   (Am (Ge rfl (Jf rfl (B.is "range") (Ac (Ad 1) Ag)) (BR (i:=9) Eh.nd)
   (Am (CV (i:=10) Eh.nd (Dt c_law_take hr (by omega) rfl (Ac (Ad 0) (Ac (Ad 5) Ag))))
   (Ax (GD (IW U1v U2b U2c HN HJ (Ad 8) (Ac (Cj (Ac (Ad 10) (Ac (Ba Dv Du (Ba Dv Du (Ad 10) Ah) (Bw Bf Bd (FN (Ac Ah (Ac (Dt c_law_take hr (by omega) rfl (Ac (Ad 0) (Ac (Ba Gq Fv (Ad 5) (Ad 10)) Ag))) Ag)) (Ai (Ai Az))) (Dt c_law_take hr (by omega) rfl (Ac (Ad 0) (Ac Ah Ag))) (fun _ _=>rfl))) Ag)) (Ai (Ai Az))) Ag))))) U14)
   (Ax (GD (IW U1v U2b U2c HN HJ (Ad 6) (Ac (O8 Ov U9 rfl (B.is "tuple") Np (Ac (Ad 8) Ag)) Ag)))))) U14)
   (Am (CV (i:=11) Eh.nd (Dt c_law_take hr (by omega) rfl (Ac (Ad 0) (Ac Ah Ag))))
   (Am (Fp (JL (O6 (DR (GC hr) G9 (Ad 11) Ah (Cd _)) (Ni (DR Ox Ml (Ad 4) Ah (Cd _)))))
   (Ax (Jj (Bw Bf Bd (Ad 6) (Dt c_law_take hr (by omega) rfl (Ac (Ad 0) (Ac (Ba Gq Fv (Ad 4) Ah) Ag))) (fun _ _=>rfl)) (Ad 6) (Mg KN JX Ah)))
   EY)
   (Am (Fp (JL (O6 (DR (GC hr) G9 (Ad 1) Ah (Cd _)) (Ni (DR (GC hr) G9 (Ad 11) Ah (Cd _)))))
   (Am (CV (i:=12) Eh.nd (FN (Ac (Cj (Ac (Cj (Ac Ah (Ac Ah Ag)) (Ai (Ai Az))) (Ac (Cj (Ac Ah (Ac Ah Ag)) (Ai (Ai Az))) Ag)) (Ai (Ai Az))) (Ac (Cj (Ac (Cj (Ac Ah (Ac Ah Ag)) (Ai (Ai Az))) (Ac (Cj (Ac Ah (Ac Ah Ag)) (Ai (Ai Az))) Ag)) (Ai (Ai Az))) (Ac (Cj (Ac (Cj (Ac Ah (Ac Ah Ag)) (Ai (Ai Az))) (Ac (Cj (Ac Ah (Ac Ah Ag)) (Ai (Ai Az))) Ag)) (Ai (Ai Az))) (Ac (Cj (Ac (Cj (Ac Ah (Ac Ah Ag)) (Ai (Ai Az))) (Ac (Cj (Ac Ah (Ac Ah Ag)) (Ai (Ai Az))) Ag)) (Ai (Ai Az))) Ag)))) (Ai (Ai (Ai (Ai Az))))))
   (Ax (CV (i:=6) Eh.nd (Ba Dv Du (Ad 12) (QH TY Tc (Ad 6) Rc (Rb (Dt c_law_take hr (by omega) rfl (Ac (Ad 0) (Ac (Ba Gq Fv (Ad 2) Ah) Ag)))))))))
   EY)
   (Am (Fp (JL (O6 (DR (GC hr) G9 (Ad 1) Ah (Cd _)) (Ni (DR (GC hr) G9 (Ad 11) Ah (Cd _)))))
   (Ax (eO (i:=6) rfl Eh.nd (Ds.of (sc:=Aj JD) (N:=["pot","ways","most","many","count","wide","found","k","box","way","low","kind","ring"]) (N2:=["k"]) (k:=1) (caps:=[]) (by decide +kernel)) rfl (mX rfl (B.is "range") (Ac Ah (Ac (Ba Jv Jt Ah (Ad 2)) (Ac Ah Ag)))) ⟨fun _ _ _ _ _=>⟨(BR (i:=0) (show U1w (["k"]:List Str) by decide +kernel)),GJ,(Cj (Ac (Cj (Ac (Ba Mr Kg (Ad 0) Ah) (Ac (Ba Dv Du (Ba Mr Kg (Ad 0) Ah) Ah) Ag)) (Ai (Ai Az))) (Ac (Cj (Ac (Ba QC RW (Ad 0) Ah) (Ac (Ba Dv Du (Ba QC RW (Ad 0) Ah) Ah) Ag)) (Ai (Ai Az))) Ag)) (Ai (Ai Az)))⟩⟩))
   EY)
   (Am (Fp (JL (O6 (DR Ox Ml (Ad 11) Ah (Cd _)) (Ni (DR Ox Ml (Ad 3) Ah (Cd _)))))
   (Ax (CV (i:=6) Eh.nd (qe c_law_unlike hr (by omega) rfl (Ac (Ad 0) (Ac (Ad 1) (Ac (Ad 4) Ag))))))
   EY)
   (Ax (CN (Ad 6))))))))))))
set_option maxHeartbeats 4000000 in
theorem cg{f:Addr}{fd:FuncData}(F:Fun K "_law_marks" "_law_marks" K5 f fd)(B:Blt mg)(c_law_take:KJ P w K mg base "_law_take" 2 Ao):DG P w K mg base CX0 3 f fd ["pot","many"] (spM K Ho 2) :=
 fnM F Kc fun cdv A outer s H E hr =>
  (Am (CV (i:=2) Kc.nd (Bw Bf Bd (FN (Ac Ah (Ac Ah (Ac (Ba QC RW (Ba La Js Ah Ah) (Ad 1)) Ag))) (Ai (Ai (Ai Az)))) (Dt c_law_take hr (by omega) rfl (Ac (Ad 0) (Ac Ah Ag))) (fun _ _=>rfl)))
   (Am (CV (i:=3) Kc.nd (Bw Bf Bd (FN (Ac Ah (Ac (Ba Gq Fv Ah (Dt c_law_take hr (by omega) rfl (Ac (Ad 0) (Ac Ah Ag)))) (Ac (Ba Gq Fv Ah (Ba La Js Ah Ah)) Ag))) (Ai (Ai (Ai Az)))) (Dt c_law_take hr (by omega) rfl (Ac (Ad 0) (Ac Ah Ag))) (fun _ _=>rfl)))
   (Am (CV (i:=4) Kc.nd (Jb (Ac (Ad 3) Ag) (Ai Az)))
   (Am (Ge rfl (Jf rfl (B.is "range") (Ac (Ad 1) Ag)) (BR (i:=5) Kc.nd)
   (Ax (GD (IW U1v U2b U2c HN HJ (Ad 4) (Ac (CP (Yu rfl) aR rfl (B.is "min") jx (Ac (Ba Dv Du (Ba Dv Du (Bw Bf Bd (Ad 4) (Mg KN JX Ah) (fun _ _=>rfl)) Ah) (Dt c_law_take hr (by omega) rfl (Ac (Ad 0) (Ac (Ad 2) Ag)))) (Ac (Ba Dv Du (Ba Gq Fv (Ba Gq Fv (Ba La Js Ah Ah) Ah) (Ad 1)) (Ad 5)) Ag))) Ag)))) U14)
   (Am (Fp (DR (GC hr) G9 (Dt c_law_take hr (by omega) rfl (Ac (Ad 0) (Ac Ah Ag))) Ah (Cd _))
   (Ax (Jj (Ba La Js Ah Ah) (Ad 4) (Mg KN JX Ah)))
   EY)
   (Am (Fp (DR (GC hr) G9 (Dt c_law_take hr (by omega) rfl (Ac (Ad 0) (Ac Ah Ag))) Ah (Cd _))
   (Ax (Jj (Ba Gq Fv Ah (Ba La Js Ah Ah)) (Ad 4) Ah))
   EY)
   (Ax (CN (Ad 4)))))))))
set_option maxHeartbeats 4000000 in
theorem dw{f:Addr}{fd:FuncData}(F:Fun K "_law_heap" "_law_heap" J4 f fd)(B:Blt mg)(Bz:mg "zip"=none)(c_law_take:KJ P w K mg base "_law_take" 2 Ao)(c_law_small:KJ P w K mg base "_law_small" 5 Hl)(c_law_marks:KJ P w K mg base "_law_marks" 3 Ho):DG P w K mg base CX0 6 f fd ["pot","ways","most"] (spM K Gg 3) :=
 fnM F Jx fun cdv A outer s H E hr =>
  (Am (CV (i:=3) Jx.nd (Bw Bf Bd (FN (Ac Ah (Ac (Bw Bf Bd (FN (Ac Ah (Ac Ah (Ac Ah (Ac Ah Ag)))) (Ai (Ai (Ai (Ai Az))))) (Ad 1) (fun _ _=>rfl)) Ag)) (Ai (Ai Az))) (O8 Yv fV rfl (B.is "int") Tp (Ac (Q6 (GC hr) G9 (Dt c_law_take hr (by omega) rfl (Ac (Ad 0) (Ac Ah Ag))) Ah (Cd _)) Ag)) (fun _ _=>rfl)))
   (Am (CV (i:=4) Jx.nd (Dt c_law_small hr (by omega) rfl (Ac (Ad 0) (Ac (Ad 1) (Ac (Ad 2) (Ac (Ad 3) Ag))))))
   (Am (RJ (i:=5) rfl Jx.nd (Ds.of (sc:=Aj J4) (N:=["pot","ways","most","many","small","marks","boxes","box"]) (N2:=["way","pot","many"]) (k:=1) (caps:=[0,3]) (by decide +kernel)) rfl (Jf rfl (B.is "range") (Ac (Ad 1) Ag)) ⟨fun _ _ _ _ _=>⟨(BR (i:=0) (show U1w (["way","pot","many"]:List Str) by decide +kernel)),GJ,(Dt c_law_marks hr (by omega) rfl (Ac (Ad 1) (Ac (Ad 2) Ag)))⟩⟩)
   (Am (CV (i:=6) Jx.nd (Jb Ag Az))
   (Am (Ge rfl (Ea (Ad 4)) (BR (i:=7) Jx.nd)
   (Ax (GD (IW U1v U2b U2c HN HJ (Ad 6) (Ac (O8 Ov U9 rfl (B.is "tuple") Np (Ac (FP rfl (Ds.of (sc:=Aj J4) (N:=["pot","ways","most","many","small","marks","boxes","box"]) (N2:=["some","low","high"]) (k:=3) (caps:=[]) (by decide +kernel)) rfl (Zr rfl Bz (Ac (Ad 5) (Ac (Ad 7) Ag))) ⟨fun _ _ _ _ _=>⟨(Gf rfl (Bv (BR (i:=0) (show U1w (["some","low","high"]:List Str) by decide +kernel)) (Bv (Gf rfl (Bv (BR (i:=1) (show U1w (["some","low","high"]:List Str) by decide +kernel)) (Bv (BR (i:=2) (show U1w (["some","low","high"]:List Str) by decide +kernel)) Fi))) Fi))),GJ,(Cj (Ac (Bw Bf Bd (Ad 0) (Ad 1) (fun _ _=>rfl)) (Ac (Bw Bf Bd (Ad 0) (Ad 2) (fun _ _=>rfl)) Ag)) (Ai (Ai Az)))⟩⟩) Ag)) Ag)))) U14)
   (Ax (CN (Cj (Ac (Ad 4) (Ac (Ad 5) (Ac (Cj (Ac (Ad 1) (Ac (Ad 6) Ag)) (Ai (Ai Az))) Ag))) (Ai (Ai (Ai Az)))))))))))
set_option maxHeartbeats 4000000 in
theorem jC{f:Addr}{fd:FuncData}(F:Fun K "_law_own" "_law_own" MN f fd)(B:Blt mg):DG P w K mg base CX0 1 f fd ["heap"] (spP K IK 1) :=
 fnP F j4 fun cdv A outer s H E hr =>
  (Ax (CN (Cj (Ac (Bw Bf Bd (Ad 0) Ah (fun _ _=>rfl)) (Ac (vD Ux aU rfl (B.is "list") Rg (Ac (Bw Bf Bd (Ad 0) Ah (fun _ _=>rfl)) Ag)) Ag)) (Ai (Ai Az)))))
set_option maxHeartbeats 4000000 in
theorem Z9{f:Addr}{fd:FuncData}(F:Fun K "_law_places" "_law_places" Io f fd)(B:Blt mg):DG P w K mg base CX0 1 f fd ["marks"] (spP K GK 1) :=
 fnP F Iu fun cdv A outer s H E hr =>
  (Am (CV (i:=1) Iu.nd (FN (Ac (Cj Ag Az) Ag) (Ai Az)))
   (Am (Ge rfl (Ea (Ad 0)) (BR (i:=2) Iu.nd)
   (Am (CV (i:=3) Iu.nd (Jb Ag Az))
   (Am (Ge rfl (Ea (Ad 1)) (BR (i:=4) Iu.nd)
   (Ax (GD (IW U1v PySem.F.slot_list_extend PySem.F.type_list_extend mL lG (Ad 3) (Ac (FP rfl (Ds.of (sc:=Aj Io) (N:=["marks","found","some","longer","spot"]) (N2:=["k","spot"]) (k:=1) (caps:=[4]) (by decide +kernel)) rfl (Jf rfl (B.is "range") (Ac (Ba Gq Fv (CP Dd Gj rfl (B.is "len") Ht (Ac (Ad 2) Ag)) Ah) Ag)) ⟨fun _ _ _ _ _=>⟨(BR (i:=0) (show U1w (["k","spot"]:List Str) by decide +kernel)),GJ,(Ba Dv Du (Ad 1) (Cj (Ac (Ad 0) Ag) (Ai Az)))⟩⟩) Ag)))) U14)
   (Ax (CV (i:=1) Iu.nd (Ad 3))))) U14)
   (Ax (CN (Ad 1)))))
set_option maxHeartbeats 4000000 in
theorem dj{f:Addr}{fd:FuncData}(F:Fun K "_law_held" "_law_held" Jl f fd)(B:Blt mg)(Bz:mg "zip"=none)(Be:mg "enumerate"=none):DG P w K mg base CX0 1 f fd ["small","spot"] (spP K HY 2) :=
 fnP F Nv fun cdv A outer s H E hr =>
  (Am (CV (i:=2) Nv.nd (Jb Ag Az))
   (Am (Ge rfl (v9 rfl Be (Ac (Ad 0) Ag)) (Gf rfl (Bv (BR (i:=3) Nv.nd) (Bv (BR (i:=4) Nv.nd) Fi)))
   (Ax (Fp (DR (GC hr) G9 (FP rfl (Ds.of (sc:=Aj Jl) (N:=["small","spot","found","number","box"]) (N2:=["one","low","high"]) (k:=3) (caps:=[]) (by decide +kernel)) rfl (Zr rfl Bz (Ac (Ad 4) (Ac (Ad 1) Ag))) ⟨fun _ _ _ _ _=>⟨(Gf rfl (Bv (Gf rfl (Bv (BR (i:=1) (show U1w (["one","low","high"]:List Str) by decide +kernel)) (Bv (BR (i:=2) (show U1w (["one","low","high"]:List Str) by decide +kernel)) Fi))) (Bv (BR (i:=0) (show U1w (["one","low","high"]:List Str) by decide +kernel)) Fi))),(Ra (JL (Lf (DR WX Td (Ad 0) (Ad 1) (Cd _)) (Ms (DR ZQ Wd (Ad 0) (Ad 2) (Cd _)))))),Ah⟩⟩) (FN Ag Az) (Cd _))
   (Ax (GD (IW U1v U2b U2c HN HJ (Ad 2) (Ac (Ad 3) Ag))))
   EY)) U14)
   (Ax (CN (Ad 2)))))
set_option maxHeartbeats 4000000 in
theorem dh{f:Addr}{fd:FuncData}(F:Fun K "_law_size" "_law_size" Kp f fd)(B:Blt mg)(Bz:mg "zip"=none):DG P w K mg base CX0 1 f fd ["marks","spot"] (spP K Il 2) :=
 fnP F Ld fun cdv A outer s H E hr =>
  (Am (CV (i:=2) Ld.nd Ah)
   (Am (Ge rfl (Zr rfl Bz (Ac (Ad 0) (Ac (Ad 1) Ag))) (Gf rfl (Bv (BR (i:=3) Ld.nd) (Bv (BR (i:=4) Ld.nd) Fi)))
   (Ax (CV (i:=2) Ld.nd (Ba Jv Jt (Ad 2) (Ba Gq Fv (Bw Bf Bd (Ad 3) (Ba Dv Du (Ad 4) Ah) (fun _ _=>rfl)) (Bw Bf Bd (Ad 3) (Ad 4) (fun _ _=>rfl)))))) U14)
   (Ax (CN (Ad 2)))))
set_option maxHeartbeats 4000000 in
theorem cY{f:Addr}{fd:FuncData}(F:Fun K "_law_often" "_law_often" K3 f fd)(B:Blt mg)(c_law_places:Bu P w K mg base "_law_places" 1 GK)(c_law_held:Bu P w K mg base "_law_held" 1 HY)(c_law_size:Bu P w K mg base "_law_size" 1 Il):DG P w K mg base CX0 2 f fd ["small","marks","ways"] (spP K G3 3) :=
 fnP F Mw fun cdv A outer s H E hr =>
  (Am (CV (i:=3) Mw.nd (gM (FN (Ac Ah Ag) (Ai Az)) (CP Dd Gj rfl (B.is "len") Ht (Ac (Ad 0) Ag))))
   (Am (Ge rfl (Ea (Bo c_law_places hr (by omega) rfl (Ac (Ad 1) Ag))) (BR (i:=4) Mw.nd)
   (Am (CV (i:=5) Mw.nd (CP Dd Gj rfl (B.is "len") Ht (Ac (Bo c_law_held hr (by omega) rfl (Ac (Ad 0) (Ac (Ad 4) Ag))) Ag)))
   (Ax (Fp (DR Ox Ml (Ad 5) Ah (Cd _))
   (Ax (Jj (Ba Dv Du (Bw Bf Bd (Ad 3) (Ba Gq Fv (Ad 5) Ah) (fun _ _=>rfl)) (Bo c_law_size hr (by omega) rfl (Ac (Ad 1) (Ac (Ad 4) Ag)))) (Ad 3) (Ba Gq Fv (Ad 5) Ah)))
   EY))) U14)
   (Am (qd 100000 U14 (JL (O6 (DR (Q0 hr) Pz (Ad 3) (FN Ag Az) (Cd _)) (Ni (DR (GC hr) G9 (Bw Bf Bd (Ad 3) (Mg KN JX Ah) (fun _ _=>rfl)) Ah (Cd _))))) (Ax (GD (qg U1v PySem.F.slot_list_pop PySem.F.type_list_pop zJ yL (Ad 3)))))
   (Ax (CN (Ad 3))))))
set_option maxHeartbeats 4000000 in
theorem Xj{f:Addr}{fd:FuncData}(F:Fun K "_law_is_whole" "_law_is_whole" Ig f fd)(B:Blt mg):DG P w K mg base CX0 1 f fd ["found","due"] (spP K Fb 2) :=
 fnP F Xg fun cdv A outer s H E hr =>
  (Ax (CN (Q7 (CP Ik JZ rfl (B.is "isinstance") Ez (Ac (Ad 0) (Ac (Mh (n:="int") rfl (B.is "int") Tp) Ag))) (Q7 (jq (CP Ik JZ rfl (B.is "isinstance") Ez (Ac (Ad 0) (Ac (Mh (n:="bool") rfl (B.is "bool") Y4) Ag)))) (Ti (Q6 (GC hr) G9 (Ad 0) (Ad 1) (Cd _)))))))
set_option maxHeartbeats 4000000 in
theorem VH{f:Addr}{fd:FuncData}(F:Fun K "_law_are_wholes" "_law_are_wholes" G7 f fd)(B:Blt mg):DG P w K mg base CX0 1 f fd ["found","due"] (spP K En 2) :=
 fnP F VB fun cdv A outer s H E hr =>
  (Am (Fp (JL (Lf (JV (Iz (CP Ik JZ rfl (B.is "isinstance") Ez (Ac (Ad 0) (Ac (Mh (n:="list") rfl (B.is "list") Rg) Ag))))) (Ms (DR (Q0 hr) Pz (Ad 0) (Ad 1) (Cd _)))))
   (Ax (CN Rt))
   EY)
   (Ax (CN (Q6 (GC hr) G9 (FP rfl (Ds.of (sc:=Aj G7) (N:=["found","due"]) (N2:=["one"]) (k:=1) (caps:=[]) (by decide +kernel)) rfl (Ea (Ad 0)) ⟨fun _ _ _ _ _=>⟨(BR (i:=0) (show U1w (["one"]:List Str) by decide +kernel)),(Ra (JL (Lf (Iz (CP Ik JZ rfl (B.is "isinstance") Ez (Ac (Ad 0) (Ac (Mh (n:="bool") rfl (B.is "bool") Y4) Ag)))) (Ms (JV (Iz (CP Ik JZ rfl (B.is "isinstance") Ez (Ac (Ad 0) (Ac (Mh (n:="int") rfl (B.is "int") Tp) Ag))))))))),(Ad 0)⟩⟩) (FN Ag Az) (Cd _)))))
set_option maxHeartbeats 4000000 in
theorem zG{f:Addr}{fd:FuncData}(F:Fun K "law" "law" Ow f fd)(B:Blt mg)(Bs:mg "sum"=none)(c_law_pot:Bu P w K mg base "_law_pot" 1 JB)(c_law_heap:KJ P w K mg base "_law_heap" 6 Gg)(c_law_often:Bu P w K mg base "_law_often" 2 G3)(c_law_own:Bu P w K mg base "_law_own" 1 IK)(c_areas_often:Bu P w K mg base "areas_often" 8 FT)(c_law_are_wholes:Bu P w K mg base "_law_are_wholes" 1 En)(c_law_is_whole:Bu P w K mg base "_law_is_whole" 1 Fb)(c_covered_area:Bu P w K mg base "covered_area" 12 Dn):DG P w K mg base CX0 13 f fd ["script"] (spP K Xw 1) :=
 fnP F LQ fun cdv A outer s H E hr =>
  (Am (Ge rfl (Ea (Ba Dv Du (QH TY Tc (Ad 0) Rc (Rb Ah)) (FN (Ac (CP Dd Gj rfl (B.is "len") Ht (Ac (Ad 0) Ag)) Ag) (Ai Az)))) (BR (i:=1) LQ.nd)
   (Am (CV (i:=2) LQ.nd (bH c_law_pot hr (by omega) rfl (Ac (Ad 1) Ag)))
   (Am (zV (Dt c_law_heap hr (by omega) rfl (Ac (Ad 2) (Ac Ah (Ac Ah Ag)))) (Gf rfl (Bv (BR (i:=3) LQ.nd) (Bv (BR (i:=4) LQ.nd) (Bv (BR (i:=5) LQ.nd) Fi)))))
   (Am (CV (i:=6) LQ.nd (Bo c_law_often hr (by omega) rfl (Ac (Ad 3) (Ac (Ad 4) (Ac Ah Ag)))))
   (Am (CV (i:=7) LQ.nd (Bo c_law_own hr (by omega) rfl (Ac (Ad 5) Ag)))
   (Ax (Ge rfl (Jf rfl (B.is "range") (Ac Ah Ag)) (BR (i:=8) LQ.nd)
   (Am (CV (i:=9) LQ.nd (bH c_areas_often hr (by omega) rfl (Ac (Ad 7) Ag)))
   (Am (Fp (JL (Lf (JV (Iz (Bo c_law_are_wholes hr (by omega) rfl (Ac (Ad 9) (Ac (Ad 6) Ag))))) (Ms (DR (Q0 hr) Pz (Ad 7) (Ad 5) (Cd _)))))
   (Ax (CN Rt))
   EY)
   (Am (Fp (JV (Iz (Bo c_law_is_whole hr (by omega) rfl (Ac (Bo c_covered_area hr (by omega) rfl (Ac (Ad 7) Ag)) (Ac (CP (Ui rfl) Xv rfl Bs Zw (Ac (Ad 6) Ag)) Ag)))))
   (Ax (CN Rt))
   EY)
   (Ax (GD (IW U1v U2b U2c HN HJ (Ad 9) (Ac Ah Ag))))))) U14)))))) U14)
   (Ax (CN (Q7 (Q6 (GC hr) G9 (Bo c_areas_often hr (by omega) rfl (Ac (Cj (Ac Ah (Ac (FN Ag Az) Ag)) (Ai (Ai Az))) Ag)) (FN Ag Az) (Cd _)) (Ti (Q6 (GC hr) G9 (Bo c_covered_area hr (by omega) rfl (Ac (Cj (Ac Ah (Ac (FN (Ac (Cj (Ac (Cj (Ac Ah (Ac Ah Ag)) (Ai (Ai Az))) (Ac (Cj (Ac Ah (Ac Ah Ag)) (Ai (Ai Az))) Ag)) (Ai (Ai Az))) (Ac (Cj (Ac (Cj (Ac Ah (Ac Ah Ag)) (Ai (Ai Az))) (Ac (Cj (Ac Ah (Ac Ah Ag)) (Ai (Ai Az))) Ag)) (Ai (Ai Az))) Ag)) (Ai (Ai Az))) Ag)) (Ai (Ai Az))) Ag)) Ah (Cd _)))))))
end
end W13
end
section
namespace W13
open PySem L2 VS
theorem NK(i:Int):DY [.int i]=some (.bl true):=by
 simp[DY,X8,Cg,Aq,CT,BZ,Al,Eu,Rf,gR,Ck,den,-U0c,-U0e]
theorem Vp{n:Int}(h:n=1∨n=2∨n=3):Fy [.int n]=some (.bl true):=by
 have e:(Spec.lookup (.int n) Bc.D3).isSome=true:=by rw[Bc.Jbl];exact decide_eq_true h
 simp[Fy,XF,Cg,Aq,zc,BZ,Al,Rf,HX,Ck,den,DW,age,Bj,BW,Ay,-U0c,-U0e,NK,Zf,e]
theorem ZG(p:St2):Ib [Av p]=some (.bl (decide (p.1<p.2))):=by
 have h:Dk [] (Av p)=some (pS p):=lJ [] p
 simp only[Av] at h ⊢
 simp[Ib,Uv,Ju,Cg,LR,MF,Aq,CT,BJ,BZ,Al,Eu,Rf,DP,Py,M9,HX,oI,Hx,oLt,oEq,oIx,Dm,VS.listOf,CJ,Ck,den,DW,age,Bj,BW,Ay,-U0c,-U0e,NK,h,pS]
theorem qw(n:Nat)(b:List St2)(hb:∀p∈b,p.1<p.2)(hl:b.length<=1000):Uc [some (.int n),some (Af b)] []=some (b.map (fun _=>D.bl true),[]):=by
 unfold Uc Cw
 have e:DK (Ab 1) [some (.int n),some (Af b)] []=some ((b.map Av,[]),[]):=by simp[Aq,VS.listOf,CJ,VS.idOf,FW,-U0c,-U0e,Af]
 rw[e]
 simp only[U0a]
 rw[bw (by simp) (fun _=>.bl true) _ (by simp;omega)]
 .simp[Function.comp_def]
 .intro d hd
  obtain⟨p,hp,rfl⟩:=U2o.mp hd
  refine⟨_,rfl,?_⟩
  have h1:=ZG p
  rw[decide_eq_true (hb p hp)] at h1
  simp[Aq,BZ,Al,Gn,HX,DW,Bj,Ay,U0o,-U0c,-U0e,h1]
theorem Xa{α:Type}(l:List α):Pu.boolsOf (l.map fun _=>D.bl true)=some (l.map fun _=>true):=by
 have:=fC (l.map fun _=>true)
 rw[U0c] at this
 exact this
theorem mj{n:Nat}{b:List St2}(hn:n=1∨n=2∨n=3)(hb:∀p∈b,p.1<p.2)(hl:b.length=n):Kl [.int n,Af b]=some (.bl true):=by
 have hw:Fy [.int n]=some (.bl true):=Vp (by omega)
 have hc:=qw n b hb (by omega)
 have h:Dk [] (Af b)=some (pB b):=lK [] b
 have hlen:Dm [] [Af b]=some (.int n):=by simp[Dm,Af,CJ,hl]
 simp[Kl,bO,Bh,sIf,DN,Ed,VS.tOr,VS.Hy,BK,Aw,eCB,Aa,Ae,Ab,eC,eOp,Bt,Ef,den,DW,age,Bj,BW,Ay,hw,h,pB,hlen,oEq,hc,Pu,VS.listOf,Xa]
theorem uY{n:Nat}(h:n=1∨n=2∨n=3):Wg Bc.D3 [] (.int n)=some (.int ([0,20,10,6].getD n 0:Nat)):=by
 rcases h with h|h|h<;>subst h<;>rfl
theorem mZ{n:Nat}{m:Bool}{bs:List (List St2)}(g:Good n bs):Sh [some (Ak m n bs),some (.int n),some (.lst m (bs.map Af))] []=some (bs.map (fun _=>D.bl true),[]):=by
 have few:=g.few
 unfold Sh Cw
 have e:DK (Ab 2) [some (Ak m n bs),some (.int n),some (.lst m (bs.map Af))] []=some ((bs.map Af,[]),[]):=by simp[Aq,VS.listOf,CJ,VS.idOf,FW,-U0c,-U0e]
 rw[e]
 simp only[U0a]
 rw[bw (by simp) (fun _=>.bl true) _ (by simp;omega)]
 .simp[Function.comp_def]
 .intro d hd
  obtain⟨b,hb,rfl⟩:=U2o.mp hd
  refine⟨_,rfl,?_⟩
  have h1:=mj g.ways (fun p hp=>((g.box b hb).2 p hp).1) (g.box b hb).1
  simp[Aq,BZ,Al,Gn,HX,den,DW,age,Bj,BW,Ay,U0o,-U0c,-U0e,h1]
theorem jO{n:Nat}{m:Bool}{bs:List (List St2)}(g:Good n bs):Jw [Ak m n bs]=some (.bl true):=by
 have hw:Fy [.int n]=some (.bl true):=Vp (by have:=g.ways;omega)
 have hc:=mZ (m:=m) g
 have h:=UG [] m n bs
 have h2:=Wt [] m bs
 have hm:=uY g.ways
 have hle:¬(([0,20,10,6].getD n 0:Nat):Int)<(bs.length:Int):=by have:=g.most;omega
 unfold Ak at h hc ⊢
 simp only[U0h] at hm hle
 simp[Jw,Ym,Bh,sIf,DN,Ed,Bk,VS.tOr,VS.Hy,BK,Aw,eCB,Aa,Ae,Ab,eC,eOp,eUn,Bt,Ef,den,DW,age,Bj,BW,Ay,hw,h,h2,hc,oEq,oIx,oGt,oI,Hx,Dm,VS.CJ,VS.listOf,Pu,Xa,hm,hle]
theorem Uq{n:Nat}{m:Bool}{bs:List (List St2)}(g:Good n bs):Fe [Ak m n bs]=some .non:=by
 have h:=jO (m:=false) g
 simp[Fe,Vg,LR,MF,lR,Aq,BZ,Al,DP,M9,HX,Ck,DW,Bj,Ay,-U0c,-U0e,h]
end W13
end
section
namespace W13
open PySem L2 VS
theorem CZ{sem:Cz}{a:Bm}{env:VS.Env}{S S':Store}{ds es:List D}{r:D}(h:a env S=some (ds,S'))(hp:Ay ds=true)(ha:Bj ds=es)(hr:sem es=some r):Aw sem a env S=some (r,S'):=by
 rw[HX,h]
 simp only[U0a,Ce 0 S' hp,ha,hr,hp,Bool.true_or,if_true]
def Nr(b:List St2):Int:=b.foldl (fun z p=>z*(p.2-p.1)) 1
def Gy(bs:List (List St2))(w:Nat):List Int:=bs.map fun b=>(b.getD w (0,0)).1
def GF(bs:List (List St2))(w:Nat):List Int:=bs.map fun b=>(b.getD w (0,0)).2
theorem col{bs:List (List St2)}{w:Nat}(hw:∀b∈bs,w<b.length)(hl:bs.length<=1000)(S:Store)(e0:VS.Env)(h0:∀d:D,(e0.set 0 (some d))[0]?=some (some d)/\(e0.set 0 (some d))[1]?=some (some (.int w))) :
  Gp [] e0 (Pat.sem (.nm 0)) GQ (eOp oIx (eOp oIx (Ab 0) (Ab 1)) (eC (.int 0))) (bs.map Af) [] S=some ((Gy bs w).map .int,S) /\
  Gp [] e0 (Pat.sem (.nm 0)) GQ (eOp oIx (eOp oIx (Ab 0) (Ab 1)) (eC (.int 1))) (bs.map Af) [] S=some ((GF bs w).map .int,S):=by
 have key:∀b∈bs,atI (b.map Av) (w:Int)=some (Av (b.getD w (0,0))):=fun b hb=>by
  have h:=hw b hb
  refine Nj ?_
  rw[U0w,U0i h]
  simp[h]
 constructor
 .rw[Ip (by simp) Af (fun b=>.int (b.getD w (0,0)).1) bs (by omega)]
  .rw[Gy,U0c];rfl
  .intro b hb
   refine⟨_,Cr _ _ _,?_⟩
   have ha:=key b hb
   simp only[Av] at ha
   simp[Aq,CT,BJ,oIx,VS.listOf,CJ,-U0c,-U0e,h0,Af,ha]
 .rw[Ip (by simp) Af (fun b=>.int (b.getD w (0,0)).2) bs (by omega)]
  .rw[GF,U0c];rfl
  .intro b hb
   refine⟨_,Cr _ _ _,?_⟩
   have ha:=key b hb
   simp only[Av] at ha
   simp[Aq,CT,BJ,oIx,VS.listOf,CJ,-U0c,-U0e,h0,Af,ha]
theorem Ws:∀(b:List St2)(z:Int),b.foldl (fun z p=>z*(p.2-p.1)) z=z*Dp b
 |[],z=>by simp[Dp]
 |p::b,z=>by rw[U13,Ws b,Dp,U73]
theorem tV(b:List St2):Nr b=Dp b:=by rw[Nr,Ws,U8f]
theorem bU{cs:List (List St2)}{w:Nat}(hl:cs.length<=20):(SetP.once (Gy cs w++GF cs w)).length<64/\(Gy cs w++GF cs w).length<1000:=by
 have h1:=(SetP.QD (Gy cs w++GF cs w)).2.1
 have h2:(Gy cs w++GF cs w).length=cs.length+cs.length:=by simp[Gy,GF]
 omega
theorem n8(a b:List Int):intsOf (a.map D.int++b.map D.int)=some (a++b):=by rw[←U09];exact Jm _
theorem gQ{m:Bool}{cs:List (List St2)}{w:Nat}(hw:∀b∈cs,w<b.length)(hl:cs.length<=20):Ie [.lst m (cs.map Af),.int w]=some (.lst true ((Gd (Gy cs w++GF cs w)).map .int)):=by
 obtain⟨c1,c2⟩:=col hw (by omega) [] [none,some (.int w)] fun d=>⟨rfl,rfl⟩
 have e:DK (Ab 0) [some (.lst m (cs.map Af)),some (.int w)] []=some ((cs.map Af,[]),[]):=by simp[Aq,VS.listOf,CJ,VS.idOf,FW,-U0c,-U0e]
 have e1:Oo [some (.lst m (cs.map Af)),some (.int w)] []=some ((Gy cs w).map .int,[]):=by
  unfold Oo Cw
  rw[e]
  exact c1
 have e2:Om [some (.lst m (cs.map Af)),some (.int w)] []=some ((GF cs w).map .int,[]):=by
  unfold Om Cw
  rw[e]
  exact c2
 obtain⟨h1,h2⟩:=bU (w:=w) hl
 have h3:(Gy cs w).length+(GF cs w).length<=1000000:=by simp at h2;omega
 have h4:(Gy cs w).length+(GF cs w).length<1000:=by simpa using h2
 simp[Ie,Uw,Cg,BJ,DQ,eV,Dl,VS.listOf,Ck,den,-U0c,-U0e,e1,e2,n8,h1,h3,h4]
theorem Zz:∀a b:List Int,Dj (a.map D.int) (b.map D.int)=(a.zip b).map Av
 |[],_=>by simp[Dj]
 |_::_,[]=>by simp[Dj]
 |p::a,q::b=>by simp[Dj,Zz a b,Av]
theorem lB(E:List Int):Dj (E.map D.int) (E.map D.int).tail=(steps E).map Av:=by
 rw[←List.map_tail,Zz];rfl
theorem O7(E:List Int):(steps E).length<=E.length:=by simp[steps]
theorem aP{m:Bool}{cs:List (List St2)}{w:Nat}(hw:∀b∈cs,w<b.length)(hl:cs.length<=20)(hne:cs≠[]):Dc [.lst m (cs.map Af),.int w]=some (.lst true ((steps (Gd (Gy cs w++GF cs w))).map Av)):=by
 have h0:=gQ (m:=false) hw hl
 have hl1:=Jd (Gy cs w++GF cs w)
 obtain⟨_,h2⟩:=bU (w:=w) hl
 have pos:1<=(Gd (Gy cs w++GF cs w)).length:=by
  cases cs with
  |nil=>exact absurd rfl hne
  |cons b r =>
   have:(b.getD w (0,0)).1∈Gd (Gy (b::r) w++GF (b::r) w):=Qi.mpr (by simp[Gy])
   exact List.length_pos_of_mem this
 generalize Gd (Gy cs w++GF cs w)=E at *
 have c:=bZ (xs:=E.map D.int) (a:=1) (by decide) (by simp;omega)
 have z:=lB E
 have hz:(steps E).length<=1000000:=by have:=O7 E;omega
 have c':cut (E.map D.int) (some 1) none=(E.map D.int).drop 1:=c
 have hd:∀(k:Nat)(S:Store),DW k S ((steps E).map Av)=some ((steps E).map Av):=fun k S=>Ce k S (Ca (HW _ fun p _=>HS p))
 simp[Dc,Ol,Ju,CW,Cg,Aq,CT,BZ,Al,W0,Vz,Zv,HX,RL,oSl,VS.listOf,CJ,Ck,den,DW,age,Bj,BW,Ay,U0o,-U0c,-U0e,h0,c',z,hz,hd]
def Cy(m:Bool)(ns:List Nat):D:=.lst m (ns.map fun(i:Nat)=>D.int i)
def encC(c:List St2×List Nat):D:=.tup [Af c.1,Cy false c.2]
theorem Ql(m:Bool)(ns:List Nat):BW (Cy m ns)=true:=by
 have:=Fz (ns.map fun(i:Nat)=>(i:Int))
 rw[U0c] at this
 rw[Cy,BW];exact this
theorem WM(m:Bool)(ns:List Nat):age (Cy m ns)=Cy false ns:=by
 have:=Ma (ns.map fun(i:Nat)=>(i:Int))
 rw[U0c] at this
 rw[Cy,age]
 exact congrArg (D.lst false) this
theorem lV(c:List St2×List Nat):BW (encC c)=true:=by
 rw[encC,BW,Ay,Ay,Ay,YS,Ql];rfl
theorem rO(c:List St2×List Nat):age (encC c)=encC c:=by
 rw[encC,age,Bj,Bj,Bj,SJ (Jg c.1),WM]
theorem Mt:∀cs:List (List St2×List Nat),Ay (cs.map encC)=true
 |[]=>rfl
 |c::r=>by rw[U0m,Ay,lV,Mt r];rfl
theorem jz{n:Nat}{bs:List (List St2)}(hb:∀b∈bs,b.length=n){i w:Nat}(hi:i<bs.length)(hw:w<n):atI (bs.map Af) (i:Int)=some (Af (bs.getD i []))/\atI ((bs.getD i []).map Av) (w:Int)=some (Av (at1 bs i w)):=by
 have h1:bs[i]?=some bs[i]:=U0i hi
 have h2:bs.getD i []=bs[i]:=by rw[U0h,h1];rfl
 have h3:w<bs[i].length:=by rw[hb _ (U1s hi)];exact hw
 refine⟨Nj (by rw[U0w,h1,h2];rfl),Nj ?_⟩
 rw[at1,h2,U0w,U0i h3,U0h,U0i h3]
 rfl
theorem vd(rec:Cz){n:Nat}{m m':Bool}{bs:List (List St2)}(hb:∀b∈bs,b.length=n)(hn:0<n){ns:List Nat}(hi:∀i∈ns,i<bs.length)(hl:ns.length<=20)(r:VS.Env)(S:Store) :
  Lr rec (some (.lst m (bs.map Af))::some (Cy m' ns)::r) S=some ((ns.map fun i=>bs.getD i []).map Af,S):=by
 unfold Lr Cw
 have e:DK (Ab 1) (some (.lst m (bs.map Af))::some (Cy m' ns)::r) S=some ((ns.map fun(i:Nat)=>D.int i,[]),S):=by simp[Aq,VS.listOf,CJ,VS.idOf,FW,-U0c,-U0e,Cy]
 rw[e]
 simp only[U0a]
 rw[Ip (by simp) (fun(i:Nat)=>D.int i) (fun i=>Af (bs.getD i [])) ns (by omega)]
 .rw[U0c];rfl
 .intro i hi'
  obtain⟨h1,_⟩:=jz hb (hi i hi') hn
  exact⟨_,Cr _ _ _,by simp[Aq,BJ,Gn,oIx,VS.listOf,CJ,U0o,-U0c,-U0e,h1]⟩
theorem vZ(rec:Cz){n:Nat}{m m':Bool}{bs:List (List St2)}(hb:∀b∈bs,b.length=n){ns:List Nat}(hi:∀i∈ns,i<bs.length)(hl:ns.length<=20){w:Nat}(hw:w<n)(x:Int)(z3 z4:Option D)(r:VS.Env)(S:Store) :
  Lq rec (some (.lst m (bs.map Af))::some (Cy m' ns)::some (.int w)::z3::z4::some (.int x)::r) S=some ((GR bs w x ns).map (fun(i:Nat)=>D.int i),S):=by
 unfold Lq Cw
 have e:DK (Ab 1) (some (.lst m (bs.map Af))::some (Cy m' ns)::some (.int w)::z3::z4::some (.int x)::r) S=some ((ns.map fun(i:Nat)=>D.int i,[]),S):=by simp[Aq,VS.listOf,CJ,VS.idOf,FW,-U0c,-U0e,Cy]
 rw[e]
 simp only[U0a]
 rw[MJ (by simp) (fun(i:Nat)=>D.int i) (fun i=>inS (at1 bs i w) x) (fun i=>.int i) _ _ (by simp;omega)]
 .rfl
 .intro i hi'
  obtain⟨h1,h2⟩:=jz hb (hi i hi') hw
  refine⟨_,Cr _ _ _,?_,fun _=>by simp[Aq,Gn,U0o,-U0c,-U0e]⟩
  simp only[Av] at h2
  generalize bs.getD i []=B at *
  generalize ((w:Nat):Int)=w' at *
  generalize ((i:Nat):Int)=i' at *
  by_cases g:(at1 bs i w).1<=x<;>simp[Aq,CT,BJ,Yq,DP,Gn,oI,Hx,oLt,oLe,oIx,VS.listOf,CJ,U0o,-U0c,-U0e,h1,h2,Af,inS,g]
theorem Jp{bs:List (List St2)}:∀(k w:Nat)(ns:List Nat),ns.length<=20->(Bg bs k w ns).length<=40^k
 |0,w,ns,_=>by rw[Bg];split<;>simp
 |k+1,w,ns,hl=>by
  rw[Bg]
  split
  .simp
  .have h1:(steps (Cv bs w ns)).length<=40:=by
    have:=O7 (Cv bs w ns)
    have h2:=Jd (ns.map (fun i=>(at1 bs i w).1)++ns.map (fun i=>(at1 bs i w).2))
    rw[U0r,U0k,U0k] at h2
    unfold Cv at this ⊢
    omega
   have h2:∀l:List St2,(l.flatMap fun p=>(Bg bs k (w+1) (GR bs w p.1 ns)).map fun c=>(p::c.1,c.2)).length<=l.length*40^k:=fun l=>by
    induction l with
    |nil=>simp
    |cons p l ih =>
     rw[U4k,U0r,U0k,U0j,Nat.add_mul,Nat.one_mul]
     have:=Jp (bs:=bs) k (w+1) (GR bs w p.1 ns) (U1a (U3c _ _) hl)
     omega
   have h3:=h2 (steps (Cv bs w ns))
   have h4:=Nat.mul_le_mul_right (40^k) h1
   rw[Nat.pow_succ,U7h]
   omega
end W13
end
section
namespace W13
open PySem L2 VS
theorem fB(b:List St2)(hb:∀p∈b,p.1<p.2/\-1000000000<=p.1/\p.2<=1000000000):Im [Af b]=some (.int (Nr b)):=by
 have e:DK (Ab 0) [some (Af b),some (.int 1),none,none] []=some ((b.map Av,[]),[]):=by simp[Aq,VS.listOf,CJ,VS.idOf,FW,-U0c,-U0e,Af]
 obtain⟨env',S',e2,hS,z2,z3,he⟩:=Ep (w:=[]) (g:=Pat.sem (.tp [(.nm 2),(.nm 3)])) (b:=RN) (ds:=b.map Av) (env:=[some (Af b),some (.int 1),none,none]) (S:=[])
  (fun i env S=>S=[]/\∃z2 z3,env=[some (Af b),some (.int (Nr (b.take i))),z2,z3]) ⟨rfl,none,none,by rw[List.take_zero];rfl⟩ (fun i env S _=>by simp) (fun i d env S hd ⟨hS,z2,z3,he⟩=>by
   rw[U0w] at hd
   obtain⟨p,hp,rfl⟩:=U10.mp hd
   subst hS he
   have hm:-18446744073709551616<p.2-p.1/\p.2-p.1<18446744073709551616:=by have:=hb p (U1k hp);omega
   refine⟨[some (Af b),some (.int (Nr (b.take i))),some (.int p.1),some (.int p.2)],by simp[Cr,HF,FZ,El,-U0c,-U0e,Av],[some (Af b),some (.int (Nr (b.take i)*(p.2-p.1))),some (.int p.1),some (.int p.2)],[],by simp[RN,CW,Aq,BJ,oI,Hx,Pr,Dw,J8,VS.listOf,-U0c,-U0e,hm],rfl,some (.int p.1),some (.int p.2),?_⟩
   rw[U28,hp,Nr,Nr,U29,U3i]
   rfl)
 subst hS he
 have hlen:(b.map Av).length=b.length:=by simp
 rw[hlen,U2r] at e2
 have s1:(Bk 1 (eC (.int 1))) [some (Af b),none,none,none] []=some (.nx,[some (Af b),some (.int 1),none,none],[]):=by simp[CW,CT,-U0c,-U0e]
 have l1:RM [some (Af b),some (.int 1),none,none] []=some (.nx,[some (Af b),some (.int (Nr b)),z2,z3],[]):=by
  unfold RM
  rw[Fg,e]
  exact e2
 unfold Im
 rw[Ck]
 simp only[U0j,U05,U0m,U08,U1i,U1j,U0o,U06,U11,U1n,if_true]
 unfold XD
 rw[BP s1,BP l1]
 simp[Cg,Aq,den,-U0c,-U0e]
end W13
end
section
namespace W13
open PySem L2 VS
theorem vf(rec:Cz)(e0 e1 e2 e3 z7:Option D)(p:St2)(c:List St2×List Nat)(acc:List D)(hl:acc.length<1000000)(hc:c.1.length<=3) :
  Lw rec [e0,e1,e2,e3,some (.ref 0),some (.int p.1),some (.int p.2),z7,some (Af c.1),some (Cy false c.2)] [some acc]=some (.nx,[e0,e1,e2,e3,some (.ref 0),some (.int p.1),some (.int p.2),z7,some (Af c.1),some (Cy false c.2)],[some (acc++[encC (p::c.1,c.2)])]):=by
 have h1:1+c.1.length<=1000000:=by omega
 have h2:c.1.length+1<=1000000:=by omega
 have h3:c.1.length<=999999:=by omega
 simp[Lw,Gk,Aq,BJ,BZ,Al,Ia,bV,Dl,VS.listOf,Fw,-U0c,-U0e,hl,h1,h2,h3,Af,encC,Av]
theorem vY(rec:Cz){n w:Nat}{bs:List (List St2)}{there:List Nat}{cs:List (List St2×List Nat)}(hrec:rec [.lst false (bs.map Af),Cy false there,.int ((w:Int)+1),.int n]=some (.lst true (cs.map encC)))(hcs:∀c∈cs,c.1.length<=3)(NS:D)(p:St2)(z8 z9:Option D)(acc:List D)(hl:acc.length+cs.length<=999999) :
  ∃z8' z9',Ot rec [some (.lst false (bs.map Af)),some NS,some (.int w),some (.int n),some (.ref 0),some (.int p.1),some (.int p.2),some (Cy true there),z8,z9] [some acc] =
   some (.nx,[some (.lst false (bs.map Af)),some NS,some (.int w),some (.int n),some (.ref 0),some (.int p.1),some (.int p.2),some (Cy true there),z8',z9'],[some (acc++(cs.map fun c=>(p::c.1,c.2)).map encC)]):=by
 have e:DK (Aw rec (Aa (Ab 0) (Aa (Ab 7) (Aa (eOp Dl (Ab 2) (eC (.int 1))) (Aa (Ab 3) Ae))))) [some (.lst false (bs.map Af)),some NS,some (.int w),some (.int n),some (.ref 0),some (.int p.1),some (.int p.2),some (Cy true there),z8,z9] [some acc]=some ((cs.map encC,[]),[some acc]):=by
  rw[FW,CZ (ds:=[.lst false (bs.map Af),Cy true there,.int ((w:Int)+1),.int n]) (S':=[some acc]) (by simp[Aq,CT,BJ,BZ,Al,Dl,VS.listOf,-U0c,-U0e]) (by simp[Ay,BW,Ql]) (by simp[Bj,age,WM]) hrec]
  simp[CJ,VS.listOf,VS.idOf]
 unfold Ot
 rw[Fg,e]
 obtain⟨env',S',e2,z8',z9',he,hS⟩:=Ep (w:=[]) (g:=Pat.sem (.tp [(.nm 8),(.nm 9)])) (b:=Lw rec) (ds:=cs.map encC) (env:=[some (.lst false (bs.map Af)),some NS,some (.int w),some (.int n),some (.ref 0),some (.int p.1),some (.int p.2),some (Cy true there),z8,z9]) (S:=[some acc])
  (fun i env S=>∃z8 z9,env=[some (.lst false (bs.map Af)),some NS,some (.int w),some (.int n),some (.ref 0),some (.int p.1),some (.int p.2),some (Cy true there),z8,z9]/\S=[some (acc++((cs.take i).map fun c=>(p::c.1,c.2)).map encC)])
  ⟨z8,z9,rfl,by simp⟩ (fun i env S _=>by simp) (fun i d env S hd q=>by
   obtain⟨z8,z9,he,hS⟩:=q
   subst he hS
   rw[U0w] at hd
   obtain⟨c,hc,rfl⟩:=U10.mp hd
   have hi:=(U0n.mp hc).1
   refine⟨_,by simp[Cr,HF,FZ,El,-U0c,-U0e,encC],_,_,vf rec _ _ _ _ _ p c _ (by simp;omega) (hcs c (U1k hc)),_,_,rfl,?_⟩
   rw[U28,hc]
   simp)
 subst he hS
 refine⟨z8',z9',e2.trans ?_⟩
 have:(cs.map encC).length=cs.length:=by simp
 rw[this,U2r]
theorem OJ{bs:List (List St2)}:∀(k w:Nat)(ns:List Nat)(c:List St2×List Nat),c∈Bg bs k w ns->c.1.length=k
 |0,w,ns,c,h=>by
  rw[Bg] at h
  split at h
  .simp at h
  .have:c=([],ns):=by simpa using h
   rw[this];rfl
 |k+1,w,ns,c,h=>by
  rw[Bg] at h
  split at h
  .simp at h
  .obtain⟨p,_,h2⟩:=U6m.mp h
   obtain⟨d,h3,rfl⟩:=U2o.mp h2
   rw[U0j,OJ k (w+1) _ d h3]
theorem au(bs:List (List St2))(w:Nat)(ns:List Nat):Gd (Gy (ns.map fun i=>bs.getD i []) w++GF (ns.map fun i=>bs.getD i []) w)=Cv bs w ns:=by
 unfold Gy GF Cv at1
 rw[U0c,U0c];rfl
theorem vX(rec:Cz){n w k:Nat}{bs:List (List St2)}{ns:List Nat}(hb:∀b∈bs,b.length=n)(hi:∀i∈ns,i<bs.length)(hl:ns.length<=20)(hne:ns≠[])(hw:w<n)(hk:k<=2)
  (ih:∀ms:List Nat,(∀i∈ms,i<bs.length)->ms.length<=20->rec [.lst false (bs.map Af),Cy false ms,.int ((w:Int)+1),.int n]=some (.lst true ((Bg bs k (w+1) ms).map encC))) :
  ∃z5 z6 z7 z8 z9,Oq rec [some (.lst false (bs.map Af)),some (Cy false ns),some (.int w),some (.int n),some (.ref 0),none,none,none,none,none] [some []] =
   some (.nx,[some (.lst false (bs.map Af)),some (Cy false ns),some (.int w),some (.int n),some (.ref 0),z5,z6,z7,z8,z9],[some ((Bg bs (k+1) w ns).map encC)]):=by
 have c1:=vd rec (m:=false) (m':=false) hb (by omega) hi hl [some (.int w),some (.int n),some (.ref 0),none,none,none,none,none] [some []]
 have h1:=aP (m:=false) (cs:=ns.map fun i=>bs.getD i []) (w:=w) (fun b hb'=>by
  obtain⟨i,hi',rfl⟩:=U2o.mp hb'
  have h:=hi i hi'
  rw[U0h,U0i h]
  show w<bs[i].length
  rw[hb _ (U1s h)];exact hw) (by rw[U0k];exact hl) (by simpa using hne)
 rw[au] at h1
 have e:DK (Aw Dc (Aa (Bt (Lr rec)) (Aa (Ab 2) Ae))) [some (.lst false (bs.map Af)),some (Cy false ns),some (.int w),some (.int n),some (.ref 0),none,none,none,none,none] [some []]=some (((steps (Cv bs w ns)).map Av,[]),[some []]):=by
  rw[FW,CZ (ds:=[.lst true ((ns.map fun i=>bs.getD i []).map Af),.int w]) (S':=[some []]) (by simp only[Al,BZ,DQ,Aq,c1,U0a];rfl) (by rw[Ay,BW,dY];rfl) (by rw[Bj,age,jX,Bj,Bj];rfl) h1]
  simp[CJ,VS.listOf,VS.idOf]
 have hst:(steps (Cv bs w ns)).length<=40:=by
  have:=O7 (Cv bs w ns)
  have h2:=Jd (ns.map (fun i=>(at1 bs i w).1)++ns.map (fun i=>(at1 bs i w).2))
  rw[U0r,U0k,U0k] at h2
  unfold Cv at this ⊢
  omega
 have hcl:∀x,(Bg bs k (w+1) (GR bs w x ns)).length<=1600:=fun x=>by
  have:=Jp (bs:=bs) k (w+1) (GR bs w x ns) (U1a (U3c _ _) hl)
  have h2:40^k<=40^2:=U6x (by decide) hk
  omega
 let f:St2->List (List St2×List Nat):=fun p=>(Bg bs k (w+1) (GR bs w p.1 ns)).map fun c=>(p::c.1,c.2)
 have hf:∀l:List St2,(l.flatMap f).length<=l.length*1600:=fun l=>by
  induction l with
  |nil=>simp
  |cons p l ih =>
   rw[U4k,U0r,U0j,Nat.add_mul,Nat.one_mul]
   have:(f p).length<=1600:=by rw[U0k];exact hcl p.1
   omega
 unfold Oq
 rw[Fg,e]
 obtain⟨env',S',e2,z5,z6,z7,z8,z9,he,hS⟩:=Ep (w:=[]) (g:=Pat.sem (.tp [(.nm 5),(.nm 6)])) (b:=Ls rec) (ds:=(steps (Cv bs w ns)).map Av) (env:=[some (.lst false (bs.map Af)),some (Cy false ns),some (.int w),some (.int n),some (.ref 0),none,none,none,none,none]) (S:=[some []])
  (fun i env S=>∃z5 z6 z7 z8 z9,env=[some (.lst false (bs.map Af)),some (Cy false ns),some (.int w),some (.int n),some (.ref 0),z5,z6,z7,z8,z9]/\S=[some ((((steps (Cv bs w ns)).take i).flatMap f).map encC)])
  ⟨none,none,none,none,none,rfl,by simp⟩ (fun i env S _=>by simp) (fun i d env S hd q=>by
   obtain⟨z5,z6,z7,z8,z9,he,hS⟩:=q
   subst he hS
   rw[U0w] at hd
   obtain⟨p,hp,rfl⟩:=U10.mp hd
   have hi':=(U0n.mp hp).1
   have h2:=hf ((steps (Cv bs w ns)).take i)
   rw[U19] at h2
   obtain⟨z8',z9',l1⟩:=vY rec (n:=n) (w:=w) (bs:=bs) (there:=GR bs w p.1 ns) (cs:=Bg bs k (w+1) (GR bs w p.1 ns)) (ih _ (fun i hi'=>hi i (U3k.mp hi').1) (U1a (U3c _ _) hl)) (fun c hc=>by rw[OJ _ _ _ _ hc];omega) (Cy false ns) p z8 z9 ((((steps (Cv bs w ns)).take i).flatMap f).map encC) (by
    have h3:=hcl p.1
    rw[U0k]
    have h4:min i (steps (Cv bs w ns)).length<=40:=by omega
    have h5:=Nat.mul_le_mul_right 1600 h4
    omega)
   have c2:=vZ rec (m:=false) (m':=false) hb hi hl hw p.1 (some (.int n)) (some (.ref 0)) [some (.int p.2),z7,z8,z9] [some ((((steps (Cv bs w ns)).take i).flatMap f).map encC)]
   have s1:(Bk 7 (Bt (Lq rec))) [some (.lst false (bs.map Af)),some (Cy false ns),some (.int w),some (.int n),some (.ref 0),some (.int p.1),some (.int p.2),z7,z8,z9] [some ((((steps (Cv bs w ns)).take i).flatMap f).map encC)]=some (.nx,[some (.lst false (bs.map Af)),some (Cy false ns),some (.int w),some (.int n),some (.ref 0),some (.int p.1),some (.int p.2),some (Cy true (GR bs w p.1 ns)),z8,z9],[some ((((steps (Cv bs w ns)).take i).flatMap f).map encC)]):=by
    rw[CW,DQ,c2];rfl
   refine⟨_,by simp[Cr,HF,FZ,El,-U0c,-U0e,Av];rfl,_,_,(show Ls rec _ _=_ by unfold Ls;rw[BP s1];exact l1),_,_,_,_,_,rfl,?_⟩
   rw[U28,hp]
   simp[f])
 subst he hS
 refine⟨z5,z6,z7,z8,z9,e2.trans ?_⟩
 have:((steps (Cv bs w ns)).map Av).length=(steps (Cv bs w ns)).length:=by simp
 rw[this,U2r,Bg,if_neg hne]
theorem vW{n:Nat}{bs:List (List St2)}(hb:∀b∈bs,b.length=n)(hn:n<=3):∀(k d w:Nat)(ns:List Nat),w+k=n->(∀i∈ns,i<bs.length)->ns.length<=20->Cm (d+k+1) [.lst false (bs.map Af),Cy false ns,.int w,.int n]=some (.lst true ((Bg bs k w ns).map encC)):=by
 have hlen:∀(ns:List Nat)(r:VS.Env)(S:Store),eCB Dm (Aa (Ab 1) Ae) (some (.lst false (bs.map Af))::some (Cy false ns)::r) S=some (.int ns.length,S):=fun ns r S=>by simp[Aq,BZ,Al,Eu,Dm,VS.listOf,CJ,-U0c,-U0e,Cy]
 have first:∀(ns:List Nat)(r:VS.Env),ns≠[]->(sIf (BK (eOp (oEq false) (eCB Dm (Aa (Ab 1) Ae)) (eC (.int 0)))) (DN (Bt Ae)) Ed) (some (.lst false (bs.map Af))::some (Cy false ns)::r) []=some (.nx,some (.lst false (bs.map Af))::some (Cy false ns)::r,[]):=fun ns r h=>by
  have h0:¬((ns.length:Int)=0):=by have:=U62.mpr h;omega
  simp only[LR,DP,BJ,hlen,U0a,CT]
  simp[Cg,MF,BZ,DQ,oEq,-U0c,-U0e,h0]
  exact h
 have nil:∀(k w:Nat),Cm (k+1) [.lst false (bs.map Af),Cy false [],.int w,.int n]=some (.lst true []):=fun k w=>by
  simp[Cm,NP,Ju,CW,Cg,LR,MF,Aq,CT,BJ,BZ,Al,Eu,DP,DQ,Pk,Ia,oEq,Dm,VS.listOf,CJ,Ck,den,DW,U0o,-U0c,-U0e,Cy]
 intro k
 induction k with
 |zero =>
  intro d w ns hw hi hl
  by_cases h:ns=[]
  .subst h
   rw[nil,Bg,if_pos rfl];rfl
  .rw[Bg,if_neg h]
   have hwn:w=n:=by omega
   subst hwn
   have f1:=first ns [some (.int w),some (.int w),none,none,none,none,none,none] h
   unfold Cm
   rw[Ck]
   simp only[U0j,U05,U0m,U08,U1i,U1j,U0o,U06,U11,U1n,if_true]
   unfold NP
   rw[BP f1]
   have hd:=M8 0 [] (Ql false ns)
   simp[Ju,CW,Cg,LR,MF,Aq,BJ,BZ,Al,DP,DQ,Pk,Ia,oEq,den,DW,-U0c,-U0e,hd,encC,Af]
 |succ k ih =>
  intro d w ns hw hi hl
  by_cases h:ns=[]
  .subst h
   rw[nil,Bg,if_pos rfl];rfl
  .have hwn:¬((w:Int)=(n:Int)):=by omega
   have f1:=first ns [some (.int w),some (.int n),none,none,none,none,none,none] h
   have f2:(sIf (BK (eOp (oEq false) (Ab 2) (Ab 3))) (DN (Bt (Aa (Bq (Aa (Bq Ae) (Aa (Ab 1) Ae))) Ae))) Ed) [some (.lst false (bs.map Af)),some (Cy false ns),some (.int w),some (.int n),none,none,none,none,none,none] []=some (.nx,[some (.lst false (bs.map Af)),some (Cy false ns),some (.int w),some (.int n),none,none,none,none,none,none],[]):=by
    simp[Cg,LR,MF,Aq,BJ,BZ,Al,DP,DQ,Ia,oEq,-U0c,-U0e,hwn]
   have f3:(Bk 4 (Gs Ae)) [some (.lst false (bs.map Af)),some (Cy false ns),some (.int w),some (.int n),none,none,none,none,none,none] []=some (.nx,[some (.lst false (bs.map Af)),some (Cy false ns),some (.int w),some (.int n),some (.ref 0),none,none,none,none,none],[some []]):=by
    simp[CW,BZ,Pk,-U0c,-U0e]
   obtain⟨z5,z6,z7,z8,z9,f4⟩:=vX (Cm (d+(k+1))) (w:=w) (k:=k) hb hi hl h (by omega) (by omega) fun ms h1 h2=>by
    have:=ih d (w+1) ms (by omega) h1 h2
    rw[show((w+1:Nat):Int)=(w:Int)+1 by omega] at this
    exact this
   rw[Cm,Ck]
   simp only[U0j,U05,U0m,U08,U1i,U1j,U0o,U06,U11,U1n,if_true]
   unfold NP
   rw[BP f1,BP f2,BP f3,BP f4]
   have hd:∀(j:Nat)(S:Store),DW j S ((Bg bs (k+1) w ns).map encC)=some ((Bg bs (k+1) w ns).map encC):=fun j S=>Ce j S (Mt (Bg bs (k+1) w ns))
   simp[Cg,Aq,den,-U0c,-U0e,hd,Mt]
theorem list_range{a:Bm}{env:VS.Env}{S S':Store}{n:Nat}(h:a env S=some ([.int n],S'))(hn:n<=1000):J5 a env S=some (Cy true (U0g n),S'):=by
 have hr:r62 (n:Int):=by unfold r62;omega
 have up:upD 0 n=(U0g n).map fun(i:Nat)=>D.int i:=by unfold upD;simp
 rw[T3,h,U0a]
 show(if r62 (n:Int)/\(n:Int).toNat<=1000 then _ else _)=_
 rw[if_pos ⟨hr,by omega⟩,U26,up,Cy]
theorem cC{n:Nat}{bs:List (List St2)}(g:Good n bs):Ew [Ak false n bs]=some (.lst true ((Bg bs n 0 (U0g bs.length)).map encC)):=by
 have n3:=g.n3
 have few:=g.few
 have h:=vW (bs:=bs) (fun b hb=>(g.box b hb).1) n3.2 n (3-n) 0 (U0g bs.length) (by omega) (fun i hi=>U2h.mp hi) (by simpa using few)
 rw[show 3-n+n+1=4 by omega] at h
 have hd:=fun(j:Nat) (S:Store)=>Ce j S (Mt (Bg bs n 0 (U0g bs.length)))
 have t1:(eOp oIx (Ab 0) (eC (.int 1))) [some (Ak false n bs)] []=some (.lst false (bs.map Af),[]):=by simp[Aq,CT,BJ,oIx,VS.listOf,CJ,-U0c,-U0e,Ak]
 have t0:(eOp oIx (Ab 0) (eC (.int 0))) [some (Ak false n bs)] []=some (.int n,[]):=by simp[Aq,CT,BJ,oIx,VS.listOf,CJ,-U0c,-U0e,Ak]
 have t2:(Aa (eCB Dm (Aa (eOp oIx (Ab 0) (eC (.int 1))) Ae)) Ae) [some (Ak false n bs)] []=some ([.int bs.length],[]):=by
  simp only[Al,BZ,Eu,t1,U0a]
  simp[Dm,CJ,VS.listOf]
 have t3:=list_range t2 (by omega)
 have a1:(Aa (eOp oIx (Ab 0) (eC (.int 1))) (Aa (J5 (Aa (eCB Dm (Aa (eOp oIx (Ab 0) (eC (.int 1))) Ae)) Ae)) (Aa (eC (.int 0)) (Aa (eOp oIx (Ab 0) (eC (.int 0))) Ae)))) [some (Ak false n bs)] []=some ([.lst false (bs.map Af),Cy true (U0g bs.length),.int 0,.int n],[]):=by
  rw[Al,t1,U0a,Al,t3,U0a,Al,CT,U0a,Al,t0]
  rfl
 have c:=CZ (sem:=Cm 4) a1 (by simp[Ay,BW,Ql]) (es:=[.lst false (bs.map Af),Cy false (U0g bs.length),.int 0,.int n]) (by simp[Bj,age,WM]) h
 unfold Ew
 rw[Ck]
 simp only[U0j,U05,U0m,U08,U1i,U1j,U06,U11,U1n,if_true]
 unfold XC
 rw[Cg,c]
 show den 0 [] (.lst true _)=_
 rw[den,hd];rfl
end W13
end
section
namespace W13
open PySem L2 VS
theorem qP(c k:Int):∃v,Ir [.int c,.int k]=some (.int v):=by
 have hc:∀t:Int,-18446744073709551616<t%2147483647/\t%2147483647<18446744073709551616:=fun t=>by omega
 simp[Ir,Vj,Ju,CW,Cg,Aq,CT,BJ,oI,Pr,Vt,TQ,Dl,J8,oDiv,oMod,VS.listOf,Ck,den,U0o,-U0c,-U0e,hc]
theorem Fq(x y z m:Int)(h0:0<m)(h1:m<2^63):∃r x' z',Ao [x,y,z] [.int m]=some (.int r,[x',y,z'])/\0<=r/\r<m:=by
 have hm:m<18446744073709551616:=by omega
 by_cases h:0<x
 .simp[Ao,Sq,Ju,CW,Cg,LR,MF,Je,Aq,CT,BJ,BZ,Al,DP,HX,oI,Hx,Vt,TQ,Dl,oDiv,oMod,oGt,oIx,VS.listOf,CJ,Nh,intsOf,den,U0o,-U0c,-U0e,h,h0,hm]
  exact⟨U7t _ (by omega),U7 _ h0⟩
 .obtain⟨v,hv⟩:=qP y (z+1)
  simp[Ao,Sq,Ju,CW,Cg,LR,MF,Je,Aq,CT,BJ,BZ,Al,DP,HX,oI,Hx,Vt,TQ,Dl,oDiv,oMod,oGt,oIx,VS.listOf,CJ,Nh,intsOf,den,DW,age,Bj,BW,Ay,U0o,-U0c,-U0e,h,h0,hm,hv]
  exact⟨U7t _ (by omega),U7 _ h0⟩
theorem Q9{k:Nat}(hk:k<=300):((10:Int)^k).natAbs<2^1024:=by
 rw[Int.natAbs_pow]
 refine U44 (U6x (by decide) hk) ?_
 decide +kernel
theorem pow10(k:Nat)(hk:k<=1000)(env:VS.Env)(S:Store):eOp GZ (eC (.int 10)) (eC (.int k)) env S=some (.int (10^k),S):=by
 have h:Pq 10 (k:Int)=true:=by
  unfold Pq
  simp
  omega
 rw[BJ,CT,U0a,CT,U0a]
 show(if Pq 10 (k:Int)=true then some (D.int (10^(k:Int).toNat)) else none).map _=_
 rw[if_pos h,U26];rfl
theorem V2{a b:BX}{env:VS.Env}{S S1 S2:Store}{i j:Int}(ha:a env S=some (.int i,S1))(hb:b env S1=some (.int j,S2))(hi:i.natAbs<2^1024)(hj:j.natAbs<2^1024):eOp Oz a b env S=some (.int (i*j),S2):=by
 have h:Zh i j=true:=by
  unfold Zh
  rw[U1h]
  exact⟨decide_eq_true hi,decide_eq_true hj⟩
 rw[BJ,ha,U0a,hb,U0a]
 show(if Zh i j=true then some (D.int (i*j)) else none).map _=_
 rw[if_pos h];rfl
theorem yg(c:Int):∃x,JB [.int c]=some (.lst true [.int x,.int c,.int 0]):=by
 have p:=pow10 50 (by decide) [some (.int c)] []
 have q1:=V2 p p (Q9 (by decide)) (Q9 (by decide))
 rw[←U8h] at q1
 have q2:=V2 q1 p (Q9 (by decide)) (Q9 (by decide))
 rw[←U8h] at q2
 have q3:=V2 q2 p (Q9 (by decide)) (Q9 (by decide))
 rw[←U8h] at q3
 have hp:(0:Int)<10^(50+50+50+50):=Int.pow_pos (by decide)
 have m1:eOp oMod (Ab 0) (eOp Oz (eOp Oz (eOp Oz (eOp GZ (eC (.int 10)) (eC (.int 50))) (eOp GZ (eC (.int 10)) (eC (.int 50)))) (eOp GZ (eC (.int 10)) (eC (.int 50)))) (eOp GZ (eC (.int 10)) (eC (.int 50)))) [some (.int c)] []=some (.int (c%10^(50+50+50+50)),[]):=by
  have v:Ab 0 [some (.int c)] []=some (.int c,[]):=rfl
  have h:TQ c (10^(50+50+50+50))=true:=decide_eq_true hp
  rw[BJ,v,U0a]
  refine(congrArg (fun z=>Option.bind z _) q3).trans ?_
  rw[U0a]
  show(if TQ c (10^(50+50+50+50))=true then some (D.int (c%10^(50+50+50+50))) else none).map _=_
  rw[if_pos h];rfl
 have hb:(c%10^(50+50+50+50)).natAbs<2^1024 :=
  U3f (Int.natAbs_lt_natAbs_of_nonneg_of_lt (U7t _ (Int.ne_of_gt hp)) (U7 _ hp)) (Q9 (by decide))
 obtain⟨b,hb1,hb2⟩:∃b:Int,eCB Qy (Aa (eOp oGe (Ab 0) (eOp GZ (eC (.int 10)) (eC (.int 18)))) Ae) [some (.int c)] []=some (.int b,[])/\b.natAbs<2^1024:=by
  by_cases h:(1000000000000000000:Int)<=c
  .exact⟨1,by simp[Aq,CT,BJ,BZ,Al,Eu,oI,Hx,Pq,GZ,oGe,Qy,-U0c,-U0e,h],by decide +kernel⟩
  .exact⟨0,by simp[Aq,CT,BJ,BZ,Al,Eu,oI,Hx,Pq,GZ,oGe,Qy,-U0c,-U0e,h],by decide +kernel⟩
 have q4:=V2 m1 hb1 hb hb2
 refine⟨c%10^(50+50+50+50)*b,?_⟩
 have v:∀S,Ab 0 [some (.int c)] S=some (.int c,S):=fun _=>rfl
 unfold JB
 rw[Ck]
 simp only[U0j,U05,U0m,U08,U1i,U1j,U06,U15,if_true]
 unfold Yk
 rw[Cg,DQ,Al,q4]
 generalize c%10^(50+50+50+50)*b=x
 simp[Aq,CT,BZ,Al,den,DW,-U0c,-U0e]
end W13
end
section
namespace W13
open PySem L2 VS
theorem aK{sem:Cz}{a:Bm}{env:VS.Env}{S S':Store}{d d':D}{cs:List D}(h:Aw sem a env S=some (d,S'))(ht:Oa S'.length d=some (d',cs)):Q8 sem a env S=some (d',S'++[some cs]):=by
 rw[nF,h,U0a]
 show(Oa S'.length d).bind _=_
 rw[ht];rfl
theorem Jk{sem:KH}{a:Bm}{env:VS.Env}{S S':Store}{i:Nat}{rest es:List D}{ns ms:List Int}{r:D}(h:a env S=some (.ref i::rest,S'))(hi:S'[i]?=some (some (ns.map D.int)))(hp:Ay rest=true)(ha:Bj rest=es)(hr:sem ns es=some (r,ms)):Bl sem a env S=some (r,S'.set i (some (ms.map D.int))):=by
 rw[OD,h]
 simp only[U0a,hi,Jm,Ce 0 _ hp,ha,hr,hp,Bool.true_or,if_true]
theorem oY{sem:KH}{a:Bm}{env:VS.Env}{S S':Store}{d d':D}{cs:List D}(h:Bl sem a env S=some (d,S'))(ht:Oa S'.length d=some (d',cs)):Tj sem a env S=some (d',S'++[some cs]):=by
 rw[nG,h,U0a]
 show(Oa S'.length d).bind _=_
 rw[ht];rfl
theorem Yw{sem:Cz}{a:Bm}{env:VS.Env}{S S':Store}{ds es fs:List D}{r:D}(h:a env S=some (ds,S'))(hd:DW 0 S' ds=some es)(ha:Bj es=fs)(hr:sem fs=some r)(hn:newD r=true):Aw sem a env S=some (r,S'):=by
 rw[HX,h]
 simp only[U0a,hd,ha,hr,hn,Bool.or_true,if_true]
theorem Ja{g:Store->D->List D->Option (D×Store)}{o:BX}{a:Bm}{env:VS.Env}{S S1 S2 S3:Store}{d r:D}{cs ds:List D}(h:o env S=some (d,S1))(hl:VS.listOf S1 d=some cs)(h2:a env S1=some (ds,S2))(h3:g S2 d ds=some (r,S3)):GP g o a env S=some (r,S3):=by
 rw[bV,h,U0a]
 show(if (VS.listOf S1 d).isSome=true then _ else _)=_
 rw[hl]
 show(a env S1).bind _=_
 rw[h2]
 exact h3
theorem Vr(S:Store)(a:Option (List D))(l:List (Option (List D))):(S++a::l)[S.length]?=some a:=by simp
theorem ni(S:Store)(a c:Option (List D))(l:List (Option (List D))):(S++a::l).set S.length c=S++c::l:=by
 rw[U6n _ _ (by omega)]
 simp
end W13
end
section
namespace W13
open PySem L2 VS
theorem qF{S:Store}{i:Nat}{l:List D}{r:Int}(h:S[i]?=some (some l))(h0:0<=r)(h1:r<l.length)(h2:r<2^63)(hn:r.toNat<l.length):Q5 S (.ref i) [.int r]=some (l[r.toNat],S.set i (some (l.eraseIdx r.toNat))):=by
 have hix:seqIndex? r l.length=some r.toNat:=PySem.StrLaws.seqIndex_nonneg h0 h1
 rw[Q5,h]
 show(if -(2^63)<=r/\r<2^63 then (seqIndex? r l.length).bind _ else _)=_
 rw[if_pos ⟨by omega,h2⟩,hix,U0a,U0i hn]
 rfl
theorem YT{α:Type}:∀(l:List α)(i:Nat)(h:i<l.length),(l[i]::l.eraseIdx i).Perm l
 |a::r,0,_=>by simp
 |a::r,i+1,h=>by
  have h':i<r.length:=by simpa using h
  show(r[i]::a::r.eraseIdx i).Perm (a::r)
  exact(U4p.swap ..).trans ((YT r i h').cons a)
def toI:D->Option Int
 |.int i=>some i
 |_=>none
theorem fO:∀{es:List D},(∀e∈es,∃n,e=.int n)->(es.filterMap toI).map .int=es
 |[],_=>rfl
 |e::r,h=>by
  obtain⟨n,rfl⟩:=h e U0x
  rw[U3b (show toI (.int n)=some n from rfl),U0m,fO fun e he=>h e (U0p _ he)]
theorem mz{es:List D}{ns:List Int}(hp:es.Perm (ns.map .int)):∃ms:List Int,es=ms.map .int/\ms.Perm ns:=by
 refine⟨es.filterMap toI,(fO fun e he=>?_).symm,?_⟩
 .obtain⟨n,_,q⟩:=U2o.mp (hp.mem_iff.mp he)
  exact⟨n,q.symm⟩
 .have:=hp.filterMap toI
  rw[U43] at this
  have e:(fun n:Int=>toI (.int n))=some:=rfl
  rw[show(toI∘D.int)=some from rfl,List.filterMap_some] at this
  exact this
theorem Jbg(x y z:Int)(ds:List D)(hl:ds.length<=1000):∃(es:List D)(x' z':Int),NT [some (.ref 0),some (.lst false ds),some (.ref 1)] [some [.int x,.int y,.int z],some ds]=some (es,[some [.int x',.int y,.int z'],some []])/\es.Perm ds:=by
 have e:DK (Ab 1) [some (.ref 0),some (.lst false ds),some (.ref 1)] [some [.int x,.int y,.int z],some ds]=some ((ds,[]),[some [.int x,.int y,.int z],some ds]):=by simp[Aq,VS.listOf,CJ,VS.idOf,FW,-U0c,-U0e]
 unfold NT Cw
 rw[e]
 simp only[U0a]
 obtain⟨ys,S',e2,left,x',z',hS,hi,hp⟩:=bh (w:=[]) (e0:=Gn 1 [2,0] [some (.ref 0),some (.lst false ds),some (.ref 1)]) (g:=Pat.sem (.nm 0)) (ds:=ds) (S:=[some [.int x,.int y,.int z],some ds])
  (f:=GP Q5 (Ab 1) (Aa (Bl Ao (Aa (Ab 2) (Aa (eCB Dm (Aa (Ab 1) Ae)) Ae))) Ae))
  (fun i ys S=>∃(left:List D)(x' z':Int),S=[some [.int x',.int y,.int z'],some left]/\ys.length=min i ds.length/\(ys++left).Perm ds)
  ⟨ds,x,z,rfl,by simp,.refl _⟩ (fun i ys S q=>by obtain⟨left,x',z',h1,h2,h3⟩:=q;exact⟨by simp,by omega⟩)
  (fun i d ys S hd q=>by
   obtain⟨left,x',z',h1,h2,h3⟩:=q
   subst h1
   have hi:i<ds.length:=(U0n.mp hd).1
   have hlen:=h3.length_eq
   rw[U0r] at hlen
   obtain⟨r,x2,z2,e3,r0,r1⟩:=Fq x' y z' left.length (by omega) (by omega)
   have hrn:r.toNat<left.length:=by omega
   have v1:∀a:List D,Ab 1 [some d,some (.ref 1),some (.ref 0)] [some a,some left]=some (.ref 1,[some a,some left]):=fun a=>rfl
   have v2:∀a:List D,Ab 2 [some d,some (.ref 1),some (.ref 0)] [some a,some left]=some (.ref 0,[some a,some left]):=fun a=>rfl
   have hL:eCB Dm (Aa (Ab 1) Ae) [some d,some (.ref 1),some (.ref 0)] [some [.int x',.int y,.int z'],some left]=some (.int left.length,[some [.int x',.int y,.int z'],some left]):=by
    rw[Eu,Al,v1]
    simp[BZ,Dm,CJ,VS.listOf]
   have ht:Bl Ao (Aa (Ab 2) (Aa (eCB Dm (Aa (Ab 1) Ae)) Ae)) [some d,some (.ref 1),some (.ref 0)] [some [.int x',.int y,.int z'],some left]=some (.int r,[some [.int x2,.int y,.int z2],some left]) :=
    Jk (ns:=[x',y,z']) (rest:=[.int left.length]) (es:=[.int left.length]) (i:=0) (S':=[some [.int x',.int y,.int z'],some left]) (by rw[Al,v2];simp[Al,BZ,hL]) rfl (by simp[Ay,BW]) (by simp[Bj,age]) e3
   have hpop:GP Q5 (Ab 1) (Aa (Bl Ao (Aa (Ab 2) (Aa (eCB Dm (Aa (Ab 1) Ae)) Ae))) Ae) [some d,some (.ref 1),some (.ref 0)] [some [.int x',.int y,.int z'],some left]=some (left[r.toNat],[some [.int x2,.int y,.int z2],some (left.eraseIdx r.toNat)]) :=
    Ja (v1 _) (cs:=left) rfl (ds:=[.int r]) (S2:=[some [.int x2,.int y,.int z2],some left]) (by rw[Al,ht];rfl) (qF (i:=1) rfl r0 r1 (by omega) hrn)
   refine⟨[some d,some (.ref 1),some (.ref 0)],left[r.toNat],_,by rw[Cr];rfl,hpop,left.eraseIdx r.toNat,x2,z2,rfl,by simp;omega,?_⟩
   rw[U5]
   exact((YT left r.toNat hrn).append_left ys).trans h3)
 subst hS
 have hl:=hp.length_eq
 rw[U0r,hi,U50] at hl
 have:left=[]:=U2n.mp (by omega)
 subst this
 rw[U15] at hp
 exact⟨ys,x',z',e2,hp⟩
theorem eN(x y z:Int)(ns:List Int)(hl:ns.length<=1000):∃(ms:List Int)(x' z':Int),G4 [x,y,z] [.lst false (ns.map .int)]=some (.lst true (ms.map .int),[x',y,z'])/\ms.Perm ns:=by
 obtain⟨es,x',z',e,hp⟩:=Jbg x y z (ns.map .int) (by simpa using hl)
 obtain⟨ms,rfl,hm⟩:=mz hp
 refine⟨ms,x',z',?_,hm⟩
 simp[G4,Rk,Ju,CW,Cg,Aq,BZ,Al,DQ,rC,nList,VS.listOf,CJ,Nh,intsOf,den,U0o,-U0c,-U0e,e]
end W13
end
section
namespace W13
open PySem L2 VS
def mn(i j:Int):Int:=if j<i then j else i
def mx(i j:Int):Int:=if j>i then j else i
theorem ju{α β:Type}{f:α->Option β}{g:α->β}:∀{l:List α},(∀a∈l,f a=some (g a))->l.filterMap f=l.map g
 |[],_=>rfl
 |a::r,h=>by rw[U3b (h a U0x),U0m,ju fun b hb=>h b (U0p _ hb)]
theorem gP(a:Nat)(ms:List Int)(ha:a<=1):HT.half a (ms.map D.int)=(U0g ((ms.length+1-a)/2)).map fun k=>D.int (ms.getD (a+2*k) 0):=by
 unfold HT.half
 rw[U0k]
 refine ju fun k hk=>?_
 have h:=U2h.mp hk
 have h2:a+2*k<ms.length:=by omega
 rw[U0w,U0i h2,U0h,U0i h2]
 rfl
def O2(ms:List Int)(c:Nat):List St2:=(U0g c).map fun k=>(mn (ms.getD (0+2*k) 0) (ms.getD (1+2*k) 0),mx (ms.getD (0+2*k) 0) (ms.getD (1+2*k) 0))
structure o9(c:Nat)(m:Int)(s:List St2):Prop where
 len:s.length=c
 all:∀p∈s,0<=p.1/\p.1<p.2/\p.2<=m
theorem tW{ms:List Int}{c:Nat}(hp:ms.Perm ((U0g (2*c)).map fun(i:Nat)=>(i:Int))):o9 c (2*c-1) (O2 ms c):=by
 have hlen:ms.length=2*c:=by rw[hp.length_eq];simp
 have hn:ms.Nodup:=hp.nodup_iff.mpr (by
  show U6f (·≠·) _
  rw[List.pairwise_map]
  exact List.nodup_range.imp fun h e=>h (by omega))
 refine⟨by unfold O2;simp,fun p hq=>?_⟩
 obtain⟨k,hk,rfl⟩:=U2o.mp hq
 have h:=U2h.mp hk
 have a0:0+2*k<ms.length:=by omega
 have a1:1+2*k<ms.length:=by omega
 rw[U0h,U0i a0,U0h,U0i a1,U4z,U4z]
 have ne:ms[0+2*k]≠ms[1+2*k]:=fun e=>by
  have:=(List.getElem_inj hn).mp e
  omega
 have b:∀x∈ms,0<=x/\x<=2*c-1:=fun x hx=>by
  obtain⟨i,hi,rfl⟩:=U2o.mp (hp.mem_iff.mp hx)
  have:=U2h.mp hi
  omega
 have b0:=b _ (U1s a0)
 have b1:=b _ (U1s a1)
 unfold mn mx
 simp only
 split<;>split<;>omega
theorem yD(n:Nat)(F G:Nat->D):Dj ((U0g n).map F) ((U0g n).map G)=(U0g n).map fun k=>D.tup [F k,G k]:=by
 generalize U0g n=l
 induction l with
 |nil=>rfl
 |cons a r ih=>rw[U0m,U0m,Dj,ih,U0m]
theorem kY(r:VS.Env)(S:Store)(ms:List Int)(c:Nat)(hc:c<=1000)(h:r[6]?=some (some (.lst true ((U0g c).map fun k=>D.tup [.int (ms.getD (0+2*k) 0),.int (ms.getD (1+2*k) 0)])))):Oe r S=some ((O2 ms c).map Av,S):=by
 have e:DK (Ab 6) r S=some (((U0g c).map fun k=>D.tup [.int (ms.getD (0+2*k) 0),.int (ms.getD (1+2*k) 0)],[]),S):=by simp[Aq,VS.listOf,CJ,VS.idOf,FW,-U0c,-U0e,h]
 unfold Oe Cw
 rw[e]
 simp only[U0a]
 rw[Ip (by simp) (fun k=>D.tup [.int (ms.getD (0+2*k) 0),.int (ms.getD (1+2*k) 0)]) (fun k=>Av (mn (ms.getD (0+2*k) 0) (ms.getD (1+2*k) 0),mx (ms.getD (0+2*k) 0) (ms.getD (1+2*k) 0))) (U0g c) (by simp;omega)]
 .unfold O2;rw[U0c];rfl
 .intro k _
  generalize ms.getD (0+2*k) 0=a
  generalize ms.getD (1+2*k) 0=b
  exact⟨_,by simp[Gn,Cr,HF,FZ,El,U0o,-U0c,-U0e];rfl,by simp[Aq,BZ,Al,Eu,Ia,Zb,Wb,-U0c,-U0e,Av,mn,mx]⟩
def Ei(ss:List (List St2)):List D:=ss.map fun s=>.lst true (s.map Av)
theorem range_list{a:Bm}{env:VS.Env}{S S':Store}{j:Int}(n:Nat)(h:a env S=some ([.int j],S'))(hn:j.toNat=n)(h0:-1000000<=j)(h1:j<=1000000)(h2:n<=1000):J5 a env S=some (.lst true (upD 0 n),S'):=by
 rw[T3,h,U0a]
 show(if r62 j/\j.toNat<=1000 then some (D.lst true (upD 0 j.toNat),S') else none)=_
 rw[hn,if_pos ⟨YQ h0 h1,h2⟩]
theorem kZ(x y z:Int)(w c:Nat)(hc:c<=20)(ss:List (List St2))(hs:ss.length<=3)(z5 z6:Option D)(k:D):∃(s:List St2)(x' z':Int)(d5 d6:Option D),o9 c (2*c-1) s /\
  Ln [some (.ref 0),some (.int w),some (.int c),some (.ref 1),some k,z5,z6] [some [.int x,.int y,.int z],some (Ei ss)]=some (.nx,[some (.ref 0),some (.int w),some (.int c),some (.ref 1),some k,d5,d6],[some [.int x',.int y,.int z'],some (Ei (ss++[s]))]):=by
 obtain⟨ms,x',z',e1,hp⟩:=eN x y z ((U0g (2*c)).map fun(i:Nat)=>(i:Int)) (by simp;omega)
 have hlen:ms.length=2*c:=by rw[hp.length_eq];simp
 have hU:upD 0 (2*c)=((U0g (2*c)).map fun(i:Nat)=>(i:Int)).map D.int:=by
  unfold upD
  rw[U0c]
  simp only[U5z];rfl
 have s1:(Bk 5 (Bl G4 (Aa (Ab 0) (Aa (J5 (Aa (eOp J8 (eC (.int 2)) (Ab 2)) Ae)) Ae)))) [some (.ref 0),some (.int w),some (.int c),some (.ref 1),some k,z5,z6] [some [.int x,.int y,.int z],some (Ei ss)]=some (.nx,[some (.ref 0),some (.int w),some (.int c),some (.ref 1),some k,some (.lst true (ms.map .int)),z6],[some [.int x',.int y,.int z'],some (Ei ss)]):=by
  have l1:=range_list (a:=Aa (eOp J8 (eC (.int 2)) (Ab 2)) Ae) (env:=[some (.ref 0),some (.int w),some (.int c),some (.ref 1),some k,z5,z6]) (S:=[some [.int x,.int y,.int z],some (Ei ss)]) (S':=[some [.int x,.int y,.int z],some (Ei ss)]) (j:=2*(c:Int)) (2*c) (by simp[Aq,CT,BJ,BZ,Al,Pr,J8,VS.listOf,-U0c,-U0e]) (by omega) (by omega) (by omega) (by omega)
  rw[hU] at l1
  have v0:Ab 0 [some (.ref 0),some (.int w),some (.int c),some (.ref 1),some k,z5,z6] [some [.int x,.int y,.int z],some (Ei ss)]=some (.ref 0,[some [.int x,.int y,.int z],some (Ei ss)]):=rfl
  rw[CW,Jk (ns:=[x,y,z]) (rest:=[.lst true (((U0g (2*c)).map fun(i:Nat)=>(i:Int)).map D.int)]) (es:=[.lst false (((U0g (2*c)).map fun(i:Nat)=>(i:Int)).map D.int)]) (i:=0) (S':=[some [.int x,.int y,.int z],some (Ei ss)]) (by rw[Al,v0,U0a,Al,l1];rfl) rfl (by rw[Ay,BW,Fz,Ay];rfl) (by rw[Bj,age,Ma,Bj]) e1]
  rfl
 have s2:(Bk 6 (QJ (Aa (eUn (Qf 0) (Ab 5)) (Aa (eUn (Qf 1) (Ab 5)) Ae)))) [some (.ref 0),some (.int w),some (.int c),some (.ref 1),some k,some (.lst true (ms.map .int)),z6] [some [.int x',.int y,.int z'],some (Ei ss)]=some (.nx,[some (.ref 0),some (.int w),some (.int c),some (.ref 1),some k,some (.lst true (ms.map .int)),some (.lst true ((U0g c).map fun k=>D.tup [.int (ms.getD (0+2*k) 0),.int (ms.getD (1+2*k) 0)]))],[some [.int x',.int y,.int z'],some (Ei ss)]):=by
  have u0:∀a:Nat,eUn (Qf a) (Ab 5) [some (.ref 0),some (.int w),some (.int c),some (.ref 1),some k,some (.lst true (ms.map .int)),z6] [some [.int x',.int y,.int z'],some (Ei ss)]=some (.lst true (HT.half a (ms.map .int)),[some [.int x',.int y,.int z'],some (Ei ss)]):=fun a=>rfl
  have c0:(ms.length+1-0)/2=c:=by omega
  have c1:(ms.length+1-1)/2=c:=by omega
  rw[CW,RL,Al,u0,U0a,Al,u0,gP 0 ms (by decide),gP 1 ms (by decide),c0,c1]
  show((if (Dj ((U0g c).map fun k=>D.int (ms.getD (0+2*k) 0)) ((U0g c).map fun k=>D.int (ms.getD (1+2*k) 0))).length<=1000000 then some (D.lst true (Dj ((U0g c).map fun k=>D.int (ms.getD (0+2*k) 0)) ((U0g c).map fun k=>D.int (ms.getD (1+2*k) 0))),_) else none):Option (D×Store)).bind _=_
  rw[yD,if_pos (by rw[U0k,U2s];omega)]
  rfl
 have c1:=kY [some (.ref 0),some (.int w),some (.int c),some (.ref 1),some k,some (.lst true (ms.map .int)),some (.lst true ((U0g c).map fun k=>D.tup [.int (ms.getD (0+2*k) 0),.int (ms.getD (1+2*k) 0)]))] [some [.int x',.int y,.int z'],some (Ei ss)] ms c (by omega) rfl
 refine⟨O2 ms c,x',z',some (.lst true (ms.map .int)),some (.lst true ((U0g c).map fun k=>D.tup [.int (ms.getD (0+2*k) 0),.int (ms.getD (1+2*k) 0)])),tW hp,?_⟩
 unfold Ln
 rw[BP s1,BP s2,Gk,Ja (d:=.ref 1) (cs:=Ei ss) (ds:=[.lst true ((O2 ms c).map Av)]) (r:=.non) (S1:=[some [.int x',.int y,.int z'],some (Ei ss)]) (S2:=[some [.int x',.int y,.int z'],some (Ei ss)]) (S3:=[some [.int x',.int y,.int z'],some (Ei (ss++[O2 ms c]))]) rfl rfl (by rw[Al,DQ,c1];rfl) (by
  show(if (Ei ss).length<1000000 then some (D.non,[some [.int x',.int y,.int z'],some (Ei ss++[.lst true ((O2 ms c).map Av)])]) else none)=_
  rw[if_pos (by unfold Ei;rw[U0k];omega)]
  unfold Ei
  rw[U09];rfl)]
 rfl
theorem kW(ss:List (List St2))(k c:Nat)(hk:k<c)(hs:ss.length<=3)(hS:∀s∈ss,s.length=c)(S:Store)(hSt:S[1]?=some (some (Ei ss))):Lk [some (.int k),some (.ref 1)] S=some ((ss.map fun s=>s.getD k (0,0)).map Av,S):=by
 have e:DK (Ab 1) [some (.int k),some (.ref 1)] S=some ((Ei ss,[(1,Ei ss)]),S):=by
  simp[Aq,VS.listOf,CJ,VS.idOf,FW,-U0c,-U0e,hSt]
 unfold Lk Cw
 rw[e]
 simp only[U0a]
 rw[show Ei ss=ss.map fun s=>.lst true (s.map Av) from rfl,Ip (by intro p hp;rw[U07.mp hp];exact hSt) (fun s=>.lst true (s.map Av)) (fun s=>Av (s.getD k (0,0))) ss (by omega)]
 .rw[U0c];rfl
 .intro s hs
  have hl:=hS s hs
  have ha:atI (s.map Av) (k:Int)=some (Av (s.getD k (0,0))):=Nj (by
   rw[U0w,U0h,U0i (show k<s.length by omega)];rfl)
  exact⟨_,by rw[Cr],by simp[Aq,BJ,Gn,oIx,VS.listOf,CJ,U0o,-U0c,-U0e,ha]⟩
end W13
end
section
namespace W13
open PySem L2 VS
structure Sm(n:Nat)(m:Int)(b:List St2):Prop where
 len:b.length=n
 all:∀p∈b,0<=p.1/\p.1<p.2/\p.2<=m
theorem kO(x y z:Int)(n c:Nat)(hn:n<=3)(hc:c<=20):∃(bs:List (List St2))(x' z':Int),Gu [x,y,z] [.int n,.int c]=some (.lst true (bs.map Af),[x',y,z'])/\bs.length=c/\∀b∈bs,Sm n (2*c-1) b:=by
 have s1:(Bk 3 (Gs Ae)) [some (.ref 0),some (.int n),some (.int c),none,none,none,none] [some [.int x,.int y,.int z]]=some (.nx,[some (.ref 0),some (.int n),some (.int c),some (.ref 1),none,none,none],[some [.int x,.int y,.int z],some (Ei [])]):=by simp[CW,BZ,Pk,-U0c,-U0e,Ei]
 have e:Fj (Aa (Ab 1) Ae) [some (.ref 0),some (.int n),some (.int c),some (.ref 1),none,none,none] [some [.int x,.int y,.int z],some (Ei [])]=some ((upD 0 n,[]),[some [.int x,.int y,.int z],some (Ei [])]):=O4 _ (by simp[Aq,BZ,Al,-U0c,-U0e];rfl) (by simp) (by omega) (by omega)
 obtain⟨env',S',e2,ss,x',z',z4,z5,z6,he,hS,hl,hs⟩:=Ep (w:=[]) (g:=Pat.sem (.nm 4)) (b:=Ln) (ds:=upD 0 n) (env:=[some (.ref 0),some (.int n),some (.int c),some (.ref 1),none,none,none]) (S:=[some [.int x,.int y,.int z],some (Ei [])])
  (fun i env S=>∃(ss:List (List St2))(x' z':Int)(z4 z5 z6:Option D),env=[some (.ref 0),some (.int n),some (.int c),some (.ref 1),z4,z5,z6]/\S=[some [.int x',.int y,.int z'],some (Ei ss)]/\ss.length=min i n/\∀s∈ss,o9 c (2*c-1) s)
  ⟨[],x,z,none,none,none,rfl,rfl,by simp,fun s h=>by cases h⟩ (fun i env S _=>by simp) (fun i d env S hd q=>by
   obtain⟨ss,x',z',z4,z5,z6,he,hS,hl,hs⟩:=q
   obtain⟨hi,rfl⟩:=RV hd
   subst he hS
   obtain⟨s,x2,z2,d5,d6,hs1,e3⟩:=kZ x' y z' n c hc ss (by omega) z5 z6 (.int (0+i))
   refine⟨_,Cr _ _ _,_,_,e3,ss++[s],x2,z2,_,_,_,rfl,rfl,by simp;omega,fun t ht=>?_⟩
   rcases U12.mp ht with q|q
   .exact hs t q
   .rw[U07.mp q];exact hs1)
 rw[Pb,U50] at hl
 subst he hS
 have l1:Oc [some (.ref 0),some (.int n),some (.int c),some (.ref 1),none,none,none] [some [.int x,.int y,.int z],some (Ei [])]=some (.nx,[some (.ref 0),some (.int n),some (.int c),some (.ref 1),z4,z5,z6],[some [.int x',.int y,.int z'],some (Ei ss)]):=by
  unfold Oc
  rw[Fg,e]
  exact e2
 have c3:Od [some (.ref 0),some (.int n),some (.int c),some (.ref 1),z4,z5,z6] [some [.int x',.int y,.int z'],some (Ei ss)]=some ((U0g c).map (fun k=>Af (ss.map fun s=>s.getD k (0,0))),[some [.int x',.int y,.int z'],some (Ei ss)]):=by
  have e:Fj (Aa (Ab 2) Ae) [some (.ref 0),some (.int n),some (.int c),some (.ref 1),z4,z5,z6] [some [.int x',.int y,.int z'],some (Ei ss)]=some ((upD 0 c,[]),[some [.int x',.int y,.int z'],some (Ei ss)]):=O4 _ (by simp[Aq,BZ,Al,-U0c,-U0e];rfl) (by simp) (by omega) (by omega)
  unfold Od Cw
  rw[e]
  simp only[U0a]
  exact gb (by simp) c _ (by omega) fun k hk=>⟨_,Cr _ _ _,by
   have:=kW ss k c hk (by omega) (fun s h=>(hs s h).len) [some [.int x',.int y,.int z'],some (Ei ss)] rfl
   rw[Eu,Al,DQ]
   show(((Lk [some (.int k),some (.ref 1)] [some [.int x',.int y,.int z'],some (Ei ss)]).bind _).bind _).bind _=_
   rw[this]
   simp[BZ,Gn,Vu,VS.listOf,CJ,U0o,-U0c,-U0e,Af]⟩
 refine⟨(U0g c).map (fun k=>ss.map fun s=>s.getD k (0,0)),x',z',?_,by simp,fun b hb=>?_⟩
 .unfold Gu
  rw[Nh]
  simp only[U0j,U05,U0m,U08,U1i,U1j,U0o,U06,U11,U1n,if_true]
  unfold Ut
  rw[BP s1,BP l1,Cg,DQ,c3]
  have hf:Ay ((U0g c).map fun k=>Af (ss.map fun s=>s.getD k (0,0)))=true:=Ca (HW _ fun k _=>Jg _)
  simp only[U0a,List.getElem?_cons_zero]
  rw[show([D.int x',.int y,.int z']:List D)=([x',y,z'].map D.int) from rfl,Jm]
  show U2g _ (den 1 _ (.lst true _))=_
  rw[den,Ce 1 _ hf,U0c];rfl
 .obtain⟨k,hk,rfl⟩:=U2o.mp hb
  have hk':=U2h.mp hk
  refine⟨by simpa using hl,fun p hp=>?_⟩
  obtain⟨s,h1,rfl⟩:=U2o.mp hp
  have hs1:=hs s h1
  have hlt:k<s.length:=by rw[hs1.len];exact hk'
  rw[U0h,U0i hlt]
  exact hs1.all _ (U1s hlt)
end W13
end
section
namespace W13
open PySem L2 VS
structure Mk(m:Nat)(ms:List Int):Prop where
 rise:ms.Pairwise (·<·)
 len:ms.length=m+1
 near:∀x∈ms,-1000000000<=x/\x<=1000000000
theorem S9{n:Nat}:ixN (n+1) (-1)=some n:=by
 unfold ixN
 rw[if_neg (by omega),if_pos (by omega)]
 congr 1
 omega
theorem SN{α:Type}(l:List α)(a:α):atI (l++[a]) (-1)=some a:=by
 unfold atI
 rw[U0r,U0j,U05,S9,U0a]
 simp
theorem qR(x y z:Int)(m:Nat)(st hr:Int)(hm:m<=40)(h0:0<st)(h1:st<=1000000000)(pre:List Int)(l:Int)(i:Nat)(hi:pre.length=i)(hl2:i<=100)(hl:l<=1000000000-200-m+i-1):∃(v x' z':Int),l<v/\v<=1000000000-200-m+i /\
  N8 [some (.ref 0),some (.int m),some (.int st),some (.int hr),some (.ref 1),some (.int i)] [some [.int x,.int y,.int z],some ((pre++[l]).map .int)]=some (.nx,[some (.ref 0),some (.int m),some (.int st),some (.int hr),some (.ref 1),some (.int i)],[some [.int x',.int y,.int z'],some ((pre++[l]++[v]).map .int)]):=by
 obtain⟨t,x',z',e1,t0,t1⟩:=Fq x y z st h0 (by omega)
 obtain⟨v,hv⟩:∃v:Int,v=(if (1000000000:Int)-200-m+i<l+1+t then (1000000000:Int)-200-m+i else l+1+t):=⟨_,rfl⟩
 refine⟨v,x',z',by rw[hv];split<;>omega,by rw[hv];split<;>omega,?_⟩
 have ha:atI ((pre++[l]).map D.int) (-1)=some (.int l):=by
  rw[U09];exact SN _ _
 have i1:eOp oIx (Ab 4) (eUn Ga (eC (.int 1))) [some (.ref 0),some (.int m),some (.int st),some (.int hr),some (.ref 1),some (.int i)] [some [.int x,.int y,.int z],some ((pre++[l]).map .int)]=some (.int l,[some [.int x,.int y,.int z],some ((pre++[l]).map .int)]):=by
  have v4:Ab 4 [some (.ref 0),some (.int m),some (.int st),some (.int hr),some (.ref 1),some (.int i)] [some [.int x,.int y,.int z],some ((pre++[l]).map .int)]=some (.ref 1,[some [.int x,.int y,.int z],some ((pre++[l]).map .int)]):=rfl
  rw[BJ,v4,U0a]
  show((some (oIx [some [.int x,.int y,.int z],some ((pre++[l]).map .int)] (.ref 1) (.int (-1)))).bind _)=_
  show U2g _ (atI ((pre++[l]).map D.int) (-1))=_
  rw[ha];rfl
 have t2:Bl Ao (Aa (Ab 0) (Aa (Ab 2) Ae)) [some (.ref 0),some (.int m),some (.int st),some (.int hr),some (.ref 1),some (.int i)] [some [.int x,.int y,.int z],some ((pre++[l]).map .int)]=some (.int t,[some [.int x',.int y,.int z'],some ((pre++[l]).map .int)]) :=
  Jk (ns:=[x,y,z]) (rest:=[.int st]) (es:=[.int st]) (i:=0) (S':=[some [.int x,.int y,.int z],some ((pre++[l]).map .int)]) rfl rfl (by simp[Ay,BW]) (by simp[Bj,age]) e1
 have k1:eOp Dl (eOp Dw (eOp Dw (eOp GZ (eC (.int 10)) (eC (.int 9))) (eC (.int 200))) (Ab 1)) (Ab 5) [some (.ref 0),some (.int m),some (.int st),some (.int hr),some (.ref 1),some (.int i)] [some [.int x',.int y,.int z'],some ((pre++[l]).map .int)]=some (.int (1000000000-200-m+i),[some [.int x',.int y,.int z'],some ((pre++[l]).map .int)]):=by simp[Aq,CT,BJ,oI,Hx,Pq,Dl,Dw,GZ,VS.listOf,-U0c,-U0e]
 unfold N8
 rw[Gk,Ja (d:=.ref 1) (cs:=(pre++[l]).map .int) (ds:=[.int v]) (r:=.non) (S1:=[some [.int x,.int y,.int z],some ((pre++[l]).map .int)]) (S2:=[some [.int x',.int y,.int z'],some ((pre++[l]).map .int)]) (S3:=[some [.int x',.int y,.int z'],some ((pre++[l]++[v]).map .int)]) rfl rfl (by
  rw[Al,Eu,Al,BJ,BJ,i1,U0a,CT,U0a]
  show((((some (D.int (l+1),_):Option (D×Store)).bind _).bind _).bind _).bind _=_
  rw[U0a,t2,U0a]
  show(((some (D.int (l+1+t),_):Option (D×Store)).bind _).bind _).bind _=_
  rw[U0a,Al,k1,hv]
  rfl) (by
  show(if ((pre++[l]).map D.int).length<1000000 then some (D.non,[some [.int x',.int y,.int z'],some ((pre++[l]).map D.int++[D.int v])]) else none)=_
  rw[if_pos (by simp;omega),U09 (l₁:=pre++[l])]
  rfl)]
 rfl
end W13
end
section
namespace W13
open PySem L2 VS
theorem uc(x y z:Int)(m:Nat)(st hr:Int)(hm:m<=40)(h0:0<st)(h1:st<=1000000000)(hr0:-1000000000<=hr)(hr1:hr<=0):∃(pre:List Int)(l x' z':Int)(z5:Option D),
  QT [some (.ref 0),some (.int m),some (.int st),some (.int hr),some (.ref 1),none] [some [.int x,.int y,.int z],some [.int hr]]=some (.nx,[some (.ref 0),some (.int m),some (.int st),some (.int hr),some (.ref 1),z5],[some [.int x',.int y,.int z'],some ((pre++[l]).map .int)]) /\
  pre.length=m/\(pre++[l]).Pairwise (·<·)/\(∀e∈pre++[l],-1000000000<=e)/\l<=1000000000-201:=by
 have e:Fj (Aa (Ab 1) Ae) [some (.ref 0),some (.int m),some (.int st),some (.int hr),some (.ref 1),none] [some [.int x,.int y,.int z],some [.int hr]]=some ((upD 0 m,[]),[some [.int x,.int y,.int z],some [.int hr]]):=O4 _ (by simp[Aq,BZ,Al,-U0c,-U0e];rfl) (by simp) (by omega) (by omega)
 obtain⟨env',S',e2,pre,l,x',z',z5,he,hS,hl,hp,hb,hq⟩:=Ep (w:=[]) (g:=Pat.sem (.nm 5)) (b:=N8) (ds:=upD 0 m) (env:=[some (.ref 0),some (.int m),some (.int st),some (.int hr),some (.ref 1),none]) (S:=[some [.int x,.int y,.int z],some [.int hr]])
  (fun i env S=>∃(pre:List Int)(l x' z':Int)(z5:Option D),env=[some (.ref 0),some (.int m),some (.int st),some (.int hr),some (.ref 1),z5]/\S=[some [.int x',.int y,.int z'],some ((pre++[l]).map .int)]/\pre.length=min i m/\(pre++[l]).Pairwise (·<·)/\(∀e∈pre++[l],-1000000000<=e)/\l<=1000000000-200-m+(min i m:Nat)-1)
  ⟨[],hr,x,z,none,rfl,rfl,by simp,by simp,by simpa using hr0,by simp;omega⟩ (fun i env S _=>by simp) (fun i d env S hd q=>by
   obtain⟨pre,l,x',z',z5,he,hS,hl,hp,hb,hq⟩:=q
   obtain⟨hi,rfl⟩:=RV hd
   subst he hS
   have hi':min i m=i:=by omega
   rw[hi'] at hl hq
   obtain⟨v,x2,z2,v1,v2,e3⟩:=qR x' y z' m st hr hm h0 h1 pre l i hl (by omega) hq
   rw[U5z]
   refine⟨_,Cr _ _ _,_,_,e3,pre++[l],v,x2,z2,_,rfl,rfl,by simp;omega,?_,?_,?_⟩
   .refine U31.mpr ⟨hp,by simp,fun a ha b hb'=>?_⟩
    rw[U07.mp hb']
    rcases U12.mp ha with q|q
    .have:=(U31.mp hp).2.2 a q l (by simp);omega
    .rw[U07.mp q];exact v1
   .intro e he
    rcases U12.mp he with q|q
    .exact hb e q
    .rw[U07.mp q]
     have:=hb l (by simp);omega
   .have:min (i+1) m=i+1:=by omega
    rw[this];omega)
 rw[Pb,U50] at hl hq
 subst he hS
 refine⟨pre,l,x',z',z5,?_,hl,hp,hb,by omega⟩
 unfold QT
 rw[Fg,e]
 exact e2
theorem qQ(x y z:Int)(m:Nat)(h1:8<=m)(h2:m<=40):∃(ms:List Int)(x' z':Int),Ho [x,y,z] [.int m]=some (.lst true (ms.map .int),[x',y,z'])/\Mk m ms:=by
 obtain⟨r1,x1,z1,e1,p1,p2⟩:=Fq x y z 3 (by decide) (by decide)
 obtain⟨st,f1,st0,st1⟩:∃st:Int,atI [D.int 1,D.int 3,D.int (1000000000/(m:Int))] r1=some (.int st)/\0<st/\st<=1000000000:=by
  have:r1=0∨r1=1∨r1=2:=by omega
  rcases this with rfl|rfl|rfl
  .exact⟨1,by simp,by decide,by decide⟩
  .exact⟨3,by simp,by decide,by decide⟩
  .refine⟨1000000000/(m:Int),by simp,?_,Int.ediv_le_self _ (by decide)⟩
   have:(1:Int)<=1000000000/(m:Int):=(Int.le_ediv_iff_mul_le (by omega)).mpr (by omega)
   omega
 obtain⟨r2,x2,z2,e2,q1,q2⟩:=Fq x1 y z1 10 (by decide) (by decide)
 obtain⟨r3,x3,z3,e3,q3,q4⟩:=Fq x2 y z2 3 (by decide) (by decide)
 obtain⟨hr,f2,hr0,hr1⟩:∃hr:Int,atI [D.int 0,D.int (0-r2),D.int (-1000000000)] r3=some (.int hr)/\-1000000000<=hr/\hr<=0:=by
  have:r3=0∨r3=1∨r3=2:=by omega
  rcases this with rfl|rfl|rfl
  .exact⟨0,by simp,by decide,by decide⟩
  .exact⟨0-r2,by simp,by omega,by omega⟩
  .exact⟨-1000000000,by simp,by decide,by decide⟩
 obtain⟨pre,l,x4,z4,z5,e4,hl,hp,hb,hq⟩:=uc x3 y z3 m st hr h2 st0 st1 hr0 hr1
 obtain⟨r5,x5,z5',e5,_,_⟩:=Fq x4 y z4 3 (by decide) (by decide)
 have hm0:(0:Int)<m:=by omega
 have hm1:(m:Int)<18446744073709551616:=by omega
 have hmN:0<m:=by omega
 have s1:(Bk 2 (eOp oIx (Bt (Aa (eC (.int 1)) (Aa (eC (.int 3)) (Aa (eOp oDiv (eOp GZ (eC (.int 10)) (eC (.int 9))) (Ab 1)) Ae)))) (Bl Ao (Aa (Ab 0) (Aa (eC (.int 3)) Ae))))) [some (.ref 0),some (.int m),none,none,none,none] [some [.int x,.int y,.int z]]=some (.nx,[some (.ref 0),some (.int m),some (.int st),none,none,none],[some [.int x1,.int y,.int z1]]):=by
  simp[CW,Aq,CT,BJ,BZ,Al,DQ,OD,oI,Vt,Pq,oDiv,GZ,oIx,VS.listOf,CJ,intsOf,den,DW,age,Bj,BW,Ay,-U0c,-U0e,e1,f1,hmN,hm1]
 have s2:(Bk 3 (eOp oIx (Bt (Aa (eC (.int 0)) (Aa (eOp Dw (eC (.int 0)) (Bl Ao (Aa (Ab 0) (Aa (eC (.int 10)) Ae)))) (Aa (eOp Dw (eC (.int 0)) (eOp GZ (eC (.int 10)) (eC (.int 9)))) Ae)))) (Bl Ao (Aa (Ab 0) (Aa (eC (.int 3)) Ae))))) [some (.ref 0),some (.int m),some (.int st),none,none,none] [some [.int x1,.int y,.int z1]]=some (.nx,[some (.ref 0),some (.int m),some (.int st),some (.int hr),none,none],[some [.int x3,.int y,.int z3]]):=by
  rw[Int.zero_sub] at f2
  simp[CW,Aq,CT,BJ,BZ,Al,DQ,OD,oI,Hx,Pq,Dw,GZ,oIx,VS.listOf,CJ,intsOf,den,DW,age,Bj,BW,Ay,-U0c,-U0e,e2,e3,f2]
 have s3:(Bk 4 (Gs (Aa (Ab 3) Ae))) [some (.ref 0),some (.int m),some (.int st),some (.int hr),none,none] [some [.int x3,.int y,.int z3]]=some (.nx,[some (.ref 0),some (.int m),some (.int st),some (.int hr),some (.ref 1),none],[some [.int x3,.int y,.int z3],some [.int hr]]):=by simp[CW,Aq,BZ,Al,Pk,-U0c,-U0e]
 have t5:∀(a:List D)(c:Int)(x y z x' z' r:Int),Ao [x,y,z] [.int c]=some (.int r,[x',y,z'])->BK (eOp (oEq false) (Bl Ao (Aa (Ab 0) (Aa (eC (.int c)) Ae))) (eC (.int 0))) [some (.ref 0),some (.int m),some (.int st),some (.int hr),some (.ref 1),z5] [some [.int x,.int y,.int z],some a]=some (decide (r=0),[some [.int x',.int y,.int z'],some a]):=fun a c x y z x' z' r h=>by
  have t2:Bl Ao (Aa (Ab 0) (Aa (eC (.int c)) Ae)) [some (.ref 0),some (.int m),some (.int st),some (.int hr),some (.ref 1),z5] [some [.int x,.int y,.int z],some a]=some (.int r,[some [.int x',.int y,.int z'],some a]) :=
   Jk (ns:=[x,y,z]) (rest:=[.int c]) (es:=[.int c]) (i:=0) (S':=[some [.int x,.int y,.int z],some a]) rfl rfl (by simp[Ay,BW]) (by simp[Bj,age]) h
  rw[DP,BJ,t2,U0a]
  simp[CT,oEq,-U0c,-U0e]
 obtain⟨l',hl',s4⟩:∃l':Int,(l'=l∨l'=1000000000)/\(sIf (BK (eOp (oEq false) (Bl Ao (Aa (Ab 0) (Aa (eC (.int 3)) Ae))) (eC (.int 0)))) (Ij (eOp GZ (eC (.int 10)) (eC (.int 9))) (Ab 4) (eUn Ga (eC (.int 1)))) Ed) [some (.ref 0),some (.int m),some (.int st),some (.int hr),some (.ref 1),z5] [some [.int x4,.int y,.int z4],some ((pre++[l]).map .int)]=some (.nx,[some (.ref 0),some (.int m),some (.int st),some (.int hr),some (.ref 1),z5],[some [.int x5,.int y,.int z5'],some ((pre++[l']).map .int)]):=by
  have ts:=t5 ((pre++[l]).map .int) 3 x4 y z4 x5 z5' r5 e5
  by_cases h:r5=0
  .rw[decide_eq_true h] at ts
   refine⟨1000000000,.inr rfl,?_⟩
   rw[KQ ts,Je]
   have p9:=pow10 9 (by decide) [some (.ref 0),some (.int m),some (.int st),some (.int hr),some (.ref 1),z5] [some [.int x5,.int y,.int z5'],some ((pre++[l]).map .int)]
   have hx:ixN ((pre++[l]).map D.int).length (-1)=some pre.length:=by
    rw[U0k,U0r];exact S9
   refine(congrArg (fun z=>Option.bind z _) p9).trans ?_
   show(ixN ((pre++[l]).map D.int).length (-1)).bind _=_
   rw[hx]
   show some (Fl.nx,_,[some [.int x5,.int y,.int z5'],some (((pre++[l]).map D.int).set pre.length (.int (10^9)))])=_
   rw[U09,U09,U6n _ _ (by simp)]
   simp
  .rw[decide_eq_false h] at ts
   exact⟨l,.inl rfl,by rw[Hi ts];rfl⟩
 have hp':(pre++[l']).Pairwise (·<·):=by
  obtain⟨a1,_,a3⟩:=U31.mp hp
  refine U31.mpr ⟨a1,by simp,fun a ha b hb'=>?_⟩
  rw[U07.mp hb']
  have:=a3 a ha l (by simp)
  rcases hl' with h|h<;>omega
 have hn':∀e∈pre++[l'],-1000000000<=e/\e<=1000000000:=fun e he=>by
  rcases U12.mp he with q|q
  .have:=hb e (U3y _ q)
   have:=(U31.mp hp).2.2 e q l (by simp)
   omega
  .rw[U07.mp q]
   have:=hb l (by simp)
   rcases hl' with h|h<;>omega
 have len':(pre++[l']).length=m+1:=by simp[hl]
 generalize pre++[l']=ms at *
 obtain⟨r6,x6,z6,e6,_,_⟩:=Fq x5 y z5' 6 (by decide) (by decide)
 obtain⟨ns,hns,s5⟩:∃ns:List Int,Mk m ns/\(sIf (BK (eOp (oEq false) (Bl Ao (Aa (Ab 0) (Aa (eC (.int 6)) Ae))) (eC (.int 0)))) (Ij (eOp Dw (eC (.int 0)) (eOp GZ (eC (.int 10)) (eC (.int 9)))) (Ab 4) (eC (.int 0))) Ed) [some (.ref 0),some (.int m),some (.int st),some (.int hr),some (.ref 1),z5] [some [.int x5,.int y,.int z5'],some (ms.map .int)]=some (.nx,[some (.ref 0),some (.int m),some (.int st),some (.int hr),some (.ref 1),z5],[some [.int x6,.int y,.int z6],some (ns.map .int)]):=by
  have ts:=t5 (ms.map .int) 6 x5 y z5' x6 z6 r6 e6
  by_cases h:r6=0
  .rw[decide_eq_true h] at ts
   cases ms with
   |nil=>simp at len'
   |cons a r =>
    refine⟨-1000000000::r,⟨?_,by simpa using len',fun e he=>?_⟩,?_⟩
    .obtain⟨a1,a2⟩:=U2x.mp hp'
     refine U2x.mpr ⟨fun b hb'=>?_,a2⟩
     have:=a1 b hb'
     have:=hn' a U0x
     omega
    .rcases U00.mp he with q|q
     .omega
     .exact hn' e (U0p _ q)
    .have w1:eOp Dw (eC (.int 0)) (eOp GZ (eC (.int 10)) (eC (.int 9))) [some (.ref 0),some (.int m),some (.int st),some (.int hr),some (.ref 1),z5] [some [.int x6,.int y,.int z6],some ((a::r).map .int)]=some (.int (-1000000000),[some [.int x6,.int y,.int z6],some ((a::r).map .int)]):=by simp[CT,BJ,oI,Hx,Pq,Dw,GZ,-U0c,-U0e]
     rw[KQ ts,Je,w1]
     show(ixN ((a::r).map D.int).length 0).bind _=_
     rw[U0m,U0j,sJ]
     rfl
  .rw[decide_eq_false h] at ts
   exact⟨ms,⟨hp',len',hn'⟩,by rw[Hi ts];rfl⟩
 refine⟨ns,x6,z6,?_,hns⟩
 unfold Ho
 rw[Nh]
 simp only[U0j,U05,U0m,U08,U1i,U1j,U0o,U06,U11,U1n,if_true]
 unfold Vk
 rw[BP s1,BP s2,BP s3,BP e4,BP s4,BP s5]
 simp[Cg,Aq,intsOf,den,-U0c,-U0e]
end W13
end
section
namespace W13
open PySem L2 VS
theorem at2(a b c:Option (List D))(R:Store):(a::b::(R++[c]))[R.length+2]?=some c:=by
 show(R++[c])[R.length]?=some c
 exact Vr R c []
theorem put2(a b c d:Option (List D))(R:Store):(a::b::(R++[c])).set (R.length+2) d=a::b::(R++[d]):=by
 show a::b::(R++[c]).set R.length d=_
 rw[ni R c d []]
theorem Nf{x y z c r x' z':Int}{a:BX}{env:VS.Env}{S:Store}(h:Ao [x,y,z] [.int c]=some (.int r,[x',y,z']))(h0:env[0]?=some (some (.ref 0)))(ha:a env (some [.int x,.int y,.int z]::S)=some (.int c,some [.int x,.int y,.int z]::S)):Bl Ao (Aa (Ab 0) (Aa a Ae)) env (some [.int x,.int y,.int z]::S)=some (.int r,some [.int x',.int y,.int z']::S):=by
 have v0:Ab 0 env (some [.int x,.int y,.int z]::S)=some (.ref 0,some [.int x,.int y,.int z]::S):=by rw[Aq,h0];rfl
 exact Jk (ns:=[x,y,z]) (rest:=[.int c]) (es:=[.int c]) (i:=0) (S':=some [.int x,.int y,.int z]::S) (by rw[Al,v0,U0a,Al,ha];rfl) rfl (by simp[Ay,BW]) (by simp[Bj,age]) h
theorem pO(x y z:Int)(e1 e2 e3 e4 z7 z9 z10 z11 z12:Option D)(wd:Int)(h0:0<wd)(h1:wd<=40)(f:List D)(R:Store)(bx:List St2)(hb:bx.length<=3):∃(p:St2)(x' z':Int),(0<=p.1/\p.1<p.2/\p.2<=wd) /\
  N5 [some (.ref 0),e1,e2,e3,e4,some (.int wd),some (.ref 1),z7,some (.ref (R.length+2)),z9,z10,z11,z12] (some [.int x,.int y,.int z]::some f::(R++[some (bx.map Av)]))=some (.nx,[some (.ref 0),e1,e2,e3,e4,some (.int wd),some (.ref 1),z7,some (.ref (R.length+2)),z9,some (.int p.1),z11,z12],some [.int x',.int y,.int z']::some f::(R++[some ((bx++[p]).map Av)])):=by
 obtain⟨lo,x1,z1,t1,l0,l1⟩:=Fq x y z wd h0 (by omega)
 obtain⟨u,x2,z2,t2,u0,u1⟩:=Fq x1 y z1 (wd-lo) (by omega) (by omega)
 obtain⟨r,x3,z3,t3,r0,r1⟩:=Fq x2 y z2 2 (by decide) (by decide)
 obtain⟨k,f1,k0,k1⟩:∃k:Int,atI [D.int 0,D.int u] r=some (.int k)/\0<=k/\k<wd-lo:=by
  have:r=0∨r=1:=by omega
  rcases this with rfl|rfl
  .exact⟨0,by simp,by decide,by omega⟩
  .exact⟨u,by simp,u0,u1⟩
 refine⟨(lo,lo+1+k),x3,z3,⟨l0,by show lo<lo+1+k;omega,by show lo+1+k<=wd;omega⟩,?_⟩
 have s1:(Bk 10 (Bl Ao (Aa (Ab 0) (Aa (Ab 5) Ae)))) [some (.ref 0),e1,e2,e3,e4,some (.int wd),some (.ref 1),z7,some (.ref (R.length+2)),z9,z10,z11,z12] (some [.int x,.int y,.int z]::some f::(R++[some (bx.map Av)]))=some (.nx,[some (.ref 0),e1,e2,e3,e4,some (.int wd),some (.ref 1),z7,some (.ref (R.length+2)),z9,some (.int lo),z11,z12],some [.int x1,.int y,.int z1]::some f::(R++[some (bx.map Av)])):=by
  rw[CW,Nf t1 rfl rfl];rfl
 have q2:Bl Ao (Aa (Ab 0) (Aa (eOp Dw (Ab 5) (Ab 10)) Ae)) [some (.ref 0),e1,e2,e3,e4,some (.int wd),some (.ref 1),z7,some (.ref (R.length+2)),z9,some (.int lo),z11,z12] (some [.int x1,.int y,.int z1]::some f::(R++[some (bx.map Av)]))=some (.int u,some [.int x2,.int y,.int z2]::some f::(R++[some (bx.map Av)])):=Nf t2 rfl rfl
 have q3:Bl Ao (Aa (Ab 0) (Aa (eC (.int 2)) Ae)) [some (.ref 0),e1,e2,e3,e4,some (.int wd),some (.ref 1),z7,some (.ref (R.length+2)),z9,some (.int lo),z11,z12] (some [.int x2,.int y,.int z2]::some f::(R++[some (bx.map Av)]))=some (.int r,some [.int x3,.int y,.int z3]::some f::(R++[some (bx.map Av)])):=Nf t3 rfl rfl
 have q4:eOp oIx (Bt (Aa (eC (.int 0)) (Aa (Bl Ao (Aa (Ab 0) (Aa (eOp Dw (Ab 5) (Ab 10)) Ae))) Ae))) (Bl Ao (Aa (Ab 0) (Aa (eC (.int 2)) Ae))) [some (.ref 0),e1,e2,e3,e4,some (.int wd),some (.ref 1),z7,some (.ref (R.length+2)),z9,some (.int lo),z11,z12] (some [.int x1,.int y,.int z1]::some f::(R++[some (bx.map Av)]))=some (.int k,some [.int x3,.int y,.int z3]::some f::(R++[some (bx.map Av)])):=by
  rw[BJ,DQ,Al,CT,U0a,Al,q2,U0a,BZ,U0a]
  simp only[U0a]
  rw[q3,U0a]
  show U2g _ (atI [D.int 0,D.int u] r)=_
  rw[f1];rfl
 have v10:∀S:Store,Ab 10 [some (.ref 0),e1,e2,e3,e4,some (.int wd),some (.ref 1),z7,some (.ref (R.length+2)),z9,some (.int lo),z11,z12] S=some (.int lo,S):=fun S=>rfl
 unfold N5
 rw[BP s1,Gk,Ja (d:=.ref (R.length+2)) (cs:=bx.map Av) (ds:=[Av (lo,lo+1+k)]) (r:=.non) (S1:=some [.int x1,.int y,.int z1]::some f::(R++[some (bx.map Av)])) (S2:=some [.int x3,.int y,.int z3]::some f::(R++[some (bx.map Av)])) (S3:=some [.int x3,.int y,.int z3]::some f::(R++[some ((bx++[(lo,lo+1+k)]).map Av)])) (by rw[Aq];simp[at2]) (by rw[VS.listOf,at2];rfl) (by
  rw[Al,Ia,Al,v10,U0a,Al,BJ,BJ,v10,U0a,CT,U0a]
  show(((((some (D.int (lo+1),_):Option (D×Store)).bind _).bind _).bind _).bind _).bind _=_
  rw[U0a,q4]
  rfl) (by
  unfold Fw
  simp only[at2]
  rw[if_pos (by rw[U0k];omega),put2,U09]
  rfl)]
 rfl
end W13
end
section
namespace W13
open PySem L2 VS
theorem pN(x y z:Int)(n:Nat)(hn:n<=3)(e2 e3 e4 z7 z8 z9 z10 z11 z12:Option D)(wd:Int)(h0:0<wd)(h1:wd<=40)(bs:List (List St2))(hbs:bs.length<=100)(R:Store):∃(b:List St2)(x' z':Int)(R':Store)(y8 y9 y10:Option D),Sm n wd b /\
  Mz [some (.ref 0),some (.int n),e2,e3,e4,some (.int wd),some (.ref 1),z7,z8,z9,z10,z11,z12] (some [.int x,.int y,.int z]::some (bs.map Af)::R)=some (.nx,[some (.ref 0),some (.int n),e2,e3,e4,some (.int wd),some (.ref 1),z7,y8,y9,y10,z11,z12],some [.int x',.int y,.int z']::some ((bs++[b]).map Af)::R'):=by
 have s1:(Bk 8 (Gs Ae)) [some (.ref 0),some (.int n),e2,e3,e4,some (.int wd),some (.ref 1),z7,z8,z9,z10,z11,z12] (some [.int x,.int y,.int z]::some (bs.map Af)::R)=some (.nx,[some (.ref 0),some (.int n),e2,e3,e4,some (.int wd),some (.ref 1),z7,some (.ref (R.length+2)),z9,z10,z11,z12],some [.int x,.int y,.int z]::some (bs.map Af)::(R++[some (([]:List St2).map Av)])):=rfl
 have e:Fj (Aa (Ab 1) Ae) [some (.ref 0),some (.int n),e2,e3,e4,some (.int wd),some (.ref 1),z7,some (.ref (R.length+2)),z9,z10,z11,z12] (some [.int x,.int y,.int z]::some (bs.map Af)::(R++[some (([]:List St2).map Av)]))=some ((upD 0 n,[]),some [.int x,.int y,.int z]::some (bs.map Af)::(R++[some (([]:List St2).map Av)])):=O4 _ rfl (by simp) (by omega) (by omega)
 obtain⟨env',S',e5,bx,x',z',y9,y10,he,hS,hl,hb⟩:=Ep (w:=[]) (g:=Pat.sem (.nm 9)) (b:=N5) (ds:=upD 0 n) (env:=[some (.ref 0),some (.int n),e2,e3,e4,some (.int wd),some (.ref 1),z7,some (.ref (R.length+2)),z9,z10,z11,z12]) (S:=some [.int x,.int y,.int z]::some (bs.map Af)::(R++[some (([]:List St2).map Av)]))
  (fun i env S=>∃(bx:List St2)(x' z':Int)(y9 y10:Option D),env=[some (.ref 0),some (.int n),e2,e3,e4,some (.int wd),some (.ref 1),z7,some (.ref (R.length+2)),y9,y10,z11,z12]/\S=some [.int x',.int y,.int z']::some (bs.map Af)::(R++[some (bx.map Av)])/\bx.length=min i n/\∀p∈bx,0<=p.1/\p.1<p.2/\p.2<=wd)
  ⟨[],x,z,z9,z10,rfl,rfl,by simp,fun p h=>by cases h⟩ (fun i env S _=>by simp) (fun i d env S hd q=>by
   obtain⟨bx,x',z',y9,y10,he,hS,hl,hb⟩:=q
   obtain⟨hi,rfl⟩:=RV hd
   subst he hS
   obtain⟨p,x2,z2,hp,e6⟩:=pO x' y z' (some (.int n)) e2 e3 e4 z7 (some (.int (0+i))) y10 z11 z12 wd h0 h1 (bs.map Af) R bx (by omega)
   refine⟨_,Cr _ _ _,_,_,e6,bx++[p],x2,z2,_,_,rfl,rfl,by simp;omega,fun q hq=>?_⟩
   rcases U12.mp hq with h|h
   .exact hb q h
   .rw[U07.mp h];exact hp)
 rw[Pb,U50] at hl
 subst he hS
 have l1:QM [some (.ref 0),some (.int n),e2,e3,e4,some (.int wd),some (.ref 1),z7,some (.ref (R.length+2)),z9,z10,z11,z12] (some [.int x,.int y,.int z]::some (bs.map Af)::(R++[some (([]:List St2).map Av)]))=some (.nx,[some (.ref 0),some (.int n),e2,e3,e4,some (.int wd),some (.ref 1),z7,some (.ref (R.length+2)),y9,y10,z11,z12],some [.int x',.int y,.int z']::some (bs.map Af)::(R++[some (bx.map Av)])):=by
  unfold QM
  rw[Fg,e]
  exact e5
 refine⟨bx,x',z',R++[some (bx.map Av)],some (.ref (R.length+2)),y9,y10,⟨hl,hb⟩,?_⟩
 unfold Mz
 rw[BP s1,BP l1,Gk,Ja (d:=.ref 1) (cs:=bs.map Af) (ds:=[Af bx]) (r:=.non) (S1:=some [.int x',.int y,.int z']::some (bs.map Af)::(R++[some (bx.map Av)])) (S2:=some [.int x',.int y,.int z']::some (bs.map Af)::(R++[some (bx.map Av)])) (S3:=some [.int x',.int y,.int z']::some ((bs++[bx]).map Af)::(R++[some (bx.map Av)])) rfl rfl (by
  have v8:Ab 8 [some (.ref 0),some (.int n),e2,e3,e4,some (.int wd),some (.ref 1),z7,some (.ref (R.length+2)),y9,y10,z11,z12] (some [.int x',.int y,.int z']::some (bs.map Af)::(R++[some (bx.map Av)]))=some (.ref (R.length+2),some [.int x',.int y,.int z']::some (bs.map Af)::(R++[some (bx.map Av)])):=by rw[Aq];simp[at2]
  rw[Al,Eu,Al,v8]
  simp[BZ,Vu,CJ,VS.listOf,at2,Af]) (by
  show(if (bs.map Af).length<1000000 then some (D.non,some [.int x',.int y,.int z']::some (bs.map Af++[Af bx])::(R++[some (bx.map Av)])) else none)=_
  rw[if_pos (by rw[U0k];omega),U09]
  rfl)]
 rfl
theorem pK(x y z:Int)(n c:Nat)(hn:n<=3)(hc:c<=20)(e2 e3:Option D)(wd:Int)(h0:0<wd)(h1:wd<=40):∃(bs:List (List St2))(x' z':Int)(R':Store)(y7 y8 y9 y10:Option D),bs.length=c/\(∀b∈bs,Sm n wd b) /\
  QL [some (.ref 0),some (.int n),e2,e3,some (.int c),some (.int wd),some (.ref 1),none,none,none,none,none,none] [some [.int x,.int y,.int z],some []]=some (.nx,[some (.ref 0),some (.int n),e2,e3,some (.int c),some (.int wd),some (.ref 1),y7,y8,y9,y10,none,none],some [.int x',.int y,.int z']::some (bs.map Af)::R'):=by
 have e:Fj (Aa (Ab 4) Ae) [some (.ref 0),some (.int n),e2,e3,some (.int c),some (.int wd),some (.ref 1),none,none,none,none,none,none] [some [.int x,.int y,.int z],some []]=some ((upD 0 c,[]),[some [.int x,.int y,.int z],some []]):=O4 _ rfl (by simp) (by omega) (by omega)
 obtain⟨env',S',e5,bs,x',z',R',y7,y8,y9,y10,he,hS,hl,hb⟩:=Ep (w:=[]) (g:=Pat.sem (.nm 7)) (b:=Mz) (ds:=upD 0 c) (env:=[some (.ref 0),some (.int n),e2,e3,some (.int c),some (.int wd),some (.ref 1),none,none,none,none,none,none]) (S:=[some [.int x,.int y,.int z],some []])
  (fun i env S=>∃(bs:List (List St2))(x' z':Int)(R':Store)(y7 y8 y9 y10:Option D),env=[some (.ref 0),some (.int n),e2,e3,some (.int c),some (.int wd),some (.ref 1),y7,y8,y9,y10,none,none]/\S=some [.int x',.int y,.int z']::some (bs.map Af)::R'/\bs.length=min i c/\∀b∈bs,Sm n wd b)
  ⟨[],x,z,[],none,none,none,none,rfl,rfl,by simp,fun p h=>by cases h⟩ (fun i env S _=>by simp) (fun i d env S hd q=>by
   obtain⟨bs,x',z',R',y7,y8,y9,y10,he,hS,hl,hb⟩:=q
   obtain⟨hi,rfl⟩:=RV hd
   subst he hS
   obtain⟨b,x2,z2,R2,w8,w9,w10,hb2,e6⟩:=pN x' y z' n hn e2 e3 (some (.int c)) (some (.int (0+i))) y8 y9 y10 none none wd h0 h1 bs (by omega) R'
   refine⟨_,Cr _ _ _,_,_,e6,bs++[b],x2,z2,R2,_,_,_,_,rfl,rfl,by simp;omega,fun q hq=>?_⟩
   rcases U12.mp hq with h|h
   .exact hb q h
   .rw[U07.mp h];exact hb2)
 rw[Pb,U50] at hl
 subst he hS
 refine⟨bs,x',z',R',y7,y8,y9,y10,hl,hb,?_⟩
 unfold QL
 rw[Fg,e]
 exact e5
end W13
end
section
namespace W13
open PySem L2 VS
theorem vo{α:Type}{F:α->D}(bs:List α){r:Int}(h0:0<=r):∃cs:List α,cut (bs.map F) none (some r)=cs.map F/\(cs.length:Int)<=r/\∀c∈cs,c∈bs:=by
 unfold cut
 rw[←U74,←U75]
 refine⟨_,rfl,?_,fun c hc=>List.mem_of_mem_drop (List.mem_of_mem_take hc)⟩
 rw[U19,U0k]
 have h1:HT.sIx bs.length 0 none=0:=rfl
 have h2:HT.sIx bs.length bs.length (some r)<=r.toNat:=by
  unfold HT.sIx
  simp only
  split<;>omega
 omega
def Hold(F:D)(T:Store)(bs:List (List St2)):Prop:=F=.lst true (bs.map Af)∨∃j,F=.ref (j+1)/\T[j]?=some (some (bs.map Af))
theorem Ry{a b:Fo}{env:VS.Env}{S:Store}{p q:Prop}[Decidable p][Decidable q](h1:a env S=some (decide p,S))(h2:b env S=some (decide q,S)):Ii a b env S=some (decide (p/\q),S):=by
 rw[Ng,h1,U0a]
 by_cases h:p
 .simp[h,h2]
 .simp[h]
theorem pI(x y z:Int)(n:Nat)(e2 e3 y7 y8 y9 y10 y12:Option D)(c:Nat)(hc:c<=20)(wd kind:Int)(bs:List (List St2))(hl:bs.length=c)(R:Store)(P:List St2->Prop)(hP:∀b∈bs,P b):∃(bs':List (List St2))(x' z':Int),bs'.length=c/\(∀b∈bs',P b) /\
  (sIf (Ii (BK (eOp (oEq false) (Ab 11) (eC (.int 1)))) (BK (eOp oGt (Ab 4) (eC (.int 1))))) (Ij (eOp oIx (Ab 6) (Bl Ao (Aa (Ab 0) (Aa (eOp Dw (Ab 4) (eC (.int 1))) Ae)))) (Ab 6) (eUn Ga (eC (.int 1)))) Ed) [some (.ref 0),some (.int n),e2,e3,some (.int c),some (.int wd),some (.ref 1),y7,y8,y9,y10,some (.int kind),y12] (some [.int x,.int y,.int z]::some (bs.map Af)::R) =
  some (.nx,[some (.ref 0),some (.int n),e2,e3,some (.int c),some (.int wd),some (.ref 1),y7,y8,y9,y10,some (.int kind),y12],some [.int x',.int y,.int z']::some (bs'.map Af)::R):=by
 have k1:BK (eOp (oEq false) (Ab 11) (eC (.int 1))) [some (.ref 0),some (.int n),e2,e3,some (.int c),some (.int wd),some (.ref 1),y7,y8,y9,y10,some (.int kind),y12] (some [.int x,.int y,.int z]::some (bs.map Af)::R)=some (decide (kind=1),some [.int x,.int y,.int z]::some (bs.map Af)::R):=by simp[Aq,CT,BJ,DP,oEq,-U0c,-U0e]
 have k2:BK (eOp oGt (Ab 4) (eC (.int 1))) [some (.ref 0),some (.int n),e2,e3,some (.int c),some (.int wd),some (.ref 1),y7,y8,y9,y10,some (.int kind),y12] (some [.int x,.int y,.int z]::some (bs.map Af)::R)=some (decide (1<(c:Int)),some [.int x,.int y,.int z]::some (bs.map Af)::R):=rfl
 have ts:Ii (BK (eOp (oEq false) (Ab 11) (eC (.int 1)))) (BK (eOp oGt (Ab 4) (eC (.int 1)))) [some (.ref 0),some (.int n),e2,e3,some (.int c),some (.int wd),some (.ref 1),y7,y8,y9,y10,some (.int kind),y12] (some [.int x,.int y,.int z]::some (bs.map Af)::R)=some (decide (kind=1/\1<(c:Int)),some [.int x,.int y,.int z]::some (bs.map Af)::R):=Ry k1 k2
 by_cases h:kind=1/\1<(c:Int)
 .rw[decide_eq_true h] at ts
  obtain⟨r,x',z',t1,r0,r1⟩:=Fq x y z ((c:Int)-1) (by omega) (by omega)
  have hr:r.toNat<bs.length:=by omega
  refine⟨bs.set (c-1) bs[r.toNat],x',z',by rw[U30];exact hl,fun b hb=>?_,?_⟩
  .rcases List.mem_or_eq_of_mem_set hb with q|q
   .exact hP b q
   .rw[q];exact hP _ (U1s hr)
  .have q1:eOp oIx (Ab 6) (Bl Ao (Aa (Ab 0) (Aa (eOp Dw (Ab 4) (eC (.int 1))) Ae))) [some (.ref 0),some (.int n),e2,e3,some (.int c),some (.int wd),some (.ref 1),y7,y8,y9,y10,some (.int kind),y12] (some [.int x,.int y,.int z]::some (bs.map Af)::R)=some (Af bs[r.toNat],some [.int x',.int y,.int z']::some (bs.map Af)::R):=by
    have v6:Ab 6 [some (.ref 0),some (.int n),e2,e3,some (.int c),some (.int wd),some (.ref 1),y7,y8,y9,y10,some (.int kind),y12] (some [.int x,.int y,.int z]::some (bs.map Af)::R)=some (.ref 1,some [.int x,.int y,.int z]::some (bs.map Af)::R):=rfl
    rw[BJ,v6,U0a,Nf t1 rfl rfl,U0a]
    show U2g _ (atI (bs.map Af) r)=_
    rw[kI (j:=r.toNat) (by omega) (by simpa using hr)]
    simp
   rw[KQ ts,Je,q1]
   show(ixN (bs.map Af).length (-1)).bind _=_
   have hx:ixN (bs.map Af).length (-1)=some (c-1):=by
    rw[U0k,hl,show c=(c-1)+1 by omega];exact S9
   rw[hx]
   show some (Fl.nx,_,some [.int x',.int y,.int z']::some ((bs.map Af).set (c-1) (Af bs[r.toNat]))::R)=_
   rw[←U8d]
 .rw[decide_eq_false h] at ts
  exact⟨bs,x,z,hl,hP,by rw[Hi ts];rfl⟩
theorem u5:∀b∈[[((0:Int),(3:Int)),(0,1)],[(0,3),(2,3)],[(0,1),(0,3)],[(2,3),(0,3)]],Sm 2 3 b:=by
 intro b hb
 simp only[U00,U1l,or_false] at hb
 rcases hb with rfl|rfl|rfl|rfl<;>exact⟨rfl,by decide⟩
theorem pH(x y z:Int)(n most:Nat)(h4:4<=most)(h20:most<=20)(e3 y7 y8 y9 y10 y12:Option D)(c:Nat)(wd kind:Int)(bs:List (List St2))(hl:bs.length<=most)(R:Store)(m:Int)(hm:3<=m)(hP:∀b∈bs,Sm n m b):∃(bs':List (List St2))(x' z':Int)(F:D)(w12:Option D),Hold F (some (bs.map Af)::R) bs'/\bs'.length<=most/\(∀b∈bs',Sm n m b) /\
  (sIf (Ii (BK (eOp (oEq false) (Ab 1) (eC (.int 2)))) (BK (eOp (oEq false) (Ab 11) (eC (.int 2)))))
  (Bh (Bk 12 (Bt (Aa (Bq (Aa (Bq (Aa (eC (.int 0)) (Aa (eC (.int 3)) Ae))) (Aa (Bq (Aa (eC (.int 0)) (Aa (eC (.int 1)) Ae))) Ae))) (Aa (Bq (Aa (Bq (Aa (eC (.int 0)) (Aa (eC (.int 3)) Ae))) (Aa (Bq (Aa (eC (.int 2)) (Aa (eC (.int 3)) Ae))) Ae))) (Aa (Bq (Aa (Bq (Aa (eC (.int 0)) (Aa (eC (.int 1)) Ae))) (Aa (Bq (Aa (eC (.int 0)) (Aa (eC (.int 3)) Ae))) Ae))) (Aa (Bq (Aa (Bq (Aa (eC (.int 2)) (Aa (eC (.int 3)) Ae))) (Aa (Bq (Aa (eC (.int 0)) (Aa (eC (.int 3)) Ae))) Ae))) Ae))))))
  (Bk 6 (eOp Dl (Ab 12) (eSl oSl (Ab 6) Ke (Kd (Bl Ao (Aa (Ab 0) (Aa (eOp Dw (Ab 2) (eC (.int 3))) Ae))))))))
  Ed) [some (.ref 0),some (.int n),some (.int most),e3,some (.int c),some (.int wd),some (.ref 1),y7,y8,y9,y10,some (.int kind),y12] (some [.int x,.int y,.int z]::some (bs.map Af)::R) =
  some (.nx,[some (.ref 0),some (.int n),some (.int most),e3,some (.int c),some (.int wd),some F,y7,y8,y9,y10,some (.int kind),w12],some [.int x',.int y,.int z']::some (bs.map Af)::R):=by
 have k1:BK (eOp (oEq false) (Ab 1) (eC (.int 2))) [some (.ref 0),some (.int n),some (.int most),e3,some (.int c),some (.int wd),some (.ref 1),y7,y8,y9,y10,some (.int kind),y12] (some [.int x,.int y,.int z]::some (bs.map Af)::R)=some (decide ((n:Int)=2),some [.int x,.int y,.int z]::some (bs.map Af)::R):=by simp[Aq,CT,BJ,DP,oEq,-U0c,-U0e]
 have k2:BK (eOp (oEq false) (Ab 11) (eC (.int 2))) [some (.ref 0),some (.int n),some (.int most),e3,some (.int c),some (.int wd),some (.ref 1),y7,y8,y9,y10,some (.int kind),y12] (some [.int x,.int y,.int z]::some (bs.map Af)::R)=some (decide (kind=2),some [.int x,.int y,.int z]::some (bs.map Af)::R):=by simp[Aq,CT,BJ,DP,oEq,-U0c,-U0e]
 have ts:=Ry k1 k2
 by_cases h:(n:Int)=2/\kind=2
 .rw[decide_eq_true h] at ts
  have hn:n=2:=by omega
  obtain⟨r,x',z',t1,r0,r1⟩:=Fq x y z ((most:Int)-3) (by omega) (by omega)
  obtain⟨cs,c1,c2,c3⟩:=vo (F:=Af) bs r0
  refine⟨[[((0:Int),(3:Int)),(0,1)],[(0,3),(2,3)],[(0,1),(0,3)],[(2,3),(0,3)]]++cs,x',z',.lst true (([[((0:Int),(3:Int)),(0,1)],[(0,3),(2,3)],[(0,1),(0,3)],[(2,3),(0,3)]]++cs).map Af),some (.lst true ([[((0:Int),(3:Int)),(0,1)],[(0,3),(2,3)],[(0,1),(0,3)],[(2,3),(0,3)]].map Af)),.inl rfl,by simp;omega,fun b hb=>?_,?_⟩
  .rcases U12.mp hb with q|q
   .have:=u5 b q
    exact⟨by rw[hn];exact this.len,fun p hp=>by have:=this.all p hp;omega⟩
   .exact hP b (c3 b q)
  .rw[KQ ts]
   have s1:∀a:Bm,(a=(Aa (Bq (Aa (Bq (Aa (eC (.int 0)) (Aa (eC (.int 3)) Ae))) (Aa (Bq (Aa (eC (.int 0)) (Aa (eC (.int 1)) Ae))) Ae))) (Aa (Bq (Aa (Bq (Aa (eC (.int 0)) (Aa (eC (.int 3)) Ae))) (Aa (Bq (Aa (eC (.int 2)) (Aa (eC (.int 3)) Ae))) Ae))) (Aa (Bq (Aa (Bq (Aa (eC (.int 0)) (Aa (eC (.int 1)) Ae))) (Aa (Bq (Aa (eC (.int 0)) (Aa (eC (.int 3)) Ae))) Ae))) (Aa (Bq (Aa (Bq (Aa (eC (.int 2)) (Aa (eC (.int 3)) Ae))) (Aa (Bq (Aa (eC (.int 0)) (Aa (eC (.int 3)) Ae))) Ae))) Ae)))))->(Bk 12 (Bt a)) [some (.ref 0),some (.int n),some (.int most),e3,some (.int c),some (.int wd),some (.ref 1),y7,y8,y9,y10,some (.int kind),y12] (some [.int x,.int y,.int z]::some (bs.map Af)::R)=some (.nx,[some (.ref 0),some (.int n),some (.int most),e3,some (.int c),some (.int wd),some (.ref 1),y7,y8,y9,y10,some (.int kind),some (.lst true ([[((0:Int),(3:Int)),(0,1)],[(0,3),(2,3)],[(0,1),(0,3)],[(2,3),(0,3)]].map Af))],some [.int x,.int y,.int z]::some (bs.map Af)::R):=fun a ha=>by rw[ha];rfl
   rw[BP (s1 _ rfl),CW,BJ]
   have v12:∀(g:Option D)(S:Store),Ab 12 [some (.ref 0),some (.int n),some (.int most),e3,some (.int c),some (.int wd),some (.ref 1),y7,y8,y9,y10,some (.int kind),some (.lst true ([[((0:Int),(3:Int)),(0,1)],[(0,3),(2,3)],[(0,1),(0,3)],[(2,3),(0,3)]].map Af))] S=some (.lst true ([[((0:Int),(3:Int)),(0,1)],[(0,3),(2,3)],[(0,1),(0,3)],[(2,3),(0,3)]].map Af),S):=fun _ S=>rfl
   have v6:∀(S:Store),S[1]?=some (some (bs.map Af))->Ab 6 [some (.ref 0),some (.int n),some (.int most),e3,some (.int c),some (.int wd),some (.ref 1),y7,y8,y9,y10,some (.int kind),some (.lst true ([[((0:Int),(3:Int)),(0,1)],[(0,3),(2,3)],[(0,1),(0,3)],[(2,3),(0,3)]].map Af))] S=some (.ref 1,S):=fun S _=>rfl
   have q1:eSl oSl (Ab 6) Ke (Kd (Bl Ao (Aa (Ab 0) (Aa (eOp Dw (Ab 2) (eC (.int 3))) Ae)))) [some (.ref 0),some (.int n),some (.int most),e3,some (.int c),some (.int wd),some (.ref 1),y7,y8,y9,y10,some (.int kind),some (.lst true ([[((0:Int),(3:Int)),(0,1)],[(0,3),(2,3)],[(0,1),(0,3)],[(2,3),(0,3)]].map Af))] (some [.int x,.int y,.int z]::some (bs.map Af)::R)=some (.lst true (cs.map Af),some [.int x',.int y,.int z']::some (bs.map Af)::R):=by
    rw[Zv,v6 _ rfl,U0a,W0,U0a,Vz,Nf t1 rfl rfl]
    show(some (D.lst true (cut (bs.map Af) none (some r)),some [.int x',.int y,.int z']::some (bs.map Af)::R):Option (D×Store))=_
    rw[c1]
   rw[v12 none,U0a,q1,U0a]
   show(U2g _ (if ([[((0:Int),(3:Int)),(0,1)],[(0,3),(2,3)],[(0,1),(0,3)],[(2,3),(0,3)]].map Af).length+(cs.map Af).length<=1000000 then some (D.lst true ([[((0:Int),(3:Int)),(0,1)],[(0,3),(2,3)],[(0,1),(0,3)],[(2,3),(0,3)]].map Af++cs.map Af)) else none)).bind _=_
   rw[if_pos (by simp;omega),←U09]
   rfl
 .rw[decide_eq_false h] at ts
  exact⟨bs,x,z,.ref 1,y12,.inr ⟨0,rfl,rfl⟩,hl,hP,by rw[Hi ts];rfl⟩
end W13
end
section
namespace W13
open PySem L2 VS
def lat(i:Nat):List St2:=[(((i:Int)*2)%3,((i:Int)*2)%3+1),(((i:Int)*2)/3,((i:Int)*2)/3+1)]
theorem zP{i:Nat}{m:Int}(hi:i<10)(hm:8<=m):Sm 2 m (lat i):=by
 refine⟨rfl,fun p hp=>?_⟩
 unfold lat at hp
 simp only[U00,U1l,or_false] at hp
 rcases hp with rfl|rfl
 .simp only;omega
 .simp only;omega
theorem pL(r:VS.Env)(S:Store)(most:Nat)(hm:most<=20)(h:r[2]?=some (some (.int most))):Mx r S=some ((U0g most).map (fun i=>Af (lat i)),S):=by
 have e:V6 (Aa (eC (.int 0)) (Aa (eOp J8 (eC (.int 2)) (Ab 2)) (Aa (eC (.int 2)) Ae))) r S=some ((upW 0 most,[]),S):=by
  have a1:Aa (eC (.int 0)) (Aa (eOp J8 (eC (.int 2)) (Ab 2)) (Aa (eC (.int 2)) Ae)) r S=some ([.int 0,.int (2*most),.int 2],S):=by simp[Aq,CT,BJ,BZ,Al,Pr,J8,VS.listOf,-U0c,-U0e,h]
  have e2:Nt 0 (2*(most:Int))=most:=by unfold Nt;omega
  rw[jP,a1,U0a]
  show(if (-1000000<=(0:Int)/\(0:Int)<=1000000)/\-1000000<=2*(most:Int)/\2*(most:Int)<=1000000 then some ((upW 0 (Nt 0 (2*(most:Int))),([]:List (Nat×List D))),S) else none)=_
  rw[if_pos ⟨⟨by decide,by decide⟩,by omega,by omega⟩,e2]
 unfold Mx Cw
 rw[e]
 simp only[U0a]
 unfold upW
 rw[Ip (by simp) (fun i:Nat=>D.int (0+(i:Nat)*2)) (fun i=>Af (lat i)) (U0g most) (by simp;omega)]
 intro i _
 exact⟨_,Cr _ _ _,by simp[Aq,CT,BJ,BZ,Al,Ia,Gn,oI,Vt,TQ,Dl,oDiv,oMod,VS.listOf,U0o,-U0c,-U0e,Af,Av,lat]⟩
theorem pG(p:List D)(n most:Nat)(h20:most<=20)(h2:n=2->most<=10)(e3 y7 y8 y9 y10 y12:Option D)(c:Nat)(wd kind:Int)(F:D)(T:Store)(bs:List (List St2))(hF:Hold F T bs)(hl:bs.length<=most)(m:Int)(hm:8<=m)(hP:∀b∈bs,Sm n m b):∃(bs':List (List St2))(F':D)(T':Store),Hold F' T' bs'/\bs'.length<=most/\(∀b∈bs',Sm n m b) /\
  (sIf (Ii (BK (eOp (oEq false) (Ab 1) (eC (.int 2)))) (BK (eOp (oEq false) (Ab 11) (eC (.int 3))))) (Bk 6 (Gs Mx)) Ed) [some (.ref 0),some (.int n),some (.int most),e3,some (.int c),some (.int wd),some F,y7,y8,y9,y10,some (.int kind),y12] (some p::T) =
  some (.nx,[some (.ref 0),some (.int n),some (.int most),e3,some (.int c),some (.int wd),some F',y7,y8,y9,y10,some (.int kind),y12],some p::T'):=by
 have k1:BK (eOp (oEq false) (Ab 1) (eC (.int 2))) [some (.ref 0),some (.int n),some (.int most),e3,some (.int c),some (.int wd),some F,y7,y8,y9,y10,some (.int kind),y12] (some p::T)=some (decide ((n:Int)=2),some p::T):=by simp[Aq,CT,BJ,DP,oEq,-U0c,-U0e]
 have k2:BK (eOp (oEq false) (Ab 11) (eC (.int 3))) [some (.ref 0),some (.int n),some (.int most),e3,some (.int c),some (.int wd),some F,y7,y8,y9,y10,some (.int kind),y12] (some p::T)=some (decide (kind=3),some p::T):=by simp[Aq,CT,BJ,DP,oEq,-U0c,-U0e]
 have ts:=Ry k1 k2
 by_cases h:(n:Int)=2/\kind=3
 .rw[decide_eq_true h] at ts
  have hn:n=2:=by omega
  have c1:=pL [some (.ref 0),some (.int n),some (.int most),e3,some (.int c),some (.int wd),some F,y7,y8,y9,y10,some (.int kind),y12] (some p::T) most h20 rfl
  refine⟨(U0g most).map lat,.ref (T.length+1),T++[some (((U0g most).map lat).map Af)],.inr ⟨T.length,rfl,Vr T _ []⟩,by simp,fun b hb=>?_,?_⟩
  .obtain⟨i,hi,rfl⟩:=U2o.mp hb
   have:=U2h.mp hi
   have:=h2 hn
   rw[hn]
   exact zP (by omega) hm
  .rw[KQ ts,CW,Pk,c1,U0c]
   rfl
 .rw[decide_eq_false h] at ts
  exact⟨bs,F,T,hF,hl,hP,by rw[Hi ts];rfl⟩
theorem pF(x y z:Int)(n most many:Nat)(hn:n<=3)(h20:most<=20)(hM:8<many->2*most<=many)(y7 y8 y9 y10 y12:Option D)(c:Nat)(hc:c<=most)(wd kind:Int)(F:D)(T:Store)(bs:List (List St2))(hF:Hold F T bs)(hl:bs.length<=most)(hP:∀b∈bs,Sm n many b):∃(bs':List (List St2))(F':D)(T':Store)(x' z':Int),Hold F' T' bs'/\bs'.length<=most/\(∀b∈bs',Sm n many b) /\
  (sIf (Ii (BK (eOp oGt (Ab 11) (eC (.int 5)))) (BK (eOp oGt (Ab 3) (eC (.int 8))))) (Bk 6 (Tj Gu (Aa (Ab 0) (Aa (Ab 1) (Aa (Ab 4) Ae))))) Ed) [some (.ref 0),some (.int n),some (.int most),some (.int many),some (.int c),some (.int wd),some F,y7,y8,y9,y10,some (.int kind),y12] (some [.int x,.int y,.int z]::T) =
  some (.nx,[some (.ref 0),some (.int n),some (.int most),some (.int many),some (.int c),some (.int wd),some F',y7,y8,y9,y10,some (.int kind),y12],some [.int x',.int y,.int z']::T'):=by
 have k1:BK (eOp oGt (Ab 11) (eC (.int 5))) [some (.ref 0),some (.int n),some (.int most),some (.int many),some (.int c),some (.int wd),some F,y7,y8,y9,y10,some (.int kind),y12] (some [.int x,.int y,.int z]::T)=some (decide (5<kind),some [.int x,.int y,.int z]::T):=rfl
 have k2:BK (eOp oGt (Ab 3) (eC (.int 8))) [some (.ref 0),some (.int n),some (.int most),some (.int many),some (.int c),some (.int wd),some F,y7,y8,y9,y10,some (.int kind),y12] (some [.int x,.int y,.int z]::T)=some (decide (8<(many:Int)),some [.int x,.int y,.int z]::T):=rfl
 have ts:=Ry k1 k2
 by_cases h:5<kind/\8<(many:Int)
 .rw[decide_eq_true h] at ts
  have hm:=hM (by omega)
  obtain⟨bs',x',z',u1,u2,u3⟩:=kO x y z n c hn (by omega)
  refine⟨bs',.ref (T.length+1),T++[some (bs'.map Af)],x',z',.inr ⟨T.length,rfl,Vr T _ []⟩,by omega,fun b hb=>?_,?_⟩
  .have:=u3 b hb
   exact⟨this.len,fun p hp=>by have:=this.all p hp;omega⟩
  .have v0:Ab 0 [some (.ref 0),some (.int n),some (.int most),some (.int many),some (.int c),some (.int wd),some F,y7,y8,y9,y10,some (.int kind),y12] (some [.int x,.int y,.int z]::T)=some (.ref 0,some [.int x,.int y,.int z]::T):=rfl
   rw[KQ ts,CW,oY (d':=.ref (T.length+1)) (cs:=bs'.map Af) (Jk (ns:=[x,y,z]) (rest:=[.int n,.int c]) (es:=[.int n,.int c]) (i:=0) (S':=some [.int x,.int y,.int z]::T) (by rw[Al,v0];rfl) rfl (by simp[Ay,BW]) (by simp[Bj,age]) u1) (by
    show(if FQ (bs'.map Af)=true then some (D.ref (T.length+1),bs'.map Af) else none)=_
    rw[if_pos (Cp bs')])]
   rfl
 .rw[decide_eq_false h] at ts
  exact⟨bs,F,T,x,z,hF,hl,hP,by rw[Hi ts];rfl⟩
end W13
end
section
namespace W13
open PySem L2 VS
theorem bY{F:D}{T:Store}{bs:List (List St2)}(h:Hold F T bs)(p:Option (List D)):den 1 (p::T) F=some (.lst true (bs.map Af)):=by
 have hp:Ay (bs.map Af)=true:=Ca (Cp bs)
 rcases h with rfl|⟨j,rfl,h⟩
 .rw[den,Ce 1 _ hp];rfl
 .rw[den,if_neg (by omega)]
  show(match T[j]? with|some (some ds)=>if Ay ds=true then some (D.lst true ds) else none|_=>none)=_
  rw[h]
  show(if Ay (bs.map Af)=true then _ else _)=_
  rw[if_pos hp]
theorem pJ(x y z:Int)(n most many:Nat)(hn:n<=3)(h4:4<=most)(h20:most<=20)(h2:n=2->most<=10)(hm8:8<=many)(hm40:many<=40)(hM:8<many->2*most<=many):∃(bs:List (List St2))(x' z':Int),Hl [x,y,z] [.int n,.int most,.int many]=some (.lst true (bs.map Af),[x',y,z'])/\bs.length<=most/\∀b∈bs,Sm n many b:=by
 obtain⟨r1,x1,z1,e1,p1,p2⟩:=Fq x y z ((most:Int)+1) (by omega) (by omega)
 obtain⟨r2,x2,z2,e2,p3,p4⟩:=Fq x1 y z1 most (by omega) (by omega)
 obtain⟨r3,x3,z3,e3,p5,p6⟩:=Fq x2 y z2 3 (by decide) (by decide)
 obtain⟨c,f1,hc⟩:∃c:Nat,atI [D.int r1,D.int most,D.int (1+r2)] r3=some (.int c)/\c<=most:=by
  have:r3=0∨r3=1∨r3=2:=by omega
  rcases this with rfl|rfl|rfl
  .exact⟨r1.toNat,by rw[Jbr,U6z p1],by omega⟩
  .exact⟨most,by simp,U0t _⟩
  .exact⟨(1+r2).toNat,by rw[Jbq,U6z (by omega)],by omega⟩
 obtain⟨r4,x4,z4,e4,p7,p8⟩:=Fq x3 y z3 4 (by decide) (by decide)
 obtain⟨wd,f2,w0,w1⟩:∃wd:Int,atI [D.int 2,D.int 3,D.int 5,D.int many] r4=some (.int wd)/\0<wd/\wd<=many:=by
  have:r4=0∨r4=1∨r4=2∨r4=3:=by omega
  rcases this with rfl|rfl|rfl|rfl
  .exact⟨2,by simp,by decide,by omega⟩
  .exact⟨3,by simp,by decide,by omega⟩
  .exact⟨5,by simp,by decide,by omega⟩
  .exact⟨many,by simp,by omega,by omega⟩
 obtain⟨bs,x5,z5,R5,y7,y8,y9,y10,b1,b2,l2⟩:=pK x4 y z4 n c hn (by omega) (some (.int most)) (some (.int many)) wd w0 (by omega)
 obtain⟨kind,x6,z6,e6,_,_⟩:=Fq x5 y z5 8 (by decide) (by decide)
 have b2':∀b∈bs,Sm n many b:=fun b hb=>⟨(b2 b hb).len,fun p hp=>by have:=(b2 b hb).all p hp;omega⟩
 obtain⟨bs5,x7,z7,c1,c2,s5⟩:=pI x6 y z6 n (some (.int most)) (some (.int many)) y7 y8 y9 y10 none c (by omega) wd kind bs b1 R5 (Sm n many) b2'
 obtain⟨bs6,x8,z8,F6,w12,d0,d1,d2,s6⟩:=pH x7 y z7 n most h4 h20 (some (.int many)) y7 y8 y9 y10 none c wd kind bs5 (by omega) R5 many (by omega) c2
 obtain⟨bs7,F7,T7,g0,g1,g2,s7⟩:=pG [.int x8,.int y,.int z8] n most h20 h2 (some (.int many)) y7 y8 y9 y10 w12 c wd kind F6 _ bs6 d0 d1 many (by omega) d2
 obtain⟨bs8,F8,T8,x9,z9,i0,i1,i2,s8⟩:=pF x8 y z8 n most many hn h20 hM y7 y8 y9 y10 w12 c hc wd kind F7 T7 bs7 g0 g1 g2
 refine⟨bs8,x9,z9,?_,i1,i2⟩
 have s1:(Bk 4 (eOp oIx (Bt (Aa (Bl Ao (Aa (Ab 0) (Aa (eOp Dl (Ab 2) (eC (.int 1))) Ae))) (Aa (Ab 2) (Aa (eOp Dl (eC (.int 1)) (Bl Ao (Aa (Ab 0) (Aa (Ab 2) Ae)))) Ae)))) (Bl Ao (Aa (Ab 0) (Aa (eC (.int 3)) Ae))))) [some (.ref 0),some (.int n),some (.int most),some (.int many),none,none,none,none,none,none,none,none,none] [some [.int x,.int y,.int z]]=some (.nx,[some (.ref 0),some (.int n),some (.int most),some (.int many),some (.int c),none,none,none,none,none,none,none,none],[some [.int x3,.int y,.int z3]]):=by
  simp[CW,Aq,CT,BJ,BZ,Al,DQ,OD,Dl,oIx,VS.listOf,CJ,intsOf,den,DW,age,Bj,BW,Ay,-U0c,-U0e,e1,e2,e3,f1]
 have s2:(Bk 5 (eOp oIx (Bt (Aa (eC (.int 2)) (Aa (eC (.int 3)) (Aa (eC (.int 5)) (Aa (Ab 3) Ae))))) (Bl Ao (Aa (Ab 0) (Aa (eC (.int 4)) Ae))))) [some (.ref 0),some (.int n),some (.int most),some (.int many),some (.int c),none,none,none,none,none,none,none,none] [some [.int x3,.int y,.int z3]]=some (.nx,[some (.ref 0),some (.int n),some (.int most),some (.int many),some (.int c),some (.int wd),none,none,none,none,none,none,none],[some [.int x4,.int y,.int z4]]):=by
  simp[CW,Aq,CT,BJ,BZ,Al,DQ,OD,oIx,VS.listOf,CJ,intsOf,den,DW,age,Bj,BW,Ay,-U0c,-U0e,e4,f2]
 have s3:(Bk 6 (Gs Ae)) [some (.ref 0),some (.int n),some (.int most),some (.int many),some (.int c),some (.int wd),none,none,none,none,none,none,none] [some [.int x4,.int y,.int z4]]=some (.nx,[some (.ref 0),some (.int n),some (.int most),some (.int many),some (.int c),some (.int wd),some (.ref 1),none,none,none,none,none,none],[some [.int x4,.int y,.int z4],some []]):=rfl
 have s4:(Bk 11 (Bl Ao (Aa (Ab 0) (Aa (eC (.int 8)) Ae)))) [some (.ref 0),some (.int n),some (.int most),some (.int many),some (.int c),some (.int wd),some (.ref 1),y7,y8,y9,y10,none,none] (some [.int x5,.int y,.int z5]::some (bs.map Af)::R5)=some (.nx,[some (.ref 0),some (.int n),some (.int most),some (.int many),some (.int c),some (.int wd),some (.ref 1),y7,y8,y9,y10,some (.int kind),none],some [.int x6,.int y,.int z6]::some (bs.map Af)::R5):=by
  rw[CW,Nf e6 rfl rfl];rfl
 unfold Hl
 rw[Nh]
 simp only[U0j,U05,U0m,U08,U1i,U1j,U0o,U06,U11,U1n,if_true]
 unfold Vh
 rw[BP s1,BP s2,BP s3,BP l2,BP s4,BP s5,BP s6,BP s7,BP s8,Cg]
 have v6:Ab 6 [some (.ref 0),some (.int n),some (.int most),some (.int many),some (.int c),some (.int wd),some F8,y7,y8,y9,y10,some (.int kind),w12] (some [.int x9,.int y,.int z9]::T8)=some (F8,some [.int x9,.int y,.int z9]::T8):=rfl
 rw[v6,U0a]
 show((intsOf ([x9,y,z9].map D.int)).bind fun ms=>(den 1 (some [.int x9,.int y,.int z9]::T8) F8).map fun r=>(r,ms))=_
 rw[Jm,bY i0];rfl
end W13
end
section
namespace W13
open PySem L2 VS
def Dz(ms:List Int):D:=.lst true (ms.map .int)
def placed(mss:List (List Int))(b:List St2):List St2:=(mss.zip b).map fun q=>(q.1.getD q.2.1.toNat 0,q.1.getD q.2.2.toNat 0)
theorem Uy{α β:Type}{F:α->D}{G:β->D}:∀(as:List α)(bs:List β),Dj (as.map F) (bs.map G)=(as.zip bs).map fun q=>.tup [F q.1,G q.2]
 |[],_=>rfl
 |_::_,[]=>rfl
 |a::r,b::s=>by rw[U0m,U0m,Dj,Uy r s];rfl
theorem vV(x y z:Int)(n many:Nat)(most sm:D)(hn:n<=3)(h0:8<=many)(h1:many<=40):∃(mss:List (List Int))(x' z':Int),Nz [some (.ref 0),some (.int n),some most,some (.int many),some sm,none,none,none] [some [.int x,.int y,.int z]]=some (mss.map Dz,[some [.int x',.int y,.int z']])/\mss.length=n/\∀ms∈mss,Mk many ms:=by
 have e:Fj (Aa (Ab 1) Ae) [some (.ref 0),some (.int n),some most,some (.int many),some sm,none,none,none] [some [.int x,.int y,.int z]]=some ((upD 0 n,[]),[some [.int x,.int y,.int z]]):=O4 _ rfl (by simp) (by omega) (by omega)
 unfold Nz Cw
 rw[e]
 simp only[U0a]
 obtain⟨ys,S',e2,mss,x',z',hy,hS,hl,hb⟩:=bh (w:=[]) (e0:=Gn 1 [0,3] [some (.ref 0),some (.int n),some most,some (.int many),some sm,none,none,none]) (g:=Pat.sem (.nm 0)) (ds:=upD 0 n) (S:=[some [.int x,.int y,.int z]])
  (f:=(Bl Ho (Aa (Ab 1) (Aa (Ab 2) Ae))))
  (fun i ys S=>∃(mss:List (List Int))(x' z':Int),ys=mss.map Dz/\S=[some [.int x',.int y,.int z']]/\mss.length=min i n/\∀ms∈mss,Mk many ms)
  ⟨[],x,z,rfl,rfl,by simp,fun n hn=>by simp at hn⟩ (fun i ys S q=>by obtain⟨ns,x',z',h1,h2,h3,h4⟩:=q;exact⟨by simp,by rw[h1,U0k,h3];omega⟩)
  (fun i d ys S hd q=>by
   obtain⟨mss,x',z',h1,h2,h3,h4⟩:=q
   obtain⟨hi,rfl⟩:=RV hd
   obtain⟨ms,x2,z2,e3,M⟩:=qQ x' y z' many h0 (by assumption)
   subst h1 h2
   refine⟨[some (.int (0+i)),some (.ref 0),some (.int many)],Dz ms,[some [.int x2,.int y,.int z2]],by rw[Cr];rfl,?_,mss++[ms],x2,z2,by simp,rfl,by simp;omega,fun n hn=>?_⟩
   .exact Jk (ns:=[x',y,z']) (rest:=[.int many]) (es:=[.int many]) (i:=0) (S':=[some [.int x',.int y,.int z']]) rfl rfl (by simp[Ay,BW]) (by simp[Bj,age]) e3
   .rcases U12.mp hn with z|z
    .exact h4 n z
    .rw[U07.mp z];exact M)
 subst hy hS
 rw[Pb,U50] at hl
 exact⟨mss,x',z',e2,hl,hb⟩
theorem gn{ms:List Int}{m:Nat}{v:Int}(hm:Mk m ms)(h0:0<=v)(h1:v<=m):atI (ms.map D.int) v=some (.int (ms.getD v.toNat 0)):=by
 have hl:v.toNat<ms.length:=by rw[hm.len];omega
 rw[kI (j:=v.toNat) (by omega) (by simpa using hl),U0h,U0i hl]
 simp
theorem vU(r:VS.Env)(S:Store)(mss:List (List Int))(b:List St2)(m n:Nat)(hn:n<=3)(hl:mss.length=n)(hM:∀ms∈mss,Mk m ms)(hb:Sm n m b)(h5:r[5]?=some (some (.lst true (mss.map Dz))))(h7:r[7]?=some (some (Af b))):RD r S=some ((placed mss b).map Av,S):=by
 have e:Qh (Aa (Ab 5) (Aa (Ab 7) Ae)) r S=some (((mss.zip b).map fun q=>D.tup [Dz q.1,Av q.2],[]),S):=by
  have v5:Ab 5 r S=some (.lst true (mss.map Dz),S):=by rw[Aq,h5];rfl
  have v7:Ab 7 r S=some (Af b,S):=by rw[Aq,h7];rfl
  rw[bJ,Al,v5,U0a,Al,v7]
  show(some ((Dj (mss.map Dz) (b.map Av),([]:List (Nat×List D))),S))=_
  rw[Uy]
 unfold RD Cw
 rw[e]
 simp only[U0a]
 rw[Ip (by simp) (fun q:List Int×St2=>D.tup [Dz q.1,Av q.2]) (fun q=>Av (q.1.getD q.2.1.toNat 0,q.1.getD q.2.2.toNat 0)) (mss.zip b) (by rw[U4e];omega)]
 .unfold placed;rw[U0c];rfl
 .intro q hq
  obtain⟨ms,p⟩:=q
  have hm:=hM ms (U3z hq).1
  have hp:=hb.all p (U3z hq).2
  have a1:=gn hm hp.1 (by omega)
  have a2:=gn hm (v:=p.2) (by omega) hp.2.2
  exact⟨[some (Dz ms),some (.int p.1),some (.int p.2)],by simp[Gn,Cr,HF,FZ,El,U0o,-U0c,-U0e,Av],by simp[Aq,BJ,BZ,Al,Ia,oIx,VS.listOf,CJ,-U0c,-U0e,Dz,a1,a2,Av]⟩
theorem YX{mss:List (List Int)}{b:List St2}{m n:Nat}(hl:mss.length=n)(hM:∀ms∈mss,Mk m ms)(hb:Sm n m b):(placed mss b).length=n/\∀p∈placed mss b,p.1<p.2/\-1000000000<=p.1/\p.2<=1000000000:=by
 have h1:=hb.len
 refine⟨by unfold placed;rw[U0k,U4e];omega,fun p hp=>?_⟩
 obtain⟨q,hq,rfl⟩:=U2o.mp hp
 obtain⟨ms,p⟩:=q
 have hm:=hM ms (U3z hq).1
 have hp:=hb.all p (U3z hq).2
 have l1:p.1.toNat<ms.length:=by rw[hm.len];omega
 have l2:p.2.toNat<ms.length:=by rw[hm.len];omega
 simp only[U0h,U0i l1,U0i l2,U4z]
 exact⟨(U5s.mp hm.rise) _ _ l1 l2 (by omega),(hm.near _ (U1s l1)).1,(hm.near _ (U1s l2)).2⟩
end W13
end
section
namespace W13
open PySem L2 VS
structure Made(n m:Nat)(sm:List (List St2))(mss:List (List Int)):Prop where
 few:sm.length<=[0,20,10,6].getD n 0
 box:∀b∈sm,Sm n m b
 len:mss.length=n
 mks:∀ms∈mss,Mk m ms
 big:m<=40
theorem Made.good{n m:Nat}{sm:List (List St2)}{mss:List (List Int)}(h:Made n m sm mss)(hn:n=1∨n=2∨n=3):Good n (sm.map (placed mss)) :=
 ⟨hn,by rw[U0k];exact h.few,fun b hb=>by
  obtain⟨c,hc,rfl⟩:=U2o.mp hb
  exact YX h.len h.mks (h.box c hc)⟩
theorem vQ(p:List D)(n m:Nat)(hn:n<=3)(most mn':D)(sm:List (List St2))(hsm:sm.length<=20)(hb:∀b∈sm,Sm n m b)(mss:List (List Int))(hl:mss.length=n)(hM:∀ms∈mss,Mk m ms):∃z7:Option D,
  RB [some (.ref 0),some (.int n),some most,some mn',some (.lst true (sm.map Af)),some (.lst true (mss.map Dz)),some (.ref 1),none] [some p,some []]=some (.nx,[some (.ref 0),some (.int n),some most,some mn',some (.lst true (sm.map Af)),some (.lst true (mss.map Dz)),some (.ref 1),z7],[some p,some ((sm.map (placed mss)).map Af)]):=by
 have e:DK (Ab 4) [some (.ref 0),some (.int n),some most,some mn',some (.lst true (sm.map Af)),some (.lst true (mss.map Dz)),some (.ref 1),none] [some p,some []]=some ((sm.map Af,[]),[some p,some []]):=rfl
 obtain⟨env',S',e2,z7,he,hS⟩:=Ep (w:=[]) (g:=Pat.sem (.nm 7)) (b:=RG) (ds:=sm.map Af) (env:=[some (.ref 0),some (.int n),some most,some mn',some (.lst true (sm.map Af)),some (.lst true (mss.map Dz)),some (.ref 1),none]) (S:=[some p,some []])
  (fun i env S=>∃z7:Option D,env=[some (.ref 0),some (.int n),some most,some mn',some (.lst true (sm.map Af)),some (.lst true (mss.map Dz)),some (.ref 1),z7]/\S=[some p,some (((sm.take i).map (placed mss)).map Af)])
  ⟨none,rfl,rfl⟩ (fun i env S _=>by simp) (fun i d env S hd q=>by
   obtain⟨z7,he,hS⟩:=q
   subst he hS
   rw[U0w] at hd
   obtain⟨b,hb',rfl⟩:=U10.mp hd
   have hi:i<sm.length:=(U0n.mp hb').1
   refine⟨[some (.ref 0),some (.int n),some most,some mn',some (.lst true (sm.map Af)),some (.lst true (mss.map Dz)),some (.ref 1),some (Af b)],by rw[Cr];rfl,[some (.ref 0),some (.int n),some most,some mn',some (.lst true (sm.map Af)),some (.lst true (mss.map Dz)),some (.ref 1),some (Af b)],[some p,some (((sm.take (i+1)).map (placed mss)).map Af)],?_,_,rfl,rfl⟩
   have c2:=vU [some (.ref 0),some (.int n),some most,some mn',some (.lst true (sm.map Af)),some (.lst true (mss.map Dz)),some (.ref 1),some (Af b)] [some p,some (((sm.take i).map (placed mss)).map Af)] mss b m n hn hl hM (hb b (U1k hb')) rfl rfl
   unfold RG
   rw[Gk,Ja (d:=.ref 1) (cs:=((sm.take i).map (placed mss)).map Af) (ds:=[Af (placed mss b)]) (r:=.non) (S1:=[some p,some (((sm.take i).map (placed mss)).map Af)]) (S2:=[some p,some (((sm.take i).map (placed mss)).map Af)]) (S3:=[some p,some (((sm.take (i+1)).map (placed mss)).map Af)]) rfl rfl (by
    rw[Al,Eu,Al,DQ,c2];rfl) (by
    show(if (((sm.take i).map (placed mss)).map Af).length<1000000 then some (D.non,[some p,some (((sm.take i).map (placed mss)).map Af++[Af (placed mss b)])]) else none)=_
    rw[if_pos (by rw[U0k,U0k,U19];omega),U28,hb',U29,U09,U09]
    rfl)]
   rfl)
 subst he hS
 have:(sm.map Af).length=sm.length:=by simp
 rw[this,U2r] at e2
 refine⟨z7,?_⟩
 unfold RB
 rw[Fg,e]
 exact e2
theorem Sg:∀mss:List (List Int),Ay (mss.map Dz)=true
 |[]=>rfl
 |m::r=>by rw[U0m,Ay,Dz,BW,Fz,Sg r];rfl
theorem vP(x y z:Int)(n most:Nat)(h1:n=1∨n=2∨n=3)(h4:4<=most)(hm:most<=[0,20,10,6].getD n 0):∃(m:Nat)(sm:List (List St2))(mss:List (List Int))(x' z':Int),Gg [x,y,z] [.int n,.int most]=some (.tup [.lst true (sm.map Af),.lst true (mss.map Dz),Ak true n (sm.map (placed mss))],[x',y,z'])/\Made n m sm mss:=by
 obtain⟨r1,x1,z1,e1,_,_⟩:=Fq x y z 3 (by decide) (by decide)
 obtain⟨m,f1,m8,m40,hM⟩:∃m:Nat,atI [D.int 8,D.int ([0,40,20,12].getD n 0:Nat)] (if r1=0 then 1 else 0)=some (.int m)/\8<=m/\m<=40/\(8<m->2*most<=m):=by
  by_cases h:r1=0
  .rw[if_pos h]
   refine⟨[0,40,20,12].getD n 0,by simp,?_⟩
   rcases h1 with rfl|rfl|rfl<;>simp at hm ⊢<;>omega
  .rw[if_neg h]
   exact⟨8,by simp,by decide,by decide,by omega⟩
 have hn3:n<=3:=by omega
 have h20:most<=20:=by rcases h1 with rfl|rfl|rfl<;>simp at hm<;>omega
 have h10:n=2->most<=10:=fun h=>by rw[h] at hm;simpa using hm
 obtain⟨sm,x2,z2,e2,s1,s2⟩:=pJ x1 y z1 n most m hn3 h4 h20 h10 m8 m40 hM
 obtain⟨mss,x3,z3,e3,hl,hk⟩:=vV x2 y z2 n m (.int most) (.lst true (sm.map Af)) hn3 m8 m40
 obtain⟨z7,l1⟩:=vQ [.int x3,.int y,.int z3] n m hn3 (.int most) (.int m) sm (by omega) s2 mss hl hk
 refine⟨m,sm,mss,x3,z3,?_,⟨by omega,s2,hl,hk,m40⟩⟩
 have f0:atI [D.int 0,D.int 40,D.int 20,D.int 12] (n:Int)=some (.int ([0,40,20,12].getD n 0:Nat)):=by
  rcases h1 with rfl|rfl|rfl<;>rfl
 have t1:(Bk 3 (eOp oIx (Bt (Aa (eC (.int 8)) (Aa (eOp oIx (Bt (Aa (eC (.int 0)) (Aa (eC (.int 40)) (Aa (eC (.int 20)) (Aa (eC (.int 12)) Ae))))) (Ab 1)) Ae))) (eCB Qy (Aa (eOp (oEq false) (Bl Ao (Aa (Ab 0) (Aa (eC (.int 3)) Ae))) (eC (.int 0))) Ae)))) [some (.ref 0),some (.int n),some (.int most),none,none,none,none,none] [some [.int x,.int y,.int z]]=some (.nx,[some (.ref 0),some (.int n),some (.int most),some (.int m),none,none,none,none],[some [.int x1,.int y,.int z1]]):=by
  have a1:Bt (Aa (eC (.int 8)) (Aa (eOp oIx (Bt (Aa (eC (.int 0)) (Aa (eC (.int 40)) (Aa (eC (.int 20)) (Aa (eC (.int 12)) Ae))))) (Ab 1)) Ae)) [some (.ref 0),some (.int n),some (.int most),none,none,none,none,none] [some [.int x,.int y,.int z]]=some (.lst true [.int 8,.int ([0,40,20,12].getD n 0:Nat)],[some [.int x,.int y,.int z]]):=by
   have a2:eOp oIx (Bt (Aa (eC (.int 0)) (Aa (eC (.int 40)) (Aa (eC (.int 20)) (Aa (eC (.int 12)) Ae))))) (Ab 1) [some (.ref 0),some (.int n),some (.int most),none,none,none,none,none] [some [.int x,.int y,.int z]]=some (.int ([0,40,20,12].getD n 0:Nat),[some [.int x,.int y,.int z]]):=by
    show U2g _ (atI [D.int 0,D.int 40,D.int 20,D.int 12] (n:Int))=_
    rw[f0];rfl
   rw[DQ,Al,CT,U0a,Al,a2];rfl
  have a3:eCB Qy (Aa (eOp (oEq false) (Bl Ao (Aa (Ab 0) (Aa (eC (.int 3)) Ae))) (eC (.int 0))) Ae) [some (.ref 0),some (.int n),some (.int most),none,none,none,none,none] [some [.int x,.int y,.int z]]=some (.int (if r1=0 then 1 else 0),[some [.int x1,.int y,.int z1]]):=by
   rw[Eu,Al,BJ,Nf e1 rfl rfl]
   by_cases h:r1=0<;>simp[CT,BZ,oEq,Qy,-U0c,-U0e,h]
  rw[CW,BJ,a1,U0a,a3,U0a]
  show(U2g _ (atI [D.int 8,D.int ([0,40,20,12].getD n 0:Nat)] (if r1=0 then 1 else 0))).bind _=_
  rw[f1];rfl
 have t2:(Bk 4 (Bl Hl (Aa (Ab 0) (Aa (Ab 1) (Aa (Ab 2) (Aa (Ab 3) Ae)))))) [some (.ref 0),some (.int n),some (.int most),some (.int m),none,none,none,none] [some [.int x1,.int y,.int z1]]=some (.nx,[some (.ref 0),some (.int n),some (.int most),some (.int m),some (.lst true (sm.map Af)),none,none,none],[some [.int x2,.int y,.int z2]]):=by
  rw[CW,Jk (ns:=[x1,y,z1]) (rest:=[.int n,.int most,.int m]) (es:=[.int n,.int most,.int m]) (i:=0) (S':=[some [.int x1,.int y,.int z1]]) rfl rfl (by simp[Ay,BW]) (by simp[Bj,age]) e2];rfl
 have t3:(Bk 5 (Bt Nz)) [some (.ref 0),some (.int n),some (.int most),some (.int m),some (.lst true (sm.map Af)),none,none,none] [some [.int x2,.int y,.int z2]]=some (.nx,[some (.ref 0),some (.int n),some (.int most),some (.int m),some (.lst true (sm.map Af)),some (.lst true (mss.map Dz)),none,none],[some [.int x3,.int y,.int z3]]):=by
  rw[CW,DQ,e3];rfl
 have t4:(Bk 6 (Gs Ae)) [some (.ref 0),some (.int n),some (.int most),some (.int m),some (.lst true (sm.map Af)),some (.lst true (mss.map Dz)),none,none] [some [.int x3,.int y,.int z3]]=some (.nx,[some (.ref 0),some (.int n),some (.int most),some (.int m),some (.lst true (sm.map Af)),some (.lst true (mss.map Dz)),some (.ref 1),none],[some [.int x3,.int y,.int z3],some []]):=rfl
 unfold Gg
 rw[Nh]
 simp only[U0j,U05,U0m,U08,U1i,U1j,U0o,U06,U11,U1n,if_true]
 unfold X7
 rw[BP t1,BP t2,BP t3,BP t4,BP l1]
 show((intsOf ([x3,y,z3].map D.int)).bind fun ms=>(den 1 [some [.int x3,.int y,.int z3],some ((sm.map (placed mss)).map Af)] (.tup [.lst true (sm.map Af),.lst true (mss.map Dz),.tup [.int n,.ref 1]])).map fun r=>(r,ms))=_
 have d1:=Ce 1 [some [.int x3,.int y,.int z3],some ((sm.map (placed mss)).map Af)] (Ca (Cp sm))
 have d2:=Ce 1 [some [.int x3,.int y,.int z3],some ((sm.map (placed mss)).map Af)] (Sg mss)
 have d3:=bY (F:=.ref 1) (T:=[some ((sm.map (placed mss)).map Af)]) (bs:=sm.map (placed mss)) (.inr ⟨0,rfl,rfl⟩) (some [.int x3,.int y,.int z3])
 generalize [some [D.int x3,D.int y,D.int z3],some ((sm.map (placed mss)).map Af)]=S at *
 have q1:den 1 S (.lst true (sm.map Af))=some (.lst true (sm.map Af)):=by rw[den,d1];rfl
 have q2:den 1 S (.lst true (mss.map Dz))=some (.lst true (mss.map Dz)):=by rw[den,d2];rfl
 have q0:den 1 S (.int n)=some (.int n):=by rw[den]
 have q3:den 1 S (.tup [.int n,.ref 1])=some (Ak true n (sm.map (placed mss))):=by
  rw[den]
  simp only[DW,q0,d3,U5t,U0a,Ak]
 rw[Jm,U0a,den]
 simp only[DW,q1,q2,q3,U5t,U0a]
end W13
end
section
namespace W13
open PySem L2 VS
theorem Yi{n:Nat}{bs:List (List St2)}(g:Good n bs):Wide bs (-1000000000) 2000000000 0 n (U0g bs.length):=fun i hi v _ hv=>by
 have h:=U2h.mp hi
 have hb:=g.box bs[i] (U1s h)
 have h2:v<bs[i].length:=by rw[hb.1];omega
 have e0:bs.getD i []=bs[i]:=by rw[U0h,U0i h];rfl
 have e:at1 bs i v=bs[i][v]:=by
  rw[at1,e0,U0h,U0i h2];rfl
 have:=hb.2 bs[i][v] (U1s h2)
 rw[e]
 omega
theorem cD{bs:List (List St2)}{A:Int}{N:Nat}:∀(k w:Nat)(ns:List Nat),Wide bs A N w k ns->∀c∈Bg bs k w ns,(∀p∈c.1,p.1<p.2/\A<=p.1/\p.2<=A+N)/\1<=c.2.length/\c.2.length<=ns.length
 |0,w,ns,_,c,h=>by
  rw[Bg] at h
  split at h
  .simp at h
  .rename_i hn
   have:c=([],ns):=by simpa using h
   rw[this]
   exact⟨fun p hp=>by simp at hp,U62.mpr hn,U0t _⟩
 |k+1,w,ns,hw,c,h=>by
  rw[Bg] at h
  split at h
  .simp at h
  .obtain⟨p,h1,h2⟩:=U6m.mp h
   obtain⟨d,h3,rfl⟩:=U2o.mp h2
   obtain⟨q1,q2,q3⟩:=cD k (w+1) _ (hw.sub fun i hi=>(U3k.mp hi).1) d h3
   obtain⟨s1,s2,s3,_⟩:=Tw (Wo _) p h1
   refine⟨fun p' hp=>?_,q2,U1a q3 (U3c ..)⟩
   rcases U00.mp hp with z|z
   .rw[z];exact⟨s1,(RK hw _ s2).1,(RK hw _ s3).2⟩
   .exact q1 p' z
def iQ(k:Nat)(cs:List (List St2×List Nat)):Prop:=∀c∈cs,(∀p∈c.1,p.1<p.2/\-1000000000<=p.1/\p.2<=1000000000)/\1<=c.2.length/\c.2.length<=k
theorem Jo{n:Nat}{bs:List (List St2)}(g:Good n bs):iQ bs.length (Bg bs n 0 (U0g bs.length)):=fun c hc=>by
 obtain⟨h1,h2,h3⟩:=cD n 0 _ (Yi g) c hc
 exact⟨fun p hp=>by have:=h1 p hp;omega,h2,by simpa using h3⟩
def maxLen(cs:List (List St2×List Nat)):Nat:=((Ob (cs.map fun c=>(c.2.length:Int))).getD 0).toNat
theorem Qm(cs:List (List St2×List Nat)):(∀c∈cs,c.2.length<=maxLen cs)/\(maxLen cs=0∨∃c∈cs,c.2.length=maxLen cs)/\(Ob (cs.map fun c=>(c.2.length:Int))).getD 0=maxLen cs:=by
 unfold maxLen
 cases h:Ob (cs.map fun c=>(c.2.length:Int)) with
 |none =>
  have:cs=[]:=by
   cases cs with
   |nil=>rfl
   |cons a r=>simp[Ob] at h
  subst this
  exact⟨(fun c hc=>by cases hc),.inl rfl,rfl⟩
 |some m =>
  obtain⟨g1,g2⟩:=gF h
  obtain⟨c,hc,e⟩:=U2o.mp g1
  refine⟨fun d hd=>?_,.inr ⟨c,hc,?_⟩,?_⟩
  .have:=g2 _ (U61 (f:=fun c:List St2×List Nat=>(c.2.length:Int)) hd)
   show d.2.length<=m.toNat
   omega
  .show c.2.length=m.toNat
   omega
  .show m=(m.toNat:Int)
   omega
theorem V8{acc:List Int}{i:Nat}(hi:i<acc.length):atI (acc.map D.int) (i:Int)=some (.int (acc.getD i 0)):=by
 refine Nj ?_
 rw[U0w,U0i hi,U0h,U0i hi];rfl
theorem oX(C:D)(acc:List Int)(c:List St2×List Nat)(hc:∀p∈c.1,p.1<p.2/\-1000000000<=p.1/\p.2<=1000000000)(h1:1<=c.2.length)(h2:c.2.length<=acc.length)(z4:Option D) :
  JM [some C,some (.ref 0),some (Af c.1),some (Cy false c.2),z4] [some (acc.map .int)]=some (.nx,[some C,some (.ref 0),some (Af c.1),some (Cy false c.2),some (.int c.2.length)],[some ((CQ acc c).map .int)]):=by
 have s1:(Bk 4 (eCB Dm (Aa (Ab 3) Ae))) [some C,some (.ref 0),some (Af c.1),some (Cy false c.2),z4] [some (acc.map .int)]=some (.nx,[some C,some (.ref 0),some (Af c.1),some (Cy false c.2),some (.int c.2.length)],[some (acc.map .int)]):=by
  simp[CW,Aq,BZ,Al,Eu,Dm,VS.listOf,CJ,-U0c,-U0e,Cy]
 have hs:=fB c.1 hc
 rw[tV] at hs
 have hi:c.2.length-1<acc.length:=by omega
 have e1:((c.2.length:Int)-1)=((c.2.length-1:Nat):Int):=by omega
 have i0:eOp Dw (Ab 4) (eC (.int 1)) [some C,some (.ref 0),some (Af c.1),some (Cy false c.2),some (.int c.2.length)] [some (acc.map .int)]=some (.int (c.2.length-1:Nat),[some (acc.map .int)]):=by
  rw[←e1];rfl
 have v1:Ab 1 [some C,some (.ref 0),some (Af c.1),some (Cy false c.2),some (.int c.2.length)] [some (acc.map .int)]=some (.ref 0,[some (acc.map .int)]):=rfl
 have i1:eOp oIx (Ab 1) (eOp Dw (Ab 4) (eC (.int 1))) [some C,some (.ref 0),some (Af c.1),some (Cy false c.2),some (.int c.2.length)] [some (acc.map .int)]=some (.int (acc.getD (c.2.length-1) 0),[some (acc.map .int)]):=by
  rw[BJ,v1,U0a,i0,U0a]
  show U2g _ (atI (acc.map D.int) ((c.2.length-1:Nat):Int))=_
  rw[V8 hi];rfl
 have c1:Aw Im (Aa (Ab 2) Ae) [some C,some (.ref 0),some (Af c.1),some (Cy false c.2),some (.int c.2.length)] [some (acc.map .int)]=some (.int (Dp c.1),[some (acc.map .int)]) :=
  CZ (ds:=[Af c.1]) (es:=[Af c.1]) rfl (by simp[Ay,YS]) (by simp[Bj]) hs
 unfold JM
 rw[BP s1,Je,BJ,i1,U0a,c1,U0a]
 simp only[Dl,U5t,U0a]
 rw[v1,U0a,i0,U0a]
 show(ixN (acc.map D.int).length ((c.2.length-1:Nat):Int)).bind _=_
 rw[U0k,Pj hi]
 show some (Fl.nx,_,[some ((acc.map D.int).set (c.2.length-1) (.int (acc.getD (c.2.length-1) 0+Dp c.1)))])=_
 rw[←U8d];rfl
end W13
end
section
namespace W13
open PySem L2 VS
theorem aX(n:Nat):(U0l n [D.int 0]).flatten=(U0l n (0:Int)).map D.int:=by
 rw[List.map_replicate]
 induction n with
 |zero=>rfl
 |succ n ih=>rw[U0o,U32,ih,U0o];rfl
theorem e63:((2^63:Nat):Int)=(2:Int)^63:=(Int.natCast_pow 2 63).trans (congrArg (fun z:Int=>z^63) (show((2:Nat):Int)=2 from rfl))
theorem yS{n:Nat}(hn:n<=1000):n<2^63:=U44 hn (by decide)
theorem yR{n:Nat}(hn:n<=1000):(n:Int)<(2:Int)^63:=by rw[←e63];exact Int.ofNat_lt.mpr (yS hn)
theorem yQ{n:Nat}:-(2:Int)^63<=(n:Int):=by rw[←e63];exact Int.le_trans (Int.neg_nonpos_of_nonneg (Int.natCast_nonneg _)) (Int.natCast_nonneg _)
theorem Ja1{n:Nat}{ds:List D}{r:Option (D×Store)}(hl:ds.length*n<=1000000)(hn:n<=1000):(if -(2^63)<=(n:Int)/\(n:Int)<2^63/\ds.length*(n:Int).toNat<=1000000 then r else none)=r:=if_pos ⟨yQ,yR hn,by rw[U26];exact hl⟩
theorem jg{a b:BX}{env:VS.Env}{S S1 S2:Store}{n:Nat}{ds:List D}{d:D}(ha:a env S=some (d,S1))(hd:VS.listOf S2 d=some ds)(hb:b env S1=some (.int n,S2))(hl:ds.length*n<=1000000)(hn:n<=1000):Rw a b env S=some (.ref S2.length,S2++[some (U0l n ds).flatten]):=by
 rw[rB,ha,U0a,hb,U0a]
 show(VS.listOf S2 d).bind _=_
 rw[hd,U0a,Ja1 hl hn,U26]
end W13
end
section
namespace W13
open PySem L2 VS
theorem Z2:∀cs:List (List St2×List Nat),Bj (cs.map encC)=cs.map encC
 |[]=>by rw[U08,Bj]
 |c::r=>by rw[U0m,Bj,rO,Z2 r]
theorem oW(cs:List (List St2×List Nat))(hl:cs.length<=100000)(e1 e2 e3 e4:Option D)(S:Store):Hu [some (.lst false (cs.map encC)),e1,e2,e3,e4] S=some ((cs.map fun c=>(c.2.length:Int)).map .int,S):=by
 have e:DK (Ab 0) [some (.lst false (cs.map encC)),e1,e2,e3,e4] S=some ((cs.map encC,[]),S):=rfl
 unfold Hu Cw
 rw[e]
 simp only[U0a]
 rw[Ip (by simp) encC (fun c=>.int c.2.length) cs (by omega),U0c]
 .rfl
 .intro c hc
  exact⟨[some (Af c.1),some (Cy false c.2)],by simp[Gn,Cr,HF,FZ,El,U0o,-U0c,-U0e,encC],by simp[Aq,BZ,Al,Eu,Dm,VS.listOf,CJ,-U0c,-U0e,Cy]⟩
theorem oV(cs:List (List St2×List Nat))(k:Nat)(hk:k<=20)(hl:cs.length<=100000)(hf:iQ k cs):Fd [.lst false (cs.map encC)]=some (.lst true ((cs.foldl CQ (U0l (maxLen cs) 0)).map .int)):=by
 obtain⟨m1,m2,m3⟩:=Qm cs
 have mk:maxLen cs<=20:=by
  rcases m2 with h|⟨c,hc,h⟩
  .omega
  .have:=(hf c hc).2.2;omega
 have c1:=oW cs hl none none none none []
 have t1:Wa 0 (Bt Hu) [some (.lst false (cs.map encC)),none,none,none,none] []=some (.int (maxLen cs),[]):=by
  rw[rE,DQ,c1]
  show((intsOf ((cs.map fun c=>(c.2.length:Int)).map D.int)).map _)=_
  rw[Jm]
  show some (D.int ((Ob (cs.map fun c=>(c.2.length:Int))).getD 0),([]:Store))=_
  rw[m3]
 have t2:(Bt (Aa (eC (.int 0)) Ae)) [some (.lst false (cs.map encC)),none,none,none,none] []=some (.lst true [.int 0],[]):=rfl
 have s1:(Bk 1 (Rw (Bt (Aa (eC (.int 0)) Ae)) (Wa 0 (Bt Hu)))) [some (.lst false (cs.map encC)),none,none,none,none] []=some (.nx,[some (.lst false (cs.map encC)),some (.ref 0),none,none,none],[some ((U0l (maxLen cs) (0:Int)).map .int)]):=by
  rw[CW,jg t2 rfl t1 (by simp;omega) (by omega),aX]
  rfl
 have l1:∃z2 z3 z4,Ky [some (.lst false (cs.map encC)),some (.ref 0),none,none,none] [some ((U0l (maxLen cs) (0:Int)).map .int)]=some (.nx,[some (.lst false (cs.map encC)),some (.ref 0),z2,z3,z4],[some ((cs.foldl CQ (U0l (maxLen cs) 0)).map .int)]):=by
  have e:DK (Ab 0) [some (.lst false (cs.map encC)),some (.ref 0),none,none,none] [some ((U0l (maxLen cs) (0:Int)).map .int)]=some ((cs.map encC,[]),[some ((U0l (maxLen cs) (0:Int)).map .int)]):=rfl
  unfold Ky
  rw[Fg,e]
  obtain⟨env',S',e2,z2,z3,z4,he,hS⟩:=Ep (w:=[]) (g:=Pat.sem (.tp [(.nm 2),(.nm 3)])) (b:=JM) (ds:=cs.map encC) (env:=[some (.lst false (cs.map encC)),some (.ref 0),none,none,none]) (S:=[some ((U0l (maxLen cs) (0:Int)).map .int)])
   (fun i env S=>∃z2 z3 z4,env=[some (.lst false (cs.map encC)),some (.ref 0),z2,z3,z4]/\S=[some (((cs.take i).foldl CQ (U0l (maxLen cs) 0)).map .int)])
   ⟨none,none,none,rfl,rfl⟩ (fun i env S _=>by simp) (fun i d env S hd q=>by
    obtain⟨z2,z3,z4,he,hS⟩:=q
    subst he hS
    rw[U0w] at hd
    obtain⟨c,hc,rfl⟩:=U10.mp hd
    have hm:=U1k hc
    obtain⟨q1,q2,_⟩:=hf c hm
    refine⟨[some (.lst false (cs.map encC)),some (.ref 0),some (Af c.1),some (Cy false c.2),z4],by simp[Cr,HF,FZ,El,-U0c,-U0e,encC],_,_,oX _ _ c q1 q2 (by rw[KY,U1f];exact m1 c hm) z4,_,_,_,rfl,?_⟩
    rw[U28,hc,U29,U3i]
    rfl)
  subst he hS
  refine⟨z2,z3,z4,e2.trans ?_⟩
  have:(cs.map encC).length=cs.length:=by simp
  rw[this,U2r]
 obtain⟨z2,z3,z4,l1⟩:=l1
 unfold Fd
 rw[Ck]
 simp only[U0j,U05,U0m,U08,U1i,U1j,U0o,U06,U11,U1n,if_true]
 unfold QX
 rw[BP s1,BP l1]
 generalize cs.foldl CQ (U0l (maxLen cs) 0)=l
 simp[Cg,Aq,den,-U0c,-U0e]
theorem cu{n:Nat}{bs:List (List St2)}(g:Good n bs):Ey [Ak false n bs,.int n]=some .non:=by
 have h1:=Uq (m:=false) g
 have s1:(GX (Aw Fe (Aa (Ab 0) Ae))) [some (Ak false n bs),some (.int n)] []=some (.nx,[some (Ak false n bs),some (.int n)],[]):=by
  rw[Gk,CZ (ds:=[Ak false n bs]) (es:=[Ak false n bs]) (S':=[]) rfl (by simp[Ay,BW,Ak]) (by simp[Bj,age,Ak]) h1];rfl
 have t2:BK (eOp (oEq true) (eOp oIx (Ab 0) (eC (.int 0))) (Ab 1)) [some (Ak false n bs),some (.int n)] []=some (false,[]):=by
  simp[Aq,CT,BJ,DP,oEq,oIx,VS.listOf,CJ,-U0c,-U0e,Ak]
 unfold Ey
 rw[Ck]
 simp only[U0j,U05,U0m,U08,U1i,U1j,U06,U15,if_true]
 unfold Vf
 rw[BP s1,Hi t2];rfl
theorem Zo{n:Nat}{bs:List (List St2)}(g:Good n bs){r:VS.Env}{a:BX}(h0:r[0]?=some (some (Ak false n bs)))(ha:a r []=some (.int n,[])):(GX (Aw Ey (Aa (Ab 0) (Aa a Ae)))) r []=some (.nx,r,[]):=by
 rw[Gk,CZ (ds:=[Ak false n bs,.int n]) (es:=[Ak false n bs,.int n]) (S':=[]) (by simp[Al,BZ,Aq,h0,ha]) (by simp[Ay,BW,Ak]) (by simp[Bj,age,Ak]) (cu g)];rfl
theorem ak{bs:List (List St2)}(g:Good 2 bs):FT [Ak false 2 bs]=some (.lst true (((Bg bs 2 0 (U0g bs.length)).foldl CQ (U0l (maxLen (Bg bs 2 0 (U0g bs.length))) 0)).map .int)):=by
 have few:=g.few
 have hl:=Jp (bs:=bs) 2 0 (U0g bs.length) (by simpa using few)
 have h2:=cC g
 have h3:=oV _ _ few (by omega) (Jo g)
 have s1:=Zo g (r:=[some (Ak false 2 bs)]) (a:=eC (.int 2)) rfl rfl
 have c2:Aw Ew (Aa (Ab 0) Ae) [some (Ak false 2 bs)] []=some (.lst true ((Bg bs 2 0 (U0g bs.length)).map encC),[]) :=
  CZ (ds:=[Ak false 2 bs]) (es:=[Ak false 2 bs]) (S':=[]) rfl (by simp[Ay,BW,Ak]) (by simp[Bj,age,Ak]) h2
 generalize Bg bs 2 0 (U0g bs.length)=cs at *
 have c3:Aw Fd (Aa (Aw Ew (Aa (Ab 0) Ae)) Ae) [some (Ak false 2 bs)] []=some (.lst true ((cs.foldl CQ (U0l (maxLen cs) 0)).map .int),[]) :=
  CZ (ds:=[.lst true (cs.map encC)]) (es:=[.lst false (cs.map encC)]) (S':=[]) (by rw[Al,c2];rfl) (by rw[Ay,BW,Mt,Ay];rfl) (by rw[Bj,age,Z2,Bj]) h3
 unfold FT
 rw[Ck]
 simp only[U0j,U05,U0m,U08,U1i,U1j,U06,U15,if_true]
 unfold Sy
 rw[BP s1,Cg,c3]
 show den 0 _ (.lst true _)=_
 rw[den,Ce 0 _ (Fz _)];rfl
end W13
end
section
namespace W13
open PySem L2 VS
def encJ(ms:List Int):D:=.lst false (ms.map .int)
def Bp(s:List Nat):D:=.tup (s.map fun(k:Nat)=>D.int k)
def Ej(acc:List (List Nat))(ms:List Int):List (List Nat):=acc.flatMap fun s=>(U0g (ms.length-1)).map fun k=>s++[k]
def sU(F:D)(S:Store)(ds:List D):Prop:=F=.lst true ds∨∃j,F=.ref j/\S[j]?=some (some ds)
theorem lZ(r:VS.Env)(S:Store)(ms:List Int)(s:List Nat)(h1:1<=ms.length)(h2:ms.length<=1000)(hs:s.length<=10)(r2:r[2]?=some (some (encJ ms)))(r4:r[4]?=some (some (Bp s))):Oh r S=some (((U0g (ms.length-1)).map fun k=>s++[k]).map Bp,S):=by
 have v2:Ab 2 r S=some (encJ ms,S):=by rw[Aq,r2];rfl
 have e1:((ms.length:Int)-1)=((ms.length-1:Nat):Int):=by omega
 have e:Fj (Aa (eOp Dw (eCB Dm (Aa (Ab 2) Ae)) (eC (.int 1))) Ae) r S=some ((upD 0 (ms.length-1),[]),S):=O4 (j:=((ms.length-1:Nat):Int)) _ (by
  rw[Al,BJ,Eu,Al,v2,←e1]
  show(some ([D.int (((ms.map D.int).length:Nat)-1)],S):Option (List D×Store))=_
  rw[U0k]) (by simp) (by omega) (by omega)
 have ec:Gn 1 [4] r=[none,some (Bp s)]:=by simp[Gn,r4]
 unfold Oh Cw
 rw[e,ec]
 simp only[U0a]
 rw[gb (by simp) (ms.length-1) (fun k=>Bp (s++[k])) (by omega) fun k hk=>⟨[some (.int k),some (Bp s)],by rw[Cr];rfl,?_⟩,U0c]
 .rfl
 .show(U2g _ (if (s.map fun(k:Nat)=>D.int k).length+1<=1000000 then some (D.tup ((s.map fun(k:Nat)=>D.int k)++[D.int k])) else none))=_
  rw[if_pos (by rw[U0k];omega)]
  unfold Bp
  rw[U09];rfl
theorem lY(M:D)(ms:List Int)(h1:1<=ms.length)(h2:ms.length<=41)(acc:List (List Nat))(hacc:acc.length<=1600)(hs:∀s∈acc,s.length<=3)(F:D)(S:Store)(hF:sU F S (acc.map Bp))(z4:Option D):∃y4,
  Lp [some M,some F,some (encJ ms),some (.ref S.length),z4] (S++[some []])=some (.nx,[some M,some F,some (encJ ms),some (.ref S.length),y4],S++[some ((Ej acc ms).map Bp)]):=by
 have key:∀w:List (Nat×List D),(∀a:List D,calm w (S++[some a]))->DK (Ab 1) [some M,some F,some (encJ ms),some (.ref S.length),z4] (S++[some []])=some ((acc.map Bp,w),S++[some []])->∃y4,Lp [some M,some F,some (encJ ms),some (.ref S.length),z4] (S++[some []])=some (.nx,[some M,some F,some (encJ ms),some (.ref S.length),y4],S++[some ((Ej acc ms).map Bp)]):=fun w hw e=>by
  unfold Lp
  rw[Fg,e]
  obtain⟨env',S',e2,y4,he,hS⟩:=Ep (w:=w) (g:=Pat.sem (.nm 4)) (b:=Oj) (ds:=acc.map Bp) (env:=[some M,some F,some (encJ ms),some (.ref S.length),z4]) (S:=S++[some []])
   (fun i env T=>∃y4,env=[some M,some F,some (encJ ms),some (.ref S.length),y4]/\T=S++[some ((Ej (acc.take i) ms).map Bp)])
   ⟨z4,rfl,rfl⟩ (fun i env T q=>by obtain⟨_,_,hT⟩:=q;rw[hT];exact hw _) (fun i d env T hd q=>by
    obtain⟨y4,he,hT⟩:=q
    subst he hT
    rw[U0w] at hd
    obtain⟨s,hs',rfl⟩:=U10.mp hd
    have hi:i<acc.length:=(U0n.mp hs').1
    refine⟨[some M,some F,some (encJ ms),some (.ref S.length),some (Bp s)],by rw[Cr];rfl,[some M,some F,some (encJ ms),some (.ref S.length),some (Bp s)],S++[some ((Ej (acc.take (i+1)) ms).map Bp)],?_,_,rfl,rfl⟩
    have c1:=lZ [some M,some F,some (encJ ms),some (.ref S.length),some (Bp s)] (S++[some ((Ej (acc.take i) ms).map Bp)]) ms s h1 (by omega) (by have:=hs s (U1k hs');omega) rfl rfl
    have hlen:∀l:List (List Nat),(Ej l ms).length=l.length*(ms.length-1):=fun l=>by
     unfold Ej
     induction l with
     |nil=>simp
     |cons a r ih=>rw[U4k,U0r,ih,U0k,U2s,U0j,U76];omega
    have hL:=Vr S (some ((Ej (acc.take i) ms).map Bp)) []
    have b1:(acc.take i).length*(ms.length-1)<=1600*40:=Nat.mul_le_mul (by rw[U19];omega) (by omega)
    unfold Oj
    rw[Gk,Ja (d:=.ref S.length) (cs:=(Ej (acc.take i) ms).map Bp) (ds:=[.lst true (((U0g (ms.length-1)).map fun k=>s++[k]).map Bp)]) (r:=.non) (S1:=S++[some ((Ej (acc.take i) ms).map Bp)]) (S2:=S++[some ((Ej (acc.take i) ms).map Bp)]) (S3:=S++[some ((Ej (acc.take (i+1)) ms).map Bp)]) rfl (by rw[VS.listOf,hL];rfl) (by
     rw[Al,DQ,c1];rfl) (by
     unfold V4
     simp only[hL,VS.listOf]
     rw[if_pos (by rw[U0k,U0k,U0k,U2s,hlen];omega),ni,←U09]
     congr 5
     unfold Ej
     rw[U28,hs',U29,List.flatMap_append]
     simp)]
    rfl)
  subst he hS
  refine⟨y4,e2.trans ?_⟩
  have:(acc.map Bp).length=acc.length:=by simp
  rw[this,U2r]
 rcases hF with rfl|⟨j,rfl,hj⟩
 .exact key [] (fun a=>by simp) rfl
 .have hjl:j<S.length:=(U0n.mp hj).1
  have hg:∀a:List D,(S++[some a])[j]?=some (some (acc.map Bp)):=fun a=>by rw[U1e hjl];exact hj
  refine key [(j,acc.map Bp)] (fun a p hp=>by rw[U07.mp hp];exact hg a) ?_
  have v1:Ab 1 [some M,some (.ref j),some (encJ ms),some (.ref S.length),z4] (S++[some []])=some (.ref j,S++[some []]):=rfl
  rw[FW,v1,U0a]
  show U2g _ (((S++[some []])[j]?).join)=_
  rw[hg];rfl
end W13
end
section
namespace W13
open PySem L2 VS
def Dq(mss:List (List Int)):List (List Nat):=Vs (mss.map fun ms=>U0g (ms.length-1))
theorem eU(mss:List (List Int)):mss.foldl Ej [[]]=Dq mss:=by
 have:=Yt (fun ms:List Int=>U0g (ms.length-1)) mss [[]]
 unfold Dq
 rw[show mss.foldl Ej [[]]=mss.foldl (fun acc E=>acc.flatMap fun s=>(U0g (E.length-1)).map fun x=>s++[x]) [[]] from rfl,this]
 simp
theorem UJ(s:List Nat):BW (Bp s)=true:=by
 have:=Fz (s.map fun(i:Nat)=>(i:Int))
 rw[U0c] at this
 unfold Bp
 rw[BW];exact this
theorem SX:∀l:List (List Nat),Ay (l.map Bp)=true
 |[]=>rfl
 |s::r=>by rw[U0m,Ay,UJ,SX r];rfl
theorem j7(ms:List Int)(l:List (List Nat)):(Ej l ms).length=l.length*(ms.length-1):=by
 unfold Ej
 induction l with
 |nil=>simp
 |cons a r ih=>rw[U4k,U0r,ih,U0k,U2s,U0j,U76];omega
theorem lX(mss:List (List Int))(hn:mss.length<=3)(hm:∀ms∈mss,1<=ms.length/\ms.length<=41):GK [.lst false (mss.map encJ)]=some (.lst true ((Dq mss).map Bp)):=by
 have s1:(Bk 1 (Bt (Aa (Bq Ae) Ae))) [some (.lst false (mss.map encJ)),none,none,none,none] []=some (.nx,[some (.lst false (mss.map encJ)),some (.lst true ([[]].map Bp)),none,none,none],[]):=rfl
 have e:DK (Ab 0) [some (.lst false (mss.map encJ)),some (.lst true ([[]].map Bp)),none,none,none] []=some ((mss.map encJ,[]),[]):=rfl
 obtain⟨env',S',e2,F,z2,z3,z4,he,hF,_,_⟩:=Ep (w:=[]) (g:=Pat.sem (.nm 2)) (b:=Oi) (ds:=mss.map encJ) (env:=[some (.lst false (mss.map encJ)),some (.lst true ([[]].map Bp)),none,none,none]) (S:=[])
  (fun i env S=>∃(F:D)(z2 z3 z4:Option D),env=[some (.lst false (mss.map encJ)),some F,z2,z3,z4]/\sU F S (((mss.take i).foldl Ej [[]]).map Bp)/\((mss.take i).foldl Ej [[]]).length<=40^i/\∀s∈(mss.take i).foldl Ej [[]],s.length<=i)
  ⟨_,_,_,_,rfl,.inl rfl,by simp,by simp⟩ (fun i env S _=>by simp) (fun i d env S hd q=>by
   obtain⟨F,z2,z3,z4,he,hF,hl,hs⟩:=q
   subst he
   rw[U0w] at hd
   obtain⟨ms,hms,rfl⟩:=U10.mp hd
   have hi:i<mss.length:=(U0n.mp hms).1
   obtain⟨m1,m2⟩:=hm ms (U1k hms)
   have h16:40^i<=40^2:=U6x (by decide) (by omega)
   obtain⟨y4,l1⟩:=lY (.lst false (mss.map encJ)) ms m1 m2 ((mss.take i).foldl Ej [[]]) (by omega) (fun s h=>by have:=hs s h;omega) F S hF z4
   have et:(mss.take (i+1)).foldl Ej [[]]=Ej ((mss.take i).foldl Ej [[]]) ms:=by
    rw[U28,hms,U29,U3i];rfl
   have a1:(Bk 3 (Gs Ae)) [some (.lst false (mss.map encJ)),some F,some (encJ ms),z3,z4] S=some (.nx,[some (.lst false (mss.map encJ)),some F,some (encJ ms),some (.ref S.length),z4],S++[some []]):=rfl
   refine⟨[some (.lst false (mss.map encJ)),some F,some (encJ ms),z3,z4],by rw[Cr];rfl,[some (.lst false (mss.map encJ)),some (.ref S.length),some (encJ ms),some (.ref S.length),y4],S++[some ((Ej ((mss.take i).foldl Ej [[]]) ms).map Bp)],?_,_,_,_,_,rfl,?_,?_,?_⟩
   .unfold Oi
    rw[BP a1,BP l1];rfl
   .rw[et];exact .inr ⟨S.length,rfl,Vr S _ []⟩
   .rw[et,j7,Nat.pow_succ]
    exact Nat.mul_le_mul hl (by omega)
   .intro s h
    rw[et] at h
    obtain⟨t,h1,h2⟩:=U6m.mp h
    obtain⟨k,_,rfl⟩:=U2o.mp h2
    have:=hs t h1
    simp;omega)
 have:(mss.map encJ).length=mss.length:=by simp
 rw[this,U2r,eU] at hF
 subst he
 have l2:Og [some (.lst false (mss.map encJ)),some (.lst true ([[]].map Bp)),none,none,none] []=some (.nx,[some (.lst false (mss.map encJ)),some F,z2,z3,z4],S'):=by
  unfold Og
  rw[Fg,e]
  exact e2
 unfold GK
 rw[Ck]
 simp only[U0j,U05,U0m,U08,U1i,U1j,U0o,U06,U11,U1n,if_true]
 unfold Uu
 rw[BP s1,BP l2]
 show den 0 S' F=_
 rcases hF with rfl|⟨j,rfl,hj⟩
 .rw[den,Ce 0 _ (SX _)];rfl
 .rw[den,if_neg (by omega),hj]
  show(if Ay ((Dq mss).map Bp)=true then _ else _)=_
  rw[if_pos (SX _)]
def cellOf:List (List Int)->List Nat->List St2
 |ms::r,k::s=>(ms.getD k 0,ms.getD (k+1) 0)::cellOf r s
 |_,_=>[]
theorem pA:∀ms:List Int,steps ms=(U0g (ms.length-1)).map fun k=>(ms.getD k 0,ms.getD (k+1) 0):=fun ms=>by
 unfold steps
 refine U6l (by simp) fun k h1 h2=>?_
 have hk:k<ms.length-1:=by simpa using h2
 rw[List.getElem_zip,List.getElem_map,List.getElem_range,List.getElem_tail,U0h,U0h,U0i (show k<ms.length by omega),U0i (show k+1<ms.length by omega)]
 rfl
theorem Vd:∀mss:List (List Int),PJ mss=(Dq mss).map (cellOf mss)
 |[]=>rfl
 |ms::r=>by
  rw[PJ,Vd r,pA,List.flatMap_map]
  unfold Dq
  rw[U0m,Vs,U7n]
  refine congrArg (fun g=>U8c g (U0g (ms.length-1))) (funext fun k=>?_)
  rw[U0c,U0c];rfl
theorem Ua:∀(mss:List (List Int))(s:List Nat),s∈Dq mss->s.length=mss.length/\∀q∈mss.zip s,q.2<q.1.length-1
 |[],s,h=>by
  have:s=[]:=by simpa [Dq,Vs] using h
  subst this
  exact⟨rfl,by simp⟩
 |ms::r,s,h=>by
  unfold Dq at h
  rw[U0m,Vs] at h
  obtain⟨k,h1,h2⟩:=U6m.mp h
  obtain⟨t,h3,rfl⟩:=U2o.mp h2
  obtain⟨a,b⟩:=Ua r t h3
  refine⟨by rw[U0j,U0j,a],fun q hq=>?_⟩
  rw[U4] at hq
  rcases U00.mp hq with z|z
  .rw[z];exact U2h.mp h1
  .exact b q z
end W13
end
section
namespace W13
open PySem L2 VS
def ok1(q:St2×Nat):Bool:=decide (q.1.1<=q.2)&&decide ((q.2:Int)<q.1.2)
def K9(b:List St2)(s:List Nat):Bool:=(b.zip s).all ok1
def Di(sm:List (List St2))(s:List Nat):List Nat:=((sm.zipIdx).filter fun q=>K9 q.1 s).map fun q=>q.2
theorem bT:∀(bs:List (List St2))(k:Nat),Mi k (bs.map Af)=(bs.zipIdx k).map fun q=>.tup [.int q.2,Af q.1]
 |[],k=>by simp[Mi]
 |b::r,k=>by simp[Mi,bT r (k+1)]
theorem Tv:∀is:List Int,K6 (is.map .int)=some (is.map .int)
 |[]=>by rw[U08,K6];rfl
 |i::r=>by rw[U0m,K6,Tv r,toP];rfl
theorem Qj(S:Store)(m:Bool)(is:List Int):Dk S (.lst m (is.map .int))=some (.list (is.map .int)):=by
 rw[Dk,den,Ce 0 S (Fz is)]
 show toP (.lst m (is.map .int))=_
 rw[toP,Tv];rfl
theorem W3(is:List Int):lev 1 (.list (is.map .int))=true:=by
 rw[lev,U7l,U37]
 exact fun _ _=>rfl
theorem vO(r:VS.Env)(S:Store)(b:List St2)(s:List Nat)(hb:b.length<=3)(r1:r[1]?=some (some (Bp s)))(r4:r[4]?=some (some (Af b))):Ny r S=some ((((b.zip s).filter fun q=>!ok1 q).map fun _=>(1:Int)).map .int,S):=by
 have v1:Ab 1 r S=some (Bp s,S):=by rw[Aq,r1];rfl
 have v4:Ab 4 r S=some (Af b,S):=by rw[Aq,r4];rfl
 have e:Qh (Aa (Ab 4) (Aa (Ab 1) Ae)) r S=some (((b.zip s).map fun q=>D.tup [Av q.1,.int q.2],[]),S):=by
  rw[bJ,Al,v4,U0a,Al,v1]
  show(some ((Dj (b.map Av) (s.map fun(k:Nat)=>D.int k),([]:List (Nat×List D))),S))=_
  rw[Uy]
 unfold Ny Cw
 rw[e]
 simp only[U0a]
 rw[MJ (by simp) (fun q:St2×Nat=>D.tup [Av q.1,.int q.2]) (fun q=>!ok1 q) (fun _=>.int 1) _ _ (by rw[U4e];simp;omega),U0c]
 .rfl
 .intro q _
  obtain⟨p,k⟩:=q
  refine⟨[some (.int k),some (.int p.1),some (.int p.2)],by simp[Gn,Cr,HF,FZ,El,U0o,-U0c,-U0e,Av],?_,fun _=>rfl⟩
  have k1:BK (eOp oLt (Ab 0) (Ab 1)) [some (.int k),some (.int p.1),some (.int p.2)] S=some (decide ((k:Int)<p.1),S):=rfl
  have k2:BK (eOp oGe (Ab 0) (Ab 2)) [some (.int k),some (.int p.1),some (.int p.2)] S=some (decide (p.2<=(k:Int)),S):=rfl
  rw[Py,k1,U0a]
  unfold ok1
  by_cases h1:(k:Int)<p.1
  .have:¬(p.1<=(k:Int)):=by omega
   simp[h1,this]
  .have h2:p.1<=(k:Int):=by omega
   simp only[h1,decide_false,U1o,if_false,k2]
   by_cases h3:p.2<=(k:Int)
   .have:¬((k:Int)<p.2):=by omega
    simp[h2,h3,this]
   .have:(k:Int)<p.2:=by omega
    simp[h2,h3,this]
theorem vM(sm:List (List St2))(hl:sm.length<=20)(hb:∀b∈sm,b.length<=3)(s:List Nat):HY [.lst false (sm.map Af),Bp s]=some (.lst true ((Di sm s).map fun(i:Nat)=>D.int i)):=by
 have s1:(Bk 2 (Gs Ae)) [some (.lst false (sm.map Af)),some (Bp s),none,none,none] []=some (.nx,[some (.lst false (sm.map Af)),some (Bp s),some (.ref 0),none,none],[some []]):=rfl
 have e:Zu (Aa (Ab 0) Ae) [some (.lst false (sm.map Af)),some (Bp s),some (.ref 0),none,none] [some []]=some (((sm.zipIdx).map fun q=>D.tup [.int q.2,Af q.1],[]),[some []]):=by
  rw[←bT sm 0];rfl
 obtain⟨env',S',e2,z3,z4,he,hS⟩:=Ep (w:=[]) (g:=Pat.sem (.tp [(.nm 3),(.nm 4)])) (b:=R9) (ds:=(sm.zipIdx).map fun q=>D.tup [.int q.2,Af q.1]) (env:=[some (.lst false (sm.map Af)),some (Bp s),some (.ref 0),none,none]) (S:=[some []])
  (fun i env S=>∃z3 z4:Option D,env=[some (.lst false (sm.map Af)),some (Bp s),some (.ref 0),z3,z4]/\S=[some (((((sm.zipIdx).take i).filter fun q=>K9 q.1 s).map fun q=>q.2).map fun(i:Nat)=>D.int i)])
  ⟨none,none,rfl,rfl⟩ (fun i env S _=>by simp) (fun i d env S hd q=>by
   obtain⟨z3,z4,he,hS⟩:=q
   subst he hS
   rw[U0w] at hd
   obtain⟨q,hq,rfl⟩:=U10.mp hd
   have hi:i<(sm.zipIdx).length:=(U0n.mp hq).1
   rw[U7a] at hi
   have ht:(sm.zipIdx).take (i+1)=(sm.zipIdx).take i++[q]:=by rw[U28,hq];rfl
   have hbq:q.1.length<=3:=hb _ (by
    have:=List.fst_mem_of_mem_zipIdx (U1k hq)
    exact this)
   have hL:∀l:List (List St2×Nat),((l.filter fun q=>K9 q.1 s).map fun q=>q.2).length<=l.length:=fun l=>by rw[U0k];exact U3c ..
   have hL2:=hL ((sm.zipIdx).take i)
   rw[U19,U7a] at hL2
   generalize ha:(((sm.zipIdx).take i).filter fun q=>K9 q.1 s).map (fun q=>q.2)=acc at *
   have c1:=vO [some (.lst false (sm.map Af)),some (Bp s),some (.ref 0),some (.int q.2),some (Af q.1)] [some (acc.map fun(i:Nat)=>D.int i)] q.1 s hbq rfl rfl
   have ts:BK (eOp (oEq false) (Bt Ny) (Bt Ae)) [some (.lst false (sm.map Af)),some (Bp s),some (.ref 0),some (.int q.2),some (Af q.1)] [some (acc.map fun(i:Nat)=>D.int i)]=some (K9 q.1 s,[some (acc.map fun(i:Nat)=>D.int i)]):=by
    have q1:=V7 (neg:=false) (S:=[some (acc.map fun(i:Nat)=>D.int i)]) (m:=true) 1 (Qj [some (acc.map fun(i:Nat)=>D.int i)] true (((q.1.zip s).filter fun q=>!ok1 q).map fun _=>(1:Int))) (W3 _) (by decide)
    rw[DP,BJ,DQ,c1]
    show(U2g _ (eqP false [some (acc.map fun(i:Nat)=>D.int i)] (.lst true ((((q.1.zip s).filter fun q=>!ok1 q).map fun _=>(1:Int)).map .int)) (.lst true []))).bind _=_
    rw[q1]
    show some ((false ^^ ((((q.1.zip s).filter fun q=>!ok1 q).map fun _=>(1:Int)).map PyData.int).isEmpty),_)=_
    congr 2
    unfold K9
    rw[Bool.false_xor,U3l,List.isEmpty_iff,List.map_eq_nil_iff,List.map_eq_nil_iff,U6e,U37]
    simp
   refine⟨[some (.lst false (sm.map Af)),some (Bp s),some (.ref 0),some (.int q.2),some (Af q.1)],by simp[Cr,HF,FZ,El,-U0c,-U0e],[some (.lst false (sm.map Af)),some (Bp s),some (.ref 0),some (.int q.2),some (Af q.1)],[some (((((sm.zipIdx).take (i+1)).filter fun q=>K9 q.1 s).map fun q=>q.2).map fun(i:Nat)=>D.int i)],?_,_,_,rfl,rfl⟩
   rw[ht,List.filter_append,U09,ha]
   unfold R9
   cases h:K9 q.1 s with
   |true =>
    rw[h] at ts
    have hfp:List.filter (fun q:List St2×Nat=>K9 q.1 s) [q]=[q]:=by simp[h]
    rw[KQ ts,Gk,hfp,Ja (d:=.ref 0) (cs:=acc.map fun(i:Nat)=>D.int i) (ds:=[.int q.2]) (r:=.non) (S1:=[some (acc.map fun(i:Nat)=>D.int i)]) (S2:=[some (acc.map fun(i:Nat)=>D.int i)]) (S3:=[some ((acc++[q.2]).map fun(i:Nat)=>D.int i)]) rfl rfl rfl (by
     show(if (acc.map fun(i:Nat)=>D.int i).length<1000000 then some (D.non,[some ((acc.map fun(i:Nat)=>D.int i)++[.int q.2])]) else none)=_
     rw[if_pos (by rw[U0k];omega),U09];rfl)]
    rfl
   |false =>
    rw[h] at ts
    have hfn:List.filter (fun q:List St2×Nat=>K9 q.1 s) [q]=[]:=by simp[h]
    rw[Hi ts,hfn,U08,U15];rfl)
 subst he hS
 have:((sm.zipIdx).map fun q=>D.tup [.int q.2,Af q.1]).length=(sm.zipIdx).length:=by simp
 rw[this,U2r] at e2
 have l1:R8 [some (.lst false (sm.map Af)),some (Bp s),some (.ref 0),none,none] [some []]=some (.nx,[some (.lst false (sm.map Af)),some (Bp s),some (.ref 0),z3,z4],[some ((Di sm s).map fun(i:Nat)=>D.int i)]):=by
  unfold R8
  rw[Fg,e]
  exact e2
 unfold HY
 rw[Ck]
 simp only[U0j,U05,U0m,U08,U1i,U1j,U0o,U06,U11,U1n,if_true]
 unfold X6
 rw[BP s1,BP l1]
 show den 0 [some ((Di sm s).map fun(i:Nat)=>D.int i)] (.ref 0)=_
 have hp:Ay ((Di sm s).map fun(i:Nat)=>D.int i)=true:=by
  have:=Fz ((Di sm s).map fun(i:Nat)=>(i:Int))
  rw[U0c] at this
  exact this
 rw[den,if_neg (by omega)]
 show(if Ay ((Di sm s).map fun(i:Nat)=>D.int i)=true then _ else _)=_
 rw[if_pos hp]
end W13
end
section
namespace W13
open PySem L2 VS
def gap(q:List Int×Nat):Int:=q.1.getD (q.2+1) 0-q.1.getD q.2 0
theorem YW:∀(mss:List (List Int))(s:List Nat)(z:Int),s.length=mss.length->(mss.zip s).foldl (fun z q=>z*gap q) z=z*Dp (cellOf mss s)
 |[],[],z,_=>by simp[cellOf,Dp]
 |[],_::_,_,h=>by simp at h
 |_::_,[],_,h=>by simp at h
 |ms::r,k::s,z,h=>by
  rw[U4,U13,YW r s _ (by simpa using h),cellOf,Dp,U73];rfl
theorem tU(mss:List (List Int))(s:List Nat)(hm:∀ms∈mss,∀x∈ms,-1000000000<=x/\x<=1000000000)(hs:s.length=mss.length)(hq:∀q∈mss.zip s,q.2<q.1.length-1):Il [.lst false (mss.map encJ),Bp s]=some (.int (Dp (cellOf mss s))):=by
 have s1:(Bk 2 (eC (.int 1))) [some (.lst false (mss.map encJ)),some (Bp s),none,none,none] []=some (.nx,[some (.lst false (mss.map encJ)),some (Bp s),some (.int 1),none,none],[]):=rfl
 have e:Qh (Aa (Ab 0) (Aa (Ab 1) Ae)) [some (.lst false (mss.map encJ)),some (Bp s),some (.int 1),none,none] []=some (((mss.zip s).map fun q=>D.tup [encJ q.1,.int q.2],[]),[]):=by
  show(some ((Dj (mss.map encJ) (s.map fun(k:Nat)=>D.int k),([]:List (Nat×List D))),([]:Store)))=_
  rw[Uy]
 obtain⟨env',S',e2,hS,z3,z4,he⟩:=Ep (w:=[]) (g:=Pat.sem (.tp [(.nm 3),(.nm 4)])) (b:=R7) (ds:=(mss.zip s).map fun q=>D.tup [encJ q.1,.int q.2]) (env:=[some (.lst false (mss.map encJ)),some (Bp s),some (.int 1),none,none]) (S:=[])
  (fun i env S=>S=[]/\∃z3 z4:Option D,env=[some (.lst false (mss.map encJ)),some (Bp s),some (.int (((mss.zip s).take i).foldl (fun z q=>z*gap q) 1)),z3,z4])
  ⟨rfl,none,none,rfl⟩ (fun i env S _=>by simp) (fun i d env S hd q=>by
   obtain⟨hS,z3,z4,he⟩:=q
   subst hS he
   rw[U0w] at hd
   obtain⟨q,hq',rfl⟩:=U10.mp hd
   have hm1:=U1k hq'
   have hk:=hq q hm1
   have hms:=hm q.1 (U3z hm1).1
   obtain⟨ms,k⟩:=q
   simp only at hk hms
   have k0:k<ms.length:=by omega
   have k1:k+1<ms.length:=by omega
   have a0:atI (ms.map D.int) (k:Int)=some (.int (ms.getD k 0)):=V8 k0
   have a1:atI (ms.map D.int) ((k:Int)+1)=some (.int (ms.getD (k+1) 0)):=by
    have:=V8 k1
    rw[show((k+1:Nat):Int)=(k:Int)+1 by omega] at this
    exact this
   have b0:-1000000000<=ms.getD k 0/\ms.getD k 0<=1000000000:=by
    rw[U0h,U0i k0];exact hms _ (U1s k0)
   have b1:-1000000000<=ms.getD (k+1) 0/\ms.getD (k+1) 0<=1000000000:=by
    rw[U0h,U0i k1];exact hms _ (U1s k1)
   refine⟨[some (.lst false (mss.map encJ)),some (Bp s),some (.int (((mss.zip s).take i).foldl (fun z q=>z*gap q) 1)),some (encJ ms),some (.int k)],by simp[Cr,HF,FZ,El,-U0c,-U0e],[some (.lst false (mss.map encJ)),some (Bp s),some (.int (((mss.zip s).take (i+1)).foldl (fun z q=>z*gap q) 1)),some (encJ ms),some (.int k)],[],?_,rfl,_,_,rfl⟩
   rw[U28,hq',U29,U3i]
   generalize ((mss.zip s).take i).foldl (fun z q=>z*gap q) 1=z
   have o1:eOp Dw (eOp oIx (Ab 3) (eOp Dl (Ab 4) (eC (.int 1)))) (eOp oIx (Ab 3) (Ab 4)) [some (.lst false (mss.map encJ)),some (Bp s),some (.int z),some (encJ ms),some (.int k)] []=some (.int (gap (ms,k)),[]):=by
    have i1:eOp oIx (Ab 3) (eOp Dl (Ab 4) (eC (.int 1))) [some (.lst false (mss.map encJ)),some (Bp s),some (.int z),some (encJ ms),some (.int k)] []=some (.int (ms.getD (k+1) 0),[]):=by
     show U2g _ (atI (ms.map D.int) ((k:Int)+1))=_
     rw[a1];rfl
    have i2:eOp oIx (Ab 3) (Ab 4) [some (.lst false (mss.map encJ)),some (Bp s),some (.int z),some (encJ ms),some (.int k)] []=some (.int (ms.getD k 0),[]):=by
     show U2g _ (atI (ms.map D.int) (k:Int))=_
     rw[a0];rfl
    rw[BJ,i1,U0a,i2];rfl
   have hg:Pr z (gap (ms,k))=true:=by
    unfold Pr gap
    simp only[U6s,U1h,decide_eq_true_eq]
    right
    constructor
    .refine Int.lt_of_lt_of_le (b:=-2000000000) (by decide) (by omega)
    .refine Int.lt_of_le_of_lt (b:=2000000000) (by omega) (by decide)
   have v2:Ab 2 [some (.lst false (mss.map encJ)),some (Bp s),some (.int z),some (encJ ms),some (.int k)] []=some (.int z,[]):=rfl
   unfold R7
   rw[CW,BJ,v2,U0a,o1,U0a]
   show(U2g _ (if Pr z (gap (ms,k))=true then some (D.int (z*gap (ms,k))) else none)).bind _=_
   rw[if_pos hg];rfl)
 subst hS he
 have:((mss.zip s).map fun q=>D.tup [encJ q.1,.int q.2]).length=(mss.zip s).length:=by simp
 rw[this,U2r,YW mss s 1 hs,U8f] at e2
 have l1:R6 [some (.lst false (mss.map encJ)),some (Bp s),some (.int 1),none,none] []=some (.nx,[some (.lst false (mss.map encJ)),some (Bp s),some (.int (Dp (cellOf mss s))),z3,z4],[]):=by
  unfold R6
  rw[Fg,e]
  exact e2
 unfold Il
 rw[Ck]
 simp only[U0j,U05,U0m,U08,U1i,U1j,U0o,U06,U11,U1n,if_true]
 unfold X5
 rw[BP s1,BP l1]
 rfl
theorem tZ{S:Store}{is:List Int}(h:S[0]?=some (some (is.map .int))):Dk S (.ref 0)=some (.list (is.map .int)):=by
 rw[Dk,den,if_neg (by omega),h]
 show(if Ay (is.map D.int)=true then some (D.lst true (is.map .int)) else none).bind toP=_
 rw[if_pos (Fz is)]
 show toP (.lst true (is.map .int))=_
 rw[toP,Tv];rfl
theorem aD(e0 e1 e2 z4 z5:Option D):∀(f:Nat)(l:List Int),l.length<f->Mp (Ii (BK (eOp (oEq true) (Ab 3) (Bt Ae))) (BK (eOp (oEq false) (eOp oIx (Ab 3) (eUn Ga (eC (.int 1)))) (eC (.int 0))))) N6 f [e0,e1,e2,some (.ref 0),z4,z5] [some (l.map .int)]=some (.nx,[e0,e1,e2,some (.ref 0),z4,z5],[some ((Kf l.length l).map .int)])
 |0,l,h=>by omega
 |f+1,l,h=>by
  have t1:BK (eOp (oEq true) (Ab 3) (Bt Ae)) [e0,e1,e2,some (.ref 0),z4,z5] [some (l.map .int)]=some (!l.isEmpty,[some (l.map .int)]):=by
   have q1:=V7 (neg:=true) (S:=[some (l.map .int)]) (m:=true) 1 (tZ (S:=[some (l.map .int)]) rfl) (W3 l) (by decide)
   show(U2g _ (eqP true [some (l.map D.int)] (.ref 0) (.lst true []))).bind _=_
   rw[q1]
   cases l<;>rfl
  unfold Mp
  rw[Ng,t1]
  rcases U4f l with rfl|⟨l',x,rfl⟩
  .rfl
  .rw[U4g] at h ⊢
   have ha:atI ((l'++[x]).map D.int) (-1)=some (.int x):=by rw[U09];exact SN _ _
   have t2:BK (eOp (oEq false) (eOp oIx (Ab 3) (eUn Ga (eC (.int 1)))) (eC (.int 0))) [e0,e1,e2,some (.ref 0),z4,z5] [some ((l'++[x]).map .int)]=some (decide (x=0),[some ((l'++[x]).map .int)]):=by
    have i1:eOp oIx (Ab 3) (eUn Ga (eC (.int 1))) [e0,e1,e2,some (.ref 0),z4,z5] [some ((l'++[x]).map .int)]=some (.int x,[some ((l'++[x]).map .int)]):=by
     show U2g _ (atI ((l'++[x]).map D.int) (-1))=_
     rw[ha];rfl
    rw[DP,BJ,i1,U0a]
    simp[CT,oEq,-U0c,-U0e]
   have hne:(l'++[x]).isEmpty=false:=by cases l'<;>rfl
   rw[hne]
   simp only[U0a,Bool.not_false,if_true]
   rw[t2]
   have hlen:(l'++[x]).length=l'.length+1:=by simp
   by_cases hx:x=0
   .subst hx
    have p1:N6 [e0,e1,e2,some (.ref 0),z4,z5] [some ((l'++[0]).map .int)]=some (.nx,[e0,e1,e2,some (.ref 0),z4,z5],[some (l'.map .int)]):=by
     unfold N6
     rw[Gk,Ja (d:=.ref 0) (cs:=(l'++[0]).map .int) (ds:=[]) (r:=.int 0) (S1:=[some ((l'++[0]).map .int)]) (S2:=[some ((l'++[0]).map .int)]) (S3:=[some (l'.map .int)]) rfl rfl rfl (by
      show((((l'++[0]).map D.int)[((l'++[0]).map D.int).length-1]?).bind fun d=>some (d,[some ((l'++[0]).map D.int).dropLast]))=_
      rw[U09,U0m,U08,U3o]
      simp)]
     rfl
    simp only[decide_true,U0a,if_true,p1]
    rw[aD e0 e1 e2 z4 z5 f l' (by rw[hlen] at h;omega),hlen,Kf,if_pos ⟨by simp,by simp⟩,U3o]
   .rw[decide_eq_false hx,hlen,Kf,if_neg (by simp[hx])]
    rfl
end W13
end
section
namespace W13
open PySem L2 VS
def PB(sm:List (List St2))(mss:List (List Int))(s:List Nat):List St2×List Nat:=(cellOf mss s,Di sm s)
def JH(sm:List (List St2))(mss:List (List Int))(acc:List Int)(s:List Nat):List Int:=if (Di sm s).length=0 then acc else CQ acc (PB sm mss s)
theorem lD(sm:List (List St2))(mss:List (List Int))(acc:List Int)(s:List Nat):(JH sm mss acc s).length=acc.length:=by
 unfold JH
 split
 .rfl
 .exact Li _ _
theorem Ud(sm:List (List St2))(mss:List (List Int)):∀(l:List (List Nat))(acc:List Int),(l.foldl (JH sm mss) acc).length=acc.length
 |[],_=>rfl
 |s::r,acc=>by rw[U13,Ud sm mss r,lD]
theorem bL(sm:List (List St2))(mss:List (List Int)):∀(l:List (List Nat))(acc:List Int),l.foldl (JH sm mss) acc=((l.map (PB sm mss)).filter fun c=>decide (1<=c.2.length)).foldl CQ acc
 |[],_=>rfl
 |s::r,acc=>by
  rw[U13,bL sm mss r,U0m]
  by_cases h:(Di sm s).length=0
  .have h1:JH sm mss acc s=acc:=if_pos h
   have h2:decide (1<=(PB sm mss s).2.length)=false:=decide_eq_false (by show ¬1<=(Di sm s).length;omega)
   rw[h1,List.filter_cons,h2];rfl
  .have h1:JH sm mss acc s=CQ acc (PB sm mss s):=if_neg h
   have h2:decide (1<=(PB sm mss s).2.length)=true:=decide_eq_true (by show 1<=(Di sm s).length;omega)
   rw[h1,List.filter_cons,h2];rfl
theorem qz(sm:List (List St2))(s:List Nat):(Di sm s).length<=sm.length:=by
 unfold Di
 rw[U0k]
 exact U1a (U3c ..) (by rw[U7a];exact U0t _)
theorem Uj:∀mss:List (List Int),Bj (mss.map encJ)=mss.map encJ
 |[]=>by rw[U08,Bj]
 |m::r=>by rw[U0m,Bj,encJ,age,Ma,Uj r]
theorem Sd:∀mss:List (List Int),Ay (mss.map encJ)=true
 |[]=>rfl
 |m::r=>by rw[U0m,Ay,encJ,BW,Fz,Sd r];rfl
theorem cJ(s:List Nat):age (Bp s)=Bp s:=by
 have:=Ma (s.map fun(i:Nat)=>(i:Int))
 rw[U0c] at this
 unfold Bp
 rw[age]
 exact congrArg D.tup this
theorem um{n m:Nat}{sm:List (List St2)}{mss:List (List Int)}(md:Made n m sm mss)(hn:n<=3)(h20:sm.length<=20)(e2 z5:Option D)(s:List Nat)(hs:s∈Dq mss)(acc:List Int)(ha:acc.length=sm.length):∃y5,N7 [some (.lst false (sm.map Af)),some (.lst false (mss.map encJ)),e2,some (.ref 0),some (Bp s),z5] [some (acc.map .int)]=some (.nx,[some (.lst false (sm.map Af)),some (.lst false (mss.map encJ)),e2,some (.ref 0),some (Bp s),y5],[some ((JH sm mss acc s).map .int)]):=by
 have h1:=vM sm h20 (fun b hb=>by rw[(md.box b hb).len];exact hn) s
 obtain⟨pl,pq⟩:=Ua mss s hs
 have h2:=tU mss s (fun ms hm x hx=>(md.mks ms hm).near x hx) pl pq
 have hf:=qz sm s
 have pB:=Ca (Cp sm)
 have aB:Bj (sm.map Af)=sm.map Af:=J3 (Cp sm)
 have c1:∀z5:Option D,Aw HY (Aa (Ab 0) (Aa (Ab 4) Ae)) [some (.lst false (sm.map Af)),some (.lst false (mss.map encJ)),e2,some (.ref 0),some (Bp s),z5] [some (acc.map .int)]=some (.lst true ((Di sm s).map fun(i:Nat)=>D.int i),[some (acc.map .int)]):=fun z5 =>
  CZ (ds:=[.lst false (sm.map Af),Bp s]) (es:=[.lst false (sm.map Af),Bp s]) rfl (by rw[Ay,BW,pB,Ay,UJ,Ay];rfl) (by rw[Bj,age,aB,Bj,cJ,Bj]) h1
 have s1:(Bk 5 (eCB Dm (Aa (Aw HY (Aa (Ab 0) (Aa (Ab 4) Ae))) Ae))) [some (.lst false (sm.map Af)),some (.lst false (mss.map encJ)),e2,some (.ref 0),some (Bp s),z5] [some (acc.map .int)]=some (.nx,[some (.lst false (sm.map Af)),some (.lst false (mss.map encJ)),e2,some (.ref 0),some (Bp s),some (.int (Di sm s).length)],[some (acc.map .int)]):=by
  rw[CW,Eu,Al,c1]
  show some (Fl.nx,[some (D.lst false (sm.map Af)),some (.lst false (mss.map encJ)),e2,some (.ref 0),some (Bp s),some (.int (((Di sm s).map fun(i:Nat)=>D.int i).length:Nat))],[some (acc.map D.int)])=_
  rw[U0k]
 refine⟨some (.int (Di sm s).length),?_⟩
 have ts:BK (eOp oGt (Ab 5) (eC (.int 0))) [some (.lst false (sm.map Af)),some (.lst false (mss.map encJ)),e2,some (.ref 0),some (Bp s),some (.int (Di sm s).length)] [some (acc.map .int)]=some (decide (0<((Di sm s).length:Int)),[some (acc.map .int)]):=rfl
 unfold N7
 rw[BP s1]
 by_cases h:(Di sm s).length=0
 .rw[show decide (0<((Di sm s).length:Int))=false from decide_eq_false (by omega)] at ts
  rw[Hi ts,show JH sm mss acc s=acc from if_pos h];rfl
 .rw[show decide (0<((Di sm s).length:Int))=true from decide_eq_true (by omega)] at ts
  rw[KQ ts,show JH sm mss acc s=CQ acc (PB sm mss s) from if_neg h]
  have hi:(Di sm s).length-1<acc.length:=by omega
  have e1:(((Di sm s).length:Int)-1)=(((Di sm s).length-1:Nat):Int):=by omega
  have i0:eOp Dw (Ab 5) (eC (.int 1)) [some (.lst false (sm.map Af)),some (.lst false (mss.map encJ)),e2,some (.ref 0),some (Bp s),some (.int (Di sm s).length)] [some (acc.map .int)]=some (.int ((Di sm s).length-1:Nat),[some (acc.map .int)]):=by
   rw[←e1];rfl
  have v3:Ab 3 [some (.lst false (sm.map Af)),some (.lst false (mss.map encJ)),e2,some (.ref 0),some (Bp s),some (.int (Di sm s).length)] [some (acc.map .int)]=some (.ref 0,[some (acc.map .int)]):=rfl
  have i1:eOp oIx (Ab 3) (eOp Dw (Ab 5) (eC (.int 1))) [some (.lst false (sm.map Af)),some (.lst false (mss.map encJ)),e2,some (.ref 0),some (Bp s),some (.int (Di sm s).length)] [some (acc.map .int)]=some (.int (acc.getD ((Di sm s).length-1) 0),[some (acc.map .int)]):=by
   rw[BJ,v3,U0a,i0,U0a]
   show U2g _ (atI (acc.map D.int) (((Di sm s).length-1:Nat):Int))=_
   rw[V8 hi];rfl
  have c2:Aw Il (Aa (Ab 1) (Aa (Ab 4) Ae)) [some (.lst false (sm.map Af)),some (.lst false (mss.map encJ)),e2,some (.ref 0),some (Bp s),some (.int (Di sm s).length)] [some (acc.map .int)]=some (.int (Dp (cellOf mss s)),[some (acc.map .int)]) :=
   CZ (ds:=[.lst false (mss.map encJ),Bp s]) (es:=[.lst false (mss.map encJ),Bp s]) rfl (by rw[Ay,BW,Sd,Ay,UJ,Ay];rfl) (by rw[Bj,age,Uj,Bj,cJ,Bj]) h2
  rw[Je,BJ,i1,U0a,c2,U0a]
  simp only[Dl,U5t,U0a]
  rw[v3,U0a,i0,U0a]
  show(ixN (acc.map D.int).length (((Di sm s).length-1:Nat):Int)).bind _=_
  rw[U0k,Pj hi]
  show some (Fl.nx,_,[some ((acc.map D.int).set ((Di sm s).length-1) (.int (acc.getD ((Di sm s).length-1) 0+Dp (cellOf mss s))))])=_
  rw[←U8d];rfl
theorem uh{n m:Nat}{sm:List (List St2)}{mss:List (List Int)}(md:Made n m sm mss)(hn:n<=3)(h20:sm.length<=20):G3 [.lst false (sm.map Af),.lst false (mss.map encJ),.int n]=some (.lst true ((Kf sm.length ((Dq mss).foldl (JH sm mss) (U0l sm.length 0))).map .int)):=by
 have hm:=md.big
 have hp:=lX mss (by rw[md.len];exact hn) (fun ms h=>by rw[(md.mks ms h).len];omega)
 have t1:(eCB Dm (Aa (Ab 0) Ae)) [some (.lst false (sm.map Af)),some (.lst false (mss.map encJ)),some (.int n),none,none,none] []=some (.int sm.length,[]):=by
  show(some (D.int ((sm.map Af).length:Nat),([]:Store)):Option (D×Store))=_
  rw[U0k]
 have t2:(Bt (Aa (eC (.int 0)) Ae)) [some (.lst false (sm.map Af)),some (.lst false (mss.map encJ)),some (.int n),none,none,none] []=some (.lst true [.int 0],[]):=rfl
 have s1:(Bk 3 (Rw (Bt (Aa (eC (.int 0)) Ae)) (eCB Dm (Aa (Ab 0) Ae)))) [some (.lst false (sm.map Af)),some (.lst false (mss.map encJ)),some (.int n),none,none,none] []=some (.nx,[some (.lst false (sm.map Af)),some (.lst false (mss.map encJ)),some (.int n),some (.ref 0),none,none],[some ((U0l sm.length (0:Int)).map .int)]):=by
  rw[CW,jg t2 rfl t1 (by simp;omega) (by omega),aX]
  rfl
 have c1:Aw GK (Aa (Ab 1) Ae) [some (.lst false (sm.map Af)),some (.lst false (mss.map encJ)),some (.int n),some (.ref 0),none,none] [some ((U0l sm.length (0:Int)).map .int)]=some (.lst true ((Dq mss).map Bp),[some ((U0l sm.length (0:Int)).map .int)]) :=
  CZ (ds:=[.lst false (mss.map encJ)]) (es:=[.lst false (mss.map encJ)]) rfl (by rw[Ay,BW,Sd,Ay];rfl) (by rw[Bj,age,Uj,Bj]) hp
 have e:DK (Aw GK (Aa (Ab 1) Ae)) [some (.lst false (sm.map Af)),some (.lst false (mss.map encJ)),some (.int n),some (.ref 0),none,none] [some ((U0l sm.length (0:Int)).map .int)]=some (((Dq mss).map Bp,[]),[some ((U0l sm.length (0:Int)).map .int)]):=by
  rw[FW,c1];rfl
 obtain⟨env',S',e2,z4,z5,he,hS⟩:=Ep (w:=[]) (g:=Pat.sem (.nm 4)) (b:=N7) (ds:=(Dq mss).map Bp) (env:=[some (.lst false (sm.map Af)),some (.lst false (mss.map encJ)),some (.int n),some (.ref 0),none,none]) (S:=[some ((U0l sm.length (0:Int)).map .int)])
  (fun i env S=>∃z4 z5:Option D,env=[some (.lst false (sm.map Af)),some (.lst false (mss.map encJ)),some (.int n),some (.ref 0),z4,z5]/\S=[some ((((Dq mss).take i).foldl (JH sm mss) (U0l sm.length 0)).map .int)])
  ⟨none,none,rfl,rfl⟩ (fun i env S _=>by simp) (fun i d env S hd q=>by
   obtain⟨z4,z5,he,hS⟩:=q
   subst he hS
   rw[U0w] at hd
   obtain⟨s,hs,rfl⟩:=U10.mp hd
   obtain⟨y5,b1⟩:=um md hn h20 (some (.int n)) z5 s (U1k hs) (((Dq mss).take i).foldl (JH sm mss) (U0l sm.length 0)) (by rw[Ud,U1f])
   refine⟨[some (.lst false (sm.map Af)),some (.lst false (mss.map encJ)),some (.int n),some (.ref 0),some (Bp s),z5],by rw[Cr];rfl,_,_,b1,_,_,rfl,?_⟩
   rw[U28,hs,U29,U3i]
   rfl)
 subst he hS
 have:((Dq mss).map Bp).length=(Dq mss).length:=by simp
 rw[this,U2r] at e2
 have l1:QS [some (.lst false (sm.map Af)),some (.lst false (mss.map encJ)),some (.int n),some (.ref 0),none,none] [some ((U0l sm.length (0:Int)).map .int)]=some (.nx,[some (.lst false (sm.map Af)),some (.lst false (mss.map encJ)),some (.int n),some (.ref 0),z4,z5],[some (((Dq mss).foldl (JH sm mss) (U0l sm.length 0)).map .int)]):=by
  unfold QS
  rw[Fg,e]
  exact e2
 have hlen:((Dq mss).foldl (JH sm mss) (U0l sm.length 0)).length=sm.length:=by rw[Ud,U1f]
 generalize (Dq mss).foldl (JH sm mss) (U0l sm.length 0)=l at *
 have l2:=aD (some (.lst false (sm.map Af))) (some (.lst false (mss.map encJ))) (some (.int n)) z4 z5 100000 l (by omega)
 rw[hlen] at l2
 unfold G3
 rw[Ck]
 simp only[U0j,U05,U0m,U08,U1i,U1j,U0o,U06,U11,U1n,if_true]
 unfold Vi Ur
 rw[BP s1,BP l1,BP l2]
 show den 0 [some ((Kf sm.length l).map D.int)] (.ref 0)=_
 rw[den,if_neg (by omega)]
 show(if Ay ((Kf sm.length l).map D.int)=true then _ else _)=_
 rw[if_pos (Fz _)]
end W13
end
section
namespace W13
open PySem L2 VS
theorem Yj{bs:List (List St2)}:∀(xs:List Int)(w:Nat)(ns:List Nat),Rv bs w xs ns=ns.filter fun i=>xs.zipIdx.all fun q=>inS (at1 bs i (w+q.2)) q.1
 |[],w,ns=>by
  rw[Rv]
  exact(U5p.mpr fun _ _=>rfl).symm
 |x::xs,w,ns=>by
  rw[Rv,Yj xs (w+1),GR,List.filter_filter]
  refine U6a fun i _=>?_
  rw[U6k,U5i,Nat.add_zero,Bool.and_comm,U7j]
  congr 1
  rw[show xs.zipIdx 1=(xs.zipIdx 0).map fun q=>(q.1,q.2+1) by rw[List.zipIdx_eq_map_add];simp;intros;omega,U7l]
  refine congrArg (fun f=>List.all (xs.zipIdx 0) f) (funext fun q=>?_)
  simp only[Function.comp]
  rw[show w+(q.2+1)=w+1+q.2 by omega]
def RP(b:List St2)(xs:List Int):Bool:=(b.zip xs).all fun q=>inS q.1 q.2
theorem X3(b:List St2):∀(xs:List Int)(k:Nat),k+xs.length=b.length->RP (b.drop k) xs=(xs.zipIdx k).all fun q=>inS (b.getD q.2 (0,0)) q.1
 |[],k,_=>by simp[RP]
 |x::xs,k,h=>by
  have hk:k<b.length:=by simp at h;omega
  rw[U20 hk,U6k,U5i,←X3 b xs (k+1) (by simp at h ⊢;omega)]
  unfold RP
  rw[U4,U5i]
  congr 1
  rw[U0h,U0i hk];rfl
theorem gG{ms:List Int}{m i j:Nat}(h:Mk m ms)(hi:i<=m)(hj:j<=m):(ms.getD i 0<ms.getD j 0↔i<j)/\(ms.getD i 0<=ms.getD j 0↔i<=j):=by
 have l1:i<ms.length:=by rw[h.len];omega
 have l2:j<ms.length:=by rw[h.len];omega
 have r:=U5s.mp h.rise
 rw[U0h,U0h,U0i l1,U0i l2,U4z,U4z]
 rcases Nat.lt_trichotomy i j with q|q|q
 .have:=r i j l1 l2 q
  constructor<;>omega
 .subst q
  constructor<;>omega
 .have:=r j i l2 l1 q
  constructor<;>omega
theorem Yg{m:Nat}:∀(mss:List (List Int))(b:List St2)(s:List Nat),(∀ms∈mss,Mk m ms)->b.length=mss.length->s.length=mss.length->(∀p∈b,0<=p.1/\p.1<p.2/\p.2<=m)->(∀q∈mss.zip s,q.2<q.1.length-1)->RP (placed mss b) (lows (cellOf mss s))=K9 b s
 |[],[],[],_,_,_,_,_=>rfl
 |[],_::_,_,_,h,_,_,_=>by simp at h
 |[],_,_::_,_,_,h,_,_=>by simp at h
 |_::_,[],_,_,h,_,_,_=>by simp at h
 |_::_,_,[],_,_,h,_,_=>by simp at h
 |ms::r,p::b,k::s,hM,h1,h2,hp,hq=>by
  have ih:=Yg r b s (fun x hx=>hM x (U0p _ hx)) (by simpa using h1) (by simpa using h2) (fun x hx=>hp x (U0p _ hx)) (fun x hx=>hq x (by rw[U4];exact U0p _ hx))
  have hm:=hM ms U0x
  have hpp:=hp p U0x
  have hk:=hq (ms,k) (by rw[U4];exact U0x)
  simp only[hm.len] at hk
  have e1:RP (placed (ms::r) (p::b)) (lows (cellOf (ms::r) (k::s)))=(inS (ms.getD p.1.toNat 0,ms.getD p.2.toNat 0) (ms.getD k 0)&&RP (placed r b) (lows (cellOf r s))):=rfl
  have e2:K9 (p::b) (k::s)=(ok1 (p,k)&&K9 b s):=rfl
  rw[e1,e2,ih]
  congr 1
  rw[U3l,V5]
  have a:=(gG hm (i:=p.1.toNat) (j:=k) (by omega) (by omega)).2
  have c:=(gG hm (i:=k) (j:=p.2.toNat) (by omega) (by omega)).1
  simp only[a,c,ok1,U1h,decide_eq_true_eq]
  omega
theorem XR:∀(mss:List (List Int))(s:List Nat),s.length=mss.length->(cellOf mss s).length=mss.length
 |[],[],_=>rfl
 |[],_::_,h=>by simp at h
 |_::_,[],h=>by simp at h
 |_::r,_::s,h=>by rw[cellOf,U0j,U0j,XR r s (by simpa using h)]
theorem vN{n m:Nat}{sm:List (List St2)}{mss:List (List Int)}(md:Made n m sm mss)(s:List Nat)(hs:s∈Dq mss):Di sm s=Rv (sm.map (placed mss)) 0 (lows (cellOf mss s)) (U0g sm.length):=by
 obtain⟨pl,pq⟩:=Ua mss s hs
 rw[Yj]
 unfold Di
 have e:sm.zipIdx=(U0g sm.length).map fun i=>(sm.getD i [],i):=by
  refine U6l (by simp) fun i h1 h2=>?_
  have hi:i<sm.length:=by simpa using h1
  simp[U0i hi]
 rw[e,List.filter_map,U0c]
 have:((fun q:List St2×Nat=>q.2)∘fun i=>(sm.getD i [],i))=id:=rfl
 rw[this,List.map_id]
 refine U6a fun i hi=>?_
 have hi':=U2h.mp hi
 have hb:=md.box (sm.getD i []) (by rw[U0h,U0i hi'];exact U1s hi')
 have hl:(placed mss (sm.getD i [])).length=n:=(YX md.len md.mks hb).1
 have eb:(sm.map (placed mss)).getD i []=placed mss (sm.getD i []):=by
  rw[U0h,U0w,U0h,U0i hi'];rfl
 have hx:=X3 (placed mss (sm.getD i [])) (lows (cellOf mss s)) 0 (by
  rw[hl,lows,U0k,XR mss s pl,md.len];omega)
 rw[U54,Yg mss (sm.getD i []) s md.mks (by rw[hb.len,md.len]) pl hb.all pq] at hx
 show K9 (sm.getD i []) s=_
 rw[hx]
 refine congrArg (fun f=>List.all ((lows (cellOf mss s)).zipIdx 0) f) (funext fun q=>?_)
 rw[U7j]
 unfold at1
 rw[eb]
theorem Ys{n m:Nat}{sm:List (List St2)}{mss:List (List Int)}(md:Made n m sm mss):∀(k w:Nat),w+k=n->Cov (sm.map (placed mss)) (-1000000000) 2000000000 w (mss.drop w) (U0g sm.length)
 |0,w,h=>by
  rw[List.drop_of_length_le (by rw[md.len];omega)]
  trivial
 |k+1,w,h=>by
  have hw:w<mss.length:=by rw[md.len];omega
  rw[U20 hw]
  have hk:=md.mks mss[w] (U1s hw)
  refine⟨⟨hk.rise,fun i hi=>?_,fun e he=>by have:=hk.near e he;omega⟩,Ys md k (w+1) (by omega)⟩
  have hi':=U2h.mp hi
  have hb:=md.box sm[i] (U1s hi')
  have hwb:w<sm[i].length:=by rw[hb.len];omega
  have hp:=hb.all sm[i][w] (U1s hwb)
  have e:at1 (sm.map (placed mss)) i w=(mss[w].getD sm[i][w].1.toNat 0,mss[w].getD sm[i][w].2.toNat 0):=by
   have eb:(sm.map (placed mss)).getD i []=placed mss sm[i]:=by
    rw[U0h,U0w,U0i hi'];rfl
   unfold at1
   rw[eb]
   unfold placed
   rw[U0h,U0w,U0i (show w<(mss.zip sm[i]).length by rw[U4e];omega),List.getElem_zip]
   rfl
  rw[e]
  have l1:sm[i][w].1.toNat<mss[w].length:=by rw[hk.len];omega
  have l2:sm[i][w].2.toNat<mss[w].length:=by rw[hk.len];omega
  constructor
  .show mss[w].getD _ 0∈_
   rw[U0h,U0i l1];exact U1s l1
  .show mss[w].getD _ 0∈_
   rw[U0h,U0i l2];exact U1s l2
theorem rF{n m:Nat}(hn:n=1∨n=2∨n=3){sm:List (List St2)}{mss:List (List Int)}(md:Made n m sm mss) :
  Kf sm.length ((Dq mss).foldl (JH sm mss) (U0l sm.length 0))=(Bg (sm.map (placed mss)) n 0 (U0g sm.length)).foldl CQ (U0l (maxLen (Bg (sm.map (placed mss)) n 0 (U0g sm.length))) 0):=by
 have g:=md.good hn
 have hl:(sm.map (placed mss)).length=sm.length:=by simp
 have hw:=Yi g
 have hf:=Jo g
 rw[hl] at hw hf
 obtain⟨m1,m2,_⟩:=Qm (Bg (sm.map (placed mss)) n 0 (U0g sm.length))
 rw[bL]
 refine jE (fun c hc=>⟨(hf c hc).2.1,m1 c hc,Tz c.1 fun p hp=>((hf c hc).1 p hp).1⟩) m2 (fun c hc=>of_decide_eq_true (U3k.mp hc).2) (fun t=>?_) ?_
 .have e1:((Dq mss).map (PB sm mss))=Qw (sm.map (placed mss)) 0 (U0g sm.length) (PJ mss):=by
   unfold Qw
   rw[Vd,U0c]
   refine U3j fun s hs=>?_
   show(cellOf mss s,Di sm s)=_
   rw[vN md s hs];rfl
  have e2:((Dq mss).map (PB sm mss)).filter (fun c=>decide (1<=c.2.length))=((Dq mss).map (PB sm mss)).filter (fun c=>decide (c.2≠[])):=by
   refine U6a fun c _=>?_
   rw[U3l,decide_eq_true_eq,decide_eq_true_eq]
   exact U62
  have hg:=Yh (F:=Ft t) (Zy t) mss 0 (U0g sm.length) (by rw[md.len];exact hw) (by
   have:=Ys md n 0 (by omega)
   rwa [U54] at this)
  rw[e2,Vn (Zy t),e1,hg,md.len,XM (Zy t) n 0 (U0g sm.length) hw]
 .rcases m2 with h|⟨c,hc,h⟩
  .omega
  .rw[←h];exact(hf c hc).2.2
theorem ou{n:Nat}{bs:List (List St2)}(g:Good n bs):((Bg bs n 0 (U0g bs.length)).foldl CQ (U0l (maxLen (Bg bs n 0 (U0g bs.length))) 0)).sum=((Bg bs n 0 (U0g bs.length)).map fun c=>Dp c.1).sum:=by
 have hf:=Jo g
 obtain⟨m1,_,_⟩:=Qm (Bg bs n 0 (U0g bs.length))
 rw[YH _ _ (fun c hc=>⟨(hf c hc).2.1,by rw[U1f];exact m1 c hc⟩)]
 simp
end W13
end
section
namespace W13
open PySem L2 VS
theorem gK{r:VS.Env}{L:List D}{d:D}(h1:r[1]?=some (some (.ref 0))):eOp oIx (Ab 1) (eUn Ga (eC (.int 1))) r [some (L++[d])]=some (d,[some (L++[d])]):=by
 have v1:Ab 1 r [some (L++[d])]=some (.ref 0,[some (L++[d])]):=by simp[Aq,h1]
 rw[BJ,v1,U0a]
 show U2g _ (atI (L++[d]) (-1))=_
 rw[SN];rfl
theorem bB{r:VS.Env}{L:List D}{d e:D}{v:BX}(h1:r[1]?=some (some (.ref 0)))(hv:v r [some (L++[d])]=some (e,[some (L++[d])])):Ij v (Ab 1) (eUn Ga (eC (.int 1))) r [some (L++[d])]=some (.nx,r,[some (L++[e])]):=by
 have v1:Ab 1 r [some (L++[d])]=some (.ref 0,[some (L++[d])]):=by simp[Aq,h1]
 rw[Je,hv,U0a,v1,U0a]
 show(ixN (L++[d]).length (-1)).bind _=_
 rw[U0r,U0j,U05,S9]
 show some (Fl.nx,r,[some ((L++[d]).set L.length e)])=_
 rw[U6n _ _ (U0t _)];simp
theorem Zx{r:VS.Env}{L:List D}{d:D}{a:BX}{j:Nat}(h1:r[j]?=some (some (.ref 0)))(ha:a r [some L]=some (d,[some L]))(hl:L.length<1000000):GX (GP Fw (Ab j) (Aa a Ae)) r [some L]=some (.nx,r,[some (L++[d])]):=by
 rw[Gk,Ja (d:=.ref 0) (cs:=L) (ds:=[d]) (r:=.non) (S1:=[some L]) (S2:=[some L]) (S3:=[some (L++[d])]) (by simp[Aq,h1]) rfl (by rw[Al,ha];rfl) (by
  show(if L.length<1000000 then some (D.non,[some (L++[d])]) else none)=_
  rw[if_pos hl])]
 rfl
theorem jo{r:VS.Env}{L:List D}(h1:r[1]?=some (some (.ref 0))):BK (eOp oGt (eCB Dm (Aa (Ab 1) Ae)) (eC (.int 0))) r [some L]=some (decide (0<(L.length:Int)),[some L]):=by
 have v1:Ab 1 r [some L]=some (.ref 0,[some L]):=by simp[Aq,h1]
 rw[DP,BJ,Eu,Al,v1]
 rfl
theorem uz(C:D)(acc:List St2)(p:St2)(hl:acc.length<1000000):Qn [some C,some (.ref 0),some (.int p.1),some (.int p.2)] [some (acc.map Av)]=some (.nx,[some C,some (.ref 0),some (.int p.1),some (.int p.2)],[some ((Et acc p).map Av)]):=by
 have a1:∀S,(Bq (Aa (Ab 2) (Aa (Ab 3) Ae))) [some C,some (.ref 0),some (.int p.1),some (.int p.2)] S=some (Av p,S):=fun S=>rfl
 have add:=Zx (r:=[some C,some (.ref 0),some (.int p.1),some (.int p.2)]) (j:=1) rfl (a1 [some (acc.map Av)]) (by rw[U0k];exact hl)
 have lg:=jo (r:=[some C,some (.ref 0),some (.int p.1),some (.int p.2)]) (L:=acc.map Av) rfl
 unfold Qn
 rcases U4f acc with rfl|⟨l,q,rfl⟩
 .rw[Hi (by rw[Ng,lg];rfl),add];rfl
 .rw[U4g] at *
  rw[U09] at *
  have la:=gK (r:=[some C,some (.ref 0),some (.int p.1),some (.int p.2)]) (L:=l.map Av) (d:=Av q) rfl
  have t2:BK (eOp (oEq false) (eOp oIx (eOp oIx (Ab 1) (eUn Ga (eC (.int 1)))) (eC (.int 1))) (Ab 2)) [some C,some (.ref 0),some (.int p.1),some (.int p.2)] [some (l.map Av++[Av q])]=some (decide (q.2=p.1),[some (l.map Av++[Av q])]):=by
   rw[DP,BJ,BJ,la]
   simp[Aq,CT,oEq,oIx,VS.listOf,CJ,-U0c,-U0e,Av]
  have t1:Ii (BK (eOp oGt (eCB Dm (Aa (Ab 1) Ae)) (eC (.int 0)))) (BK (eOp (oEq false) (eOp oIx (eOp oIx (Ab 1) (eUn Ga (eC (.int 1)))) (eC (.int 1))) (Ab 2))) [some C,some (.ref 0),some (.int p.1),some (.int p.2)] [some (l.map Av++[q].map Av)]=some (decide (q.2=p.1),[some (l.map Av++[q].map Av)]):=by
   rw[Ng,lg,decide_eq_true (by simp)]
   exact t2
  have v1:(Bq (Aa (eOp oIx (eOp oIx (Ab 1) (eUn Ga (eC (.int 1)))) (eC (.int 0))) (Aa (Ab 3) Ae))) [some C,some (.ref 0),some (.int p.1),some (.int p.2)] [some (l.map Av++[Av q])]=some (Av (q.1,p.2),[some (l.map Av++[Av q])]):=by
   rw[Ia,Al,BJ,la]
   simp[Aq,CT,BZ,Al,oIx,VS.listOf,CJ,-U0c,-U0e,Av]
  unfold Et
  rw[U5g]
  by_cases h:q.2=p.1
  .rw[KQ (by rw[t1,decide_eq_true h])]
   show _=some (Fl.nx,_,[some ((if q.2=p.1 then (l++[q]).dropLast++[(q.1,p.2)] else l++[q]++[p]).map Av)])
   rw[if_pos h,U3o,U09]
   exact bB rfl v1
  .rw[Hi (by rw[t1,decide_eq_false h]),add]
   show _=some (Fl.nx,_,[some ((if q.2=p.1 then (l++[q]).dropLast++[(q.1,p.2)] else l++[q]++[p]).map Av)])
   rw[if_neg h,U09,U09];rfl
theorem d8(acc:List St2)(p:St2):(Et acc p).length<=acc.length+1:=by
 unfold Et
 split
 .split
  .rw[U0r,U6q];simp
  .simp
 .simp
theorem bF:∀l:List St2,(l.foldl Et []).length<=l.length:=by
 have:∀(l acc:List St2),(l.foldl Et acc).length<=acc.length+l.length:=by
  intro l
  induction l with
  |nil=>intro acc;simp
  |cons p r ih=>intro acc;have:=ih (Et acc p);have:=d8 acc p;simp only[U13,U0j];omega
 intro l
 simpa using this l []
theorem mW(l:List St2)(hl:l.length<=100000):Kh [.lst false (l.map Av)]=some (.lst true ((l.foldl Et []).map Av)):=by
 have s1:(Bk 1 (Gs Ae)) [some (.lst false (l.map Av)),none,none,none] []=some (.nx,[some (.lst false (l.map Av)),some (.ref 0),none,none],[some []]):=rfl
 have l1:∃z2 z3,Ub [some (.lst false (l.map Av)),some (.ref 0),none,none] [some []]=some (.nx,[some (.lst false (l.map Av)),some (.ref 0),z2,z3],[some ((l.foldl Et []).map Av)]):=by
  have e:DK (Ab 0) [some (.lst false (l.map Av)),some (.ref 0),none,none] [some []]=some ((l.map Av,[]),[some []]):=rfl
  unfold Ub
  rw[Fg,e]
  obtain⟨env',S',e2,z2,z3,he,hS⟩:=Ep (w:=[]) (g:=Pat.sem (.tp [(.nm 2),(.nm 3)])) (b:=Qn) (ds:=l.map Av) (env:=[some (.lst false (l.map Av)),some (.ref 0),none,none]) (S:=[some []])
   (fun i env S=>∃z2 z3,env=[some (.lst false (l.map Av)),some (.ref 0),z2,z3]/\S=[some (((l.take i).foldl Et []).map Av)])
   ⟨none,none,rfl,rfl⟩ (fun i env S _=>by simp) (fun i d env S hd q=>by
    obtain⟨z2,z3,he,hS⟩:=q
    subst he hS
    rw[U0w] at hd
    obtain⟨p,hp,rfl⟩:=U10.mp hd
    have:=bF (l.take i)
    rw[U19] at this
    refine⟨[some (.lst false (l.map Av)),some (.ref 0),some (.int p.1),some (.int p.2)],by simp[Cr,HF,FZ,El,-U0c,-U0e,Av],_,_,uz _ _ p (by omega),_,_,rfl,?_⟩
    rw[U28,hp,U29,U3i]
    rfl)
  subst he hS
  refine⟨z2,z3,e2.trans ?_⟩
  have:(l.map Av).length=l.length:=by simp
  rw[this,U2r]
 obtain⟨z2,z3,l1⟩:=l1
 unfold Kh
 rw[Ck]
 simp only[U0j,U05,U0m,U08,U1i,U1j,U0o,U06,U11,U1n,if_true]
 unfold bN
 rw[BP s1,BP l1]
 generalize l.foldl Et []=k
 have hd:∀(n:Nat)(S:Store),DW n S (k.map Av)=some (k.map Av):=fun n S=>Ce n S (Ca (HW _ fun p _=>HS p))
 have hp:Ay (k.map Av)=true:=Ca (HW _ fun p _=>HS p)
 simp[Cg,Aq,den,-U0c,-U0e,hd,hp]
end W13
end
section
namespace W13
open PySem L2 VS
def TF(w:Nat)(x:Int)(b:List St2):Bool:=decide ((b.getD w (0,0)).1<=x)&&decide (x<(b.getD w (0,0)).2)
def K8(bs:List (List St2))(w:Nat)(x:Int):List (List St2):=(bs.filter (TF w x)).map fun b=>b.eraseIdx w
theorem kE{b:List St2}{w:Nat}(h:w<b.length):atI (b.map Av) (w:Int)=some (Av (b.getD w (0,0))):=by
 refine Nj ?_
 rw[U0w,U0h,U0i h];rfl
theorem zp(r:VS.Env)(S:Store)(bs:List (List St2))(w:Nat)(x:Int)(hl:bs.length<=1000)(hb:∀b∈bs,w<b.length)(h0:r[0]?=some (some (.lst false (bs.map Af))))(h1:r[1]?=some (some (.int w)))(h2:r[2]?=some (some (.int x))):NQ r S=some ((bs.filter (TF w x)).map Af,S):=by
 have e:DK (Ab 0) r S=some ((bs.map Af,[]),S):=by simp[Aq,VS.listOf,CJ,VS.idOf,FW,-U0c,-U0e,h0]
 have ec:Gn 1 [1,2] r=[none,some (.int w),some (.int x)]:=by simp[Gn,h1,h2]
 unfold NQ Cw
 rw[e,ec]
 simp only[U0a]
 rw[MJ (by simp) Af (TF w x) Af _ _ (by simp;omega)]
 .simp
 .intro b hm
  have ha:=kE (hb b hm)
  refine⟨[some (Af b),some (.int w),some (.int x)],by rw[Cr];rfl,?_,fun _=>rfl⟩
  have i1:∀k:D,eOp oIx (Ab 0) (Ab 1) [some (Af b),some (.int w),some (.int x)] S=some (Av (b.getD w (0,0)),S):=fun _=>by
   show U2g _ (atI (b.map Av) (w:Int))=_
   rw[ha];rfl
  unfold TF
  generalize b.getD w (0,0)=p at *
  by_cases q1:p.1<=x<;>simp[Aq,CT,BJ,Yq,DP,oI,Hx,oLt,oLe,oIx,VS.listOf,CJ,-U0c,-U0e,i1 .non,Av,Af,ha,q1]
theorem zm(r:VS.Env)(S:Store)(bs:List (List St2))(w:Nat)(hl:bs.length<=1000)(hb:∀b∈bs,w<b.length/\b.length<=3)(h1:r[1]?=some (some (.int w)))(h3:r[3]?=some (some (.lst true (bs.map Af)))):QV r S=some ((bs.map fun b=>b.eraseIdx w).map Af,S):=by
 have e:DK (Ab 3) r S=some ((bs.map Af,[]),S):=by simp[Aq,VS.listOf,CJ,VS.idOf,FW,-U0c,-U0e,h3]
 have ec:Gn 1 [1] r=[none,some (.int w)]:=by simp[Gn,h1]
 unfold QV Cw
 rw[e,ec]
 simp only[U0a]
 rw[Ip (by simp) Af (fun b=>Af (b.eraseIdx w)) bs (by omega),U0c]
 .rfl
 .intro b hm
  obtain⟨q1,q2⟩:=hb b hm
  refine⟨[some (Af b),some (.int w)],by rw[Cr];rfl,?_⟩
  have c1:cut (b.map Av) none (some (w:Int))=(b.take w).map Av:=by
   rw[zj (by omega) (by rw[U0k];omega),U75];rfl
  have c2:cut (b.map Av) (some ((w:Int)+1)) none=(b.drop (w+1)).map Av:=by
   rw[bZ (by omega) (by rw[U0k];omega),U74];rfl
  have v0:Ab 0 [some (Af b),some (.int w)] S=some (Af b,S):=rfl
  have v1:Ab 1 [some (Af b),some (.int w)] S=some (.int w,S):=rfl
  have l1:eSl oSl (Ab 0) Ke (Kd (Ab 1)) [some (Af b),some (.int w)] S=some (Af (b.take w),S):=by
   show(some (D.tup (cut (b.map Av) none (some (w:Int))),S):Option (D×Store))=_
   rw[c1];rfl
  have l2:eSl oSl (Ab 0) (Kd (eOp Dl (Ab 1) (eC (.int 1)))) Ke [some (Af b),some (.int w)] S=some (Af (b.drop (w+1)),S):=by
   show(some (D.tup (cut (b.map Av) (some ((w:Int)+1)) none),S):Option (D×Store))=_
   rw[c2];rfl
  rw[BJ,l1,U0a,l2,U0a]
  show U2g _ (if ((b.take w).map Av).length+((b.drop (w+1)).map Av).length<=1000000 then some (D.tup ((b.take w).map Av++(b.drop (w+1)).map Av)) else none)=_
  rw[if_pos (by rw[U0k,U0k,U19,U6j];omega),←U09,←List.eraseIdx_eq_take_drop_succ]
  rfl
theorem dG{n:Nat}{bs:List (List St2)}(g:Good n bs){w:Nat}(hw:w<n)(x:Int):Hq [.lst false (bs.map Af),.int w,.int x]=some (.lst true ((K8 bs w x).map Af)):=by
 have few:=g.few
 have n3:=g.n3
 have c1:=zp [some (.lst false (bs.map Af)),some (.int w),some (.int x),none] [] bs w x (by omega) (fun b hb=>by rw[(g.box b hb).1];exact hw) rfl rfl rfl
 have c2:=zm [some (.lst false (bs.map Af)),some (.int w),some (.int x),some (.lst true ((bs.filter (TF w x)).map Af))] [] (bs.filter (TF w x)) w (U1a (U3c ..) (by omega)) (fun b hb=>by
  rw[(g.box b (U3k.mp hb).1).1];omega) rfl rfl
 have s1:(Bk 3 (Bt NQ)) [some (.lst false (bs.map Af)),some (.int w),some (.int x),none] []=some (.nx,[some (.lst false (bs.map Af)),some (.int w),some (.int x),some (.lst true ((bs.filter (TF w x)).map Af))],[]):=by
  rw[CW,DQ,c1];rfl
 unfold Hq
 rw[Ck]
 simp only[U0j,U05,U0m,U08,U1i,U1j,U0o,U06,U11,U1n,if_true]
 unfold Vl
 rw[BP s1,Cg,DQ,c2]
 show den 0 _ (.lst true _)=_
 rw[den,Ce 0 _ (Ca (Cp _))];rfl
theorem Vc{n:Nat}{bs:List (List St2)}{w:Nat}(hw:w<n):Fx [Ak false n bs,.int w]=some .non:=by
 have c1:Aw DY (Aa (Ab 1) Ae) [some (Ak false n bs),some (.int w)] []=some (.bl true,[]) :=
  CZ (ds:=[.int w]) (es:=[.int w]) (S':=[]) rfl (by simp[Ay,BW]) (by simp[Bj,age]) (NK w)
 have k1:BK (eOp oLt (Ab 1) (eC (.int 0))) [some (Ak false n bs),some (.int w)] []=some (decide ((w:Int)<0),[]):=rfl
 have k2:BK (eOp oGe (Ab 1) (eOp oIx (Ab 0) (eC (.int 0)))) [some (Ak false n bs),some (.int w)] []=some (decide ((n:Int)<=w),[]):=rfl
 have ts:tOr (Hy (BK (Aw DY (Aa (Ab 1) Ae)))) (tOr (BK (eOp oLt (Ab 1) (eC (.int 0)))) (BK (eOp oGe (Ab 1) (eOp oIx (Ab 0) (eC (.int 0)))))) [some (Ak false n bs),some (.int w)] []=some (false,[]):=by
  rw[Py,M9,DP,c1]
  simp only[U0a,U4h,U1o,if_false]
  rw[Py,k1,show decide ((w:Int)<0)=false from decide_eq_false (by omega)]
  simp only[U0a,U1o,if_false]
  rw[k2,show decide ((n:Int)<=w)=false from decide_eq_false (by omega)]
 unfold Fx
 rw[Ck]
 simp only[U0j,U05,U0m,U08,U1i,U1j,U06,U15,if_true]
 unfold X4
 rw[Hi ts];rfl
def encK(m:Bool)(n:Nat)(bs:List (List St2)):D:=.tup [.int ((n:Int)-1),.lst m (bs.map Af)]
theorem nJ{n:Nat}{bs:List (List St2)}(g:Good n bs)(h2:2<=n){w:Nat}(hw:w<n)(x:Int):Hz [Ak false n bs,.int w,.int x]=some (encK true n (K8 bs w x)):=by
 have h1:=Uq (m:=false) g
 have h3:=Vc (bs:=bs) hw
 have h4:=dG g hw x
 have hpu:Ay (bs.map Af)=true:=Ca (Cp bs)
 have s1:(GX (Aw Fe (Aa (Ab 0) Ae))) [some (Ak false n bs),some (.int w),some (.int x)] []=some (.nx,[some (Ak false n bs),some (.int w),some (.int x)],[]):=by
  rw[Gk,CZ (ds:=[Ak false n bs]) (es:=[Ak false n bs]) (S':=[]) rfl (by simp[Ay,BW,Ak]) (by simp[Bj,age,Ak]) h1];rfl
 have t2:BK (eOp (oEq false) (eOp oIx (Ab 0) (eC (.int 0))) (eC (.int 1))) [some (Ak false n bs),some (.int w),some (.int x)] []=some (false,[]):=by
  have:¬(n=1):=by omega
  simp[Aq,CT,BJ,DP,oEq,oIx,VS.listOf,CJ,-U0c,-U0e,Ak]
  omega
 have s2:(sIf (BK (eOp (oEq false) (eOp oIx (Ab 0) (eC (.int 0))) (eC (.int 1)))) Mq Ed) [some (Ak false n bs),some (.int w),some (.int x)] []=some (.nx,[some (Ak false n bs),some (.int w),some (.int x)],[]):=by rw[Hi t2];rfl
 have s3:(GX (Aw Fx (Aa (Ab 0) (Aa (Ab 1) Ae)))) [some (Ak false n bs),some (.int w),some (.int x)] []=some (.nx,[some (Ak false n bs),some (.int w),some (.int x)],[]):=by
  rw[Gk,CZ (ds:=[Ak false n bs,.int w]) (es:=[Ak false n bs,.int w]) (S':=[]) rfl (by simp[Ay,BW,Ak]) (by simp[Bj,age,Ak]) h3];rfl
 have c4:Aw DY (Aa (Ab 2) Ae) [some (Ak false n bs),some (.int w),some (.int x)] []=some (.bl true,[]) :=
  CZ (ds:=[.int x]) (es:=[.int x]) (S':=[]) rfl (by simp[Ay,BW]) (by simp[Bj,age]) (NK x)
 have s4:(sIf (Hy (BK (Aw DY (Aa (Ab 2) Ae)))) Mq Ed) [some (Ak false n bs),some (.int w),some (.int x)] []=some (.nx,[some (Ak false n bs),some (.int w),some (.int x)],[]):=by
  rw[Hi (by rw[M9,DP,c4];rfl)];rfl
 have c5:Aw Hq (Aa (eOp oIx (Ab 0) (eC (.int 1))) (Aa (Ab 1) (Aa (Ab 2) Ae))) [some (Ak false n bs),some (.int w),some (.int x)] []=some (.lst true ((K8 bs w x).map Af),[]) :=
  CZ (ds:=[.lst false (bs.map Af),.int w,.int x]) (es:=[.lst false (bs.map Af),.int w,.int x]) (S':=[]) rfl (by simp[Ay,BW]) (by simp[Bj,age]) h4
 unfold Hz
 rw[Ck]
 simp only[U0j,U05,U0m,U08,U1i,U1j,U06,U15,if_true]
 unfold bQ
 have o1:eOp Dw (eOp oIx (Ab 0) (eC (.int 0))) (eC (.int 1)) [some (Ak false n bs),some (.int w),some (.int x)] []=some (.int ((n:Int)-1),[]):=rfl
 rw[BP s1,BP s2,BP s3,BP s4,Cg,Ia,Al,o1,U0a,Al,c5]
 show den 0 _ (encK true n (K8 bs w x))=_
 refine M8 0 _ ?_
 simp[encK,BW,Ay,Ca (Cp _)]
end W13
end
section
namespace W13
open PySem L2 VS
theorem lu{bs:List (List St2)}(g:Good 1 bs):Nq [some (Ak false 1 bs),some (.int 1)] []=some (((Bg bs 1 0 (U0g bs.length)).map fun c=>c.1.getD 0 (0,0)).map Av,[]):=by
 have few:=g.few
 have hl:=Jp (bs:=bs) 1 0 (U0g bs.length) (by simpa using few)
 have hf:=Jo g
 have hd:=fun c=>OJ (bs:=bs) 1 0 (U0g bs.length) c
 have c2:Aw Ew (Aa (Ab 0) Ae) [some (Ak false 1 bs),some (.int 1)] []=some (.lst true ((Bg bs 1 0 (U0g bs.length)).map encC),[]) :=
  CZ (ds:=[Ak false 1 bs]) (es:=[Ak false 1 bs]) (S':=[]) rfl (by simp[Ay,BW,Ak]) (by simp[Bj,age,Ak]) (cC g)
 generalize Bg bs 1 0 (U0g bs.length)=cs at *
 have e:DK (Aw Ew (Aa (Ab 0) Ae)) [some (Ak false 1 bs),some (.int 1)] []=some ((cs.map encC,[]),[]):=by
  rw[FW,c2];rfl
 have ec:Gn 2 [1] [some (Ak false 1 bs),some (.int 1)]=[none,none,some (.int 1)]:=rfl
 unfold Nq Cw
 rw[e,ec]
 simp only[U0a]
 rw[MJ (by simp) encC (fun _=>true) (fun c=>Av (c.1.getD 0 (0,0))) cs [] (by simp;omega)]
 .rw[U5p.mpr (fun _ _=>rfl),U1n,U0c];rfl
 .intro c hc
  have h1:=(hf c hc).2.1
  have h2:=hd c hc
  refine⟨[some (Af c.1),some (Cy false c.2),some (.int 1)],by simp[Cr,HF,FZ,El,-U0c,-U0e,encC],?_,fun _=>?_⟩
  .simp[Aq,BJ,BZ,Al,Eu,DP,oI,Hx,oGe,Dm,VS.listOf,CJ,-U0c,-U0e,Cy];omega
  .show U2g _ (atI (c.1.map Av) ((0:Nat):Int))=_
   rw[kE (by omega)];rfl
theorem lq{bs:List (List St2)}(g:Good 1 bs):Gm [Ak false 1 bs]=some (.lst true ((((Bg bs 1 0 (U0g bs.length)).map fun c=>c.1.getD 0 (0,0)).foldl Et []).map Av)):=by
 have few:=g.few
 have hl:=Jp (bs:=bs) 1 0 (U0g bs.length) (by simpa using few)
 have c1:=lu g
 have s1:=Zo g (r:=[some (Ak false 1 bs)]) (a:=eC (.int 1)) rfl rfl
 have hl2:((Bg bs 1 0 (U0g bs.length)).map fun c=>c.1.getD 0 (0,0)).length<=100000:=by rw[U0k];omega
 generalize ((Bg bs 1 0 (U0g bs.length)).map fun c=>c.1.getD 0 (0,0))=l at *
 have h3:=mW l hl2
 have hp:∀k:List St2,Ay (k.map Av)=true:=fun k=>Ca (HW _ fun p _=>HS p)
 have ag:∀k:List St2,Bj (k.map Av)=k.map Av:=fun k=>J3 (HW _ fun p _=>HS p)
 have h4:Gi [Ak false 1 bs,.int 1]=some (.lst true ((l.foldl Et []).map Av)):=by
  unfold Gi
  rw[Ck]
  simp only[U0j,U05,U0m,U08,U1i,U1j,U06,U15,if_true]
  unfold Sx
  rw[Cg,CZ (ds:=[.lst true (l.map Av)]) (es:=[.lst false (l.map Av)]) (S':=[]) (by rw[Al,DQ,c1];rfl) (by rw[Ay,BW,hp,Ay];rfl) (by rw[Bj,age,ag,Bj]) h3]
  show den 0 _ (.lst true _)=_
  rw[den,Ce 0 _ (hp _)];rfl
 have c4:Aw Gi (Aa (Ab 0) (Aa (eC (.int 1)) Ae)) [some (Ak false 1 bs)] []=some (.lst true ((l.foldl Et []).map Av),[]) :=
  CZ (ds:=[Ak false 1 bs,.int 1]) (es:=[Ak false 1 bs,.int 1]) (S':=[]) rfl (by simp[Ay,BW,Ak]) (by simp[Bj,age,Ak]) h4
 unfold Gm
 rw[Ck]
 simp only[U0j,U05,U0m,U08,U1i,U1j,U06,U15,if_true]
 unfold Ve
 rw[BP s1,Cg,c4]
 show den 0 _ (.lst true _)=_
 rw[den,Ce 0 _ (hp _)];rfl
theorem aj:∀cs:List (List St2×List Nat),(∀c∈cs,c.1.length=1)->JR (cs.map fun c=>c.1.getD 0 (0,0))=szs cs
 |[],_=>rfl
 |c::r,h=>by
  have ih:=aj r fun d hd=>h d (U0p _ hd)
  have h1:=h c U0x
  obtain⟨p,hp⟩:=List.length_eq_one_iff.mp h1
  unfold JR szs at *
  rw[U0m,U0m,U2k,ih,U0m,U2k,hp]
  show(p.2-p.1)+_=(p.2-p.1)*1+_
  rw[U67]
theorem mU{bs:List (List St2)}(g:Good 1 bs):Eo [Ak false 1 bs]=some (.int (szs (Bg bs 1 0 (U0g bs.length)))):=by
 have few:=g.few
 have hl:=Jp (bs:=bs) 1 0 (U0g bs.length) (by simpa using few)
 have h4:=lq g
 rw[←aj _ (fun c hc=>OJ 1 0 _ c hc)]
 have hl2:((Bg bs 1 0 (U0g bs.length)).map fun c=>c.1.getD 0 (0,0)).length<=100000:=by rw[U0k];omega
 generalize ((Bg bs 1 0 (U0g bs.length)).map fun c=>c.1.getD 0 (0,0))=l at *
 have jl:=bD l []
 have jf:=bF l
 generalize l.foldl Et []=k at *
 have c4:Aw Gm (Aa (Ab 0) Ae) [some (Ak false 1 bs)] []=some (.lst true (k.map Av),[]) :=
  CZ (ds:=[Ak false 1 bs]) (es:=[Ak false 1 bs]) (S':=[]) rfl (by simp[Ay,BW,Ak]) (by simp[Bj,age,Ak]) h4
 have c1:LC [some (Ak false 1 bs)] []=some ((k.map fun p=>p.2-p.1).map .int,[]):=by
  have e:DK (Aw Gm (Aa (Ab 0) Ae)) [some (Ak false 1 bs)] []=some ((k.map Av,[]),[]):=by
   rw[FW,c4];rfl
  unfold LC Cw
  rw[e]
  simp only[U0a]
  rw[Ip (by simp) Av (fun p=>.int (p.2-p.1)) k (by omega),U0c]
  .rfl
  .intro p hp
   exact⟨[some (.int p.1),some (.int p.2)],by simp[Gn,Cr,HF,FZ,El,U0o,-U0c,-U0e,Av],by simp[Aq,BJ,oI,Hx,Dw,-U0c,-U0e]⟩
 have e0:JR ([]:List St2)=0:=rfl
 rw[e0,U5z] at jl
 unfold Eo
 rw[Ck]
 simp only[U0j,U05,U0m,U08,U1i,U1j,U06,U15,if_true]
 unfold Qc
 rw[Cg,Eu,Al,DQ,c1,←jl]
 unfold JR
 generalize (k.map fun p=>p.2-p.1)=l
 simp[BZ,VS.listOf,den,-U0c,-U0e,Qx]
end W13
end
section
namespace W13
open PySem L2 VS
def Bb(p:Tr3):D:=.tup [.int p.1,.int p.2.1,.int p.2.2]
theorem vm(p:Tr3):Dy (Bb p)=true:=by simp[Bb,Dy,FQ]
theorem SM(k:List Tr3):FQ (k.map Bb)=true:=HW _ fun p _=>vm p
theorem rN(C:D)(acc:List Tr3)(p:Tr3)(hl:acc.length<1000000):KC [some C,some (.ref 0),some (.int p.1),some (.int p.2.1),some (.int p.2.2)] [some (acc.map Bb)]=some (.nx,[some C,some (.ref 0),some (.int p.1),some (.int p.2.1),some (.int p.2.2)],[some ((Dg acc p).map Bb)]):=by
 have a1:∀S,(Bq (Aa (Ab 2) (Aa (Ab 3) (Aa (Ab 4) Ae)))) [some C,some (.ref 0),some (.int p.1),some (.int p.2.1),some (.int p.2.2)] S=some (Bb p,S):=fun S=>rfl
 have add:=Zx (r:=[some C,some (.ref 0),some (.int p.1),some (.int p.2.1),some (.int p.2.2)]) (j:=1) rfl (a1 [some (acc.map Bb)]) (by rw[U0k];exact hl)
 have lg:=jo (r:=[some C,some (.ref 0),some (.int p.1),some (.int p.2.1),some (.int p.2.2)]) (L:=acc.map Bb) rfl
 unfold KC
 rcases U4f acc with rfl|⟨l,q,rfl⟩
 .rw[Hi (by rw[Ng,lg];rfl),add];rfl
 .rw[U4g] at *
  rw[U09] at *
  have la:=gK (r:=[some C,some (.ref 0),some (.int p.1),some (.int p.2.1),some (.int p.2.2)]) (L:=l.map Bb) (d:=Bb q) rfl
  have t2:BK (eOp (oEq false) (eOp oIx (eOp oIx (Ab 1) (eUn Ga (eC (.int 1)))) (eC (.int 1))) (Ab 2)) [some C,some (.ref 0),some (.int p.1),some (.int p.2.1),some (.int p.2.2)] [some (l.map Bb++[Bb q])]=some (decide (q.2.1=p.1),[some (l.map Bb++[Bb q])]):=by
   rw[DP,BJ,BJ,la]
   simp[Aq,CT,oEq,oIx,VS.listOf,CJ,-U0c,-U0e,Bb]
  have t3:BK (eOp (oEq false) (eOp oIx (eOp oIx (Ab 1) (eUn Ga (eC (.int 1)))) (eC (.int 2))) (Ab 4)) [some C,some (.ref 0),some (.int p.1),some (.int p.2.1),some (.int p.2.2)] [some (l.map Bb++[Bb q])]=some (decide (q.2.2=p.2.2),[some (l.map Bb++[Bb q])]):=by
   rw[DP,BJ,BJ,la]
   simp[Aq,CT,oEq,oIx,VS.listOf,CJ,-U0c,-U0e,Bb]
  have t1:Ii (BK (eOp oGt (eCB Dm (Aa (Ab 1) Ae)) (eC (.int 0)))) (Ii (BK (eOp (oEq false) (eOp oIx (eOp oIx (Ab 1) (eUn Ga (eC (.int 1)))) (eC (.int 1))) (Ab 2))) (BK (eOp (oEq false) (eOp oIx (eOp oIx (Ab 1) (eUn Ga (eC (.int 1)))) (eC (.int 2))) (Ab 4)))) [some C,some (.ref 0),some (.int p.1),some (.int p.2.1),some (.int p.2.2)] [some (l.map Bb++[q].map Bb)]=some (decide (q.2.1=p.1/\q.2.2=p.2.2),[some (l.map Bb++[q].map Bb)]):=by
   rw[Ng,lg,decide_eq_true (by simp)]
   show Ii _ _ _ [some (l.map Bb++[Bb q])]=some (_,[some (l.map Bb++[Bb q])])
   rw[Ng,t2]
   by_cases h:q.2.1=p.1
   .rw[decide_eq_true h]
    show BK _ _ _=_
    rw[t3]
    simp[h]
   .rw[decide_eq_false h,decide_eq_false (fun z=>h z.1)];rfl
  have v1:(Bq (Aa (eOp oIx (eOp oIx (Ab 1) (eUn Ga (eC (.int 1)))) (eC (.int 0))) (Aa (Ab 3) (Aa (Ab 4) Ae)))) [some C,some (.ref 0),some (.int p.1),some (.int p.2.1),some (.int p.2.2)] [some (l.map Bb++[Bb q])]=some (Bb (q.1,p.2.1,p.2.2),[some (l.map Bb++[Bb q])]):=by
   rw[Ia,Al,BJ,la]
   simp[Aq,CT,BZ,Al,oIx,VS.listOf,CJ,-U0c,-U0e,Bb]
  unfold Dg
  rw[U5g]
  by_cases h:q.2.1=p.1/\q.2.2=p.2.2
  .rw[KQ (by rw[t1,decide_eq_true h])]
   show _=some (Fl.nx,_,[some ((if q.2.1=p.1/\q.2.2=p.2.2 then (l++[q]).dropLast++[(q.1,p.2.1,p.2.2)] else l++[q]++[p]).map Bb)])
   rw[if_pos h,U3o,U09]
   exact bB rfl v1
  .rw[Hi (by rw[t1,decide_eq_false h]),add]
   show _=some (Fl.nx,_,[some ((if q.2.1=p.1/\q.2.2=p.2.2 then (l++[q]).dropLast++[(q.1,p.2.1,p.2.2)] else l++[q]++[p]).map Bb)])
   rw[if_neg h,U09,U09];rfl
theorem Ye(l:List Tr3):(l.foldl Dg []).length<=l.length:=by
 have:∀(l acc:List Tr3),(l.foldl Dg acc).length<=acc.length+l.length:=by
  intro l
  induction l with
  |nil=>intro acc;simp
  |cons p r ih =>
   intro acc
   have h1:=ih (Dg acc p)
   have h2:(Dg acc p).length<=acc.length+1:=by
    unfold Dg
    split
    .split
     .rw[U0r,U6q];simp
     .simp
    .simp
   simp only[U13,U0j];omega
 simpa using this l []
theorem rM(l:List Tr3)(hl:l.length<=100000):G5 [.lst false (l.map Bb)]=some (.lst true ((l.foldl Dg []).map Bb)):=by
 have s1:(Bk 1 (Gs Ae)) [some (.lst false (l.map Bb)),none,none,none,none] []=some (.nx,[some (.lst false (l.map Bb)),some (.ref 0),none,none,none],[some []]):=rfl
 have l1:∃z2 z3 z4,NZ [some (.lst false (l.map Bb)),some (.ref 0),none,none,none] [some []]=some (.nx,[some (.lst false (l.map Bb)),some (.ref 0),z2,z3,z4],[some ((l.foldl Dg []).map Bb)]):=by
  have e:DK (Ab 0) [some (.lst false (l.map Bb)),some (.ref 0),none,none,none] [some []]=some ((l.map Bb,[]),[some []]):=rfl
  unfold NZ
  rw[Fg,e]
  obtain⟨env',S',e2,z2,z3,z4,he,hS⟩:=Ep (w:=[]) (g:=Pat.sem (.tp [(.nm 2),(.nm 3),(.nm 4)])) (b:=KC) (ds:=l.map Bb) (env:=[some (.lst false (l.map Bb)),some (.ref 0),none,none,none]) (S:=[some []])
   (fun i env S=>∃z2 z3 z4,env=[some (.lst false (l.map Bb)),some (.ref 0),z2,z3,z4]/\S=[some (((l.take i).foldl Dg []).map Bb)])
   ⟨none,none,none,rfl,rfl⟩ (fun i env S _=>by simp) (fun i d env S hd q=>by
    obtain⟨z2,z3,z4,he,hS⟩:=q
    subst he hS
    rw[U0w] at hd
    obtain⟨p,hp,rfl⟩:=U10.mp hd
    have:=Ye (l.take i)
    rw[U19] at this
    refine⟨[some (.lst false (l.map Bb)),some (.ref 0),some (.int p.1),some (.int p.2.1),some (.int p.2.2)],by simp[Cr,HF,FZ,El,-U0c,-U0e,Bb],_,_,rN _ _ p (by omega),_,_,_,rfl,?_⟩
    rw[U28,hp,U29,U3i]
    rfl)
  subst he hS
  refine⟨z2,z3,z4,e2.trans ?_⟩
  have:(l.map Bb).length=l.length:=by simp
  rw[this,U2r]
 obtain⟨z2,z3,z4,l1⟩:=l1
 unfold G5
 rw[Ck]
 simp only[U0j,U05,U0m,U08,U1i,U1j,U0o,U06,U11,U1n,if_true]
 unfold Rn
 rw[BP s1,BP l1]
 generalize l.foldl Dg []=k
 have hp:Ay (k.map Bb)=true:=Ca (SM k)
 have hd:∀(n:Nat)(S:Store),DW n S (k.map Bb)=some (k.map Bb):=fun n S=>Ce n S hp
 simp[Cg,Aq,den,-U0c,-U0e,hd,hp]
end W13
end
section
namespace W13
open PySem L2 VS
theorem R0(bs:List (List St2)):(U0g bs.length).map (fun i=>bs.getD i [])=bs:=by
 refine List.ext_getElem? fun i=>?_
 rw[U0w]
 by_cases h:i<bs.length
 .rw[U5m h]
  simp[h]
 .rw[U4c (by simp;omega),U4c (by omega)];rfl
theorem lC{bs:List (List St2)}{w:Nat}(hw:∀b∈bs,w<b.length)(hl:bs.length<=20):Dc [.lst false (bs.map Af),.int w]=some (.lst true ((steps (Cv bs w (U0g bs.length))).map Av)):=by
 rw[←au,R0]
 by_cases hne:bs=[]
 .subst hne
  have h0:=gQ (m:=false) (cs:=[]) (w:=w) hw hl
  have e:Gd (Gy [] w++GF [] w)=[]:=U2n.mp (U8g.mp (Jd []))
  rw[e] at h0 ⊢
  rw[U08,U08] at h0
  have c:cut ([]:List D) (some 1) none=[]:=by simp[cut]
  have z:Dj [] []=[]:=rfl
  simp[Dc,Ol,Ju,CW,Cg,Aq,CT,BZ,Al,W0,Vz,Zv,HX,RL,oSl,VS.listOf,CJ,Ck,den,DW,age,Bj,BW,Ay,U0o,-U0c,-U0e,h0,c,z,steps]
 .exact aP hw hl hne
theorem W6{bs:List (List St2)}(g:Good 2 bs){w:Nat}(hw:w<2)(x:Int):Good 1 (K8 bs w x):=by
 have few:=g.few
 refine⟨.inl rfl,?_,fun b hb=>?_⟩
 .unfold K8
  rw[U0k]
  exact U1a (U3c ..) few
 .obtain⟨c,hc,rfl⟩:=U2o.mp hb
  have h:=g.box c (U3k.mp hc).1
  refine⟨?_,fun p hp=>h.2 p (List.mem_of_mem_eraseIdx hp)⟩
  rw[List.length_eraseIdx,h.1,if_pos hw]
def Ji(bs:List (List St2))(w:Nat)(x:Int):Int:=szs (Bg (K8 bs w x) 1 0 (U0g (K8 bs w x).length))
theorem yK{cs:List (List St2×List Nat)}{k:Nat}(h:iQ k cs):0<=szs cs:=by
 unfold szs
 induction cs with
 |nil=>simp
 |cons c r ih =>
  rw[U0m,U2k]
  have h1:=Tz c.1 fun p hp=>((h c U0x).1 p hp).1
  have h2:=ih fun d hd=>h d (U0p _ hd)
  omega
theorem gH{bs:List (List St2)}(g:Good 2 bs){w:Nat}(hw:w<2)(x:Int):0<=Ji bs w x:=yK (Jo (W6 g hw x))
def JK(bs:List (List St2))(w:Nat)(acc:List Tr3)(p:St2):List Tr3:=if 0<Ji bs w p.1 then acc++[(p.1,p.2,Ji bs w p.1)] else acc
theorem nY{bs:List (List St2)}(g:Good 2 bs){w:Nat}(hw:w<2)(acc:List Tr3)(hl:acc.length<1000000)(p:St2)(z5:Option D):JN [some (Ak false 2 bs),some (.int w),some (.ref 0),some (.int p.1),some (.int p.2),z5] [some (acc.map Bb)]=some (.nx,[some (Ak false 2 bs),some (.int w),some (.ref 0),some (.int p.1),some (.int p.2),some (.int (Ji bs w p.1))],[some ((JK bs w acc p).map Bb)]):=by
 have c1:Aw Hz (Aa (Ab 0) (Aa (Ab 1) (Aa (Ab 3) Ae))) [some (Ak false 2 bs),some (.int w),some (.ref 0),some (.int p.1),some (.int p.2),z5] [some (acc.map Bb)]=some (Ak true 1 (K8 bs w p.1),[some (acc.map Bb)]) :=
  CZ (ds:=[Ak false 2 bs,.int w,.int p.1]) (es:=[Ak false 2 bs,.int w,.int p.1]) rfl (by simp[Ay,BW,Ak]) (by simp[Bj,age,Ak]) (nJ g (U0t _) hw p.1)
 have c2:Aw Eo (Aa (Aw Hz (Aa (Ab 0) (Aa (Ab 1) (Aa (Ab 3) Ae)))) Ae) [some (Ak false 2 bs),some (.int w),some (.ref 0),some (.int p.1),some (.int p.2),z5] [some (acc.map Bb)]=some (.int (Ji bs w p.1),[some (acc.map Bb)]) :=
  CZ (ds:=[Ak true 1 (K8 bs w p.1)]) (es:=[Ak false 1 (K8 bs w p.1)]) (by rw[Al,c1];rfl) (by simp[Ay,BW,Ak,Ca (Cp _)]) (by simp[Bj,age,Ak]) (mU (W6 g hw p.1))
 have s1:(Bk 5 (Aw Eo (Aa (Aw Hz (Aa (Ab 0) (Aa (Ab 1) (Aa (Ab 3) Ae)))) Ae))) [some (Ak false 2 bs),some (.int w),some (.ref 0),some (.int p.1),some (.int p.2),z5] [some (acc.map Bb)]=some (.nx,[some (Ak false 2 bs),some (.int w),some (.ref 0),some (.int p.1),some (.int p.2),some (.int (Ji bs w p.1))],[some (acc.map Bb)]):=by
  rw[CW,c2];rfl
 have t1:BK (eOp oGt (Ab 5) (eC (.int 0))) [some (Ak false 2 bs),some (.int w),some (.ref 0),some (.int p.1),some (.int p.2),some (.int (Ji bs w p.1))] [some (acc.map Bb)]=some (decide (0<Ji bs w p.1),[some (acc.map Bb)]):=rfl
 have a1:=Zx (r:=[some (Ak false 2 bs),some (.int w),some (.ref 0),some (.int p.1),some (.int p.2),some (.int (Ji bs w p.1))]) (j:=2) (a:=Bq (Aa (Ab 3) (Aa (Ab 4) (Aa (Ab 5) Ae)))) (d:=Bb (p.1,p.2,Ji bs w p.1)) (L:=acc.map Bb) rfl rfl (by rw[U0k];exact hl)
 unfold JN
 rw[BP s1]
 unfold JK
 by_cases h:0<Ji bs w p.1
 .rw[KQ (by rw[t1,decide_eq_true h]),a1,if_pos h,U09];rfl
 .rw[Hi (by rw[t1,decide_eq_false h]),if_neg h];rfl
theorem PN(bs:List (List St2))(w:Nat):∀(l:List St2)(acc:List Tr3),(l.foldl (JK bs w) acc).length<=acc.length+l.length
 |[],acc=>by simp
 |p::r,acc=>by
  have h1:=PN bs w r (JK bs w acc p)
  have h2:(JK bs w acc p).length<=acc.length+1:=by unfold JK;split<;>simp
  simp only[U13,U0j];omega
theorem aQ{bs:List (List St2)}(g:Good 2 bs){w:Nat}(hw:w<2):∀(l:List St2)(acc:List Tr3),arS (l.foldl (JK bs w) acc)=arS acc+(l.map fun p=>(p.2-p.1)*Ji bs w p.1).sum
 |[],acc=>by simp
 |p::r,acc=>by
  rw[U13,aQ g hw r,U0m,U2k,←U6i]
  congr 1
  unfold JK
  split
  .rw[Ri,Rh];rfl
  .rename_i h
   have h0:=gH g hw p.1
   have:Ji bs w p.1=0:=by omega
   rw[this,U8b,Int.add_zero]
theorem nW{bs:List (List St2)}(g:Good 2 bs){w:Nat}(hw:w<2):Em [Ak false 2 bs,.int w]=some (.lst true ((((steps (Cv bs w (U0g bs.length))).foldl (JK bs w) []).foldl Dg []).map Bb)):=by
 have few:=g.few
 have h1:=lC (bs:=bs) (w:=w) (fun b hb=>by rw[(g.box b hb).1];exact hw) few
 have hE:(steps (Cv bs w (U0g bs.length))).length<=1000:=by
  have a:=O7 (Cv bs w (U0g bs.length))
  have b:=Jd ((U0g bs.length).map (fun i=>(at1 bs i w).1)++(U0g bs.length).map fun i=>(at1 bs i w).2)
  rw[U0r,U0k,U0k,U2s] at b
  unfold Cv at a ⊢
  omega
 generalize steps (Cv bs w (U0g bs.length))=E at *
 have s1:=Zo g (r:=[some (Ak false 2 bs),some (.int w),none,none,none,none]) (a:=eC (.int 2)) rfl rfl
 have s2:(GX (Aw Fx (Aa (Ab 0) (Aa (Ab 1) Ae)))) [some (Ak false 2 bs),some (.int w),none,none,none,none] []=some (.nx,[some (Ak false 2 bs),some (.int w),none,none,none,none],[]):=by
  rw[Gk,CZ (ds:=[Ak false 2 bs,.int w]) (es:=[Ak false 2 bs,.int w]) (S':=[]) rfl (by simp[Ay,BW,Ak]) (by simp[Bj,age,Ak]) (Vc hw)];rfl
 have s3:(Bk 2 (Gs Ae)) [some (Ak false 2 bs),some (.int w),none,none,none,none] []=some (.nx,[some (Ak false 2 bs),some (.int w),some (.ref 0),none,none,none],[some []]):=rfl
 have l1:∃z3 z4 z5,Kz [some (Ak false 2 bs),some (.int w),some (.ref 0),none,none,none] [some []]=some (.nx,[some (Ak false 2 bs),some (.int w),some (.ref 0),z3,z4,z5],[some ((E.foldl (JK bs w) []).map Bb)]):=by
  have c1:Aw Dc (Aa (eOp oIx (Ab 0) (eC (.int 1))) (Aa (Ab 1) Ae)) [some (Ak false 2 bs),some (.int w),some (.ref 0),none,none,none] [some []]=some (.lst true (E.map Av),[some []]) :=
   CZ (ds:=[.lst false (bs.map Af),.int w]) (es:=[.lst false (bs.map Af),.int w]) rfl (by simp[Ay,BW]) (by simp[Bj,age]) h1
  have e:DK (Aw Dc (Aa (eOp oIx (Ab 0) (eC (.int 1))) (Aa (Ab 1) Ae))) [some (Ak false 2 bs),some (.int w),some (.ref 0),none,none,none] [some []]=some ((E.map Av,[]),[some []]):=by
   rw[FW,c1];rfl
  unfold Kz
  rw[Fg,e]
  obtain⟨env',S',e2,z3,z4,z5,he,hS⟩:=Ep (w:=[]) (g:=Pat.sem (.tp [(.nm 3),(.nm 4)])) (b:=JN) (ds:=E.map Av) (env:=[some (Ak false 2 bs),some (.int w),some (.ref 0),none,none,none]) (S:=[some []])
   (fun i env S=>∃z3 z4 z5,env=[some (Ak false 2 bs),some (.int w),some (.ref 0),z3,z4,z5]/\S=[some (((E.take i).foldl (JK bs w) []).map Bb)])
   ⟨none,none,none,rfl,rfl⟩ (fun i env S _=>by simp) (fun i d env S hd q=>by
    obtain⟨z3,z4,z5,he,hS⟩:=q
    subst he hS
    rw[U0w] at hd
    obtain⟨p,hp,rfl⟩:=U10.mp hd
    have:=PN bs w (E.take i) []
    rw[U19,U05] at this
    refine⟨[some (Ak false 2 bs),some (.int w),some (.ref 0),some (.int p.1),some (.int p.2),z5],by simp[Cr,HF,FZ,El,-U0c,-U0e,Av],_,_,nY g hw _ (by omega) p z5,_,_,_,rfl,?_⟩
    rw[U28,hp,U29,U3i]
    rfl)
  subst he hS
  refine⟨z3,z4,z5,e2.trans ?_⟩
  have:(E.map Av).length=E.length:=by simp
  rw[this,U2r]
 obtain⟨z3,z4,z5,l1⟩:=l1
 have h5:=PN bs w E []
 rw[U05] at h5
 generalize E.foldl (JK bs w) []=k at *
 have hp:∀k:List Tr3,Ay (k.map Bb)=true:=fun k=>Ca (SM k)
 have c5:Aw G5 (Aa (Ab 2) Ae) [some (Ak false 2 bs),some (.int w),some (.ref 0),z3,z4,z5] [some (k.map Bb)]=some (.lst true ((k.foldl Dg []).map Bb),[some (k.map Bb)]) :=
  Yw (ds:=[.ref 0]) (es:=[.lst true (k.map Bb)]) (fs:=[.lst false (k.map Bb)]) rfl (by simp[DW,VS.den,Ce _ _ (hp k),hp k]) (by simp[Bj,age,J3 (SM k)]) (rM k (by omega)) (by simp[newD,O9 (SM _)])
 unfold Em
 rw[Ck]
 simp only[U0j,U05,U0m,U08,U1i,U1j,U0o,U06,U11,U1n,if_true]
 unfold QZ
 rw[BP s1,BP s2,BP s3,BP l1,Cg,c5]
 show den 0 _ (.lst true _)=_
 rw[den,Ce 0 _ (hp _)];rfl
end W13
end
section
namespace W13
open PySem L2 VS
theorem jd{k:Nat}:∀cs:List (List St2×List Nat),(∀c∈cs,c.1.length=1)->iQ k cs->szs cs<=2000000000*cs.length
 |[],_,_=>by simp[szs]
 |c::r,h,hf=>by
  have ih:=jd r (fun d hd=>h d (U0p _ hd)) fun d hd=>hf d (U0p _ hd)
  obtain⟨p,hp⟩:=List.length_eq_one_iff.mp (h c U0x)
  have hb:=(hf c U0x).1 p (by rw[hp];exact U0x)
  have e:Dp c.1=p.2-p.1:=by rw[hp];exact U67 _
  unfold szs at *
  rw[U0m,U2k,U0j,e]
  omega
theorem uq{bs:List (List St2)}(g:Good 2 bs){w:Nat}(hw:w<2)(x:Int):Ji bs w x<=80000000000:=by
 have gc:=W6 g hw x
 have few:=gc.few
 have hl:=Jp (bs:=K8 bs w x) 1 0 (U0g (K8 bs w x).length) (by simpa using few)
 have:=jd _ (fun c hc=>OJ 1 0 _ c hc) (Jo gc)
 unfold Ji
 omega
theorem Wv{P:Int->Prop}:∀(l acc:List Tr3),(∀q∈acc,P q.2.2)->(∀q∈l,P q.2.2)->∀q∈l.foldl Dg acc,P q.2.2
 |[],acc,h,_,q,hq=>h q hq
 |p::r,acc,h,hl,q,hq=>by
  refine Wv r (Dg acc p) (fun t ht=>?_) (fun t ht=>hl t (U0p _ ht)) q hq
  have hp:=hl p U0x
  unfold Dg at ht
  split at ht
  .split at ht
   .rcases U12.mp ht with z|z
    .exact h t (List.dropLast_subset _ z)
    .rw[U07.mp z];exact hp
   .rcases U12.mp ht with z|z
    .exact h t z
    .rw[U07.mp z];exact hp
  .rcases U12.mp ht with z|z
   .exact h t z
   .rw[U07.mp z];exact hp
theorem Wm{P:Int->Prop}{bs:List (List St2)}{w:Nat}(hP:∀x,P (Ji bs w x)):∀(l:List St2)(acc:List Tr3),(∀q∈acc,P q.2.2)->∀q∈l.foldl (JK bs w) acc,P q.2.2
 |[],acc,h,q,hq=>h q hq
 |p::r,acc,h,q,hq=>by
  refine Wm hP r (JK bs w acc p) (fun t ht=>?_) q hq
  unfold JK at ht
  split at ht
  .rcases U12.mp ht with z|z
   .exact h t z
   .rw[U07.mp z];exact hP _
  .exact h t ht
theorem jQ(bs:List (List St2))(x:Int)(v:Nat):(GR bs 0 x (U0g bs.length)).map (fun i=>at1 bs i v)=(bs.filter (TF 0 x)).map fun b=>b.getD v (0,0):=by
 conv=>rhs;rw[←R0 bs,List.filter_map,U0c]
 rfl
theorem ur(bs:List (List St2))(x:Int)(hb:∀b∈bs,b.length=2):Ji bs 0 x=S1 ((GR bs 0 x (U0g bs.length)).map fun i=>at1 bs i 1):=by
 unfold Ji
 rw[XQ,jQ]
 congr 1
 have e:(U0g (K8 bs 0 x).length).map (fun i=>at1 (K8 bs 0 x) i 0)=(K8 bs 0 x).map fun b=>b.getD 0 (0,0):=by
  conv=>rhs;rw[←R0 (K8 bs 0 x),U0c]
  rfl
 rw[e]
 unfold K8
 rw[U0c]
 refine U3j fun b h=>?_
 have:=hb b (U3k.mp h).1
 match b,this with
 |[p,q],_=>rfl
theorem gq{bs:List (List St2)}(g:Good 2 bs):Dn [Ak false 2 bs]=some (.int ((Bg bs 2 0 (U0g bs.length)).map fun c=>Dp c.1).sum):=by
 have few:=g.few
 have h1:=nW g (w:=0) (by decide)
 have hE:(steps (Cv bs 0 (U0g bs.length))).length<=1000:=by
  have a:=O7 (Cv bs 0 (U0g bs.length))
  have b:=Jd ((U0g bs.length).map (fun i=>(at1 bs i 0).1)++(U0g bs.length).map fun i=>(at1 bs i 0).2)
  rw[U0r,U0k,U0k,U2s] at b
  unfold Cv at a ⊢
  omega
 have hs:((Bg bs 2 0 (U0g bs.length)).map fun c=>Dp c.1).sum=((steps (Cv bs 0 (U0g bs.length))).map fun p=>(p.2-p.1)*Ji bs 0 p.1).sum:=by
  by_cases hn:U0g bs.length=[]
  .rw[hn,Bg,if_pos rfl]
   have:Cv bs 0 []=[]:=U2n.mp (U8g.mp (Jd []))
   rw[this];rfl
  .have:=jW bs (U0g bs.length) hn
   unfold szs at this
   rw[this]
   refine congrArg U71 (U3j fun p _=>?_)
   rw[ur bs p.1 fun b hb=>(g.box b hb).1]
 rw[hs]
 generalize steps (Cv bs 0 (U0g bs.length))=E at *
 have f1:=PN bs 0 E []
 have f2:=aQ g (w:=0) (by decide) E []
 have f3:=Wm (P:=fun v=>0<=v/\v<=80000000000) (bs:=bs) (w:=0) (fun x=>⟨gH g (by decide) x,uq g (by decide) x⟩) E [] (by simp)
 generalize E.foldl (JK bs 0) []=l at *
 have j1:=Ye l
 have j2:=bG l []
 have j3:=Wv (P:=fun v=>0<=v/\v<=80000000000) l [] (by simp) f3
 generalize l.foldl Dg []=k at *
 have a0:arS ([]:List Tr3)=0:=rfl
 rw[a0,U5z] at f2 j2
 rw[U05] at f1
 rw[←f2,←j2]
 have c4:Aw Em (Aa (Ab 0) (Aa (eC (.int 0)) Ae)) [some (Ak false 2 bs)] []=some (.lst true (k.map Bb),[]) :=
  CZ (ds:=[Ak false 2 bs,.int 0]) (es:=[Ak false 2 bs,.int 0]) (S':=[]) rfl (by simp[Ay,BW,Ak]) (by simp[Bj,age,Ak]) h1
 have c1:Nb [some (Ak false 2 bs)] []=some ((k.map ar).map .int,[]):=by
  have e:DK (Aw Em (Aa (Ab 0) (Aa (eC (.int 0)) Ae))) [some (Ak false 2 bs)] []=some ((k.map Bb,[]),[]):=by
   rw[FW,c4];rfl
  unfold Nb Cw
  rw[e]
  simp only[U0a]
  rw[Ip (by simp) Bb (fun p=>.int (ar p)) k (by omega),U0c]
  .rfl
  .intro p hp
   have hv:=j3 p hp
   have hm:-18446744073709551616<p.2.2/\p.2.2<18446744073709551616:=by omega
   exact⟨[some (.int p.1),some (.int p.2.1),some (.int p.2.2)],by simp[Gn,Cr,HF,FZ,El,U0o,-U0c,-U0e,Bb],by simp[Aq,BJ,oI,Hx,Pr,Dw,J8,VS.listOf,-U0c,-U0e,ar,hm]⟩
 unfold Dn
 rw[Ck]
 simp only[U0j,U05,U0m,U08,U1i,U1j,U06,U15,if_true]
 unfold Ro
 rw[Cg,Eu,Al,DQ,c1]
 unfold arS
 generalize (k.map ar)=l
 simp[BZ,VS.listOf,den,-U0c,-U0e,Qx]
end W13
end
section
namespace W13
open PySem L2 VS
def ins(x:Int):List Int->List Int
 |[]=>[x]
 |y::r=>if x<=y then x::y::r else y::ins x r
def WY:List Int->List Int
 |[]=>[]
 |x::r=>ins x (WY r)
theorem W5(x:Int):∀l:List Int,(ins x l).Perm (x::l)
 |[]=>.refl _
 |y::r=>by
  rw[ins]
  split
  .exact .refl _
  .exact((W5 x r).cons y).trans (.swap ..)
theorem Wz:∀l:List Int,(WY l).Perm l
 |[]=>.refl _
 |x::r=>(W5 x _).trans ((Wz r).cons x)
theorem bI(x:Int):∀{l:List Int},l.Pairwise (·<=·)->(ins x l).Pairwise (·<=·)
 |[],_=>by simp[ins]
 |y::r,h=>by
  obtain⟨h1,h2⟩:=U2x.mp h
  rw[ins]
  split
  .rename_i q
   refine U2x.mpr ⟨fun z hz=>?_,h⟩
   rcases U00.mp hz with e|e
   .omega
   .have:=h1 z e;omega
  .refine U2x.mpr ⟨fun z hz=>?_,bI x h2⟩
   rcases U00.mp ((W5 x r).mem_iff.mp hz) with e|e
   .omega
   .exact h1 z e
theorem Wy:∀l:List Int,(WY l).Pairwise (·<=·)
 |[]=>.nil
 |x::r=>bI x (Wy r)
theorem pD(ns:List Int):Gd ns=WY (SetP.once ns):=(Wn (Wz _) (Wy _)).symm
def RT(bs:List (List St2)):Nat->Nat->List Nat->List (List St2×List Nat)
 |0,_,ns=>if ns=[] then [] else [([],ns)]
 |k+1,w,ns=>if ns=[] then [] else (steps (WY (SetP.once (ns.map (fun i=>(at1 bs i w).1)++ns.map (fun i=>(at1 bs i w).2))))).flatMap fun p=>(RT bs k (w+1) (GR bs w p.1 ns)).map fun c=>(p::c.1,c.2)
theorem Uh(bs:List (List St2)):∀(k w:Nat)(ns:List Nat),Bg bs k w ns=RT bs k w ns
 |0,_,_=>rfl
 |k+1,w,ns=>by
  rw[Bg,RT,Cv,pD]
  simp only[Uh bs k]
theorem ZK(is:List Int)(hl:is.length<=1000):En [.lst false (is.map .int),.lst false (is.map .int)]=some (.bl true):=by
 have q1:∀S:Store,eqP true S (.lst false (is.map .int)) (.lst false (is.map .int))=some (.bl false):=fun S=>bR 1 (Qj S false is) (Qj S false is) (W3 is) (by decide)
 have c1:JQ [some (.lst false (is.map .int)),some (.lst false (is.map .int))] []=some ([],[]):=by
  have e:DK (Ab 0) [some (.lst false (is.map .int)),some (.lst false (is.map .int))] []=some ((is.map .int,[]),[]):=rfl
  unfold JQ Cw
  rw[e]
  simp only[U0a]
  rw[MJ (by simp) D.int (fun _=>false) D.int _ _ (by simp;omega)]
  .simp
  .intro i _
   refine⟨[some (.int i)],by rw[Cr];rfl,?_,fun z=>by cases z⟩
   simp[Aq,CT,BZ,Al,Eu,DP,Py,M9,-U0c,-U0e,noDict,isSeq]
 have k1:BK (eCB J9 (Aa (Ab 0) (Aa (eC (.ty "list")) Ae))) [some (.lst false (is.map .int)),some (.lst false (is.map .int))] []=some (true,[]):=by
  have h1:Dk [] (.lst false (is.map .int))=some (.list (is.map .int)):=Qj [] false is
  simp[Aq,CT,BZ,Al,Eu,DP,-U0c,-U0e,h1,noDict,isSeq]
 have k2:BK (eOp (oEq true) (Ab 0) (Ab 1)) [some (.lst false (is.map .int)),some (.lst false (is.map .int))] []=some (false,[]):=by
  show(U2g _ (eqP true [] (.lst false (is.map D.int)) (.lst false (is.map D.int)))).bind _=_
  rw[q1];rfl
 have s1:(sIf (VS.tOr (VS.Hy (BK (eCB J9 (Aa (Ab 0) (Aa (eC (.ty "list")) Ae))))) (BK (eOp (oEq true) (Ab 0) (Ab 1)))) (DN (eC (.bl false))) Ed) [some (.lst false (is.map .int)),some (.lst false (is.map .int))] []=some (.nx,[some (.lst false (is.map .int)),some (.lst false (is.map .int))],[]):=by
  rw[Hi (by
   rw[Py,M9,k1]
   simp only[U0a,U4h,U1o,if_false]
   exact k2)]
  rfl
 have e0:∀S:Store,eqP false S (.lst true []) (.lst true [])=some (.bl true):=fun S=>V7 (l:=[]) 1 (by simp[Dk,VS.den,DW,toP,K6]) rfl (by decide)
 unfold En
 rw[Ck]
 simp only[U0j,U05,U0m,U08,U1i,U1j,U06,U15,if_true]
 unfold Qa
 have k3:eOp (oEq false) (Bt JQ) (Bt Ae) [some (.lst false (is.map .int)),some (.lst false (is.map .int))] []=some (.bl true,[]):=by
  have e1:oEq false ([]:Store) (.lst true []) (.lst true [])=some (.bl true):=e0 []
  rw[BJ,DQ,c1]
  simp only[U0a,DQ,BZ,e1,U5t]
 rw[BP s1,Cg,k3]
 rfl
theorem ZF(v:Int):Fb [.int v,.int v]=some (.bl true):=by
 simp[Fb,Rm,Cg,Aq,CT,BJ,BZ,Al,Eu,Rf,gR,oEq,Ck,den,-U0c,-U0e,noDict,isSeq]
theorem vR{n:Nat}{bs:List (List St2)}(m m':Bool)(S:Store):eqP true S (Ak m n bs) (Ak m' n bs)=some (.bl false):=bR 4 (UG S m n bs) (UG S m' n bs) (qW 0 n bs) (by decide)
theorem RX(n:Nat)(bs:List (List St2)):Ay [Ak true n bs]=true:=by simp[Ay,BW,Ak,Ca (Cp bs)]
theorem Tq(n:Nat)(bs:List (List St2)):Bj [Ak true n bs]=[Ak false n bs]:=by simp[Bj,age,Ak]
theorem mD{n:Nat}{bs:List (List St2)}:IK [Ak false n bs]=some (Ak true n bs):=by
 simp[IK,Yl,Cg,Aq,CT,BJ,BZ,Al,Ia,rD,oIx,nList,VS.listOf,CJ,Ck,den,DW,-U0c,-U0e,Ak,Ca (Cp bs)]
theorem tM{bs:List (List St2)}(g:Good 2 bs)(P:List Int)(hP:P=(Bg bs 2 0 (U0g bs.length)).foldl CQ (U0l (maxLen (Bg bs 2 0 (U0g bs.length))) 0))(hl:P.length<=1000)(e0 e1 e2 e3 e4 z8 z9:Option D)(S:Store) :
  Wk [e0,e1,e2,e3,e4,some (Ak true 2 bs),some (.lst true (P.map .int)),some (Ak true 2 bs),z8,z9] S=some (.nx,[e0,e1,e2,e3,e4,some (Ak true 2 bs),some (.lst true (P.map .int)),some (Ak true 2 bs),z8,some (.ref S.length)],S++[some (P.map .int++[.int 0])]):=by
 have h1:=ak g
 rw[←hP] at h1
 have h2:=gq g
 rw[←ou g,←hP] at h2
 have h3:=ZK P hl
 have h4:=ZF P.sum
 have hS:=Vr S (some (P.map D.int)) []
 have hp:=Fz P
 have s1:(Bk 9 (Q8 FT (Aa (Ab 7) Ae))) [e0,e1,e2,e3,e4,some (Ak true 2 bs),some (.lst true (P.map .int)),some (Ak true 2 bs),z8,z9] S=some (.nx,[e0,e1,e2,e3,e4,some (Ak true 2 bs),some (.lst true (P.map .int)),some (Ak true 2 bs),z8,some (.ref S.length)],S++[some (P.map .int)]):=by
  rw[CW,aK (d':=.ref S.length) (cs:=P.map .int) (CZ (ds:=[Ak true 2 bs]) (es:=[Ak false 2 bs]) (S':=S) rfl (RX ..) (Tq ..) h1) (by rw[Oa,if_pos (HW P fun i _=>rfl)])]
  rfl
 have d1:den 0 (S++[some (P.map D.int)]) (.ref S.length)=some (.lst true (P.map .int)):=by
  rw[den,if_neg (by omega),hS]
  show(if Ay (P.map D.int)=true then _ else _)=_
  rw[if_pos hp]
 have d2:den 0 (S++[some (P.map D.int)]) (.lst true (P.map .int))=some (.lst true (P.map .int)):=by
  rw[den,Ce 0 _ hp];rfl
 have c2:(Aw En (Aa (Ab 9) (Aa (Ab 6) Ae))) [e0,e1,e2,e3,e4,some (Ak true 2 bs),some (.lst true (P.map .int)),some (Ak true 2 bs),z8,some (.ref S.length)] (S++[some (P.map .int)])=some (.bl true,S++[some (P.map .int)]) :=
  Yw (ds:=[.ref S.length,.lst true (P.map .int)]) (es:=[.lst true (P.map .int),.lst true (P.map .int)]) (fs:=[.lst false (P.map .int),.lst false (P.map .int)]) rfl (by simp only[DW,d1,d2,U0a]) (by simp only[Bj,age,Ma]) h3 rfl
 have k2:BK (eOp (oEq true) (Ab 7) (Ab 5)) [e0,e1,e2,e3,e4,some (Ak true 2 bs),some (.lst true (P.map .int)),some (Ak true 2 bs),z8,some (.ref S.length)] (S++[some (P.map .int)])=some (false,S++[some (P.map .int)]):=by
  have he':oEq true (S++[some (P.map .int)]) (Ak true 2 bs) (Ak true 2 bs)=some (.bl false):=vR true true _
  show(U2g _ (oEq true (S++[some (P.map D.int)]) (Ak true 2 bs) (Ak true 2 bs))).bind _=_
  rw[he'];rfl
 have s2:(sIf (VS.tOr (VS.Hy (BK (Aw En (Aa (Ab 9) (Aa (Ab 6) Ae))))) (BK (eOp (oEq true) (Ab 7) (Ab 5)))) (DN (eC (.bl false))) Ed) [e0,e1,e2,e3,e4,some (Ak true 2 bs),some (.lst true (P.map .int)),some (Ak true 2 bs),z8,some (.ref S.length)] (S++[some (P.map .int)])=some (.nx,[e0,e1,e2,e3,e4,some (Ak true 2 bs),some (.lst true (P.map .int)),some (Ak true 2 bs),z8,some (.ref S.length)],S++[some (P.map .int)]):=by
  rw[Hi (by
   rw[Py,M9,DP,c2]
   simp only[U0a,U4h,U1o,if_false]
   exact k2)]
  rfl
 have c3:Aw Dn (Aa (Ab 7) Ae) [e0,e1,e2,e3,e4,some (Ak true 2 bs),some (.lst true (P.map .int)),some (Ak true 2 bs),z8,some (.ref S.length)] (S++[some (P.map .int)])=some (.int P.sum,S++[some (P.map .int)]) :=
  CZ (ds:=[Ak true 2 bs]) (es:=[Ak false 2 bs]) rfl (RX ..) (Tq ..) h2
 have c4:eCB Qx (Aa (Ab 6) Ae) [e0,e1,e2,e3,e4,some (Ak true 2 bs),some (.lst true (P.map .int)),some (Ak true 2 bs),z8,some (.ref S.length)] (S++[some (P.map .int)])=some (.int P.sum,S++[some (P.map .int)]):=by
  show U2g _ ((intsOf (P.map D.int)).map fun ns=>D.int ns.sum)=_
  rw[Jm];rfl
 have c5:Aw Fb (Aa (Aw Dn (Aa (Ab 7) Ae)) (Aa (eCB Qx (Aa (Ab 6) Ae)) Ae)) [e0,e1,e2,e3,e4,some (Ak true 2 bs),some (.lst true (P.map .int)),some (Ak true 2 bs),z8,some (.ref S.length)] (S++[some (P.map .int)])=some (.bl true,S++[some (P.map .int)]) :=
  CZ (ds:=[.int P.sum,.int P.sum]) (es:=[.int P.sum,.int P.sum]) (by rw[Al,c3,U0a,Al,c4];rfl) (by simp[Ay,BW]) (by simp[Bj,age]) h4
 have s3:(sIf (VS.Hy (BK (Aw Fb (Aa (Aw Dn (Aa (Ab 7) Ae)) (Aa (eCB Qx (Aa (Ab 6) Ae)) Ae))))) (DN (eC (.bl false))) Ed) [e0,e1,e2,e3,e4,some (Ak true 2 bs),some (.lst true (P.map .int)),some (Ak true 2 bs),z8,some (.ref S.length)] (S++[some (P.map .int)])=some (.nx,[e0,e1,e2,e3,e4,some (Ak true 2 bs),some (.lst true (P.map .int)),some (Ak true 2 bs),z8,some (.ref S.length)],S++[some (P.map .int)]):=by
  rw[Hi (by rw[M9,DP,c5];rfl)];rfl
 have s4:(GX (GP Fw (Ab 9) (Aa (eC (.int 0)) Ae))) [e0,e1,e2,e3,e4,some (Ak true 2 bs),some (.lst true (P.map .int)),some (Ak true 2 bs),z8,some (.ref S.length)] (S++[some (P.map .int)])=some (.nx,[e0,e1,e2,e3,e4,some (Ak true 2 bs),some (.lst true (P.map .int)),some (Ak true 2 bs),z8,some (.ref S.length)],S++[some (P.map .int++[.int 0])]):=by
  rw[Gk,Ja (d:=.ref S.length) (cs:=P.map .int) (ds:=[.int 0]) (r:=.non) (S1:=S++[some (P.map .int)]) (S2:=S++[some (P.map .int)]) (S3:=S++[some (P.map .int++[.int 0])]) rfl (by rw[VS.listOf,hS];rfl) rfl (by
   unfold Fw
   simp only[hS]
   rw[if_pos (by rw[U0k];omega),ni])]
  rfl
 unfold Wk
 rw[BP s1,BP s2,BP s3,s4]
theorem Z1:∀mss:List (List Int),Bj (mss.map Dz)=mss.map encJ
 |[]=>by rw[U08,Bj];rfl
 |m::r=>by rw[U0m,Bj,Dz,age,Ma,Z1 r];rfl
theorem tL(e0 e1:Option D)(x y z:Int)(i:Nat)(S:Store)(hS:S[i]?=some (some [.int x,.int y,.int z]))(z3 z4 z5 z6 z7 z8 z9:Option D):∃(x' z':Int)(S':Store)(y3 y4 y5 y6 y7 y8 y9:Option D),S'[i]?=some (some [.int x',.int y,.int z']) /\
  (Bh (Ze (Bl Gg (Aa (Ab 2) (Aa (eC (.int 2)) (Aa (eC (.int 10)) Ae)))) (Pat.sem (.tp [(.nm 3),(.nm 4),(.nm 5)]))) (Bh (Bk 6 (Aw G3 (Aa (Ab 3) (Aa (Ab 4) (Aa (eC (.int 2)) Ae))))) (Bh (Bk 7 (Aw IK (Aa (Ab 5) Ae))) Wi))) [e0,e1,some (.ref i),z3,z4,z5,z6,z7,z8,z9] S=some (.nx,[e0,e1,some (.ref i),y3,y4,y5,y6,y7,y8,y9],S'):=by
 obtain⟨m,sm,mss,x',z',h1,md⟩:=vP x y z 2 10 (.inr (.inl rfl)) (by decide) (by decide)
 have h20:sm.length<=20:=by have:=md.few;simp at this;omega
 have g:=md.good (.inr (.inl rfl))
 have hlo:=uh md (by decide) h20
 have hd:=rF (.inr (.inl rfl)) md
 have hbl:(sm.map (placed mss)).length=sm.length:=by simp
 rw[←hbl] at hd
 rw[hbl] at hd
 have hil:i<S.length:=(U0n.mp hS).1
 have hS1:(S.set i (some [.int x',.int y,.int z']))[i]?=some (some [.int x',.int y,.int z']):=by rw[U2u hil]
 generalize hT:S.set i (some [.int x',.int y,.int z'])=T at *
 have hc:Bl Gg (Aa (Ab 2) (Aa (eC (.int 2)) (Aa (eC (.int 10)) Ae))) [e0,e1,some (.ref i),z3,z4,z5,z6,z7,z8,z9] S=some (.tup [.lst true (sm.map Af),.lst true (mss.map Dz),Ak true 2 (sm.map (placed mss))],T):=by
  rw[Jk (ns:=[x,y,z]) (rest:=[.int 2,.int 10]) (es:=[.int 2,.int 10]) (i:=i) (S':=S) rfl hS (by simp[Ay,BW]) (by simp[Bj,age]) h1,←hT]
  rfl
 have s1:(Ze (Bl Gg (Aa (Ab 2) (Aa (eC (.int 2)) (Aa (eC (.int 10)) Ae)))) (Pat.sem (.tp [(.nm 3),(.nm 4),(.nm 5)]))) [e0,e1,some (.ref i),z3,z4,z5,z6,z7,z8,z9] S=some (.nx,[e0,e1,some (.ref i),some (.lst true (sm.map Af)),some (.lst true (mss.map Dz)),some (Ak true 2 (sm.map (placed mss))),z6,z7,z8,z9],T):=by
  rw[tu,hc]
  simp[Cr,HF,FZ,El,-U0c,-U0e]
 rw[hd] at hlo
 obtain⟨P,hP⟩:∃P:List Int,P=(Bg (sm.map (placed mss)) 2 0 (U0g sm.length)).foldl CQ (U0l (maxLen (Bg (sm.map (placed mss)) 2 0 (U0g sm.length))) 0):=⟨_,rfl⟩
 rw[←hP] at hlo
 have hPl:P.length<=1000:=by
  rw[hP,KY,U1f]
  have hf:=Jo g
  rw[hbl] at hf
  obtain⟨_,m2,_⟩:=Qm (Bg (sm.map (placed mss)) 2 0 (U0g sm.length))
  rcases m2 with h|⟨c,hc,h⟩
  .omega
  .have:=(hf c hc).2.2;omega
 rw[←hbl] at hP
 have c2:Aw G3 (Aa (Ab 3) (Aa (Ab 4) (Aa (eC (.int 2)) Ae))) [e0,e1,some (.ref i),some (.lst true (sm.map Af)),some (.lst true (mss.map Dz)),some (Ak true 2 (sm.map (placed mss))),z6,z7,z8,z9] T=some (.lst true (P.map .int),T) :=
  CZ (ds:=[.lst true (sm.map Af),.lst true (mss.map Dz),.int 2]) (es:=[.lst false (sm.map Af),.lst false (mss.map encJ),.int 2]) rfl (by rw[Ay,BW,Ca (Cp sm),Ay,BW,Sg];rfl) (by simp only[Bj,age,J3 (Cp sm),Z1]) hlo
 have s2:(Bk 6 (Aw G3 (Aa (Ab 3) (Aa (Ab 4) (Aa (eC (.int 2)) Ae))))) [e0,e1,some (.ref i),some (.lst true (sm.map Af)),some (.lst true (mss.map Dz)),some (Ak true 2 (sm.map (placed mss))),z6,z7,z8,z9] T=some (.nx,[e0,e1,some (.ref i),some (.lst true (sm.map Af)),some (.lst true (mss.map Dz)),some (Ak true 2 (sm.map (placed mss))),some (.lst true (P.map .int)),z7,z8,z9],T):=by
  rw[CW,c2];rfl
 have s3:(Bk 7 (Aw IK (Aa (Ab 5) Ae))) [e0,e1,some (.ref i),some (.lst true (sm.map Af)),some (.lst true (mss.map Dz)),some (Ak true 2 (sm.map (placed mss))),some (.lst true (P.map .int)),z7,z8,z9] T=some (.nx,[e0,e1,some (.ref i),some (.lst true (sm.map Af)),some (.lst true (mss.map Dz)),some (Ak true 2 (sm.map (placed mss))),some (.lst true (P.map .int)),some (Ak true 2 (sm.map (placed mss))),z8,z9],T):=by
  rw[CW,CZ (ds:=[Ak true 2 (sm.map (placed mss))]) (es:=[Ak false 2 (sm.map (placed mss))]) (S':=T) rfl (RX ..) (Tq ..) mD];rfl
 generalize sm.map (placed mss)=bs at *
 have l1:∃(y8 y9:Option D)(S':Store),S'[i]?=some (some [.int x',.int y,.int z'])/\Wi [e0,e1,some (.ref i),some (.lst true (sm.map Af)),some (.lst true (mss.map Dz)),some (Ak true 2 bs),some (.lst true (P.map .int)),some (Ak true 2 bs),z8,z9] T=some (.nx,[e0,e1,some (.ref i),some (.lst true (sm.map Af)),some (.lst true (mss.map Dz)),some (Ak true 2 bs),some (.lst true (P.map .int)),some (Ak true 2 bs),y8,y9],S'):=by
  have e:Fj (Aa (eC (.int 2)) Ae) [e0,e1,some (.ref i),some (.lst true (sm.map Af)),some (.lst true (mss.map Dz)),some (Ak true 2 bs),some (.lst true (P.map .int)),some (Ak true 2 bs),z8,z9] T=some ((upD 0 2,[]),T):=O4 (j:=2) 2 rfl (by decide) (by decide) (by decide)
  unfold Wi
  rw[Fg,e]
  obtain⟨env',S',e2,y8,y9,he,hS'⟩:=Ep (w:=[]) (g:=Pat.sem (.nm 8)) (b:=Wk) (ds:=upD 0 2) (env:=[e0,e1,some (.ref i),some (.lst true (sm.map Af)),some (.lst true (mss.map Dz)),some (Ak true 2 bs),some (.lst true (P.map .int)),some (Ak true 2 bs),z8,z9]) (S:=T)
   (fun _ env S'=>∃y8 y9:Option D,env=[e0,e1,some (.ref i),some (.lst true (sm.map Af)),some (.lst true (mss.map Dz)),some (Ak true 2 bs),some (.lst true (P.map .int)),some (Ak true 2 bs),y8,y9]/\S'[i]?=some (some [.int x',.int y,.int z'])) ⟨z8,z9,rfl,hS1⟩ (fun i env S _=>by simp) (fun j d env S' hd q=>by
    obtain⟨y8,y9,he,hS'⟩:=q
    subst he
    refine⟨_,Cr _ _ _,_,_,tM g P hP hPl _ _ _ _ _ _ _ S',_,_,rfl,?_⟩
    rw[U1e (U0n.mp hS').1];exact hS')
  subst he
  exact⟨y8,y9,S',hS',e2⟩
 obtain⟨y8,y9,S',hS',l1⟩:=l1
 refine⟨x',z',S',some (.lst true (sm.map Af)),some (.lst true (mss.map Dz)),some (Ak true 2 bs),some (.lst true (P.map .int)),some (Ak true 2 bs),y8,y9,hS',?_⟩
 rw[BP s1,BP s2,BP s3]
 exact l1
end W13
end
section
namespace W13
open PySem L2 VS
theorem yH(ns:List Int)(c:Int)(z2 z3 z4 z5 z6 z7 z8 z9:Option D)(S:Store):∃(S':Store)(y2 y3 y4 y5 y6 y7 y8 y9:Option D),Wj [some (.scr ns),some (.int c),z2,z3,z4,z5,z6,z7,z8,z9] S=some (.nx,[some (.scr ns),some (.int c),y2,y3,y4,y5,y6,y7,y8,y9],S'):=by
 obtain⟨x0,p0⟩:=yg c
 have s1:(Bk 2 (Q8 JB (Aa (Ab 1) Ae))) [some (.scr ns),some (.int c),z2,z3,z4,z5,z6,z7,z8,z9] S=some (.nx,[some (.scr ns),some (.int c),some (.ref S.length),z3,z4,z5,z6,z7,z8,z9],S++[some [.int x0,.int c,.int 0]]):=by
  rw[CW,aK (d':=.ref S.length) (cs:=[.int x0,.int c,.int 0]) (CZ (ds:=[.int c]) (es:=[.int c]) (S':=S) rfl (by simp[Ay,BW]) (by simp[Bj,age]) p0) (by simp[Oa,FQ,Dy])]
  rfl
 obtain⟨_,_,S',y3,y4,y5,y6,y7,y8,y9,_,l2⟩:=tL (some (.scr ns)) (some (.int c)) x0 c 0 S.length (S++[some [.int x0,.int c,.int 0]]) (Vr S _ []) z3 z4 z5 z6 z7 z8 z9
 refine⟨S',some (.ref S.length),y3,y4,y5,y6,y7,y8,y9,?_⟩
 unfold Wj
 rw[BP s1]
 exact l2
theorem qX:∀ns:List Int,ns.length<=63->Xw [.scr ns]=some (.bl true):=by
 intro ns hns
 obtain⟨l,e⟩:∃l:List Int,DK (eOp Dl (eSl oSl (Ab 0) Ke (Kd (eC (.int 4)))) (Bt (Aa (eCB Dm (Aa (Ab 0) Ae)) Ae))) [some (.scr ns),none,none,none,none,none,none,none,none,none] []=some ((l.map .int,[]),[]):=by
  obtain⟨cs,hc,hl⟩:∃cs:List Int,cut (ns.map D.int) none (some 4)=cs.map D.int/\cs.length<=63:=by
   unfold cut
   rw[←U74,←U75]
   exact⟨_,rfl,by rw[U19,U6j];omega⟩
  have hl2:cs.length+1<=1000000:=by omega
  refine⟨cs++[(ns.length:Int)],?_⟩
  have a1:eSl oSl (Ab 0) Ke (Kd (eC (.int 4))) [some (.scr ns),none,none,none,none,none,none,none,none,none] []=some (.lst true (cs.map .int),[]):=by
   show(some (D.lst true (cut (ns.map D.int) none (some 4)),([]:Store)):Option (D×Store))=_
   rw[hc]
  have a2:Bt (Aa (eCB Dm (Aa (Ab 0) Ae)) Ae) [some (.scr ns),none,none,none,none,none,none,none,none,none] []=some (.lst true ([(ns.length:Int)].map .int),[]):=by
   show(some (D.lst true [.int ((ns.map D.int).length:Nat)],([]:Store)):Option (D×Store))=_
   rw[U0k];rfl
  rw[FW,BJ,a1,U0a,a2,U0a]
  show(U2g _ (if (cs.map D.int).length+1<=1000000 then some (D.lst true (cs.map D.int++[(ns.length:Int)].map D.int)) else none)).bind _=_
  rw[if_pos (by rw[U0k];exact hl2),←U09]
  rfl
 have l1:∃env' S',Zq [some (.scr ns),none,none,none,none,none,none,none,none,none] []=some (.nx,env',S')/\∃y1 y2 y3 y4 y5 y6 y7 y8 y9,env'=[some (.scr ns),y1,y2,y3,y4,y5,y6,y7,y8,y9]:=by
  unfold Zq
  rw[Fg,e]
  exact Ep (w:=[]) (g:=Pat.sem (.nm 1)) (b:=Wj) (ds:=l.map .int) (env:=[some (.scr ns),none,none,none,none,none,none,none,none,none]) (S:=[])
   (fun _ env S=>∃y1 y2 y3 y4 y5 y6 y7 y8 y9,env=[some (.scr ns),y1,y2,y3,y4,y5,y6,y7,y8,y9]) ⟨_,_,_,_,_,_,_,_,_,rfl⟩ (fun i env S _=>by simp) (fun j d env S hd q=>by
    obtain⟨y1,y2,y3,y4,y5,y6,y7,y8,y9,he⟩:=q
    rw[U0w] at hd
    obtain⟨c,hc,rfl⟩:=U10.mp hd
    subst he
    obtain⟨S',w2,w3,w4,w5,w6,w7,w8,w9,e3⟩:=yH ns c y2 y3 y4 y5 y6 y7 y8 y9 S
    exact⟨_,Cr _ _ _,_,_,e3,_,_,_,_,_,_,_,_,_,rfl⟩)
 obtain⟨env',S',l1,y1,y2,y3,y4,y5,y6,y7,y8,y9,he⟩:=l1
 subst he
 have gA:Good 2 []:=⟨.inr (.inl rfl),by simp,by simp⟩
 have gB:Good 2 [[((0:Int),(2:Int)),(0,2)],[(1,3),(1,3)]]:=⟨.inr (.inl rfl),by simp,by decide⟩
 have hA:=ak gA
 have hB:=gq gB
 simp only[Uh] at hA
 rw[Uh] at hB
 have vA:(RT [] 2 0 (U0g ([]:List (List St2)).length)).foldl CQ (U0l (maxLen (RT [] 2 0 (U0g ([]:List (List St2)).length))) 0)=[]:=rfl
 have vB:((RT [[((0:Int),(2:Int)),(0,2)],[(1,3),(1,3)]] 2 0 (U0g [[((0:Int),(2:Int)),(0,2)],[(1,3),(1,3)]].length)).map fun c=>Dp c.1).sum=7:=by decide +kernel
 rw[vA] at hA
 rw[vB] at hB
 have cA:(Aw FT (Aa (Bq (Aa (eC (.int 2)) (Aa (Bt Ae) Ae))) Ae)) [some (.scr ns),y1,y2,y3,y4,y5,y6,y7,y8,y9] S'=some (.lst true [],S') :=
  CZ (ds:=[Ak true 2 []]) (es:=[Ak false 2 []]) (S':=S') rfl (RX ..) (Tq ..) hA
 have cB:(Aw Dn (Aa (Bq (Aa (eC (.int 2)) (Aa (Bt (Aa (Bq (Aa (Bq (Aa (eC (.int 0)) (Aa (eC (.int 2)) Ae))) (Aa (Bq (Aa (eC (.int 0)) (Aa (eC (.int 2)) Ae))) Ae))) (Aa (Bq (Aa (Bq (Aa (eC (.int 1)) (Aa (eC (.int 3)) Ae))) (Aa (Bq (Aa (eC (.int 1)) (Aa (eC (.int 3)) Ae))) Ae))) Ae))) Ae))) Ae)) [some (.scr ns),y1,y2,y3,y4,y5,y6,y7,y8,y9] S'=some (.int 7,S') :=
  CZ (ds:=[Ak true 2 [[((0:Int),(2:Int)),(0,2)],[(1,3),(1,3)]]]) (es:=[Ak false 2 [[((0:Int),(2:Int)),(0,2)],[(1,3),(1,3)]]]) (S':=S') rfl (RX ..) (Tq ..) hB
 have qA:∀S:Store,oEq false S (.lst true []) (.lst true [])=some (.bl true):=fun S=>V7 (l:=[]) 1 (by simp[Dk,VS.den,DW,toP,K6]) rfl (by decide)
 unfold Xw
 rw[Ck]
 simp only[U0j,U05,U0m,U08,U1i,U1j,U0o,U06,U11,U1n,if_true]
 unfold sO
 rw[BP l1]
 have qB:∀S:Store,oEq false S (.int 7) (.int 7)=some (.bl true):=fun S=>rfl
 simp[Cg,Rf,BJ,CT,DQ,Ia,Al,BZ,qA,qB,cA,cB,den]
end W13
end
section
namespace W13
open PySem PySem.Spec L2 VS
theorem KD:∀{us:List Value},us.length=1->∃a0,us=[a0]
 |[a0],_=>⟨a0,rfl⟩
theorem Lx:∀{us:List Value},us.length=2->∃a0 a1,us=[a0,a1]
 |[a0,a1],_=>⟨a0,a1,rfl⟩
theorem Zc:∀{us:List Value},us.length=3->∃a0 a1 a2,us=[a0,a1,a2]
 |[a0,a1,a2],_=>⟨a0,a1,a2,rfl⟩
theorem wY:∀{us:List Value},us.length=4->∃a0 a1 a2 a3,us=[a0,a1,a2,a3]
 |[a0,a1,a2,a3],_=>⟨a0,a1,a2,a3,rfl⟩
theorem tops{l:U6r}{w:World}{K:U0b}{h:Heap}{mg:Str->Option Value}{fa dM:Addr}{f1 f2 f3 f4 f5 f6 f7 f8 f9 f10 f11 f12 f13 f14 f15 f16 f17 f18 f19 f20 f21 f22 f23 f24 f25 f26 f27 f28 f29 f30 f31 f32 f33 f34 f35 f36 f37 f38 f39 f40:Addr}(X:K.In h)(G:h.Ns mainGlobals mg)(hfa:mg "law"=some (.ref fa))
  {od1 an1 od2 an2 od3 an3 od4 an4 od5 an5 od6 an6 od7 an7 od8 an8 od9 an9 od10 an10 od11 an11 od12 an12 od13 an13 od14 an14 od15 an15 od16 an16 od17 an17 od18 an18 od19 an19 od20 an20 od21 an21 od22 an22 od23 an23 od24 an24 od25 an25 od26 an26 od27 an27 od28 an28 od29 an29 od30 an30 od31 an31 od32 an32 od33 an33 od34 an34 od35 an35 od36 an36 od37 an37 od38 an38 od39 an39 od40 an40:Option Addr} {sl1 sl2 sl3 sl4 sl5 sl6 sl7 sl8 sl9 sl10 sl11 sl12 sl13 sl14 sl15 sl16 sl17 sl18 sl19 sl20 sl21 sl22 sl23 sl24 sl25 sl26 sl27 sl28 sl29 sl30 sl31 sl32 sl33 sl34 sl35 sl36 sl37 sl38 sl39 sl40:Array (Option Value)} {oc1 kV1 dc1 pm1 cd1 ct1 oc2 kV2 dc2 pm2 cd2 ct2 oc3 kV3 dc3 pm3 cd3 ct3 oc4 kV4 dc4 pm4 cd4 ct4 oc5 kV5 dc5 pm5 cd5 ct5 oc6 kV6 dc6 pm6 cd6 ct6 oc7 kV7 dc7 pm7 cd7 ct7 oc8 kV8 dc8 pm8 cd8 ct8 oc9 kV9 dc9 pm9 cd9 ct9 oc10 kV10 dc10 pm10 cd10 ct10 oc11 kV11 dc11 pm11 cd11 ct11 oc12 kV12 dc12 pm12 cd12 ct12 oc13 kV13 dc13 pm13 cd13 ct13 oc14 kV14 dc14 pm14 cd14 ct14 oc15 kV15 dc15 pm15 cd15 ct15 oc16 kV16 dc16 pm16 cd16 ct16 oc17 kV17 dc17 pm17 cd17 ct17 oc18 kV18 dc18 pm18 cd18 ct18 oc19 kV19 dc19 pm19 cd19 ct19 oc20 kV20 dc20 pm20 cd20 ct20 oc21 kV21 dc21 pm21 cd21 ct21 oc22 kV22 dc22 pm22 cd22 ct22 oc23 kV23 dc23 pm23 cd23 ct23 oc24 kV24 dc24 pm24 cd24 ct24 oc25 kV25 dc25 pm25 cd25 ct25 oc26 kV26 dc26 pm26 cd26 ct26 oc27 kV27 dc27 pm27 cd27 ct27 oc28 kV28 dc28 pm28 cd28 ct28 oc29 kV29 dc29 pm29 cd29 ct29 oc30 kV30 dc30 pm30 cd30 ct30 oc31 kV31 dc31 pm31 cd31 ct31 oc32 kV32 dc32 pm32 cd32 ct32 oc33 kV33 dc33 pm33 cd33 ct33 oc34 kV34 dc34 pm34 cd34 ct34 oc35 kV35 dc35 pm35 cd35 ct35 oc36 kV36 dc36 pm36 cd36 ct36 oc37 kV37 dc37 pm37 cd37 ct37 oc38 kV38 dc38 pm38 cd38 ct38 oc39 kV39 dc39 pm39 cd39 ct39 oc40 kV40 dc40 pm40 cd40 ct40:Value}
  (a1:U0u K mainGlobals "is_whole"=some (some (.ref f1))) (l1:K.lookup f1=some ⟨oc1,od1,.func (U04 "is_whole" "is_whole" (Bx Kq) (Br Kq) (Aj Kq) .none kV1 dc1 pm1 an1 cd1 ct1),sl1⟩) (c1:U01 K cd1 "is_whole"=true) (k1:U0z K (.ref f1)=true)
  (a2:U0u K mainGlobals "are_ways"=some (some (.ref f2))) (l2:K.lookup f2=some ⟨oc2,od2,.func (U04 "are_ways" "are_ways" (Bx Ku) (Br Ku) (Aj Ku) .none kV2 dc2 pm2 an2 cd2 ct2),sl2⟩) (c2:U01 K cd2 "are_ways"=true) (k2:U0z K (.ref f2)=true)
  (a3:U0u K mainGlobals "is_stretch"=some (some (.ref f3))) (l3:K.lookup f3=some ⟨oc3,od3,.func (U04 "is_stretch" "is_stretch" (Bx Jc) (Br Jc) (Aj Jc) .none kV3 dc3 pm3 an3 cd3 ct3),sl3⟩) (c3:U01 K cd3 "is_stretch"=true) (k3:U0z K (.ref f3)=true)
  (a4:U0u K mainGlobals "is_box"=some (some (.ref f4))) (l4:K.lookup f4=some ⟨oc4,od4,.func (U04 "is_box" "is_box" (Bx M7) (Br M7) (Aj M7) .none kV4 dc4 pm4 an4 cd4 ct4),sl4⟩) (c4:U01 K cd4 "is_box"=true) (k4:U0z K (.ref f4)=true)
  (a5:U0u K mainGlobals "is_heap"=some (some (.ref f5))) (l5:K.lookup f5=some ⟨oc5,od5,.func (U04 "is_heap" "is_heap" (Bx KZ) (Br KZ) (Aj KZ) .none kV5 dc5 pm5 an5 cd5 ct5),sl5⟩) (c5:U01 K cd5 "is_heap"=true) (k5:U0z K (.ref f5)=true)
  (a6:U0u K mainGlobals "need_heap"=some (some (.ref f6))) (l6:K.lookup f6=some ⟨oc6,od6,.func (U04 "need_heap" "need_heap" (Bx K1) (Br K1) (Aj K1) .none kV6 dc6 pm6 an6 cd6 ct6),sl6⟩) (c6:U01 K cd6 "need_heap"=true) (k6:U0z K (.ref f6)=true)
  (a7:U0u K mainGlobals "need_ways"=some (some (.ref f7))) (l7:K.lookup f7=some ⟨oc7,od7,.func (U04 "need_ways" "need_ways" (Bx Jz) (Br Jz) (Aj Jz) .none kV7 dc7 pm7 an7 cd7 ct7),sl7⟩) (c7:U01 K cd7 "need_ways"=true) (k7:U0z K (.ref f7)=true)
  (a8:U0u K mainGlobals "box_size"=some (some (.ref f8))) (l8:K.lookup f8=some ⟨oc8,od8,.func (U04 "box_size" "box_size" (Bx Ks) (Br Ks) (Aj Ks) .none kV8 dc8 pm8 an8 cd8 ct8),sl8⟩) (c8:U01 K cd8 "box_size"=true) (k8:U0z K (.ref f8)=true)
  (a9:U0u K mainGlobals "ends_along"=some (some (.ref f9))) (l9:K.lookup f9=some ⟨oc9,od9,.func (U04 "ends_along" "ends_along" (Bx Hg) (Br Hg) (Aj Hg) .none kV9 dc9 pm9 an9 cd9 ct9),sl9⟩) (c9:U01 K cd9 "ends_along"=true) (k9:U0z K (.ref f9)=true)
  (a10:U0u K mainGlobals "steps_along"=some (some (.ref f10))) (l10:K.lookup f10=some ⟨oc10,od10,.func (U04 "steps_along" "steps_along" (Bx Iv) (Br Iv) (Aj Iv) .none kV10 dc10 pm10 an10 cd10 ct10),sl10⟩) (c10:U01 K cd10 "steps_along"=true) (k10:U0z K (.ref f10)=true)
  (a11:U0u K mainGlobals "cells_from"=some (some (.ref f11))) (l11:K.lookup f11=some ⟨oc11,od11,.func (U04 "cells_from" "cells_from" (Bx Hh) (Br Hh) (Aj Hh) .none kV11 dc11 pm11 an11 cd11 ct11),sl11⟩) (c11:U01 K cd11 "cells_from"=true) (k11:U0z K (.ref f11)=true)
  (a12:U0u K mainGlobals "cells_of"=some (some (.ref f12))) (l12:K.lookup f12=some ⟨oc12,od12,.func (U04 "cells_of" "cells_of" (Bx Kr) (Br Kr) (Aj Kr) .none kV12 dc12 pm12 an12 cd12 ct12),sl12⟩) (c12:U01 K cd12 "cells_of"=true) (k12:U0z K (.ref f12)=true)
  (a13:U0u K mainGlobals "sizes_by_times"=some (some (.ref f13))) (l13:K.lookup f13=some ⟨oc13,od13,.func (U04 "sizes_by_times" "sizes_by_times" (Bx G6) (Br G6) (Aj G6) .none kV13 dc13 pm13 an13 cd13 ct13),sl13⟩) (c13:U01 K cd13 "sizes_by_times"=true) (k13:U0z K (.ref f13)=true)
  (a14:U0u K mainGlobals "joined"=some (some (.ref f14))) (l14:K.lookup f14=some ⟨oc14,od14,.func (U04 "joined" "joined" (Bx Nk) (Br Nk) (Aj Nk) .none kV14 dc14 pm14 an14 cd14 ct14),sl14⟩) (c14:U01 K cd14 "joined"=true) (k14:U0z K (.ref f14)=true)
  (a15:U0u K mainGlobals "pieces_held"=some (some (.ref f15))) (l15:K.lookup f15=some ⟨oc15,od15,.func (U04 "pieces_held" "pieces_held" (Bx Hs) (Br Hs) (Aj Hs) .none kV15 dc15 pm15 an15 cd15 ct15),sl15⟩) (c15:U01 K cd15 "pieces_held"=true) (k15:U0z K (.ref f15)=true)
  (a16:U0u K mainGlobals "pieces_of"=some (some (.ref f16))) (l16:K.lookup f16=some ⟨oc16,od16,.func (U04 "pieces_of" "pieces_of" (Bx Jy) (Br Jy) (Aj Jy) .none kV16 dc16 pm16 an16 cd16 ct16),sl16⟩) (c16:U01 K cd16 "pieces_of"=true) (k16:U0z K (.ref f16)=true)
  (a17:U0u K mainGlobals "covered_length"=some (some (.ref f17))) (l17:K.lookup f17=some ⟨oc17,od17,.func (U04 "covered_length" "covered_length" (Bx G8) (Br G8) (Aj G8) .none kV17 dc17 pm17 an17 cd17 ct17),sl17⟩) (c17:U01 K cd17 "covered_length"=true) (k17:U0z K (.ref f17)=true)
  (a18:U0u K mainGlobals "need_way"=some (some (.ref f18))) (l18:K.lookup f18=some ⟨oc18,od18,.func (U04 "need_way" "need_way" (Bx Km) (Br Km) (Aj Km) .none kV18 dc18 pm18 an18 cd18 ct18),sl18⟩) (c18:U01 K cd18 "need_way"=true) (k18:U0z K (.ref f18)=true)
  (a19:U0u K mainGlobals "cut_boxes"=some (some (.ref f19))) (l19:K.lookup f19=some ⟨oc19,od19,.func (U04 "cut_boxes" "cut_boxes" (Bx IV) (Br IV) (Aj IV) .none kV19 dc19 pm19 an19 cd19 ct19),sl19⟩) (c19:U01 K cd19 "cut_boxes"=true) (k19:U0z K (.ref f19)=true)
  (a20:U0u K mainGlobals "cut_at"=some (some (.ref f20))) (l20:K.lookup f20=some ⟨oc20,od20,.func (U04 "cut_at" "cut_at" (Bx Nm) (Br Nm) (Aj Nm) .none kV20 dc20 pm20 an20 cd20 ct20),sl20⟩) (c20:U01 K cd20 "cut_at"=true) (k20:U0z K (.ref f20)=true)
  (a21:U0u K mainGlobals "joined_alike"=some (some (.ref f21))) (l21:K.lookup f21=some ⟨oc21,od21,.func (U04 "joined_alike" "joined_alike" (Bx Ih) (Br Ih) (Aj Ih) .none kV21 dc21 pm21 an21 cd21 ct21),sl21⟩) (c21:U01 K cd21 "joined_alike"=true) (k21:U0z K (.ref f21)=true)
  (a22:U0u K mainGlobals "lengths_across"=some (some (.ref f22))) (l22:K.lookup f22=some ⟨oc22,od22,.func (U04 "lengths_across" "lengths_across" (Bx Gx) (Br Gx) (Aj Gx) .none kV22 dc22 pm22 an22 cd22 ct22),sl22⟩) (c22:U01 K cd22 "lengths_across"=true) (k22:U0z K (.ref f22)=true)
  (a23:U0u K mainGlobals "covered_area"=some (some (.ref f23))) (l23:K.lookup f23=some ⟨oc23,od23,.func (U04 "covered_area" "covered_area" (Bx Gw) (Br Gw) (Aj Gw) .none kV23 dc23 pm23 an23 cd23 ct23),sl23⟩) (c23:U01 K cd23 "covered_area"=true) (k23:U0z K (.ref f23)=true)
  (a24:U0u K mainGlobals "areas_often"=some (some (.ref f24))) (l24:K.lookup f24=some ⟨oc24,od24,.func (U04 "areas_often" "areas_often" (Bx Iw) (Br Iw) (Aj Iw) .none kV24 dc24 pm24 an24 cd24 ct24),sl24⟩) (c24:U01 K cd24 "areas_often"=true) (k24:U0z K (.ref f24)=true)
  (a25:U0u K mainGlobals "_law_mixed"=some (some (.ref f25))) (l25:K.lookup f25=some ⟨oc25,od25,.func (U04 "_law_mixed" "_law_mixed" (Bx K4) (Br K4) (Aj K4) .none kV25 dc25 pm25 an25 cd25 ct25),sl25⟩) (c25:U01 K cd25 "_law_mixed"=true) (k25:U0z K (.ref f25)=true)
  (a26:U0u K mainGlobals "_law_pot"=some (some (.ref f26))) (l26:K.lookup f26=some ⟨oc26,od26,.func (U04 "_law_pot" "_law_pot" (Bx MK) (Br MK) (Aj MK) .none kV26 dc26 pm26 an26 cd26 ct26),sl26⟩) (c26:U01 K cd26 "_law_pot"=true) (k26:U0z K (.ref f26)=true)
  (a27:U0u K mainGlobals "_law_take"=some (some (.ref f27))) (l27:K.lookup f27=some ⟨oc27,od27,.func (U04 "_law_take" "_law_take" (Bx Ko) (Br Ko) (Aj Ko) .none kV27 dc27 pm27 an27 cd27 ct27),sl27⟩) (c27:U01 K cd27 "_law_take"=true) (k27:U0z K (.ref f27)=true)
  (a28:U0u K mainGlobals "_law_mixed_up"=some (some (.ref f28))) (l28:K.lookup f28=some ⟨oc28,od28,.func (U04 "_law_mixed_up" "_law_mixed_up" (Bx Gv) (Br Gv) (Aj Gv) .none kV28 dc28 pm28 an28 cd28 ct28),sl28⟩) (c28:U01 K cd28 "_law_mixed_up"=true) (k28:U0z K (.ref f28)=true)
  (a29:U0u K mainGlobals "_law_unlike"=some (some (.ref f29))) (l29:K.lookup f29=some ⟨oc29,od29,.func (U04 "_law_unlike" "_law_unlike" (Bx Hf) (Br Hf) (Aj Hf) .none kV29 dc29 pm29 an29 cd29 ct29),sl29⟩) (c29:U01 K cd29 "_law_unlike"=true) (k29:U0z K (.ref f29)=true)
  (a30:U0u K mainGlobals "_law_small"=some (some (.ref f30))) (l30:K.lookup f30=some ⟨oc30,od30,.func (U04 "_law_small" "_law_small" (Bx JD) (Br JD) (Aj JD) .none kV30 dc30 pm30 an30 cd30 ct30),sl30⟩) (c30:U01 K cd30 "_law_small"=true) (k30:U0z K (.ref f30)=true)
  (a31:U0u K mainGlobals "_law_marks"=some (some (.ref f31))) (l31:K.lookup f31=some ⟨oc31,od31,.func (U04 "_law_marks" "_law_marks" (Bx K5) (Br K5) (Aj K5) .none kV31 dc31 pm31 an31 cd31 ct31),sl31⟩) (c31:U01 K cd31 "_law_marks"=true) (k31:U0z K (.ref f31)=true)
  (a32:U0u K mainGlobals "_law_heap"=some (some (.ref f32))) (l32:K.lookup f32=some ⟨oc32,od32,.func (U04 "_law_heap" "_law_heap" (Bx J4) (Br J4) (Aj J4) .none kV32 dc32 pm32 an32 cd32 ct32),sl32⟩) (c32:U01 K cd32 "_law_heap"=true) (k32:U0z K (.ref f32)=true)
  (a33:U0u K mainGlobals "_law_own"=some (some (.ref f33))) (l33:K.lookup f33=some ⟨oc33,od33,.func (U04 "_law_own" "_law_own" (Bx MN) (Br MN) (Aj MN) .none kV33 dc33 pm33 an33 cd33 ct33),sl33⟩) (c33:U01 K cd33 "_law_own"=true) (k33:U0z K (.ref f33)=true)
  (a34:U0u K mainGlobals "_law_places"=some (some (.ref f34))) (l34:K.lookup f34=some ⟨oc34,od34,.func (U04 "_law_places" "_law_places" (Bx Io) (Br Io) (Aj Io) .none kV34 dc34 pm34 an34 cd34 ct34),sl34⟩) (c34:U01 K cd34 "_law_places"=true) (k34:U0z K (.ref f34)=true)
  (a35:U0u K mainGlobals "_law_held"=some (some (.ref f35))) (l35:K.lookup f35=some ⟨oc35,od35,.func (U04 "_law_held" "_law_held" (Bx Jl) (Br Jl) (Aj Jl) .none kV35 dc35 pm35 an35 cd35 ct35),sl35⟩) (c35:U01 K cd35 "_law_held"=true) (k35:U0z K (.ref f35)=true)
  (a36:U0u K mainGlobals "_law_size"=some (some (.ref f36))) (l36:K.lookup f36=some ⟨oc36,od36,.func (U04 "_law_size" "_law_size" (Bx Kp) (Br Kp) (Aj Kp) .none kV36 dc36 pm36 an36 cd36 ct36),sl36⟩) (c36:U01 K cd36 "_law_size"=true) (k36:U0z K (.ref f36)=true)
  (a37:U0u K mainGlobals "_law_often"=some (some (.ref f37))) (l37:K.lookup f37=some ⟨oc37,od37,.func (U04 "_law_often" "_law_often" (Bx K3) (Br K3) (Aj K3) .none kV37 dc37 pm37 an37 cd37 ct37),sl37⟩) (c37:U01 K cd37 "_law_often"=true) (k37:U0z K (.ref f37)=true)
  (a38:U0u K mainGlobals "_law_is_whole"=some (some (.ref f38))) (l38:K.lookup f38=some ⟨oc38,od38,.func (U04 "_law_is_whole" "_law_is_whole" (Bx Ig) (Br Ig) (Aj Ig) .none kV38 dc38 pm38 an38 cd38 ct38),sl38⟩) (c38:U01 K cd38 "_law_is_whole"=true) (k38:U0z K (.ref f38)=true)
  (a39:U0u K mainGlobals "_law_are_wholes"=some (some (.ref f39))) (l39:K.lookup f39=some ⟨oc39,od39,.func (U04 "_law_are_wholes" "_law_are_wholes" (Bx G7) (Br G7) (Aj G7) .none kV39 dc39 pm39 an39 cd39 ct39),sl39⟩) (c39:U01 K cd39 "_law_are_wholes"=true) (k39:U0z K (.ref f39)=true)
  (a40:U0u K mainGlobals "law"=some (some (.ref f40))) (l40:K.lookup f40=some ⟨oc40,od40,.func (U04 "law" "law" (Bx Ow) (Br Ow) (Aj Ow) .none kV40 dc40 pm40 an40 cd40 ct40),sl40⟩) (c40:U01 K cd40 "law"=true) (k40:U0z K (.ref f40)=true)
  (z1:U0u K mainGlobals "len"=some none)
  (z2:U0u K mainGlobals "isinstance"=some none)
  (z3:U0u K mainGlobals "all"=some none)
  (z4:U0u K mainGlobals "sorted"=some none)
  (z5:U0u K mainGlobals "min"=some none)
  (z6:U0u K mainGlobals "max"=some none)
  (z7:U0u K mainGlobals "abs"=some none)
  (z8:U0u K mainGlobals "repr"=some none)
  (z9:U0u K mainGlobals "set"=some none)
  (z10:U0u K mainGlobals "list"=some none)
  (z11:U0u K mainGlobals "tuple"=some none)
  (z12:U0u K mainGlobals "range"=some none)
  (z13:U0u K mainGlobals "int"=some none)
  (z14:U0u K mainGlobals "bool"=some none)
  (z15:U0u K mainGlobals "str"=some none)
  (zBz:U0u K mainGlobals "zip"=some none)
  (zBe:U0u K mainGlobals "enumerate"=some none)
  (zBs:U0u K mainGlobals "sum"=some none)
  {ep:Nat} {h1 h2 h3:Int} {t1 t2 t3 u1 u2 u3:Tok} (aM:U0u K mainGlobals "MOST_BOXES"=some (some (.ref dM))) (hM:(dM==sysModules)=false)
  (lM:K.lookup dM=some { cls:=.type "dict",data:=.dict #[⟨h1,.int 1 t1,.int 20 u1⟩,⟨h2,.int 2 t2,.int 10 u2⟩,⟨h3,.int 3 t3,.int 6 u3⟩] ep }) (e1:h1=hashInt 1) (e2:h2=hashInt 2) (e3:h3=hashInt 3)
  : ∃fd:FuncData,(∀(s:Shared)(v:Value),BindsTo s fd ⟨[v],[]⟩ [("script",v)])/\∀base:Heap,K.In base->base.Ns mainGlobals mg->DG l.prog w K mg base CX0 13 fa fd ["script"] (Wc K):=by
 have e:=hfa.symm.trans (U02 X G a40)
 cases e
 have F1:=Cu (st:=Kq) l1 c1 k1
 have b1:=F1.binds (ps:=["thing"]) fun _ _ _ _ _ _ us hl=>by obtain⟨_,rfl⟩:=KD hl;rfl
 have F2:=Cu (st:=Ku) l2 c2 k2
 have b2:=F2.binds (ps:=["thing"]) fun _ _ _ _ _ _ us hl=>by obtain⟨_,rfl⟩:=KD hl;rfl
 have F3:=Cu (st:=Jc) l3 c3 k3
 have b3:=F3.binds (ps:=["thing"]) fun _ _ _ _ _ _ us hl=>by obtain⟨_,rfl⟩:=KD hl;rfl
 have F4:=Cu (st:=M7) l4 c4 k4
 have b4:=F4.binds (ps:=["ways","thing"]) fun _ _ _ _ _ _ us hl=>by obtain⟨_,_,rfl⟩:=Lx hl;rfl
 have F5:=Cu (st:=KZ) l5 c5 k5
 have b5:=F5.binds (ps:=["thing"]) fun _ _ _ _ _ _ us hl=>by obtain⟨_,rfl⟩:=KD hl;rfl
 have F6:=Cu (st:=K1) l6 c6 k6
 have b6:=F6.binds (ps:=["heap"]) fun _ _ _ _ _ _ us hl=>by obtain⟨_,rfl⟩:=KD hl;rfl
 have F7:=Cu (st:=Jz) l7 c7 k7
 have b7:=F7.binds (ps:=["heap","ways"]) fun _ _ _ _ _ _ us hl=>by obtain⟨_,_,rfl⟩:=Lx hl;rfl
 have F8:=Cu (st:=Ks) l8 c8 k8
 have b8:=F8.binds (ps:=["box"]) fun _ _ _ _ _ _ us hl=>by obtain⟨_,rfl⟩:=KD hl;rfl
 have F9:=Cu (st:=Hg) l9 c9 k9
 have b9:=F9.binds (ps:=["boxes","way"]) fun _ _ _ _ _ _ us hl=>by obtain⟨_,_,rfl⟩:=Lx hl;rfl
 have F10:=Cu (st:=Iv) l10 c10 k10
 have b10:=F10.binds (ps:=["boxes","way"]) fun _ _ _ _ _ _ us hl=>by obtain⟨_,_,rfl⟩:=Lx hl;rfl
 have F11:=Cu (st:=Hh) l11 c11 k11
 have b11:=F11.binds (ps:=["boxes","numbers","way","ways"]) fun _ _ _ _ _ _ us hl=>by obtain⟨_,_,_,_,rfl⟩:=wY hl;rfl
 have F12:=Cu (st:=Kr) l12 c12 k12
 have b12:=F12.binds (ps:=["heap"]) fun _ _ _ _ _ _ us hl=>by obtain⟨_,rfl⟩:=KD hl;rfl
 have F13:=Cu (st:=G6) l13 c13 k13
 have b13:=F13.binds (ps:=["cells"]) fun _ _ _ _ _ _ us hl=>by obtain⟨_,rfl⟩:=KD hl;rfl
 have F14:=Cu (st:=Nk) l14 c14 k14
 have b14:=F14.binds (ps:=["stretches"]) fun _ _ _ _ _ _ us hl=>by obtain⟨_,rfl⟩:=KD hl;rfl
 have F15:=Cu (st:=Hs) l15 c15 k15
 have b15:=F15.binds (ps:=["heap","least"]) fun _ _ _ _ _ _ us hl=>by obtain⟨_,_,rfl⟩:=Lx hl;rfl
 have F16:=Cu (st:=Jy) l16 c16 k16
 have b16:=F16.binds (ps:=["heap"]) fun _ _ _ _ _ _ us hl=>by obtain⟨_,rfl⟩:=KD hl;rfl
 have F17:=Cu (st:=G8) l17 c17 k17
 have b17:=F17.binds (ps:=["heap"]) fun _ _ _ _ _ _ us hl=>by obtain⟨_,rfl⟩:=KD hl;rfl
 have F18:=Cu (st:=Km) l18 c18 k18
 have b18:=F18.binds (ps:=["heap","way"]) fun _ _ _ _ _ _ us hl=>by obtain⟨_,_,rfl⟩:=Lx hl;rfl
 have F19:=Cu (st:=IV) l19 c19 k19
 have b19:=F19.binds (ps:=["boxes","way","number"]) fun _ _ _ _ _ _ us hl=>by obtain⟨_,_,_,rfl⟩:=Zc hl;rfl
 have F20:=Cu (st:=Nm) l20 c20 k20
 have b20:=F20.binds (ps:=["heap","way","number"]) fun _ _ _ _ _ _ us hl=>by obtain⟨_,_,_,rfl⟩:=Zc hl;rfl
 have F21:=Cu (st:=Ih) l21 c21 k21
 have b21:=F21.binds (ps:=["steps"]) fun _ _ _ _ _ _ us hl=>by obtain⟨_,rfl⟩:=KD hl;rfl
 have F22:=Cu (st:=Gx) l22 c22 k22
 have b22:=F22.binds (ps:=["heap","way"]) fun _ _ _ _ _ _ us hl=>by obtain⟨_,_,rfl⟩:=Lx hl;rfl
 have F23:=Cu (st:=Gw) l23 c23 k23
 have b23:=F23.binds (ps:=["heap"]) fun _ _ _ _ _ _ us hl=>by obtain⟨_,rfl⟩:=KD hl;rfl
 have F24:=Cu (st:=Iw) l24 c24 k24
 have b24:=F24.binds (ps:=["heap"]) fun _ _ _ _ _ _ us hl=>by obtain⟨_,rfl⟩:=KD hl;rfl
 have F25:=Cu (st:=K4) l25 c25 k25
 have b25:=F25.binds (ps:=["cell","k"]) fun _ _ _ _ _ _ us hl=>by obtain⟨_,_,rfl⟩:=Lx hl;rfl
 have F26:=Cu (st:=MK) l26 c26 k26
 have b26:=F26.binds (ps:=["cell"]) fun _ _ _ _ _ _ us hl=>by obtain⟨_,rfl⟩:=KD hl;rfl
 have F27:=Cu (st:=Ko) l27 c27 k27
 have b27:=F27.binds (ps:=["pot","many"]) fun _ _ _ _ _ _ us hl=>by obtain⟨_,_,rfl⟩:=Lx hl;rfl
 have F28:=Cu (st:=Gv) l28 c28 k28
 have b28:=F28.binds (ps:=["pot","things"]) fun _ _ _ _ _ _ us hl=>by obtain⟨_,_,rfl⟩:=Lx hl;rfl
 have F29:=Cu (st:=Hf) l29 c29 k29
 have b29:=F29.binds (ps:=["pot","ways","count"]) fun _ _ _ _ _ _ us hl=>by obtain⟨_,_,_,rfl⟩:=Zc hl;rfl
 have F30:=Cu (st:=JD) l30 c30 k30
 have b30:=F30.binds (ps:=["pot","ways","most","many"]) fun _ _ _ _ _ _ us hl=>by obtain⟨_,_,_,_,rfl⟩:=wY hl;rfl
 have F31:=Cu (st:=K5) l31 c31 k31
 have b31:=F31.binds (ps:=["pot","many"]) fun _ _ _ _ _ _ us hl=>by obtain⟨_,_,rfl⟩:=Lx hl;rfl
 have F32:=Cu (st:=J4) l32 c32 k32
 have b32:=F32.binds (ps:=["pot","ways","most"]) fun _ _ _ _ _ _ us hl=>by obtain⟨_,_,_,rfl⟩:=Zc hl;rfl
 have F33:=Cu (st:=MN) l33 c33 k33
 have b33:=F33.binds (ps:=["heap"]) fun _ _ _ _ _ _ us hl=>by obtain⟨_,rfl⟩:=KD hl;rfl
 have F34:=Cu (st:=Io) l34 c34 k34
 have b34:=F34.binds (ps:=["marks"]) fun _ _ _ _ _ _ us hl=>by obtain⟨_,rfl⟩:=KD hl;rfl
 have F35:=Cu (st:=Jl) l35 c35 k35
 have b35:=F35.binds (ps:=["small","spot"]) fun _ _ _ _ _ _ us hl=>by obtain⟨_,_,rfl⟩:=Lx hl;rfl
 have F36:=Cu (st:=Kp) l36 c36 k36
 have b36:=F36.binds (ps:=["marks","spot"]) fun _ _ _ _ _ _ us hl=>by obtain⟨_,_,rfl⟩:=Lx hl;rfl
 have F37:=Cu (st:=K3) l37 c37 k37
 have b37:=F37.binds (ps:=["small","marks","ways"]) fun _ _ _ _ _ _ us hl=>by obtain⟨_,_,_,rfl⟩:=Zc hl;rfl
 have F38:=Cu (st:=Ig) l38 c38 k38
 have b38:=F38.binds (ps:=["found","due"]) fun _ _ _ _ _ _ us hl=>by obtain⟨_,_,rfl⟩:=Lx hl;rfl
 have F39:=Cu (st:=G7) l39 c39 k39
 have b39:=F39.binds (ps:=["found","due"]) fun _ _ _ _ _ _ us hl=>by obtain⟨_,_,rfl⟩:=Lx hl;rfl
 have F40:=Cu (st:=Ow) l40 c40 k40
 have mM:=U02 X G aM
 have B:Blt mg:=fun x hx=>by
  simp only[WK,U00,U1l,or_false] at hx
  rcases hx with rfl|rfl|rfl|rfl|rfl|rfl|rfl|rfl|rfl|rfl|rfl|rfl|rfl|rfl|rfl
  .exact U1t X G z1
  .exact U1t X G z2
  .exact U1t X G z3
  .exact U1t X G z4
  .exact U1t X G z5
  .exact U1t X G z6
  .exact U1t X G z7
  .exact U1t X G z8
  .exact U1t X G z9
  .exact U1t X G z10
  .exact U1t X G z11
  .exact U1t X G z12
  .exact U1t X G z13
  .exact U1t X G z14
  .exact U1t X G z15
 have Bz:mg "zip"=none:=U1t X G zBz
 have Be:mg "enumerate"=none:=U1t X G zBe
 have Bs:mg "sum"=none:=U1t X G zBs
 refine⟨U04 "law" "law" (Bx Ow) (Br Ow) (Aj Ow) .none kV40 dc40 pm40 an40 cd40 ct40,fun s v=>.of_eq rfl,fun base _ _=>?_⟩
 have C_is_whole:Bu l.prog w K mg base "is_whole" 1 DY:=⟨⟨["thing"],⟨_,_,dz F1 B,b1,k1,U02 X G a1⟩,fun ds r h=>Ci h⟩⟩
 have C_are_ways:Bu l.prog w K mg base "are_ways" 2 Fy:=⟨⟨["thing"],⟨_,_,eG F2 B mM (wZ hM lM e1 e2 e3 (by decide)) C_is_whole,b2,k2,U02 X G a2⟩,fun ds r h=>Ci h⟩⟩
 have C_is_stretch:Bu l.prog w K mg base "is_stretch" 2 Ib:=⟨⟨["thing"],⟨_,_,ZC F3 B C_is_whole,b3,k3,U02 X G a3⟩,fun ds r h=>Ci h⟩⟩
 have C_is_box:Bu l.prog w K mg base "is_box" 3 Kl:=⟨⟨["ways","thing"],⟨_,_,mH F4 B C_are_ways C_is_stretch,b4,k4,U02 X G a4⟩,fun ds r h=>Ci h⟩⟩
 have C_is_heap:Bu l.prog w K mg base "is_heap" 4 Jw:=⟨⟨["thing"],⟨_,_,jD F5 B mM (wZ hM lM e1 e2 e3 (by decide)) C_are_ways C_is_box,b5,k5,U02 X G a5⟩,fun ds r h=>Ci h⟩⟩
 have C_need_heap:Bu l.prog w K mg base "need_heap" 5 Fe:=⟨⟨["heap"],⟨_,_,cW F6 B C_is_heap,b6,k6,U02 X G a6⟩,fun ds r h=>Ci h⟩⟩
 have C_need_ways:Bu l.prog w K mg base "need_ways" 6 Ey:=⟨⟨["heap","ways"],⟨_,_,cV F7 B C_need_heap,b7,k7,U02 X G a7⟩,fun ds r h=>Ci h⟩⟩
 have C_box_size:Bu l.prog w K mg base "box_size" 1 Im:=⟨⟨["box"],⟨_,_,eF F8 B,b8,k8,U02 X G a8⟩,fun ds r h=>Ci h⟩⟩
 have C_ends_along:Bu l.prog w K mg base "ends_along" 1 Ie:=⟨⟨["boxes","way"],⟨_,_,ZD F9 B,b9,k9,U02 X G a9⟩,fun ds r h=>Ci h⟩⟩
 have C_steps_along:Bu l.prog w K mg base "steps_along" 2 Dc:=⟨⟨["boxes","way"],⟨_,_,Y8 F10 B Bz C_ends_along,b10,k10,U02 X G a10⟩,fun ds r h=>Ci h⟩⟩
 have C_cells_from0:Bu l.prog w K mg base "cells_from" 2 (Cm 0):=⟨⟨["boxes","numbers","way","ways"],⟨_,_,vh (f:=f11) rfl,b11,k11,U02 X G a11⟩,fun ds r h=>by cases h⟩⟩
 have C_cells_from1:Bu l.prog w K mg base "cells_from" 3 (Cm 1):=⟨⟨["boxes","numbers","way","ways"],⟨_,_,Lj F11 B C_steps_along (by decide) C_cells_from0,b11,k11,U02 X G a11⟩,fun ds r h=>Ci h⟩⟩
 have C_cells_from2:Bu l.prog w K mg base "cells_from" 4 (Cm 2):=⟨⟨["boxes","numbers","way","ways"],⟨_,_,Lj F11 B C_steps_along (by decide) C_cells_from1,b11,k11,U02 X G a11⟩,fun ds r h=>Ci h⟩⟩
 have C_cells_from3:Bu l.prog w K mg base "cells_from" 5 (Cm 3):=⟨⟨["boxes","numbers","way","ways"],⟨_,_,Lj F11 B C_steps_along (by decide) C_cells_from2,b11,k11,U02 X G a11⟩,fun ds r h=>Ci h⟩⟩
 have C_cells_from4:Bu l.prog w K mg base "cells_from" 6 (Cm 4):=⟨⟨["boxes","numbers","way","ways"],⟨_,_,Lj F11 B C_steps_along (by decide) C_cells_from3,b11,k11,U02 X G a11⟩,fun ds r h=>Ci h⟩⟩
 have C_cells_from:=C_cells_from4
 have C_cells_of:Bu l.prog w K mg base "cells_of" 7 Ew:=⟨⟨["heap"],⟨_,_,eE F12 B C_cells_from,b12,k12,U02 X G a12⟩,fun ds r h=>Ci h⟩⟩
 have C_sizes_by_times:Bu l.prog w K mg base "sizes_by_times" 2 Fd:=⟨⟨["cells"],⟨_,_,VF F13 B C_box_size,b13,k13,U02 X G a13⟩,fun ds r h=>Ci h⟩⟩
 have C_joined:Bu l.prog w K mg base "joined" 1 Kh:=⟨⟨["stretches"],⟨_,_,mG F14 B,b14,k14,U02 X G a14⟩,fun ds r h=>Ci h⟩⟩
 have C_pieces_held:Bu l.prog w K mg base "pieces_held" 8 Gi:=⟨⟨["heap","least"],⟨_,_,Y9 F15 B C_joined C_cells_of,b15,k15,U02 X G a15⟩,fun ds r h=>Ci h⟩⟩
 have C_pieces_of:Bu l.prog w K mg base "pieces_of" 9 Gm:=⟨⟨["heap"],⟨_,_,cU F16 B C_need_ways C_pieces_held,b16,k16,U02 X G a16⟩,fun ds r h=>Ci h⟩⟩
 have C_covered_length:Bu l.prog w K mg base "covered_length" 10 Eo:=⟨⟨["heap"],⟨_,_,VJ F17 B Bs C_pieces_of,b17,k17,U02 X G a17⟩,fun ds r h=>Ci h⟩⟩
 have C_need_way:Bu l.prog w K mg base "need_way" 2 Fx:=⟨⟨["heap","way"],⟨_,_,dZ F18 B C_is_whole,b18,k18,U02 X G a18⟩,fun ds r h=>Ci h⟩⟩
 have C_cut_boxes:Bu l.prog w K mg base "cut_boxes" 1 Hq:=⟨⟨["boxes","way","number"],⟨_,_,cj F19 B,b19,k19,U02 X G a19⟩,fun ds r h=>Ci h⟩⟩
 have C_cut_at:Bu l.prog w K mg base "cut_at" 6 Hz:=⟨⟨["heap","way","number"],⟨_,_,mJ F20 B C_need_heap C_need_way C_is_whole C_cut_boxes,b20,k20,U02 X G a20⟩,fun ds r h=>Ci h⟩⟩
 have C_joined_alike:Bu l.prog w K mg base "joined_alike" 1 G5:=⟨⟨["steps"],⟨_,_,Xk F21 B,b21,k21,U02 X G a21⟩,fun ds r h=>Ci h⟩⟩
 have C_lengths_across:Bu l.prog w K mg base "lengths_across" 11 Em:=⟨⟨["heap","way"],⟨_,_,VG F22 B C_need_ways C_need_way C_steps_along C_covered_length C_cut_at C_joined_alike,b22,k22,U02 X G a22⟩,fun ds r h=>Ci h⟩⟩
 have C_covered_area:Bu l.prog w K mg base "covered_area" 12 Dn:=⟨⟨["heap"],⟨_,_,Xl F23 B Bs C_lengths_across,b23,k23,U02 X G a23⟩,fun ds r h=>Ci h⟩⟩
 have C_areas_often:Bu l.prog w K mg base "areas_often" 8 FT:=⟨⟨["heap"],⟨_,_,YB F24 B C_need_ways C_sizes_by_times C_cells_of,b24,k24,U02 X G a24⟩,fun ds r h=>Ci h⟩⟩
 have C_law_mixed:Bu l.prog w K mg base "_law_mixed" 1 Ir:=⟨⟨["cell","k"],⟨_,_,cZ F25 B,b25,k25,U02 X G a25⟩,fun ds r h=>Ci h⟩⟩
 have C_law_pot:Bu l.prog w K mg base "_law_pot" 1 JB:=⟨⟨["cell"],⟨_,_,jB F26 B,b26,k26,U02 X G a26⟩,fun ds r h=>Ci h⟩⟩
 have C_law_take:KJ l.prog w K mg base "_law_take" 2 Ao:=⟨⟨["pot","many"],⟨_,_,dg F27 B C_law_mixed,b27,k27,U02 X G a27⟩,fun ns ds r h=>Pg h⟩⟩
 have C_law_mixed_up:KJ l.prog w K mg base "_law_mixed_up" 3 G4:=⟨⟨["pot","things"],⟨_,_,Xi F28 B C_law_take,b28,k28,U02 X G a28⟩,fun ns ds r h=>Pg h⟩⟩
 have C_law_unlike:KJ l.prog w K mg base "_law_unlike" 4 Gu:=⟨⟨["pot","ways","count"],⟨_,_,Z8 F29 B Bz C_law_mixed_up,b29,k29,U02 X G a29⟩,fun ns ds r h=>Pg h⟩⟩
 have C_law_small:KJ l.prog w K mg base "_law_small" 5 Hl:=⟨⟨["pot","ways","most","many"],⟨_,_,cX F30 B C_law_take C_law_unlike,b30,k30,U02 X G a30⟩,fun ns ds r h=>Pg h⟩⟩
 have C_law_marks:KJ l.prog w K mg base "_law_marks" 3 Ho:=⟨⟨["pot","many"],⟨_,_,cg F31 B C_law_take,b31,k31,U02 X G a31⟩,fun ns ds r h=>Pg h⟩⟩
 have C_law_heap:KJ l.prog w K mg base "_law_heap" 6 Gg:=⟨⟨["pot","ways","most"],⟨_,_,dw F32 B Bz C_law_take C_law_small C_law_marks,b32,k32,U02 X G a32⟩,fun ns ds r h=>Pg h⟩⟩
 have C_law_own:Bu l.prog w K mg base "_law_own" 1 IK:=⟨⟨["heap"],⟨_,_,jC F33 B,b33,k33,U02 X G a33⟩,fun ds r h=>Ci h⟩⟩
 have C_law_places:Bu l.prog w K mg base "_law_places" 1 GK:=⟨⟨["marks"],⟨_,_,Z9 F34 B,b34,k34,U02 X G a34⟩,fun ds r h=>Ci h⟩⟩
 have C_law_held:Bu l.prog w K mg base "_law_held" 1 HY:=⟨⟨["small","spot"],⟨_,_,dj F35 B Bz Be,b35,k35,U02 X G a35⟩,fun ds r h=>Ci h⟩⟩
 have C_law_size:Bu l.prog w K mg base "_law_size" 1 Il:=⟨⟨["marks","spot"],⟨_,_,dh F36 B Bz,b36,k36,U02 X G a36⟩,fun ds r h=>Ci h⟩⟩
 have C_law_often:Bu l.prog w K mg base "_law_often" 2 G3:=⟨⟨["small","marks","ways"],⟨_,_,cY F37 B C_law_places C_law_held C_law_size,b37,k37,U02 X G a37⟩,fun ds r h=>Ci h⟩⟩
 have C_law_is_whole:Bu l.prog w K mg base "_law_is_whole" 1 Fb:=⟨⟨["found","due"],⟨_,_,Xj F38 B,b38,k38,U02 X G a38⟩,fun ds r h=>Ci h⟩⟩
 have C_law_are_wholes:Bu l.prog w K mg base "_law_are_wholes" 1 En:=⟨⟨["found","due"],⟨_,_,VH F39 B,b39,k39,U02 X G a39⟩,fun ds r h=>Ci h⟩⟩
 exact(zG F40 B Bs C_law_pot C_law_heap C_law_often C_law_own C_areas_often C_law_are_wholes C_law_is_whole C_covered_area).imp (zO qX)
theorem walk{l:U6r}{q:Program}{loose:List Str}{XP:(Str->Option Value)->Heap->Prop}{YP:World->Heap->Prop}{d:DefRec}{K:Params->U0b}(hn:l.most=some 63)(hdf:d.params.defaults=[])
  (hY:∀(w:World)(h:Heap),YP w h->(K w.params).In h)
  (F:∀(w:World)(mg:Str->Option Value)(fa:Addr)(h:Heap),(K w.params).In h->h.Ns mainGlobals mg->mg d.name=some (.ref fa) ->
   ∃fd:FuncData,(∀(s:Shared)(u:Value),BindsTo s fd ⟨[u],[]⟩ [("script",u)])/\∀base:Heap,(K w.params).In base->base.Ns mainGlobals mg->DG l.prog w (K w.params) mg base CX0 13 fa fd ["script"] (Wc (K w.params))) :
  U72 q loose XP YP l.row.toRowW d [] (fun f vs=>U7y f vs) :=
 L2.oK (n:=63) (k:=13) (x:="script") (CX:=CX0) (sp:=Wc) hn (by decide) hdf ⟨rfl,by decide,by decide,rfl⟩ hY F (fun _ _ a ns hl hO hS=>⟨a,ns,rfl,hO,hl,hS,fun _=>rfl⟩) fun _ _ _ _ z=>z
end W13
open PySem PySem.W PyProof.Rows
set_option maxRecDepth 100000 in
set_option maxHeartbeats 0 in
theorem PySem.Challenge.cw_boxcover_k13_areas_told_holds : PySem.Challenge.rw_boxcover_k13_areas_told.Holds := by
 w_on;o_law;k_head;(case hw=>w_witness2)
 k_fill
 refine W13.walk (l := PySem.Challenge.rw_boxcover_k13_areas_told) rfl rfl (fun w h Y => PySem.W.kIn_of Y) ?F
 case F =>
  intro w mg fa h KX G hmg
  refine' W13.tops KX G hmg ?a1 ?l1 ?c1 ?k1 ?a2 ?l2 ?c2 ?k2 ?a3 ?l3 ?c3 ?k3 ?a4 ?l4 ?c4 ?k4 ?a5 ?l5 ?c5 ?k5 ?a6 ?l6 ?c6 ?k6 ?a7 ?l7 ?c7 ?k7 ?a8 ?l8 ?c8 ?k8 ?a9 ?l9 ?c9 ?k9 ?a10 ?l10 ?c10 ?k10 ?a11 ?l11 ?c11 ?k11 ?a12 ?l12 ?c12 ?k12 ?a13 ?l13 ?c13 ?k13 ?a14 ?l14 ?c14 ?k14 ?a15 ?l15 ?c15 ?k15 ?a16 ?l16 ?c16 ?k16 ?a17 ?l17 ?c17 ?k17 ?a18 ?l18 ?c18 ?k18 ?a19 ?l19 ?c19 ?k19 ?a20 ?l20 ?c20 ?k20 ?a21 ?l21 ?c21 ?k21 ?a22 ?l22 ?c22 ?k22 ?a23 ?l23 ?c23 ?k23 ?a24 ?l24 ?c24 ?k24 ?a25 ?l25 ?c25 ?k25 ?a26 ?l26 ?c26 ?k26 ?a27 ?l27 ?c27 ?k27 ?a28 ?l28 ?c28 ?k28 ?a29 ?l29 ?c29 ?k29 ?a30 ?l30 ?c30 ?k30 ?a31 ?l31 ?c31 ?k31 ?a32 ?l32 ?c32 ?k32 ?a33 ?l33 ?c33 ?k33 ?a34 ?l34 ?c34 ?k34 ?a35 ?l35 ?c35 ?k35 ?a36 ?l36 ?c36 ?k36 ?a37 ?l37 ?c37 ?k37 ?a38 ?l38 ?c38 ?k38 ?a39 ?l39 ?c39 ?k39 ?a40 ?l40 ?c40 ?k40 ?z1 ?z2 ?z3 ?z4 ?z5 ?z6 ?z7 ?z8 ?z9 ?z10 ?z11 ?z12 ?z13 ?z14 ?z15 ?zBz ?zBe ?zBs ?aM ?hM ?lM ?e1 ?e2 ?e3
  (case a1=>k_is);(case l1=>k_is);(case c1=>k_is);(case k1=>k_is)
  (case a2=>k_is);(case l2=>k_is);(case c2=>k_is);(case k2=>k_is)
  (case a3=>k_is);(case l3=>k_is);(case c3=>k_is);(case k3=>k_is)
  (case a4=>k_is);(case l4=>k_is);(case c4=>k_is);(case k4=>k_is)
  (case a5=>k_is);(case l5=>k_is);(case c5=>k_is);(case k5=>k_is)
  (case a6=>k_is);(case l6=>k_is);(case c6=>k_is);(case k6=>k_is)
  (case a7=>k_is);(case l7=>k_is);(case c7=>k_is);(case k7=>k_is)
  (case a8=>k_is);(case l8=>k_is);(case c8=>k_is);(case k8=>k_is)
  (case a9=>k_is);(case l9=>k_is);(case c9=>k_is);(case k9=>k_is)
  (case a10=>k_is);(case l10=>k_is);(case c10=>k_is);(case k10=>k_is)
  (case a11=>k_is);(case l11=>k_is);(case c11=>k_is);(case k11=>k_is)
  (case a12=>k_is);(case l12=>k_is);(case c12=>k_is);(case k12=>k_is)
  (case a13=>k_is);(case l13=>k_is);(case c13=>k_is);(case k13=>k_is)
  (case a14=>k_is);(case l14=>k_is);(case c14=>k_is);(case k14=>k_is)
  (case a15=>k_is);(case l15=>k_is);(case c15=>k_is);(case k15=>k_is)
  (case a16=>k_is);(case l16=>k_is);(case c16=>k_is);(case k16=>k_is)
  (case a17=>k_is);(case l17=>k_is);(case c17=>k_is);(case k17=>k_is)
  (case a18=>k_is);(case l18=>k_is);(case c18=>k_is);(case k18=>k_is)
  (case a19=>k_is);(case l19=>k_is);(case c19=>k_is);(case k19=>k_is)
  (case a20=>k_is);(case l20=>k_is);(case c20=>k_is);(case k20=>k_is)
  (case a21=>k_is);(case l21=>k_is);(case c21=>k_is);(case k21=>k_is)
  (case a22=>k_is);(case l22=>k_is);(case c22=>k_is);(case k22=>k_is)
  (case a23=>k_is);(case l23=>k_is);(case c23=>k_is);(case k23=>k_is)
  (case a24=>k_is);(case l24=>k_is);(case c24=>k_is);(case k24=>k_is)
  (case a25=>k_is);(case l25=>k_is);(case c25=>k_is);(case k25=>k_is)
  (case a26=>k_is);(case l26=>k_is);(case c26=>k_is);(case k26=>k_is)
  (case a27=>k_is);(case l27=>k_is);(case c27=>k_is);(case k27=>k_is)
  (case a28=>k_is);(case l28=>k_is);(case c28=>k_is);(case k28=>k_is)
  (case a29=>k_is);(case l29=>k_is);(case c29=>k_is);(case k29=>k_is)
  (case a30=>k_is);(case l30=>k_is);(case c30=>k_is);(case k30=>k_is)
  (case a31=>k_is);(case l31=>k_is);(case c31=>k_is);(case k31=>k_is)
  (case a32=>k_is);(case l32=>k_is);(case c32=>k_is);(case k32=>k_is)
  (case a33=>k_is);(case l33=>k_is);(case c33=>k_is);(case k33=>k_is)
  (case a34=>k_is);(case l34=>k_is);(case c34=>k_is);(case k34=>k_is)
  (case a35=>k_is);(case l35=>k_is);(case c35=>k_is);(case k35=>k_is)
  (case a36=>k_is);(case l36=>k_is);(case c36=>k_is);(case k36=>k_is)
  (case a37=>k_is);(case l37=>k_is);(case c37=>k_is);(case k37=>k_is)
  (case a38=>k_is);(case l38=>k_is);(case c38=>k_is);(case k38=>k_is)
  (case a39=>k_is);(case l39=>k_is);(case c39=>k_is);(case k39=>k_is)
  (case a40=>k_is);(case l40=>k_is);(case c40=>k_is);(case k40=>k_is)
  (case z1=>k_is);(case z2=>k_is);(case z3=>k_is);(case z4=>k_is);(case z5=>k_is);(case z6=>k_is);(case z7=>k_is);(case z8=>k_is);(case z9=>k_is);(case z10=>k_is);(case z11=>k_is);(case z12=>k_is);(case z13=>k_is);(case z14=>k_is);(case z15=>k_is)
  (case zBz=>k_is)
  (case zBe=>k_is)
  (case zBs=>k_is)
  (case aM=>k_is);(case lM=>k_is)
  (case hM=>rfl);(case e1=>rfl);(case e2=>rfl);(case e3=>rfl)
end
