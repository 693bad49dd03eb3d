import PyProof.Rows.All
import Wide.All
import OpenK.AllK
import Wide.FinOn
import Lean
import PyProof.EqAt
import PyProof.EqKinds
import PyProof.TupleCall
import PyProof.SetKind
import PyProof.SetNew
import PyProof.SetRoads
import PyProof.Walks
import PyProof.Rows.SetListFold
import PyProof.Seq
import PyProof.Rows.SortShell
import PyProof.TupleIter
import PyProof.CollectWalk
import PyProof.ReprRoads
import PyProof.EqLayable
import PyProof.ReprLen
import PyProof.WalkInts
import PyProof.SeqI3
import PyProof.ListMulRoad
import PyProof.ZipIter
import PyProof.EnumFor
import PyProof.EnumMake
import PyProof.Draws
import PyProof.Rows.ZipGen
import PyProof.LayNew
import PyProof.WalksMore
import PyProof.IsiTupleAll
import PyProof.Rows.Range3
import PyProof.Rows.SumAny
import PyProof.Rows.CallKwBuiltin
import PyProof.MinMaxWalk
import KE.KSortTup
import PySem.Challenge.RW_boxcover_k38_partings_told
open PySem renaming wpAny_bind → U0, wpAny_pure → U0c, wpAny_call_entry → U1w, wpAny_holding → U1z, wpAny_field → U10, wpAny_newObj_type → U15, wpAny_seqItems → U2j, mem_of_lookup → U2o, wpAny_setField → U2w, wpAny_truthy_bool → U22, wpAny_setField_rec → U3d, wpAny_attempt → U3t, wpAny_setState_of → U3u, wpAny_askSetting → U34, wpAny_Call_Name_kw → U4d, wpAny_updateSeq → U4g, wpAny_pyIter_list → U4o, wpAny_mono → U4t, wpAny_rule → U4v, wpAny_isInstance → U4w, wpAny_passesOwn → U43, wpAny_typeOf → U49, wpAny_pyIter_tuple → U5b, wpAny_onRaise → U5r, wpAny_updateSeq_pair → U51, wpAny_setEntries_of → U54, wpAny_pyIter_slot → U6h, wpAny_execs_nil → U6p, wpAny_specialOf → U6r, wpAny_ite_false → U6s, wpAny_letGo → U6v, wpAny_newTuple → U60, call → U62
open PySem.W renaming Frag → U0a, mg_of → U0u, nsIn → U0v, keepIn → U01, codeIn → U07, fnOf → U1b, mg_none_of → U1i, kia_one → U2r, kitOne → U20, findIn → U5c, cellsFrom_some → U5l, OpenLaw → U5x, methodObj → U6d, instObj → U6o, lookIn → U6x, WalkO → U63
open PySem.Heap renaming get?_push_of_some → U0b, lt_size → U0k, get?_push_size → U0p, SameBut → U0z, get?_update_other → U1a, size_push → U1y, get?_update_self → U11, ExtBut → U4y, IsTuple → U5a
open Option renaming bind_some → U0d, map_bind → U0e, some → U1c, map_eq_some_iff → U26, map → U3i, toList_some → U4i, isSome_iff_exists → U46
open List renaming map_map → U0f, length_map → U0g, getElem?_eq_some_iff → U0h, length_cons → U0i, size_toArray → U0j, replicate_succ → U0l, length_append → U0o, mem_cons_of_mem → U0r, replicate → U0s, mem_cons → U0t, getElem?_eq_getElem → U0y, map_cons → U00, getElem?_map → U03, mem_cons_self → U04, mem_of_getElem? → U06, mem_singleton → U08, getElem?_append_left → U09, mem_append_right → U1g, mem_append → U1k, map_nil → U1p, lookup_cons → U1q, length_nil → U1r, getElem?_append_right → U1t, length_replicate → U1u, not_mem_nil → U1x, range → U12, nil_append → U13, all_eq_true → U14, getD_eq_getElem?_getD → U18, mem_map → U2b, length_take → U2c, replicate_zero → U2f, pairwise_cons → U2k, Nodup → U2l, getElem?_set_self → U2m, cons_append → U2n, map_append → U2s, getElem?_set_ne → U2u, append_nil → U2y, drop_eq_getElem_cons → U2z, length_singleton → U3c, flatten_cons → U3j, mergeSort_perm → U3l, mem_range → U3m, length_set → U3p, mem_iff_getElem? → U3q, forIn_cons → U3r, mem_append_left → U3v, pairwise_append → U3y, take_length → U37, getElem?_replicate → U38, length_eq_zero_iff → U39, all_cons → U4a, mem_filter → U4b, foldl_cons → U4e, Perm → U4f, lookup_append → U4h, length → U4j, length_range → U4p, getElem?_toArray → U4r, filterMap_cons → U4z, length_pos_iff → U40, flatMap_append → U42, nodup_cons → U44, zip_cons_cons → U47, forIn_nil → U5d, take_succ → U5f, pairwise_mergeSort → U5h, append_assoc → U5i, pairwise_lt_range → U5n, take_of_length_le → U5o, length_drop → U5s, getElem_mem → U5t, getElem?_eq_none → U5u, set_append_right → U5v, foldl → U5w, all_map → U53, Pairwise → U6a, foldl_append → U6g, pairwise_map → U6i, isEmpty_nil → U6l, zipIdx_cons → U6m, of_mem_zip → U6q, length_zip → U6t, lookup → U6u, drop_zero → U6z, map_take → U64, map_drop → U65, cons → U69, range' → U7
open Nat renaming le_refl → U0m, lt_of_lt_of_le → U0n, ne_of_lt → U0q, le_trans → U02, le_add_right → U1f, ne_of_gt → U1o, le_of_lt → U19, lt_succ_of_lt → U2a, lt_trans → U2v, lt_irrefl → U28, reduceAdd → U3, reduceSub → U3a, zero_le → U3e, le_succ → U4k, lt_succ_self → U4u, lt_of_le_of_lt → U5, not_lt_zero → U5y, add_lt_add_left → U55, mul_comm → U6k, le_of_eq → U66
open Option.some renaming inj → U0w
open Bool renaming and_eq_true → U0x, false_ne_true → U05, false_eq_true → U1s, eq_iff_iff → U4c, false_xor → U5e, not_true → U5p, false_and → U6w
open PySem.Builtin.SmallTypes renaming nextOf → U1d, ownedTupleIsFree → U1n
open PySem.Obj renaming mapSeq → U1e, mapFields → U3k
open PySem.SetTable renaming below → U1h, grown → U30, probe → U58
open Ne renaming symm → U1j
open Array renaming length_toList → U1l, getElem?_eq_getElem → U1v, getElem?_toList → U2q, getD_eq_getD_getElem? → U2t
open PySem.Heap.SameBut renaming update → U1m
open PySem.NameKind renaming free → U16, cell → U29
open PySem.Value renaming ref → U17, none → U2e, type → U2p, bool → U27, int → U3n
open PySem.SeqAt renaming shaped → U2d, EqAt → U61
open PySem.F renaming slot_zip_next → U2g, plainAttrs_list → U2i, slot_tuple_iterator_next → U3b, slot_list_append → U3f, type_list_append → U3g, plain_extend_loop → U3z, called_set → U35, args_zip_next_1 → U4, slot_tuple_mul → U4l, entry_zip_next → U4m, args_tuple_add_2 → U48, entry_tuple_add → U5g, slot_tuple_add → U5m
open PyProof.Rows renaming slot_tuple_getitem → U2h, callWith_type1 → U23, IntTab → U41
open Int renaming toNat_natCast → U2x, le_of_lt → U67
open PySem.Around renaming under_plainId → U21
open PySem.Builtin.List renaming listExtendWith → U24, listTooLong → U33, listSameRef → U36, listLengthHint → U4s
open PySem.Str renaming ofString → U25
open PySem.PassesOwn renaming never → U3h
open PySem.Manifest renaming ParamKind → U3o, Receiver → U5j
open PySem.Manifest.ParamKind renaming posOnly → U3s
open False renaming elim → U3w
open PySem.Builtin.Slice renaming slicePlaces → U3x, sliceAdjust → U45
open PySem.PyData renaming canLay0 → U31, eqv → U4x, canLayAll0 → U5k, depthAll → U50, depth → U52, eqvAll → U6c
open PySem.Builtin.Tuple renaming tupleExact → U32
open PySem.SetTable.below renaming go → U4n
open Function renaming comp_def → U4q
open PySem.Shared renaming TypeIs → U5q, heap → U6
open ForInStep renaming yield → U5z
open Sum renaming inl → U56, inr → U57
open List.Perm renaming refl → U59, cons → U6y
open List.cons renaming inj → U6b
open List.Pairwise renaming nil → U6e
open PySem.SetTable.probe renaming go → U6f
open True renaming intro → U6j
open Or renaming inr → U6n, inl → U68
noncomputable section
set_option Elab.async false
set_option maxRecDepth 10000
set_option linter.all false
set_option maxHeartbeats 4000000
namespace PySem.W.Fast
def tw2907008926288134390:=0
def tw18231315542431923204:=0
def tw10394639245703125453:=0
def tw14555028203802343643:=0
def tw14463074379177579983:=0
def tw4522214926197041458:=0
def tw5651258962198778723:=0
def tw10673793788430600069:=0
def tw11476275043587689367:=0
def tw8596776445297566871:=0
def tw12073488896920429293:=0
def tw8488771191238154167:=0
def tw6078894280675884991:=0
def tw17323946111464967038:=0
def tw1676309911002345777:=0
def tw6184934906520791695:=0
def tw5039398192278654968:=0
def tw15328839221415767046:=0
def tw16927885559337604370:=0
def tw8261632011513366699:=0
def tw6777917615262048141:=0
def tw14339577736923783781:=0
def tw3132477826452995975:=0
def tw10525902529575506704:=0
def tw5635596940634185681:=0
def tw3564105498473211378:=0
def tw2968525087272237093:=0
def tw11673887046126742104:=0
def tw2126383435886704247:=0
def tw11075353769058960898:=0
def tw13544484647428303421:=0
def tw776611542035313606:=0
def tw9603802867865424149:=0
def tw10835410936471348605:=0
def tw6737696020139481332:=0
def tw13932174050480706869:=0
def tw1057278475970986865:=0
def tw7439130737112320875:=0
def tw8293864737888934141:=0
def tw2900196237715933479:=0
def tw4481436445416674360:=0
def tw12731648576633758099:=0
def tw5749959134851192471:=0
def tw6115258637174691792:=0
def tw14256089579559010145:=0
def tw5690692486041822674:=0
def tw18413138965086254978:=0
def tw1459989358017559762:=0
def tw11097512489271643033:=0
def tw5726887885387379791:=0
def tw14957883799678482274:=0
def tw12930660316738083480:=0
def tw1055158196669608747:=0
def tw8546096783364628610:=0
def tw14016585576061948077:=0
def tw8694132521056252449:=0
def tw4162677239123079694:=0
def tw1840615150173901453:=0
def tw8312076315346962307:=0
def tw8958267255521318586:=0
def tw16184657112392451491:=0
def tw2486783745359547682:=0
def tw1300180019927258560:=0
def tw8947045422618725054:=0
def tw5741707406899735549:=0
def tw10433286899273502695:=0
def tw1458710264274993467:=0
def tw2241710331666639693:=0
def tw9461793551853711593:=0
def tw1119015647665716331:=0
def tw11027241586881354551:=0
def tw5205311205191861009:=0
def tw17445082303719631939:=0
def tw655593775524557509:=0
def tw15858106555152394057:=0
def tw6427142403251737528:=0
def tw12534167057933922470:=0
def tw2182501116323029480:=0
def tw1668937901776806534:=0
def tw16496957360202547692:=0
def tw16416614618851732711:=0
def tw12133443566336482490:=0
def tw2803736420692962846:=0
def tw13303370153266247128:=0
def tw12629011715131348187:=0
def tw7578463698920848838:=0
def tw7522672156005953331:=0
def tw6201437027675265625:=0
def tw7919792738500090996:=0
def tw2732033944000419604:=0
def tw4051278347587758264:=0
def tw16339315806812434385:=0
def tw15587390745174705563:=0
def tw8025144546709475188:=0
def tw15392380768889025965:=0
def tw12345961964758703266:=0
def tw17127760751204442259:=0
def tw239128609784573906:=0
def tw14804980506646687462:=0
def tw13716891850693122441:=0
def tw10460631438389986697:=0
def tw3132719821925093913:=0
def tw10003029766322924088:=0
def tw10423166411993752218:=0
def tw543235248255140414:=0
def tw5147505950620461738:=0
def tw765388892668879354:=0
def tw309647814929098579:=0
def tw1706555637147855204:=0
def tw1254984165709875894:=0
end PySem.W.Fast
section
set_option maxRecDepth 100000
namespace L2
open PySem PySem.Spec PyProof.Rows
abbrev Key:=Sum Int Str
def gJ:Key->Value->Bool
 |.inl k,v=>Value.isInt k v
 |.inr x,v=>Value.isStrOf x v
def tV(w:World):Key->Int
 |.inl k=>hashInt k
 |.inr x=>hashStr w x
theorem G5:∀{k:Key} {v:Value},gJ k v=true->(∃i t,k=U56 i/\v=U3n i t)∨(∃x t,k=U57 x/\v=Value.str x t)
 |.inl i,v,h=>by
  obtain⟨t,e⟩:=Value.isInt_shape (k:=i) (v:=v) h
  exact .inl ⟨i,t,rfl,e⟩
 |.inr x,v,h=>by
  obtain⟨t,e⟩:=Value.isStrOf_shape (x:=x) (v:=v) h
  exact .inr ⟨x,t,rfl,e⟩
theorem oU(a b:Int):decide ((U56 a:Key)=U56 b)=(a==b):=by
 by_cases e:a=b
 .subst e;simp
 .have h:¬(U56 a:Key)=U56 b:=fun q=>e (U56.inj q)
  rw[decide_eq_false h]
  exact(beq_eq_false_iff_ne.mpr e).symm
theorem oN(a b:Str):decide ((U57 a:Key)=U57 b)=decide (a=b):=by
 by_cases e:a=b
 .subst e;simp
 .have h:¬(U57 a:Key)=U57 b:=fun q=>e (U57.inj q)
  rw[decide_eq_false h,decide_eq_false e]
theorem oR(a:Int)(b:Str):decide ((U56 a:Key)=U57 b)=false:=decide_eq_false (fun q=>nomatch q)
theorem oO(a:Str)(b:Int):decide ((U57 a:Key)=U56 b)=false:=decide_eq_false (fun q=>nomatch q)
def Td(prog:Program)(w:World):PySem.KeyKind prog w Key where
 is:=gJ
 hash:=tV w
 inj:=fun v a b ha hb=>by
  rcases G5 ha with ⟨i,t,rfl,rfl⟩|⟨x,t,rfl,rfl⟩
  .rcases G5 hb with ⟨j,u,rfl,e⟩|⟨y,u,rfl,e⟩
   .injection e with e1 _;rw[e1]
   .exact nomatch e
  .rcases G5 hb with ⟨j,u,rfl,e⟩|⟨y,u,rfl,e⟩
   .exact nomatch e
   .injection e with e1 _;rw[e1]
 byValue:=fun k v h=>by
  rcases G5 h with ⟨i,t,rfl,rfl⟩|⟨x,t,rfl,rfl⟩<;>rfl
 pyHash:=fun hv h=>by
  rcases G5 hv with ⟨i,t,rfl,rfl⟩|⟨x,t,rfl,rfl⟩
  .exact wpAny_pyHash_int h
  .exact wpAny_pyHash_str h
 eqBool:=fun hu hv h=>by
  rcases G5 hu with ⟨i,t,rfl,rfl⟩|⟨x,t,rfl,rfl⟩
  .rcases G5 hv with ⟨j,u,rfl,rfl⟩|⟨y,u,rfl,rfl⟩
   .rw[oU] at h;exact wpAny_eqBool_int h
   .rw[oR] at h;exact U61.int_str i t y u _ _ _ _ h
  .rcases G5 hv with ⟨j,u,rfl,rfl⟩|⟨y,u,rfl,rfl⟩
   .rw[oO] at h;exact U61.str_int x t j u _ _ _ _ h
   .rw[oN] at h;exact wpAny_eqBool_str h
 «strs»:=fun k x t v h=>by
  rcases G5 h with ⟨i,u,rfl,e⟩|⟨y,u,rfl,e⟩
  .exact nomatch e
  .injection e with e1 _
   subst e1
   cases v<;>rfl
end L2
namespace L2
open PySem PySem.Spec PyProof.Rows
inductive V where
 |non|bl (b:Bool)|int (i:Int)|str (x:Str)|byt (b:Array UInt8)|flt (b:UInt64)|ref (a:Addr)|ty (n:String)
 deriving DecidableEq
def RelV:V->Value->Prop
 |.non,u=>u=U2e
 |.bl b,u=>u=U27 b
 |.int i,u=>∃t,u=U3n i t
 |.str x,u=>∃t,u=Value.str x t
 |.byt b,u=>∃t,u=Value.bytes b t
 |.flt b,u=>∃t,u=Value.float b t
 |.ref a,u=>u=U17 a
 |.ty n,u=>u=U2p n
abbrev Vals:List V->List Value->Prop:=Paired RelV
theorem Vals.length{xs:List V}{us:List Value}(r:Vals xs us):xs.length=us.length:=Paired.length r
theorem Vals.get:∀{xs:List V} {us:List Value} {i:Nat} {x:V},Vals xs us->xs[i]?=some x->∃u,us[i]?=some u/\RelV x u
 |_,_,_,_,.nil,e=>by simp at e
 |_,_,0,_,.cons r _,e=>by simp at e;subst e;exact⟨_,rfl,r⟩
 |_,_,i+1,x,.cons _ t,e=>by
  obtain⟨u,h1,h2⟩:=Vals.get (i:=i) (x:=x) t (by simpa using e)
  exact⟨u,by simpa using h1,h2⟩
theorem Vals.set{x:V}{u:Value}(r:RelV x u):∀{xs:List V} {us:List Value} (i:Nat),Vals xs us->Vals (xs.set i x) (us.set i u)
 |_,_,_,.nil=>.nil
 |_,_,0,.cons _ t=>.cons r t
 |_,_,i+1,.cons q t=>.cons q (Vals.set r i t)
theorem Vals.append:∀{xs ys:List V} {us ws:List Value},Vals xs us->Vals ys ws->Vals (xs++ys) (us++ws)
 |_,_,_,_,.nil,s=>s
 |_,_,_,_,.cons r t,s=>.cons r (Vals.append t s)
theorem Vals.take:∀{xs:List V} {us:List Value} (n:Nat),Vals xs us->Vals (xs.take n) (us.take n)
 |_,_,0,_=>.nil
 |_,_,_+1,.nil=>.nil
 |_,_,n+1,.cons r t=>.cons r (Vals.take n t)
theorem Vals.drop:∀{xs:List V} {us:List Value} (n:Nat),Vals xs us->Vals (xs.drop n) (us.drop n)
 |_,_,0,r=>r
 |_,_,_+1,.nil=>.nil
 |_,_,n+1,.cons _ t=>Vals.drop n t
def bT:Option V->Option Value->Prop
 |some v,some u=>RelV v u
 |none,none=>True
 |_,_=>False
def KV{κ:Type}:List (κ×V)->List (κ×Value)->Prop:=Paired fun(p:κ×V) (q:κ×Value)=>p.1=q.1/\RelV p.2 q.2
def kV:Key->V
 |.inl i=>.int i
 |.inr x=>.str x
inductive HO where
  /-- a list -/
 |lst (xs:List V)
  /-- a tuple (never changes) -/
 |tup (xs:List V)
  /-- a dict whose keys are ints and texts; one whose keys are tuples of ints and texts (the empty one is both) -/
 |dK (kvs:List (Key×V))|dT (kvs:List (List Key×V))
  /-- a set of ints: its members, its size -/
 |set (S:Int->Bool) (n:Nat)
  /-- an instance of the class at C, its dict at dx, its attributes -/
 |ins (C dx:Addr) (fs:List (Str×V))
  /-- the dict of the instance at x -/
 |own (x:Addr)
  /-- the dict of an exception -/
 |xd (fs:List (Str×V))
  /-- a bound method, f of x -/
 |met (f x:Addr)
  /-- a range object lo, lo + 1, .. below hi -/
 |rng (lo hi:Int)
  /-- a thing that is known to the object (the script; a dict while a loop walks it): read, never written while it is so -/
 |frz (o:Obj) (u:HO)
  /-- a code object's table -/
 |tbl (ps:Array Value)
  /-- any other thing, by what is true of its one object (a def of one's own: SetO a S n := HO.ext fun h => ..) -/
 |ext (φ:Heap->Prop)
abbrev Hp:=Addr->Option HO
def upd(H:Hp)(a:Addr)(o:HO):Hp:=fun b=>if b=a then some o else H b
theorem CZ{H:Hp}{a:Addr}{o:HO}:upd H a o a=some o:=by unfold upd;rw[if_pos rfl]
theorem Bj{H:Hp}{a b:Addr}{o:HO}(h:b≠a):upd H a o b=H b:=by unfold upd;rw[if_neg h]
theorem Dv{H:Hp}{a b:Addr}{o:HO}(h:H a=some o)(h':H b=none):a≠b:=by
 intro e;subst e;rw[h] at h';cases h'
section
variable(P:Program)(w:World)
def Eh(H:Hp)(h:Heap)(a:Addr):HO->Prop
 |.lst xs=>xs.length<=sizeLine/\∃(its:List Value)(n:Nat),Vals xs its/\h.get? a=some { cls:=.type "list",data:=.seq its.toArray n }
 |.tup xs=>xs.length<=sizeLine/\∃its:List Value,Vals xs its/\IsTup h a its.toArray
 |.dK kvs=>kvs.length<=sizeLine/\(a==sysModules)=false/\∃vs,KV kvs vs/\h.DictOf (Td P w) a vs
 |.dT kvs=>kvs.length<=sizeLine/\(a==sysModules)=false/\∃xs:List (List Key×Addr×Value),
   Paired (fun(p:List Key×V) (q:List Key×Addr×Value)=>p.1=q.1/\H q.2.1=some (.tup (p.1.map kV))/\RelV p.2 q.2.2) kvs xs /\
   ∃o es ep,h.get? a=some o/\o.ExactDict/\o.data=.dict es ep/\es.toList=xs.map (entryOfKey (tupleKind (Td P w)))/\(xs.map (·.1)).Nodup
 |.set S n=>h.SetOf (intKind P w) a S n
 |.ins C dx fs=>H dx=some (.own a)/\fs.length<=1000/\dx≠a/\h.get? a=some (U6o C dx) /\
   ∃mA,h.Ns1 dx mA/\(∀f,bT (fs.lookup f) (mA f))/\PySem.Within mA (fs.map (·.1))
 |.own _=>∃o,h.get? a=some o
 |.xd fs=>∃mA,h.Ns1 a mA/\∀f,bT (fs.lookup f) (mA f)
 |.rng lo hi=>∃t u v,h.get? a=some { cls:=.type "range",data:=.fields #[.int lo t,.int hi u,.int 1 v] }
 |.frz o u=>h.get? a=some o/\Eh H h a u
 |.tbl ps=>h.get? a=some { cls:=.none,data:=.fields ps }
 |.met f x=>h.get? a=some (U6d (.ref f) (.ref x))
 |.ext φ=>φ h/\(∃o,h.get? a=some o)/\∀h1 h2:Heap,φ h1->(∀o,h1.get? a=some o->h2.get? a=some o)->φ h2
def HOk(H:Hp)(h:Heap):Prop:=∀a o,H a=some o->Eh P w H h a o
end
section
variable{P:Program}{w:World}{H H':Hp}{h h':Heap}{a:Addr}{o:HO}
theorem Eh.lt(x:Eh P w H h a o):a<h.objs.size:=by
 cases o with
 |lst xs=>obtain⟨_,_,_,_,e⟩:=x;exact U0k e
 |tup xs=>obtain⟨_,_,_,p⟩:=x;exact p.lt
 |dK kvs=>obtain⟨_,_,_,_,o,_,_,e,_⟩:=x;exact U0k e
 |dT kvs=>obtain⟨_,_,_,_,o,_,_,e,_⟩:=x;exact U0k e
 |set S n=>obtain⟨o,_,_,_,e,_⟩:=x;exact U0k e
 |ins C dx fs=>obtain⟨_,_,_,e,_⟩:=x;exact U0k e
 |own y=>obtain⟨_,e⟩:=x;exact U0k e
 |xd fs=>obtain⟨_,⟨_,_,_,e,_⟩,_⟩:=x;exact U0k e
 |rng lo hi=>obtain⟨_,_,_,e⟩:=x;exact U0k e
 |frz ob u=>obtain⟨e,_⟩:=x;exact U0k e
 |tbl ps=>exact U0k (show h.get? a=some _ from x)
 |met f y=>exact U0k (show h.get? a=some _ from x)
 |ext φ=>obtain⟨_,⟨_,e⟩,_⟩:=x;exact U0k e
theorem Paired.m9{α β:Type}{F G:α->β->Prop}:∀{l₁:List α} {l₂:List β},Paired F l₁ l₂->(∀a b,F a b->G a b)->Paired G l₁ l₂
 |_,_,.nil,_=>.nil
 |_,_,.cons r t,f=>.cons (f _ _ r) (Paired.m9 t f)
theorem Eh.stay(x:Eh P w H h a o)(k:∀b u,(b=a∨H b=some (.own a))->h.get? b=some u->h'.get? b=some u)
  (ho:∀b,H b=some (.own a)->H' b=some (.own a)) (ht:∀b xs,H b=some (.tup xs)->H' b=some (.tup xs)):Eh P w H' h' a o:=by
 induction o with
 |lst xs=>obtain⟨z,its,n,r,e⟩:=x;exact⟨z,its,n,r,k _ _ (.inl rfl) e⟩
 |tup xs=>obtain⟨z,its,r,ob,e,c⟩:=x;exact⟨z,its,r,ob,k _ _ (.inl rfl) e,c⟩
 |dK kvs=>obtain⟨z,y,vs,r,ob,es,ep,e,c⟩:=x;exact⟨z,y,vs,r,ob,es,ep,k _ _ (.inl rfl) e,c⟩
 |dT kvs =>
  obtain⟨z,y,xs,r,ob,es,ep,e,c⟩:=x
  exact⟨z,y,xs,Paired.m9 r fun p q z=>⟨z.1,ht _ _ z.2.1,z.2.2⟩,ob,es,ep,k _ _ (.inl rfl) e,c⟩
 |set S n=>obtain⟨ob,es,ep,t,e,c⟩:=x;exact⟨ob,es,ep,t,k _ _ (.inl rfl) e,c⟩
 |ins C dx fs =>
  obtain⟨d,z,ne,e,mA,⟨od,es,ep,e2,c⟩,r⟩:=x
  exact⟨ho _ d,z,ne,k _ _ (.inl rfl) e,mA,⟨od,es,ep,k _ _ (.inr d) e2,c⟩,r⟩
 |own y=>obtain⟨ob,e⟩:=x;exact⟨ob,k _ _ (.inl rfl) e⟩
 |xd fs=>obtain⟨mA,⟨od,es,ep,e,c⟩,r⟩:=x;exact⟨mA,⟨od,es,ep,k _ _ (.inl rfl) e,c⟩,r⟩
 |rng lo hi=>obtain⟨t,u,v,e⟩:=x;exact⟨t,u,v,k _ _ (.inl rfl) e⟩
 |frz ob u ih=>obtain⟨e,q⟩:=x;exact⟨k _ _ (.inl rfl) e,ih q⟩
 |tbl ps =>
  have e:h.get? a=some { cls:=.none,data:=.fields ps }:=x
  show h'.get? a=some { cls:=.none,data:=.fields ps }
  exact k a _ (.inl rfl) e
 |met f y =>
  have e:h.get? a=some (U6d (.ref f) (.ref y)):=x
  show h'.get? a=some (U6d (.ref f) (.ref y))
  exact k a _ (.inl rfl) e
 |ext φ=>obtain⟨p,⟨o,e⟩,st⟩:=x;exact⟨st _ _ p fun o q=>k _ _ (.inl rfl) q,⟨o,k _ _ (.inl rfl) e⟩,st⟩
theorem HOk.lt(x:HOk P w H h)(e:H a=some o):a<h.objs.size:=(x a o e).lt
theorem HOk.fresh(x:HOk P w H h)(e:h.objs.size<=a):H a=none:=by
 cases q:H a with
 |none=>rfl
 |some u=>exact absurd (U0n (x.lt q) e) (U28 _)
theorem HOk.kept(x:HOk P w H h)(k:∀b u,h.get? b=some u->h'.get? b=some u):HOk P w H h':=fun a o e =>
 (x a o e).stay (fun b u _ q=>k b u q) (fun _ q=>q) fun _ _ q=>q
theorem HOk.laid(x:HOk P w H h)(k:∀b u,h.get? b=some u->h'.get? b=some u)(hp:h.objs.size<=a)(new:Eh P w (upd H a o) h' a o):HOk P w (upd H a o) h':=fun b u e=>by
 have hn:=x.fresh hp
 by_cases hb:b=a
 .subst hb;rw[CZ] at e;cases e;exact new
 .rw[Bj hb] at e
  exact(x b u e).stay (fun c v _ q=>k c v q) (fun c q=>by rw[Bj (Dv q hn)];exact q) fun c xs q=>by rw[Bj (Dv q hn)];exact q
end
def Rd(H:Hp)(a:Addr)(u:HO):Prop:=H a=some u∨∃o,H a=some (.frz o u)
theorem Rd.ok{P:Program}{w:World}{H:Hp}{h:Heap}{a:Addr}{u:HO}(r:Rd H a u)(x:HOk P w H h):Eh P w H h a u:=by
 rcases r with r|⟨o,r⟩
 .exact x a u r
 .obtain⟨_,q⟩:=x a _ r
  exact q
def Mut:Option HO->Prop
 |some (.lst _)=>True
 |some (.dK _)=>True
 |some (.dT _)=>True
 |some (.set _ _)=>True
 |some (.ins _ _ _)=>True
 |some (.ext _)=>True
 |_=>False
section
variable{P:Program}{w:World}{H:Hp}{h h':Heap}{x e:Addr}{o':HO}
theorem HOk.write(ok:HOk P w H h)(mu:Mut (H x))(he:e=x∨H e=some (.own x))(k:∀b u,b≠e->h.get? b=some u->h'.get? b=some u)(heo:∃u,h'.get? e=some u)
  (new:Eh P w (upd H x o') h' x o'):HOk P w (upd H x o') h':=fun b u q=>by
 have nown:∀c y,H c=some (.own y)->c≠x:=fun c y r z=>by subst z;rw[r] at mu;exact mu
 have ntup:∀c xs,H c=some (.tup xs)->c≠x:=fun c xs r z=>by subst z;rw[r] at mu;exact mu
 by_cases hb:b=x
 .subst hb;rw[CZ] at q;cases q;exact new
 .rw[Bj hb] at q
  by_cases hbe:b=e
  .have q':H b=some (.own x):=by
    rcases he with z|z
    .exact absurd (hbe.trans z) hb
    .rw[hbe];exact z
   rw[q] at q';cases q'
   obtain⟨v,hv⟩:=heo
   exact⟨v,by rw[hbe];exact hv⟩
  .refine(ok b u q).stay (fun c v hc r=>k c v ?_ r) (fun c r=>by rw[Bj (nown c b r)];exact r) fun c xs r=>by rw[Bj (ntup c xs r)];exact r
   rcases hc with rfl|hc
   .exact hbe
   .rintro rfl
    rcases he with z|z
    .exact nown c b hc z
    .rw[hc] at z;cases z;exact hb rfl
end
structure Un(fs ex:List Addr)(H H':Hp)(h h':Heap):Prop where
 keep:∀b o,h.get? b=some o->H b=none->b ∉ fs->b ∉ ex->h'.get? b=some o
 slot:∀b o,h.get? b=some o->H b=none->b∈fs->b ∉ ex->∃sl,h'.get? b=some { o with slots:=sl }
 free:∀b o,h.get? b=some o->H b=none->b ∉ ex->H' b=none
 there:∀b o,h.get? b=some o->b ∉ ex->∃o',h'.get? b=some o'
 tups:∀b xs,H b=some (.tup xs)->H' b=some (.tup xs)
 frzs:∀b o u,H b=some (.frz o u)->H' b=some (.frz o u)
 tbls:∀b ps,H b=some (.tbl ps)->∃more,H' b=some (.tbl (ps++more))
 sy:H sysModules=none->H' sysModules=none
section
variable{fs fs' ex ex':List Addr}{H H1 H2:Hp}{h h1 h2 h':Heap}{a x e:Addr}{o:HO}
theorem Un.any(u:Un fs ex H H1 h h1){b:Addr}{ob:Obj}(q:h.get? b=some ob)(n:H b=none)(hx:b ∉ ex):∃sl,h1.get? b=some { ob with slots:=sl }:=by
 by_cases hb:b∈fs
 .exact u.slot b ob q n hb hx
 .exact⟨ob.slots,u.keep b ob q n hb hx⟩
theorem Un.kept(k:∀b u,h.get? b=some u->h'.get? b=some u):Un fs ex H H h h' :=
 ⟨fun b ob q _ _ _=>k b ob q,fun b ob q _ _ _=>⟨ob.slots,k b ob q⟩,fun _ _ _ n _=>n,fun b ob q _=>⟨ob,k b ob q⟩,fun _ _ q=>q,fun _ _ _ q=>q,fun _ ps q=>⟨#[],by rw[q];simp⟩,id⟩
theorem Un.refl:Un fs ex H H h h:=Un.kept fun _ _ q=>q
theorem Un.laid(k:∀b u,h.get? b=some u->h'.get? b=some u)(hp:h.objs.size<=a)(hn:H a=none)(hsy:sysModules≠a):Un fs ex H (upd H a o) h h' where
 sy:=fun n=>by rw[Bj hsy];exact n
 keep:=fun b u q _ _ _=>k b u q
 slot:=fun b u q _ _ _=>⟨u.slots,k b u q⟩
 free:=fun b u q n _=>by rw[Bj (U0q (U0n (U0k q) hp))];exact n
 there:=fun b u q _=>⟨u,k b u q⟩
 tups:=fun b xs q=>by rw[Bj (Dv q hn)];exact q
 frzs:=fun b u xs q=>by rw[Bj (Dv q hn)];exact q
 tbls:=fun b ps q=>⟨#[],by rw[Bj (Dv q hn),q];simp⟩
theorem Un.write(mu:Mut (H x))(he:e=x∨H e=some (.own x))(k:∀b u,b≠e->h.get? b=some u->h'.get? b=some u)(heo:∃u,h'.get? e=some u):Un fs ex H (upd H x o) h h':=by
 have hx:∀b,H b=none->b≠x:=fun b n z=>by subst z;rw[n] at mu;exact mu
 have hb:∀b,H b=none->b≠e:=fun b n z=>by
  subst z
  rcases he with r|r
  .exact hx b n r
  .rw[n] at r;cases r
 have hm:∀b u,H b=some u->¬Mut (some u)->b≠x:=fun b u q nm z=>by subst z;rw[q] at mu;exact nm mu
 refine⟨fun b u q n _ _=>k b u (hb b n) q,fun b u q n _ _=>⟨u.slots,k b u (hb b n) q⟩,fun b u q n _=>by rw[Bj (hx b n)];exact n,fun b u q _=>?_,
  fun b xs q=>by rw[Bj (hm b _ q fun z=>z)];exact q,fun b u xs q=>by rw[Bj (hm b _ q fun z=>z)];exact q,fun b ps q=>⟨#[],by rw[Bj (hm b _ q fun z=>z),q];simp⟩,fun n=>by rw[Bj (hx _ n)];exact n⟩
 by_cases hbe:b=e
 .subst hbe;exact heo
 .exact⟨u,k b u hbe q⟩
end
def trk(h:Heap)(H:Hp):List Addr:=(U12 h.objs.size).filter fun a=>(H a).isSome
def Oe(h:Heap)(H:Hp):Heap:=PySem.W.hideAll h (trk h H)
theorem aW(h:Heap)(H:Hp):(Oe h H).objs.size=h.objs.size:=PySem.W.hideAll_size _ _
theorem fG{h:Heap}{H:Hp}{b:Addr}{o:Obj}(e:h.get? b=some o)(n:H b=none):(Oe h H).get? b=some o :=
 PySem.W.hideAll_get _ e fun hm=>by
  have q:(H b).isSome=true:=(U4b.mp hm).2
  rw[n] at q;simp at q
theorem jH{h:Heap}{H:Hp}{b:Addr}{o:Obj}(e:(Oe h H).get? b=some o):h.get? b=some o/\H b=none:=by
 have e':h.get? b=some o:=PySem.W.of_hideAll (trk h H) e
 refine⟨e',?_⟩
 cases q:H b with
 |none=>rfl
 |some x =>
  have hm:b∈trk h H:=U4b.mpr ⟨U3m.mpr (U0k e'),by simp[q]⟩
  have z:(Oe h H).get? b=none:=PySem.W.hideAll_none (trk h H) hm
  rw[z] at e;cases e
def jr(g h:Heap)(L:Addr):List (Addr×Obj):=(U12 h.objs.size).filterMap fun a=>if a=L∨(g.get? a).isSome=true then none else (h.get? a).map fun o=>(a,o)
def rest(g h:Heap)(L d:Addr):List (Addr×Obj):=(jr g h L).filter fun p=>decide (p.1≠d)
end L2
namespace L2
open PySem PySem.Spec PyProof.Rows
structure Mod(K:U0a)(mg:Str->Option Value)(base:Heap):Prop where
 kin:K.In base
 glob:base.Ns mainGlobals mg
 blt:∃mb,base.Ns builtinsNs mb/\∀x:Str,x≠"__name__"->mb x=bootBuiltins x
 nolimit:base.NoLimit
/-- the context: a def's body (or a comprehension's block) running. base: fixed through the whole law; s₀, H₀: the entry; outer: the frames whose slots others may change (a def's callers); stack: all frames that run;
   ex: iterators that were made ahead of the entry and are walked here (a comprehension's); fn: the names whose cells were made at the entry (a def: all; a comprehension's block: its own); calm: not within an except suite; pn: pins that every state bears; xe: what is wanted of an exception that leaves the code -/
structure Cx where
 prog:Program
 w:World
 K:U0a
 mg:Str->Option Value
 base:Heap
 A:Around
 N:List Str
 s₀:Shared
 H₀:Hp
 env:Env
 outer:List Env
 stack:List Env
 ex:List Addr
 fn:Str->Bool
 calm:Bool
 pn:List (Addr×Obj)
 xe:Value->Shared->Prop
def frs(l:List Env):List Addr:=l.filterMap (·.frame)
abbrev Cx.fs(X:Cx):List Addr:=frs X.outer
def Vis(sc:Scope)(x:Str):Prop:=sc.names.lookup x=some .local∨sc.names.lookup x=some .cell∨sc.names.lookup x=some .free
def Loc(sc:Scope)(x:Str):Prop:=sc.names.lookup x=some .local∨sc.names.lookup x=some .cell
def Look(env:Env)(h:Heap)(m:Str->Option Value)(x:Str)(u:Value):Prop :=
 (env.kindOf x=some .local/\m x=some u)∨((env.kindOf x=some .cell∨env.kindOf x=some .free)/\∃c,env.cells.lookup x=some c/\h.IsCell c (some u))
structure Cx.Ok(X:Cx):Prop where
 mod:Mod X.K X.mg X.base
 kind:X.env.scope.kind=.function
 glob:X.env.globals=mainGlobals
 blt:X.env.builtins=builtinsNs
 above:X.s₀.heap.objs.size<=X.env.locals
 inj:∀x y c,X.env.cells.lookup x=some c->X.env.cells.lookup y=some c->x=y
 has:∀x,(X.env.kindOf x=some .cell∨X.env.kindOf x=some .free)->∃c,X.env.cells.lookup x=some c
 cab:∀x c,X.fn x=true->X.env.cells.lookup x=some c->X.s₀.heap.objs.size<=c
 hd:X.calm=true->X.A.handled=none
 frames:X.A.frames=some X.stack
 stk:X.stack=X.outer∨(X.stack=X.env::X.outer/\X.env.frame=some X.env.locals)
 exf:∀b∈X.ex,b≠X.env.locals/\∀x c,X.env.cells.lookup x=some c->c≠b
 bs:∀b o,X.base.get? b=some o->X.s₀.heap.get? b=some o/\X.H₀ b=none
 bsz:X.base.objs.size<=X.s₀.heap.objs.size
 noex:∀b o,X.base.get? b=some o->b ∉ X.ex
 exfs:∀b∈X.ex,b ∉ X.fs
 Mh:X.s₀.heap.FunFrames X.base X.outer
 frf:∀b∈X.fs,X.H₀ b=none
 sy:X.H₀ sysModules=none
structure Inv(X:Cx)(pins:List (Addr×Obj))(σ:List (Option V))(H:Hp)(s:Shared):Prop where
 ok:X.Ok
 os:s.os=X.s₀.os
 bare:AllBare s.gens
 base:Un X.fs X.ex X.H₀ H X.s₀.heap s.heap
 loc:∃m,s.heap.Ns X.env.locals m/\∀(i:Nat)(x:Str)(v:V),X.N[i]?=some x->σ[i]?=some (some v)->Vis X.env.scope x->∃u,RelV v u/\Look X.env s.heap m x u
 cell:∀x c,X.env.cells.lookup x=some c->∃v,s.heap.IsCell c v
 free:H X.env.locals=none
 freeC:∀x c,X.env.cells.lookup x=some c->H c=none
 pin:∀p∈X.pn++pins,s.heap.get? p.1=some p.2/\H p.1=none/\p.1≠X.env.locals/\p.1 ∉ X.fs/\∀v,p.2.data≠.cell v
 hok:HOk X.prog X.w H s.heap
 len:σ.length=X.N.length
section
variable{X:Cx}{pins:List (Addr×Obj)}{σ:List (Option V)}{H H':Hp}{s:Shared}{h':Heap}
theorem Cx.Ok.tR(ok:X.Ok){b:Addr}{o:Obj}(e:X.base.get? b=some o):b ∉ X.fs:=fun hb=>by
 have:=(ok.Mh.mem hb).1
 rw[e] at this;cases this
theorem Inv.bs(I:Inv X pins σ H s):∀b o,X.base.get? b=some o->s.heap.get? b=some o/\H b=none:=fun b o e =>
 ⟨I.base.keep b o (I.ok.bs b o e).1 (I.ok.bs b o e).2 (I.ok.tR e) (I.ok.noex b o e),I.base.free b o (I.ok.bs b o e).1 (I.ok.bs b o e).2 (I.ok.noex b o e)⟩
theorem Inv.bk(I:Inv X pins σ H s):∀b o,X.base.get? b=some o->s.heap.get? b=some o:=fun b o e=>(I.bs b o e).1
theorem Inv.mod(I:Inv X pins σ H s):Mod X.K X.mg X.base:=I.ok.mod
theorem Inv.kIn(I:Inv X pins σ H s):X.K.In s.heap:=I.ok.mod.kin.keeps I.bk
theorem Inv.fr(I:Inv X pins σ H s):∃m,Fr X.base X.env.locals s.heap m :=
 let ⟨m,hn,_⟩:=I.loc
 ⟨m,hn,I.bk,U02 I.ok.bsz I.ok.above⟩
theorem Inv.lt(I:Inv X pins σ H s):X.env.locals<s.heap.objs.size:=let ⟨_,hn,_⟩:=I.loc;hn.lt
theorem Inv.sz(I:Inv X pins σ H s):X.s₀.heap.objs.size<=s.heap.objs.size:=U02 I.ok.above (U19 I.lt)
theorem Inv.bJ(I:Inv X pins σ H s){a:Addr}(h:s.heap.objs.size<=a):a ∉ X.fs:=fun hb=>by
 obtain⟨_,o,ho,_⟩:=I.ok.Mh.mem hb
 exact absurd (U0n (U0k ho) (U02 I.sz h)) (U28 _)
theorem Inv.cne(I:Inv X pins σ H s):∀x c,X.env.cells.lookup x=some c->c≠X.env.locals:=fun x c e z=>by
 obtain⟨v,o,ho,hd⟩:=I.cell x c e
 obtain⟨m,⟨o',es,ep,ho',hd',_⟩,_⟩:=I.loc
 rw[z,ho'] at ho;cases ho;rw[hd'] at hd;cases hd
theorem Inv.Mh(I:Inv X pins σ H s):s.heap.FunFrames X.base X.outer:=by
 have all:∀(l:List Env),(∀b∈frs l,b∈X.fs)->X.s₀.heap.FunFrames X.base l->s.heap.FunFrames X.base l:=by
  intro l
  induction l with
  |nil=>intro _ _;trivial
  |cons env r ih =>
   intro hs hl
   obtain⟨hk,⟨L,o,hf,hn,ho,hd⟩,hr⟩:=hl
   have hL:L∈X.fs:=hs L (by unfold frs;rw[U4z,hf];exact U04)
   obtain⟨sl,e⟩:=I.base.slot L o ho (I.ok.frf L hL) hL fun z=>I.ok.exfs L z hL
   exact⟨hk,⟨L,_,hf,hn,e,hd⟩,ih (fun b hb=>hs b (by unfold frs;rw[U4z,hf];exact U0r _ hb)) hr⟩
 exact all X.outer (fun _ hb=>hb) I.ok.Mh
theorem Inv.stack(I:Inv X pins σ H s):s.heap.FunFrames X.base X.stack:=by
 rcases I.ok.stk with e|⟨e,hf⟩
 .rw[e];exact I.Mh
 .rw[e]
  obtain⟨m,hn,_⟩:=I.loc
  refine .cons (by rw[I.ok.kind];decide) hf hn ?_ I.Mh
  exact Heap.get?_none_of_le (U02 I.ok.bsz I.ok.above)
theorem Inv.Py(I:Inv X pins σ H s):∀b∈frs X.stack,b∈X.env.locals::X.fs:=fun b hb=>by
 rcases I.ok.stk with e|⟨e,hf⟩
 .rw[e] at hb;exact U0r _ hb
 .rw[e] at hb
  unfold frs at hb
  rw[U4z,hf] at hb
  exact hb
theorem Inv.Xk(I:Inv X pins σ H s):∀b∈frs X.stack,H b=none:=fun b hb=>by
 rcases U0t.mp (I.Py b hb) with e|hb
 .rw[e];exact I.free
 .obtain⟨_,o,ho,_⟩:=I.ok.Mh.mem hb
  exact I.base.free b o ho (I.ok.frf b hb) fun z=>I.ok.exfs b z hb
theorem Inv.YW(I:Inv X pins σ H s):sysModules<s.heap.objs.size:=by
 obtain⟨o,_,_,e,_⟩:=I.ok.mod.glob
 exact U2v (by decide:(1:Nat)<3) (U0k (I.bk _ _ e))
theorem Inv.TJ(I:Inv X pins σ H s):H sysModules=none:=I.base.sy I.ok.sy
theorem Inv.step{g':Array GenState}{t':Nat}{d':Drawn}{ch:List Addr}(I:Inv X pins σ H s)
  (hch:∀b∈ch,(b∈X.ex∨X.s₀.heap.objs.size<=b)/\b≠X.env.locals/\(∀x c,X.env.cells.lookup x=some c->c≠b)/\∀p∈X.pn++pins,p.1≠b)
  (keep:∀b o,b≠X.env.locals->b ∉ X.fs->b ∉ ch->s.heap.get? b=some o->H b=none->h'.get? b=some o)
  (slot:∀b o,b≠X.env.locals->b∈X.fs->b ∉ ch->s.heap.get? b=some o->H b=none->∃sl,h'.get? b=some { o with slots:=sl }) (free:∀b o,b ∉ ch->s.heap.get? b=some o->H b=none->H' b=none)
  (there:∀b o,b ∉ ch->s.heap.get? b=some o->∃o',h'.get? b=some o')
  (tups:∀b xs,H b=some (.tup xs)->H' b=some (.tup xs)) (frzs:∀b o u,H b=some (.frz o u)->H' b=some (.frz o u)) (tbls:∀b ps,H b=some (.tbl ps)->∃more,H' b=some (.tbl (ps++more)))
  (ns:∀m,s.heap.Ns X.env.locals m->h'.Ns X.env.locals m) (hok:HOk X.prog X.w H' h') (hg:AllBare g') (sy:H sysModules=none->H' sysModules=none) :
  Inv X pins σ H' { s with heap:=h',gens:=g',drawn:=d',toks:=t' }:=by
 have neL:∀b o,X.s₀.heap.get? b=some o->b≠X.env.locals:=fun b o e=>U0q (U0n (U0k e) I.ok.above)
 have neC:∀b o,X.s₀.heap.get? b=some o->b ∉ X.ex->b ∉ ch:=fun b o e hx hb=>by
  rcases(hch b hb).1 with z|z
  .exact hx z
  .exact absurd (U0n (U0k e) z) (U28 _)
 have cellK:∀x c,X.env.cells.lookup x=some c->∀v,s.heap.IsCell c v->h'.IsCell c v:=fun x c e v ⟨o,ho,hd⟩=>by
  have nch:c ∉ ch:=fun z=>(hch c z).2.2.1 x c e rfl
  by_cases hc:c∈X.fs
  .obtain⟨sl,q⟩:=slot c o (I.cne x c e) hc nch ho (I.freeC x c e)
   exact⟨_,q,hd⟩
  .exact⟨o,keep c o (I.cne x c e) hc nch ho (I.freeC x c e),hd⟩
 refine⟨I.ok,I.os,hg,⟨fun b o e n hb hx=>?_,fun b o e n hb hx=>?_,fun b o e n hx=>?_,fun b o e hx=>?_,fun b xs e=>tups b xs (I.base.tups b xs e),fun b o xs e=>frzs b o xs (I.base.frzs b o xs e),fun b ps e=>?_,fun n=>sy (I.base.sy n)⟩,?_,fun x c e=>?_,?_,fun x c e=>?_,fun p hp=>?_,hok,I.len⟩
 .exact keep b o (neL b o e) hb (neC b o e hx) (I.base.keep b o e n hb hx) (I.base.free b o e n hx)
 .obtain⟨sl,e1⟩:=I.base.slot b o e n hb hx
  obtain⟨sl',e2⟩:=slot b _ (neL b o e) hb (neC b o e hx) e1 (I.base.free b o e n hx)
  exact⟨sl',e2⟩
 .obtain⟨o',e1⟩:=I.base.there b o e hx
  exact free b o' (neC b o e hx) e1 (I.base.free b o e n hx)
 .obtain⟨o',e1⟩:=I.base.there b o e hx
  exact there b o' (neC b o e hx) e1
 .obtain⟨m1,e1⟩:=I.base.tbls b ps e
  obtain⟨m2,e2⟩:=tbls b _ e1
  exact⟨m1++m2,by rw[e2,Array.append_assoc]⟩
 .obtain⟨m,hn,hl⟩:=I.loc
  refine⟨m,ns m hn,fun i x v e1 e2 e3=>?_⟩
  obtain⟨u,r,l⟩:=hl i x v e1 e2 e3
  refine⟨u,r,?_⟩
  rcases l with l|⟨k,c,e,z⟩
  .exact .inl l
  .exact .inr ⟨k,c,e,cellK x c e _ z⟩
 .obtain⟨v,z⟩:=I.cell x c e
  exact⟨v,cellK x c e v z⟩
 .obtain⟨m,⟨o,_,_,ho,_⟩,_⟩:=I.loc
  exact free _ o (fun z=>(hch _ z).2.1 rfl) ho I.free
 .obtain⟨v,o,ho,hd⟩:=I.cell x c e
  exact free c o (fun z=>(hch c z).2.2.1 x c e rfl) ho (I.freeC x c e)
 .obtain⟨e,n,ne,nf,d⟩:=I.pin p hp
  have nch:p.1 ∉ ch:=fun z=>(hch p.1 z).2.2.2 p hp rfl
  exact⟨keep p.1 p.2 ne nf nch e n,free p.1 p.2 nch e n,ne,nf,d⟩
theorem Inv.un{t':Nat}(I:Inv X pins σ H s)(u:Un X.fs [] H H' s.heap h')(hok:HOk X.prog X.w H' h'):Inv X pins σ H' { s with heap:=h',toks:=t' }:=by
 obtain⟨m,⟨o,es,ep,ho,r⟩,_⟩:=id I.loc
 obtain⟨sl,hL⟩:=u.any ho I.free (by simp)
 exact I.step (g':=s.gens) (d':=s.drawn) (ch:=[]) (fun _ z=>nomatch z) (fun b o _ hb _ e n=>u.keep b o e n hb (by simp)) (fun b o _ hb _ e n=>u.slot b o e n hb (by simp)) (fun b o _ e n=>u.free b o e n (by simp)) (fun b o _ e=>u.there b o e (by simp)) u.tups u.frzs u.tbls (fun m' hm=>by
  obtain⟨o',es',ep',ho',r'⟩:=hm
  rw[ho] at ho';cases ho'
  exact⟨_,es',ep',hL,r'⟩) hok I.bare u.sy
theorem Inv.call{g':Array GenState}{t':Nat}{d':Drawn}{ch:List Addr}(I:Inv X pins σ H s)(u:Un (frs X.stack) ch H H' s.heap h')(hok:HOk X.prog X.w H' h')(hg:AllBare g')
  (hch:∀b∈ch,(b∈X.ex∨X.s₀.heap.objs.size<=b)/\b≠X.env.locals/\(∀x c,X.env.cells.lookup x=some c->c≠b)/\∀p∈X.pn++pins,p.1≠b) :
  Inv X pins σ H' { s with heap:=h',gens:=g',drawn:=d',toks:=t' }:=by
 obtain⟨m,⟨o,es,ep,ho,r⟩,_⟩:=id I.loc
 obtain⟨sl,hL⟩:=u.any ho I.free fun z=>(hch _ z).2.1 rfl
 exact I.step (ch:=ch) hch (fun b o hL hb hc e n=>u.keep b o e n (fun z=>(U0t.mp (I.Py b z)).elim hL hb) hc) (fun b o _ _ hc e n=>u.any e n hc) (fun b o hc e n=>u.free b o e n hc) (fun b o hc e=>u.there b o e hc) u.tups u.frzs u.tbls (fun m' hm=>by
  obtain⟨o',es',ep',ho',r'⟩:=hm
  rw[ho] at ho';cases ho'
  exact⟨_,es',ep',hL,r'⟩) hok hg u.sy
theorem Inv.turned{t':Nat}{it:Addr}(I:Inv X pins σ H s)(k:∀b o,b≠it->s.heap.get? b=some o->h'.get? b=some o)(hn:H it=none)(hL:it≠X.env.locals)
  (h1:it∈X.ex∨X.s₀.heap.objs.size<=it) (h2:∀x c,X.env.cells.lookup x=some c->c≠it) (h3:∀p∈X.pn++pins,p.1≠it):Inv X pins σ H { s with heap:=h',toks:=t' }:=by
 have nit:∀b u,H b=some u->b≠it:=fun b u e z=>by rw[z,hn] at e;cases e
 refine I.step (g':=s.gens) (d':=s.drawn) (ch:=[it]) (fun b hb=>?_) (fun b o _ _ hc e _=>k b o (fun z=>hc (by simp[z])) e) (fun b o _ _ hc e _=>⟨o.slots,k b o (fun z=>hc (by simp[z])) e⟩) (fun _ _ _ _ n=>n)
  (fun b o hc e=>⟨o,k b o (fun z=>hc (by simp[z])) e⟩) (fun _ _ e=>e) (fun _ _ _ e=>e) (fun b ps e=>⟨#[],by rw[e];simp⟩) (fun m hm=>?_) (fun b u e=>?_) I.bare id
 .have e:b=it:=by simpa using hb
  subst e
  exact⟨h1,hL,h2,h3⟩
 .obtain⟨o,es,ep,ho,r⟩:=hm
  exact⟨o,es,ep,k _ o (U1j hL) ho,r⟩
 .refine(I.hok b u e).stay (fun c v hc q=>k c v ?_ q) (fun _ q=>q) fun _ _ q=>q
  rcases hc with z|z
  .rw[z];exact nit b u e
  .exact nit c _ z
theorem Inv.tok(I:Inv X pins σ H s)(t:Nat):Inv X pins σ H { s with toks:=t }:=I.un (h':=s.heap) (t':=t) Un.refl I.hok
theorem Inv.kept{t':Nat}(I:Inv X pins σ H s)(k:∀b u,s.heap.get? b=some u->h'.get? b=some u):Inv X pins σ H { s with heap:=h',toks:=t' }:=I.un (Un.kept k) (I.hok.kept k)
theorem Inv.laid{a:Addr}{o:HO}{t':Nat}(I:Inv X pins σ H s)(k:∀b u,s.heap.get? b=some u->h'.get? b=some u)(hp:s.heap.objs.size<=a)(new:Eh X.prog X.w (upd H a o) h' a o) :
  Inv X pins σ (upd H a o) { s with heap:=h',toks:=t' }:=I.un (Un.laid k hp (I.hok.fresh hp) (U0q (U0n I.YW hp))) (I.hok.laid k hp new)
theorem Inv.write{x e:Addr}{o:HO}{t':Nat}(I:Inv X pins σ H s)(mu:Mut (H x))(he:e=x∨H e=some (.own x))(k:∀b u,b≠e->s.heap.get? b=some u->h'.get? b=some u)(heo:∃u,h'.get? e=some u)
  (new:Eh X.prog X.w (upd H x o) h' x o):Inv X pins σ (upd H x o) { s with heap:=h',toks:=t' }:=I.un (Un.write mu he k heo) (I.hok.write mu he k heo new)
theorem Inv.weak{σ':List (Option V)}(I:Inv X pins σ H s)(hl:σ'.length=σ.length)(w:∀(i:Nat) v,σ'[i]?=some (some v)->σ[i]?=some (some v)):Inv X pins σ' H s :=
 ⟨I.ok,I.os,I.bare,I.base,let ⟨m,hn,hl'⟩:=I.loc;⟨m,hn,fun i x v e1 e2 e3=>hl' i x v e1 (w i v e2) e3⟩,I.cell,I.free,I.freeC,I.pin,I.hok,hl.trans I.len⟩
theorem Inv.Ql{pins':List (Addr×Obj)}(I:Inv X pins σ H s)(h:∀p∈pins',s.heap.get? p.1=some p.2/\H p.1=none/\p.1≠X.env.locals/\p.1 ∉ X.fs/\∀v,p.2.data≠.cell v):Inv X pins' σ H s :=
 ⟨I.ok,I.os,I.bare,I.base,I.loc,I.cell,I.free,I.freeC,fun p hp=>(U1k.mp hp).elim (fun z=>I.pin p (U3v _ z)) (h p),I.hok,I.len⟩
theorem W2{N:List Str}(hN:N.Nodup){i j:Nat}{x:Str}(a:N[i]?=some x)(b:N[j]?=some x):i=j:=by
 obtain⟨h1,e1⟩:=U0h.mp a
 obtain⟨h2,e2⟩:=U0h.mp b
 exact(List.getElem_inj hN).mp (e1.trans e2.symm)
theorem UL{M:Model}{A:Around}{E:Value->Shared->Prop}{i:Nat}{x:Str}{v:V}{u:Value}{Q:Unit->Shared->Prop}(I:Inv X pins σ H s)(hN:X.N.Nodup)(hi:X.N[i]?=some x)(hx:Loc X.env.scope x)(r:RelV v u)
  (h:∀s',Inv X pins (σ.set i (some v)) H s'->(∃a,U0z a s.heap s'.heap/\(a=X.env.locals∨X.env.cells.lookup x=some a))->Q () s') (hf:X.fn x=true∨X.env.scope.names.lookup x=some .local:=by first|exact .inl rfl|exact .inr rfl|assumption):wpAny M A (storeName X.env x u) Q E s:=by
 obtain⟨m,hn,hl⟩:=id I.loc
 have hcls:(X.env.scope.kind==.class||(X.env.scope.kind==.module&&X.env.locals != X.env.globals))=false:=by rw[I.ok.kind];rfl
 have hiσ:i<σ.length:=by rw[I.len];exact(U0h.mp hi).1
 have cne:=I.cne
 have tracked:∀{a:Addr} {h':Heap},(∃o,s.heap.get? a=some o/\H a=none)->U0z a s.heap h'->HOk X.prog X.w H h':=fun {a h'} ha hs b ob e=>by
  obtain⟨_,_,hfree⟩:=ha
  refine(I.hok b ob e).stay (fun c w' hc q=>(hs.2 c ?_).trans q) (fun _ q=>q) fun _ _ q=>q
  rintro rfl
  rcases hc with rfl|hc
  .rw[hfree] at e;cases e
  .rw[hfree] at hc;cases hc
 rcases hx with hk|hk
 .refine wpAny_storeName_local hk hn (fun h' hn' hs=>?_) hcls
  obtain⟨oL,_,_,hoL,_⟩:=id hn
  refine h _ ⟨I.ok,I.os,I.bare,⟨fun b o e n hb hx=>?_,fun b o e n hb hx=>?_,I.base.free,fun b o e hx=>?_,I.base.tups,I.base.frzs,I.base.tbls,I.base.sy⟩,⟨_,hn',fun j y v' e1 e2 e3=>?_⟩,fun y c e=>?_,I.free,I.freeC,fun p hp=>?_,tracked ⟨oL,hoL,I.free⟩ hs,by simpa using I.len⟩ ⟨_,hs,.inl rfl⟩
  .exact(hs.2 b (U0q (U0n (U0k e) I.ok.above))).trans (I.base.keep b o e n hb hx)
  .obtain⟨sl,e1⟩:=I.base.slot b o e n hb hx
   exact⟨sl,(hs.2 b (U0q (U0n (U0k e) I.ok.above))).trans e1⟩
  .obtain⟨o',e1⟩:=I.base.there b o e hx
   exact⟨o',(hs.2 b (U0q (U0n (U0k e) I.ok.above))).trans e1⟩
  .by_cases hj:j=i
   .subst hj
    rw[hi] at e1;cases e1
    rw[U2m hiσ] at e2
    cases e2
    exact⟨u,r,.inl ⟨hk,by simp⟩⟩
   .rw[U2u (U1j hj)] at e2
    obtain⟨u',r',q⟩:=hl j y v' e1 e2 e3
    refine⟨u',r',?_⟩
    rcases q with ⟨k,e⟩|⟨k,c,e,z⟩
    .refine .inl ⟨k,?_⟩
     have:y≠x:=fun e=>hj (W2 hN e1 (e ▸ hi))
     simp[this,e]
    .exact .inr ⟨k,c,e,z.sameBut hs (cne y c e)⟩
  .obtain⟨w',z⟩:=I.cell y c e
   exact⟨w',z.sameBut hs (cne y c e)⟩
  .obtain⟨e,n,ne,nf,d⟩:=I.pin p hp
   exact⟨(hs.2 p.1 ne).trans e,n,ne,nf,d⟩
 .have hfn:X.fn x=true:=by
   rcases hf with z|z
   .exact z
   .rw[z] at hk;cases hk
  obtain⟨c,hc⟩:=I.ok.has x (.inl hk)
  obtain⟨w',z⟩:=I.cell x c hc
  refine wpAny_storeName_cell I.ok.kind hk hc z (fun h' hc' hs=>?_)
  obtain⟨oc,hoc,hocd⟩:=id z
  refine h { s with heap:=h' } ⟨I.ok,I.os,I.bare,⟨fun b o e n hb hx=>?_,fun b o e n hb hx=>?_,I.base.free,fun b o e hx=>?_,I.base.tups,I.base.frzs,I.base.tbls,I.base.sy⟩,⟨m,hn.sameBut hs (U1j (cne x c hc)),fun j y v' e1 e2 e3=>?_⟩,fun y c' e=>?_,I.free,I.freeC,fun p hp=>?_,tracked ⟨oc,hoc,I.freeC x c hc⟩ hs,by simpa using I.len⟩ ⟨c,hs,.inr hc⟩
  .exact(hs.2 b (U0q (U0n (U0k e) (I.ok.cab x c hfn hc)))).trans (I.base.keep b o e n hb hx)
  .obtain⟨sl,e1⟩:=I.base.slot b o e n hb hx
   exact⟨sl,(hs.2 b (U0q (U0n (U0k e) (I.ok.cab x c hfn hc)))).trans e1⟩
  .obtain⟨o',e1⟩:=I.base.there b o e hx
   exact⟨o',(hs.2 b (U0q (U0n (U0k e) (I.ok.cab x c hfn hc)))).trans e1⟩
  .by_cases hj:j=i
   .subst hj
    rw[hi] at e1;cases e1
    rw[U2m hiσ] at e2
    cases e2
    exact⟨u,r,.inr ⟨.inl hk,c,hc,hc'⟩⟩
   .rw[U2u (U1j hj)] at e2
    obtain⟨u',r',q⟩:=hl j y v' e1 e2 e3
    refine⟨u',r',?_⟩
    rcases q with q|⟨k,c',e,z'⟩
    .exact .inl q
    .refine .inr ⟨k,c',e,z'.sameBut hs ?_⟩
     rintro rfl
     exact hj (W2 hN e1 (I.ok.inj _ _ _ e hc ▸ hi))
  .by_cases hcc:c'=c
   .subst hcc;exact⟨_,hc'⟩
   .obtain⟨w2,z2⟩:=I.cell y c' e
    exact⟨w2,z2.sameBut hs hcc⟩
  .obtain⟨e,n,ne,nf,d⟩:=I.pin p hp
   refine⟨(hs.2 p.1 ?_).trans e,n,ne,nf,d⟩
   intro q
   rw[q,hoc] at e
   have q':oc=p.2:=U0w e
   exact d w' (by rw[←q'];exact hocd)
theorem Vs{M:Model}{A:Around}{E:Value->Shared->Prop}{i:Nat}{x:Str}{v:V}{u:Value}{Q:Unit->Shared->Prop}(I:Inv X pins σ H s)(hN:X.N.Nodup)(hi:X.N[i]?=some x)(hx:Loc X.env.scope x)(r:RelV v u)
  (h:∀s',Inv X pins (σ.set i (some v)) H s'->Q () s') (hf:X.fn x=true∨X.env.scope.names.lookup x=some .local:=by first|exact .inl rfl|exact .inr rfl|assumption):wpAny M A (storeName X.env x u) Q E s :=
 UL I hN hi hx r (fun s' I' _=>h s' I') hf
theorem Inv.call'{s':Shared}{ch:List Addr}(I:Inv X pins σ H s)(ho:s'.os=s.os)(u:Un (frs X.stack) ch H H' s.heap s'.heap)(hok:HOk X.prog X.w H' s'.heap)(hg:AllBare s'.gens)
  (hch:∀b∈ch,(b∈X.ex∨X.s₀.heap.objs.size<=b)/\b≠X.env.locals/\(∀x c,X.env.cells.lookup x=some c->c≠b)/\∀p∈X.pn++pins,p.1≠b):Inv X pins σ H' s':=by
 obtain⟨h',g',d',t',o'⟩:=s'
 have e:o'=s.os:=ho
 subst e
 exact I.call (g':=g') (t':=t') (d':=d') u hok hg hch
end
abbrev XK:=Value->Option Addr->Hp->Prop
abbrev St:=List (Option V)
abbrev VK:=V->Hp->Prop
abbrev TE:=St->Hp->VK->Prop
abbrev TT:=St->Hp->(Bool->Hp->Prop)->Prop
abbrev TA:=St->Hp->(List V->Hp->Prop)->Prop
structure Ends where
 nx:St->Hp->Prop
 rt:VK
 bk:St->Hp->Prop:=fun _ _=>False
 ct:St->Hp->Prop:=fun _ _=>False
abbrev TS:=Ends->St->Hp->Prop
def EP(X:Cx)(pins:List (Addr×Obj))(σ:St)(Q:VK)(u:Value)(s':Shared):Prop:=∃v H',Inv X pins σ H' s'/\RelV v u/\Q v H'
def TP(X:Cx)(pins:List (Addr×Obj))(σ:St)(Q:Bool->Hp->Prop)(b:Bool)(s':Shared):Prop:=∃H',Inv X pins σ H' s'/\Q b H'
def AP(X:Cx)(pins:List (Addr×Obj))(σ:St)(Q:List V->Hp->Prop)(us:List Value)(s':Shared):Prop:=∃vs H',Inv X pins σ H' s'/\Vals vs us/\Q vs H'
def SP(X:Cx)(pins:List (Addr×Obj))(D:Ends)(f:Flow)(s':Shared):Prop :=
 match f with
 |.next=>∃σ' H',Inv X pins σ' H' s'/\D.nx σ' H'
 |.brk=>∃σ' H',Inv X pins σ' H' s'/\D.bk σ' H'
 |.cont=>∃σ' H',Inv X pins σ' H' s'/\D.ct σ' H'
 |.ret u=>∃v σ' H',Inv X pins σ' H' s'/\RelV v u/\D.rt v H'
def PE(X:Cx)(e:Expr)(t:TE):Prop :=
 ∀(pins:List (Addr×Obj))(s:Shared)(σ:St)(H:Hp)(Q:VK),Inv X pins σ H s->t σ H Q->wpAny (model X.prog X.w) X.A (eval e X.env) (EP X pins σ Q) X.xe s
def PT(X:Cx)(e:Expr)(t:TT):Prop :=
 ∀(pins:List (Addr×Obj))(s:Shared)(σ:St)(H:Hp)(Q:Bool->Hp->Prop),Inv X pins σ H s->t σ H Q->wpAny (model X.prog X.w) X.A (isTrue e X.env (eval e X.env)) (TP X pins σ Q) X.xe s
def PW(X:Cx)(e:Expr)(t:TT):Prop :=
 ∀(whole:Sem Value)(pins:List (Addr×Obj))(s:Shared)(σ:St)(H:Hp)(Q:Bool->Hp->Prop),Inv X pins σ H s->t σ H Q->wpAny (model X.prog X.w) X.A (isTrue e X.env whole) (TP X pins σ Q) X.xe s
theorem PW.pt{X:Cx}{e:Expr}{t:TT}(h:PW X e t):PT X e t:=h _
def PA(X:Cx)(es:List Expr)(t:TA):Prop :=
 ∀(pos:Pos)(pins:List (Addr×Obj))(s:Shared)(σ:St)(H:Hp)(Q:List V->Hp->Prop),Inv X pins σ H s->t σ H Q->wpAny (model X.prog X.w) X.A (spliced (backTo pos (starEach es X.env))) (AP X pins σ Q) X.xe s
def PS(X:Cx)(st:Stmt)(t:TS):Prop :=
 ∀(pins:List (Addr×Obj))(s:Shared)(σ:St)(H:Hp)(D:Ends),Inv X pins σ H s->t D σ H->wpAny (model X.prog X.w) X.A (exec st X.env) (SP X pins D) X.xe s
def PSs(X:Cx)(st:List Stmt)(t:TS):Prop :=
 ∀(pins:List (Addr×Obj))(s:Shared)(σ:St)(H:Hp)(D:Ends),Inv X pins σ H s->t D σ H->wpAny (model X.prog X.w) X.A (execs st X.env) (SP X pins D) X.xe s
theorem thn{α:Type}{t:Sem α}{Q Q':α->Shared->Prop}{M:Model}{A:Around}{E:Value->Shared->Prop}{s:Shared}(h:wpAny M A t Q E s)(hQ:∀a s,Q a s->Q' a s):wpAny M A t Q' E s:=U4t h hQ fun _ _ x=>x
end L2
namespace L2
open PySem PySem.Spec PyProof.Rows
section
variable{X:Cx}
theorem bin{a b:Expr}{ta tb:TE}(ha:PE X a ta)(hb:PE X b tb){pins:List (Addr×Obj)}{s:Shared}{σ:St}{H:Hp}{R:V->V->Hp->Prop}(I:Inv X pins σ H s)(h:ta σ H fun x H1=>tb σ H1 fun y H2=>R x y H2)
  {α:Type} {Q:α->Shared->Prop} {f:Value->Value->Sem α}
  (hf:∀v u s2 x y H2,Inv X pins σ H2 s2->RelV x v->RelV y u->R x y H2->wpAny (model X.prog X.w) X.A (f v u) Q X.xe s2) :
  wpAny (model X.prog X.w) X.A (eval a X.env) (fun v s₁=>wpAny (model X.prog X.w) X.A (eval b X.env) (fun u s₂=>wpAny (model X.prog X.w) X.A (f v u) Q X.xe s₂) X.xe s₁) X.xe s:=by
 refine thn (ha pins s σ H _ I h) fun v s1 ⟨x,H1,I1,r1,q1⟩=>?_
 refine thn (hb pins s1 σ H1 _ I1 q1) fun u s2 ⟨y,H2,I2,r2,q2⟩=>?_
 exact hf v u s2 x y H2 I2 r1 r2 q2
def sW(i:Nat):TE:=fun σ H Q=>∃v,σ[i]?=some (some v)/\Q v H
def tC(v:V):TE:=fun _ H Q=>Q v H
theorem ZQ{i:Nat}{x:Str}{pos:Pos}(hN:X.N[i]?=some x)(hv:Vis X.env.scope x)(hd:(x==("__debug__":Str))=false:=by decide)(hcd:(x==("__classdict__":Str))=false:=by decide):PE X (.Name x pos) (sW i):=by
 intro pins s σ H Q I h
 obtain⟨v,e,h⟩:=h
 obtain⟨m,hn,hl⟩:=I.loc
 obtain⟨u,r,l⟩:=hl i x v hN e hv
 have fin:EP X pins σ Q u s:=⟨v,H,I,r,h⟩
 rcases l with ⟨hk,hm⟩|⟨hk,c,hc,hcell⟩
 .exact wpAny_Name (wpAny_loadName_local I.ok.kind hk hn hm fin) hd
 .rcases hk with hk|hk
  .exact wpAny_Name (wpAny_loadName_cell I.ok.kind hk hc hcell fin) hd
  .exact wpAny_Name (wpAny_loadName_free I.ok.kind hk hc hcell fin hcd) hd
theorem nT{i j pos}:PE X (.Constant (.int i) j pos) (tC (.int i)):=fun _ _ _ H _ I h=>wpAny_Constant_int ⟨.int i,H,I.tok _,⟨_,rfl⟩,h⟩
theorem qu{b j pos}:PE X (.Constant (.bool b) j pos) (tC (.bl b)):=fun _ _ _ H _ I h=>Constant_bool ⟨.bl b,H,I,rfl,h⟩
theorem nR{j pos}:PE X (.Constant .none j pos) (tC .non):=fun _ _ _ H _ I h=>Constant_none ⟨.non,H,I,rfl,h⟩
def Gl(X:Cx)(x:Str):Prop:=X.env.kindOf x=some .globalImplicit
theorem Tf{E:Value->Shared->Prop}{pins:List (Addr×Obj)}{s:Shared}{σ:St}{H:Hp}{x:Str}{u:Value}{pos:Pos}{Q:Value->Shared->Prop}(I:Inv X pins σ H s)(hg:Gl X x)(hm:X.mg x=some u)(h:Q u s)
  (hd:(x==("__debug__":Str))=false:=by decide):wpAny (model X.prog X.w) X.A (eval (.Name x pos) X.env) Q E s :=
 Calls.Name_function_global I.ok.kind hg (Calls.loadGlobal_global (by rw[I.ok.glob];exact I.mod.glob.keeps I.bk) hm h) hd
theorem Ms{E:Value->Shared->Prop}{pins:List (Addr×Obj)}{s:Shared}{σ:St}{H:Hp}{x:Str}{u:Value}{pos:Pos}{Q:Value->Shared->Prop}(I:Inv X pins σ H s)(hg:Gl X x)(hm:X.mg x=none)(hv:bootBuiltins x=some u)(h:Q u s)
  (hn:x≠"__name__":=by decide) (hd:(x==("__debug__":Str))=false:=by decide):wpAny (model X.prog X.w) X.A (eval (.Name x pos) X.env) Q E s:=by
 obtain⟨mb,h1,h2⟩:=I.mod.blt
 exact Calls.Name_function_global I.ok.kind hg (Calls.loadGlobal_builtin (by rw[I.ok.glob];exact I.mod.glob.keeps I.bk) hm (by rw[I.ok.blt];exact h1.keeps I.bk) ((h2 x hn).trans hv) h) hd
theorem Xw{x:Str}{v:V}{u:Value}{pos:Pos}(hg:Gl X x)(hm:X.mg x=some u)(r:RelV v u)(hd:(x==("__debug__":Str))=false:=by decide):PE X (.Name x pos) (tC v) :=
 fun _ _ _ H _ I h=>Tf I hg hm ⟨v,H,I,r,h⟩ hd
theorem jD{x:Str}{v:V}{u:Value}{pos:Pos}(hg:Gl X x)(hm:X.mg x=none)(hv:bootBuiltins x=some u)(r:RelV v u)(hn:x≠"__name__":=by decide)(hd:(x==("__debug__":Str))=false:=by decide):PE X (.Name x pos) (tC v) :=
 fun _ _ _ H _ I h=>Ms I hg hm hv ⟨v,H,I,r,h⟩ hn hd
variable{a b:Expr}{ta tb:TE}{pos:Pos}
def PC(X:Cx)(op:CmpOp)(a b:Expr)(t:TE):Prop :=
 ∀(pins:List (Addr×Obj))(s:Shared)(σ:St)(H:Hp)(Q:VK),Inv X pins σ H s->t σ H Q ->
  wpAny (model X.prog X.w) X.A (eval a X.env) (fun v s₁=>wpAny (model X.prog X.w) X.A (eval b X.env) (fun u s₂=>wpAny (model X.prog X.w) X.A (compareOp op v u) (EP X pins σ Q) X.xe s₂) X.xe s₁) X.xe s
theorem dI(b:Expr){op:CmpOp}(h:op≠.In)(h2:op≠.NotIn):behindInMarks op b=false:=by
 have e1:(op==CmpOp.In)=false:=by cases op<;>first|rfl|exact absurd rfl h
 have e2:(op==CmpOp.NotIn)=false:=by cases op<;>first|rfl|exact absurd rfl h2
 cases b<;>simp[behindInMarks,e1,e2]
def tB(t:TE):TT:=fun σ H Q=>t σ H fun x H1=>∃c,x=.bl c/\Q c H1
theorem uR{op:CmpOp}{t:TE}(h:PC X op a b t)(h1:behindInMarks op b=false:=by first|exact dI _ (by decide) (by decide)|rfl):PT X (.Compare a [op] [b] pos) (tB t):=by
 intro pins s σ H Q I hw
 refine wpAny_isTrue_Compare1 (thn (h pins s σ H _ I hw) fun v s1 h1=>thn h1 fun u s2 h2=>thn h2 fun c s3 ⟨x,H1,I1,r1,q1⟩=>?_) h1
 obtain⟨d,rfl,q⟩:=q1
 cases r1
 exact U22 ⟨H1,I1,q⟩
theorem n6{e:Expr}{t:TE}(h:PE X e t)(he:∀whole,isTrue e X.env whole=(do let v ←whole;standAt e.pos;holding [v] (truthy v)):=by intro _;rfl):PT X e (tB t):=by
 intro pins s σ H Q I hw
 refine isTrue_plain (thn (h pins s σ H _ I hw) fun v s1 ⟨x,H1,I1,r1,q1⟩=>?_) (he _)
 obtain⟨d,rfl,q⟩:=q1
 cases r1
 exact U22 ⟨H1,I1,q⟩
variable{tA tB':TT}{rest:List Expr}
def Mg(t u:TT):TT:=fun σ H Q=>t σ H fun c H1=>if c=true then u σ H1 Q else Q false H1
def tOr(t u:TT):TT:=fun σ H Q=>t σ H fun c H1=>if c=true then Q true H1 else u σ H1 Q
def Hq(t:TT):TT:=fun σ H Q=>t σ H fun c H1=>Q (!c) H1
theorem iW(ha:PT X a tA):PW X (.BoolOp .And [a] pos) tA:=by
 intro wh pins s σ H Q I h
 refine isTrue_and (thn (ha pins s σ H Q I h) fun c s1 e=>?_)
 cases c with
 |true=>exact isTrue_and_nil e
 |false=>exact e
theorem mq(ha:PT X a tA):PW X (.BoolOp .Or [a] pos) tA:=by
 intro wh pins s σ H Q I h
 refine isTrue_or (thn (ha pins s σ H Q I h) fun c s1 e=>?_)
 cases c with
 |false=>exact isTrue_or_nil e
 |true=>exact e
theorem mz(ha:PT X a tA)(hb:PW X (.BoolOp .And (b::rest) pos) tB'):PW X (.BoolOp .And (a::b::rest) pos) (Mg tA tB'):=by
 intro wh pins s σ H Q I h
 refine isTrue_and (thn (ha pins s σ H _ I h) fun c s1 ⟨H1,I1,q1⟩=>?_)
 cases c with
 |true=>exact hb wh pins s1 σ H1 Q I1 q1
 |false=>exact⟨H1,I1,q1⟩
theorem qe(ha:PT X a tA)(hb:PW X (.BoolOp .Or (b::rest) pos) tB'):PW X (.BoolOp .Or (a::b::rest) pos) (tOr tA tB'):=by
 intro wh pins s σ H Q I h
 refine isTrue_or (thn (ha pins s σ H _ I h) fun c s1 ⟨H1,I1,q1⟩=>?_)
 cases c with
 |true=>exact⟨H1,I1,q1⟩
 |false=>exact hb wh pins s1 σ H1 Q I1 q1
theorem n8(ha:PT X a tA):PT X (.UnaryOp .Not a pos) (Hq tA):=by
 intro pins s σ H Q I h
 exact isTrue_not (ha pins s σ H (fun c H1=>Q (!c) H1) I h)
def qW(ta tb:TE):TE:=fun σ H Q=>ta σ H fun x H1=>∃c,x=.bl c/\if c=true then tb σ H1 Q else Q (.bl false) H1
def qR(ta:TE):TE:=fun σ H Q=>ta σ H fun x H1=>∃c,x=.bl c/\Q (.bl (!c)) H1
theorem nP{op}{t:TE}(h:PE X a t):PE X (.BoolOp op [a] pos) t:=fun pins s σ H Q I hw=>BoolOp_one (h pins s σ H Q I hw)
theorem nU(ha:PE X a ta)(hb:PE X (.BoolOp .And (b::rest) pos) tb):PE X (.BoolOp .And (a::b::rest) pos) (qW ta tb):=by
 intro pins s σ H Q I h
 refine BoolOp_and (thn (ha pins s σ H _ I h) fun v s1 ⟨x,H1,I1,r1,q1⟩=>?_)
 obtain⟨c,rfl,q1⟩:=q1
 cases r1
 refine U22 ?_
 cases c with
 |true=>exact hb pins s1 σ H1 Q I1 q1
 |false=>exact⟨.bl false,H1,I1,rfl,q1⟩
theorem nQ(ha:PE X a ta):PE X (.UnaryOp .Not a pos) (qR ta):=by
 intro pins s σ H Q I h
 refine UnaryOp_ (thn (ha pins s σ H _ I h) fun v s1 ⟨x,H1,I1,r1,q1⟩=>?_)
 obtain⟨c,rfl,q1⟩:=q1
 cases r1
 exact not_of (U22 ⟨.bl (!c),H1,I1,rfl,q1⟩)
def tIf(t:TT)(ta tb:TE):TE:=fun σ H Q=>t σ H fun c H1=>if c=true then ta σ H1 Q else tb σ H1 Q
theorem dF{c:Expr}(hc:PT X c tA)(ha:PE X a ta)(hb:PE X b tb):PE X (.IfExp c a b pos) (tIf tA ta tb):=by
 intro pins s σ H Q I h
 refine wpAny_IfExp (thn (hc pins s σ H _ I h) fun d s1 ⟨H1,I1,q1⟩=>?_)
 cases d with
 |true=>exact ha pins s1 σ H1 Q I1 q1
 |false=>exact hb pins s1 σ H1 Q I1 q1
end
end L2
namespace L2
open PySem PySem.Spec PyProof.Rows
def SqL(K:U0a)(H:Hp)(a:Addr)(xs:List V):Prop :=
 Rd H a (.lst xs) ∨
  ∃(o:Obj)(its:Array Value)(n:Nat),K.lookup a=some o/\o.cls=.type "list"/\o.dict=none/\o.data=.seq its n/\its.size<=sizeLine/\Vals xs its.toList
def SqT(K:U0a)(H:Hp)(a:Addr)(xs:List V):Prop :=
 Rd H a (.tup xs) ∨
  ∃(o:Obj)(its:Array Value)(n:Nat),K.lookup a=some o/\o.cls=.type "tuple"/\o.data=.seq its n/\its.size<=sizeLine/\Vals xs its.toList
def tu:Value->Option V
 |.none=>some .non
 |.bool b=>some (.bl b)
 |.int i _=>some (.int i)
 |.str x _=>some (.str x)
 |.bytes b _=>some (.byt b)
 |.float b _=>some (.flt b)
 |.ref a=>some (.ref a)
 |.type n=>some (.ty n)
 |_=>none
theorem RelV.abs{x:V}{u:Value}(r:RelV x u):tu u=some x:=by
 cases x with
 |non=>cases r;rfl
 |bl _=>cases r;rfl
 |int _=>obtain⟨t,rfl⟩:=r;rfl
 |str _=>obtain⟨t,rfl⟩:=r;rfl
 |byt _=>obtain⟨t,rfl⟩:=r;rfl
 |flt _=>obtain⟨t,rfl⟩:=r;rfl
 |ref _=>cases r;rfl
 |ty _=>cases r;rfl
theorem RelV.inj{x y:V}{u:Value}(r:RelV x u)(q:RelV y u):x=y:=U0w (r.abs.symm.trans q.abs)
theorem Vals.inj:∀{xs ys:List V} {us:List Value},Vals xs us->Vals ys us->xs=ys
 |_,_,_,.nil,.nil=>rfl
 |_,_,_,.cons r t,.cons r' t'=>by rw[r.inj r',Vals.inj t t']
section
variable{X:Cx}{pins:List (Addr×Obj)}{σ:St}{H:Hp}{s:Shared}{a:Addr}{xs ys:List V}
theorem SqL.of{K:U0a}(h:H a=some (.lst xs)):SqL K H a xs:=.inl (.inl h)
theorem SqT.of{K:U0a}(h:H a=some (.tup xs)):SqT K H a xs:=.inl (.inl h)
theorem Inv.list(I:Inv X pins σ H s)(h:SqL X.K H a xs):∃its:List Value,Vals xs its/\PlainL s.heap a its.toArray/\xs.length<=sizeLine:=by
 rcases h with h|⟨o,its,n,hk,hc,hd,hs,hz,r⟩
 .obtain⟨z,its,n,r,e⟩:=h.ok I.hok
  exact⟨its,r,⟨_,n,e,rfl,rfl,rfl⟩,z⟩
 .refine⟨its.toList,r,⟨o,n,I.kIn a o hk,hc,hd,by simpa using hs⟩,?_⟩
  have e:=r.length
  simp only[U1l] at e
  omega
theorem Inv.tuple(I:Inv X pins σ H s)(h:SqT X.K H a xs):∃its:List Value,Vals xs its/\IsTup s.heap a its.toArray/\xs.length<=sizeLine:=by
 rcases h with h|⟨o,its,n,hk,hc,hs,hz,r⟩
 .obtain⟨z,its,r,p⟩:=h.ok I.hok
  exact⟨its,r,p,z⟩
 .refine⟨its.toList,r,⟨o,I.kIn a o hk,hc,n,by simpa using hs⟩,?_⟩
  have e:=r.length
  simp only[U1l] at e
  omega
theorem Inv.dX(I:Inv X pins σ H s)(h:SqL X.K H a xs)(h':SqL X.K H a ys):xs=ys:=by
 obtain⟨its,r,⟨o,n,e,_,_,d⟩,_⟩:=I.list h
 obtain⟨its',r',⟨o',n',e',_,_,d'⟩,_⟩:=I.list h'
 rw[e] at e';cases e'
 rw[d] at d'
 injection d' with d1 _
 have:its=its':=by simpa using congrArg Array.toList d1
 subst this
 exact r.inj r'
theorem Inv.Zn(I:Inv X pins σ H s)(h:SqT X.K H a xs)(h':SqT X.K H a ys):xs=ys:=by
 obtain⟨its,r,⟨o,e,_,n,d⟩,_⟩:=I.tuple h
 obtain⟨its',r',⟨o',e',_,n',d'⟩,_⟩:=I.tuple h'
 rw[e] at e';cases e'
 rw[d] at d'
 injection d' with d1 _
 have:its=its':=by simpa using congrArg Array.toList d1
 subst this
 exact r.inj r'
end
abbrev Cx.wish(X:Cx)(E:Value->Shared->Prop):Cx:={ X with xe:=E }
abbrev Cx.nox(X:Cx):Cx:=X.wish fun _ _=>False
theorem Cx.Ok.wish{X:Cx}(ok:X.Ok)(E:Value->Shared->Prop):(X.wish E).Ok :=
 ⟨ok.mod,ok.kind,ok.glob,ok.blt,ok.above,ok.inj,ok.has,ok.cab,ok.hd,ok.frames,ok.stk,ok.exf,ok.bs,ok.bsz,ok.noex,ok.exfs,ok.Mh,ok.frf,ok.sy⟩
theorem Cx.Ok.LK{X:Cx}{E:Value->Shared->Prop}(ok:(X.wish E).Ok):X.Ok :=
 ⟨ok.mod,ok.kind,ok.glob,ok.blt,ok.above,ok.inj,ok.has,ok.cab,ok.hd,ok.frames,ok.stk,ok.exf,ok.bs,ok.bsz,ok.noex,ok.exfs,ok.Mh,ok.frf,ok.sy⟩
section
variable{X:Cx}{pins:List (Addr×Obj)}{σ:St}{H:Hp}{s:Shared}{E:Value->Shared->Prop}
theorem Inv.wish(I:Inv X pins σ H s)(E:Value->Shared->Prop):Inv (X.wish E) pins σ H s:=⟨I.ok.wish E,I.os,I.bare,I.base,I.loc,I.cell,I.free,I.freeC,I.pin,I.hok,I.len⟩
theorem Inv.LK(I:Inv (X.wish E) pins σ H s):Inv X pins σ H s:=⟨I.ok.LK,I.os,I.bare,I.base,I.loc,I.cell,I.free,I.freeC,I.pin,I.hok,I.len⟩
theorem SP.LK{D:Ends}{f:Flow}{s':Shared}(h:SP (X.wish E) pins D f s'):SP X pins D f s':=by
 cases f with
 |next=>obtain⟨σ',H',I,q⟩:=h;exact⟨σ',H',I.LK,q⟩
 |brk=>obtain⟨σ',H',I,q⟩:=h;exact⟨σ',H',I.LK,q⟩
 |cont=>obtain⟨σ',H',I,q⟩:=h;exact⟨σ',H',I.LK,q⟩
 |ret u=>obtain⟨v,σ',H',I,r,q⟩:=h;exact⟨v,σ',H',I.LK,r,q⟩
theorem PSs.nox{st:List Stmt}{t:TS}(h:PSs X.nox st t):PSs X st t:=fun pins s σ H D I hw =>
 U4t (h pins s σ H D (I.wish _) hw) (fun _ _ q=>q.LK) fun _ _ z=>U3w z
end
section
variable{X:Cx}{st:Stmt}{rest:List Stmt}{t u:TS}{e:Expr}{te:TE}{pos:Pos}
def qT:TS:=fun D σ H=>D.nx σ H
def sX(t u:TS):TS:=fun D σ H=>t { D with nx:=u D } σ H
theorem iw:PSs X [] qT:=fun _ _ σ H _ I h=>U6p ⟨σ,H,I,h⟩
theorem cZ(h1:PS X st t)(h2:PSs X rest u):PSs X (st::rest) (sX t u):=by
 intro pins s σ H D I h
 refine wpAny_execs_cons (thn (h1 pins s σ H { D with nx:=u D } I h) fun f s1 q=>?_)
 cases f with
 |next =>
  obtain⟨σ',H',I',q⟩:=q
  exact h2 pins s1 σ' H' D I' q
 |ret v=>exact q
 |brk=>exact q
 |cont=>exact q
theorem iu(h1:PS X st t):PSs X [st] t:=by
 intro pins s σ H D I h
 refine wpAny_execs_cons (thn (h1 pins s σ H D I h) fun f s1 q=>?_)
 cases f with
 |next=>exact U6p q
 |ret v=>exact q
 |brk=>exact q
 |cont=>exact q
theorem Inv.quiet{pins:List (Addr×Obj)}{σ:St}{H:Hp}{s:Shared}(I:Inv X pins σ H s):interactive X.env=false:=by simp[interactive,I.ok.kind]
def qU(te:TE):TS:=fun D σ H=>te σ H fun _ H1=>D.nx σ H1
theorem j4(he:PE X e te)(hs:swapsWith e none pos.line X.env=pure false:=by rfl):PS X (.Expr e pos) (qU te):=by
 intro pins s σ H D I h
 exact wpAny_Expr_any (thn (he pins s σ H _ I h) fun v s1 ⟨x,H1,I1,r1,q1⟩=>⟨σ,H1,I1,q1⟩) I.quiet hs
def sY(te:TE):TS:=fun D σ H=>te σ H D.rt
theorem nF(he:PE X e te):PS X (.Return (some e) pos) (sY te):=by
 intro pins s σ H D I h
 exact wpAny_Return_some (thn (he pins s σ H _ I h) fun v s1 ⟨x,H1,I1,r1,q1⟩=>⟨x,σ,H1,I1,r1,q1⟩)
def su(c:TT)(t u:TS):TS:=fun D σ H=>c σ H fun b H1=>if b=true then t D σ H1 else u D σ H1
theorem qg{c:Expr}{a b:List Stmt}{tc:TT}(hc:PT X c tc)(ha:PSs X a t)(hb:PSs X b u):PS X (.If c a b pos) (su tc t u):=by
 intro pins s σ H D I h
 refine wpAny_If (thn (hc pins s σ H _ I h) fun d s1 ⟨H1,I1,q1⟩=>?_)
 cases d with
 |true=>exact ha pins s1 σ H1 D I1 q1
 |false=>exact hb pins s1 σ H1 D I1 q1
def mO:TS:=fun _ _ _=>False
theorem cg:PS X st mO:=fun _ _ _ _ _ _ h=>h.elim
end
abbrev TG:=V->St->Hp->(St->Hp->Prop)->Prop
abbrev TGs:=List V->St->Hp->(St->Hp->Prop)->Prop
def PG(X:Cx)(target:Expr)(t:TG):Prop :=
 ∀(pins:List (Addr×Obj))(s:Shared)(σ:St)(H:Hp)(v:V)(u:Value)(Q:St->Hp->Prop),Inv X pins σ H s->RelV v u->t v σ H Q ->
  wpAny (model X.prog X.w) X.A (assign target X.env u) (fun _ s'=>∃σ' H',Inv X pins σ' H' s'/\Q σ' H') X.xe s
def PGs(X:Cx)(ts:List Expr)(t:TGs):Prop :=
 ∀(pins:List (Addr×Obj))(s:Shared)(σ:St)(H:Hp)(vs:List V)(us:List Value)(Q:St->Hp->Prop),Inv X pins σ H s->Vals vs us->t vs σ H Q ->
  wpAny (model X.prog X.w) X.A (assignInOrder ((assignEach ts X.env).map (·.2)) us) (fun _ s'=>∃σ' H',Inv X pins σ' H' s'/\Q σ' H') X.xe s
abbrev bQ:=V->V->V->Hp->(Hp->Prop)->Prop
def mG(X:Cx)(t:bQ):Prop :=
 ∀(pins:List (Addr×Obj))(s:Shared)(σ:St)(H:Hp)(o i v:V)(ov iv u:Value)(Q:Hp->Prop),Inv X pins σ H s->RelV o ov->RelV i iv->RelV v u->t o i v H Q ->
  wpAny (model X.prog X.w) X.A (setItem ov iv u) (fun _ s'=>∃H',Inv X pins σ H' s'/\Q H') X.xe s
section
variable{X:Cx}{pos:Pos}
def VF(i:Nat):TG:=fun v σ H Q=>Q (σ.set i (some v)) H
theorem jA{i:Nat}{x:Str}(hN:X.N.Nodup)(hi:X.N[i]?=some x)(hx:Loc X.env.scope x)(hf:X.fn x=true∨X.env.scope.names.lookup x=some .local:=by first|exact .inl rfl|exact .inr rfl|assumption):PG X (.Name x pos) (VF i):=by
 intro pins s σ H v u Q I r h
 exact wpAny_assign_Name (Vs I hN hi hx r (fun s' I'=>⟨_,H,I',h⟩) hf)
def bN:TGs:=fun vs σ H Q=>vs=[]/\Q σ H
def Yl(t:TG)(u:TGs):TGs:=fun vs σ H Q=>∃v r,vs=v::r/\t v σ H fun σ' H'=>u r σ' H' Q
theorem j9:PGs X [] bN:=by
 intro pins s σ H vs us Q I r h
 obtain⟨e,h⟩:=h
 subst e
 cases r
 exact assignInOrder_nil ⟨σ,H,I,h⟩
theorem d9{e:Expr}{es:List Expr}{t:TG}{u:TGs}(h1:PG X e t)(h2:PGs X es u)
  (hs:(assignEach (e::es) X.env).map (·.2)=assign e X.env::(assignEach es X.env).map (·.2):=by rfl):PGs X (e::es) (Yl t u):=by
 intro pins s σ H vs us Q I r h
 obtain⟨v,vr,e1,h⟩:=h
 subst e1
 cases r with
 |cons r rr =>
  rw[hs]
  refine assignInOrder_cons (thn (h1 pins s σ H _ _ _ I r h) fun _ s1 ⟨σ1,H1,I1,q1⟩=>?_)
  exact h2 pins s1 σ1 H1 _ _ Q I1 rr q1
def bM(K:U0a)(n:Nat)(t:TGs):TG:=fun v σ H Q=>∃a xs,v=.ref a/\SqT K H a xs/\xs.length=n/\t xs σ H Q
theorem nJ{es:List Expr}{k:Nat}{t:TGs}{n:Nat}(hc:X.calm=true)(h:PGs X es t)
  (hn:(assignEach es X.env).length=n:=by rfl) (hst:(assignEach es X.env).findIdx? (·.1)=none:=by rfl):PG X (.Tuple es k pos) (bM X.K n t):=by
 intro pins s σ H v u Q I r hw
 obtain⟨a,xs,e1,hq,hl,hw⟩:=hw
 subst e1
 cases r
 obtain⟨its,rv,ht,hz⟩:=I.tuple hq
 refine assign_Tuple_tuple (I.ok.hd hc) ht (by simp[hn,←hl,rv.length]) hst fun h' hx=>?_
 have I1:Inv X pins σ H { s with heap:=h' }:=I.kept (t':=s.toks) fun b o e=>hx b o (U0q (U0k e)) e
 exact h pins _ σ H xs _ Q I1 (by simpa using rv) hw
def tX(to ti:TE)(t:bQ):TG:=fun v σ H Q=>to σ H fun o H1=>ti σ H1 fun i H2=>t o i v H2 fun H3=>Q σ H3
theorem nM{o i:Expr}{to ti:TE}{t:bQ}(ho:PE X o to)(hi:PE X i ti)(hs:mG X t)
  (ha:∀v,assign (.Subscript o i pos) X.env v=(do
   let ov ←holding [v] (eval o X.env)
   let iv ←holding [v,ov] (eval i X.env)
   standAt pos
   holding [v,ov,iv] (setItem ov iv v)
   release [v,ov,iv] []):=by intro _;rfl):PG X (.Subscript o i pos) (tX to ti t):=by
 intro pins s σ H v u Q I r h
 rw[ha]
 refine U0 (U1z (thn (ho pins s σ H _ I h) fun ov s1 ⟨x,H1,I1,r1,q1⟩=>?_))
 refine U0 (U1z (thn (hi pins s1 σ H1 _ I1 q1) fun iv s2 ⟨y,H2,I2,r2,q2⟩=>?_))
 refine U0 (wpAny_standAt (U0 (U1z (thn (hs pins s2 σ H2 x y v ov iv u _ I2 r1 r2 r q2) fun _ s3 ⟨H3,I3,q3⟩=>?_))))
 exact wpAny_release ⟨σ,H3,I3,q3⟩
def lH(te:TE)(g:TG):TS:=fun D σ H=>te σ H fun x H1=>g x σ H1 D.nx
theorem ZP{tg e:Expr}{te:TE}{g:TG}(he:PE X e te)(hg:PG X tg g)(hs:swapsWithSole [tg] e pos.line X.env=pure false:=by rfl)(hw:swappedStores [tg] e X.env=pure none:=by rfl)
  (h1:(assignEach [tg] X.env).map (·.2)=[assign tg X.env]:=by rfl):PS X (.Assign [tg] e pos) (lH te g):=by
 intro pins s σ H D I h
 refine wpAny_Assign_stores (thn (he pins s σ H _ I h) fun v s1 ⟨x,H1,I1,r1,q1⟩=>?_) hs hw
 rw[h1]
 exact thn (hg pins s1 σ H1 x v _ I1 r1 q1) fun _ s2 q=>q
theorem nA{i:Nat}{x:Str}{e:Expr}{te:TE}{pos':Pos}(hN:X.N.Nodup)(hi:X.N[i]?=some x)(hx:Loc X.env.scope x)(he:PE X e te)(hs:swapsWith e (some (.Name x pos')) pos.line X.env=pure false:=by rfl)(hf:X.fn x=true∨X.env.scope.names.lookup x=some .local:=by first|exact .inl rfl|exact .inr rfl|assumption) :
  PS X (.Assign [.Name x pos'] e pos) (lH te (VF i)):=by
 intro pins s σ H D I h
 refine wpAny_Assign_Name (thn (he pins s σ H _ I h) fun v s1 ⟨y,H1,I1,r1,q1⟩=>?_) hs
 exact Vs I1 hN hi hx r1 (fun s2 I2=>⟨_,H1,I2,q1⟩) hf
end
section
variable{X:Cx}{pos:Pos}
end
structure It where
 go:Nat->Hp->Prop
 yld:Nat->Hp->V->Hp->Prop
 stop:Nat->Hp->Prop
def Nz(X:Cx)(pins:List (Addr×Obj))(H:Hp)(b:Addr):Prop :=
 H b=none/\b≠X.env.locals/\b ∉ X.fs/\(b∈X.ex∨X.s₀.heap.objs.size<=b)/\(∀x c,X.env.cells.lookup x=some c->c≠b)/\∀p∈X.pn++pins,p.1≠b
theorem Inv.YM{X:Cx}{pins:List (Addr×Obj)}{σ:St}{H H':Hp}{s:Shared}{b:Addr}(I:Inv X pins σ H s)(hb:s.heap.objs.size<=b)(hn:H' b=none):Nz X pins H' b:=by
 refine⟨hn,U1o (U0n I.lt hb),I.bJ hb,.inr (U02 I.sz hb),fun x c e z=>?_,fun p hp z=>?_⟩
 .obtain⟨v,q⟩:=I.cell x c e
  exact absurd (U0n q.lt (by rw[z];exact hb)) (U28 _)
 .exact absurd (U0n (U0k (I.pin p hp).1) (by rw[z];exact hb)) (U28 _)
structure Turn(P:Program)(w:World)(K:U0a)(tg:Expr)(J:It)(fp:List Addr)(it:Addr)(tn:Nat->Heap->Prop):Prop where
 mem:it∈fp
 obj:∀i h,tn i h->∀b∈fp,∃o,h.get? b=some o/\∀v,o.data≠.cell v
 keep:∀i h h',tn i h->(∀b∈fp,∀o,h.get? b=some o->h'.get? b=some o)->tn i h'
 item:∀(X:Cx),X.prog=P->X.w=w->X.K=K->X.calm=true->∀(i:Nat)(pins:List (Addr×Obj))(s:Shared)(σ:St)(H:Hp)(E:Value->Shared->Prop),Inv X pins σ H s->(∀b∈fp,Nz X pins H b)->tn i s.heap->J.go i H ->
  wpAny (model P w) X.A (pyNext (.ref it)) (fun r s1=>∃u,r=some u /\
   wpAny (model P w) X.A (letOwnedTupleGo tg (.ref it) u) (fun _ s2=>∃x H',Inv X pins σ H' s2/\RelV x u/\J.yld i H x H'/\tn (i+1) s2.heap/\∀b∈fp,H' b=none) E s1) E s
 done:∀(X:Cx),X.prog=P->X.w=w->X.K=K->X.calm=true->∀(i:Nat)(pins:List (Addr×Obj))(s:Shared)(σ:St)(H:Hp)(E:Value->Shared->Prop),Inv X pins σ H s->(∀b∈fp,Nz X pins H b)->tn i s.heap->J.stop i H ->
  wpAny (model P w) X.A (pyNext (.ref it)) (fun r s1=>r=none/\Inv X pins σ H s1) E s
 self:∀(A:Around)(i:Nat)(s:Shared)(Q:Value->Shared->Prop)(E:Value->Shared->Prop),tn i s.heap->Q (.ref it) s->wpAny (model P w) A (pyIter (.ref it)) Q E s
abbrev TI:=St->Hp->(It->Hp->Prop)->Prop
def PIE(X:Cx)(pins:List (Addr×Obj))(σ:St)(tg:Expr)(R:It->Hp->Prop)(itv:Value)(s2:Shared):Prop :=
 ∃(it:Addr)(fp:List Addr)(tn:Nat->Heap->Prop)(J:It)(H':Hp),itv=.ref it/\Inv X pins σ H' s2/\Turn X.prog X.w X.K tg J fp it tn/\tn 0 s2.heap/\(∀b∈fp,Nz X pins H' b)/\R J H'
def PI(X:Cx)(tg iter:Expr)(wi:TI):Prop :=
 ∀(pins:List (Addr×Obj))(s:Shared)(σ:St)(H:Hp)(R:It->Hp->Prop),Inv X pins σ H s->wi σ H R ->
  wpAny (model X.prog X.w) X.A (eval iter X.env) (fun v s1=>wpAny (model X.prog X.w) X.A (pyIter v) (PIE X pins σ tg R) X.xe s1) X.xe s
theorem Yk{M:Model}{A:Around}{E:Value->Shared->Prop}{s:Shared}{tg:Expr}{it:Addr}{u:Value}{o:Obj}{n:String}{vs:Array Value}{Q:Unit->Shared->Prop}(ho:s.heap.get? it=some o)(hc:o.cls=.type n)(hd:o.data=.fields vs)
  (hn:["enumerate","zip","dict_itemiterator","dict_reverseitemiterator","odict_iterator","itertools.zip_longest","itertools.pairwise"].contains n=false) (hQ:Q () s):wpAny M A (letOwnedTupleGo tg (.ref it) u) Q E s:=by
 unfold letOwnedTupleGo
 cases tg<;>first
  |exact U0c hQ
  |(cases u<;>first
    |exact U0c hQ
    |(refine U0 (wpAny_load ho ?_)
      rw[hc,hd]
      show wpAny M A (if (["enumerate","zip","dict_itemiterator","dict_reverseitemiterator","odict_iterator","itertools.zip_longest","itertools.pairwise"].contains n&&vs[0]?==some (rawInt _))=true then _ else _) Q E s
      rw[if_neg (by intro h;rw[hn,U6w] at h;cases h)]
      exact U0c hQ))
def Itl(K:U0a)(a:Addr):It :=
 ⟨fun i H=>∃xs x,SqL K H a xs/\xs[i]?=some x,fun i H x H'=>H'=H/\∀xs,SqL K H a xs->xs[i]?=some x,fun i H=>∃xs,SqL K H a xs/\xs.length<=i⟩
def Itt(K:U0a)(a:Addr):It :=
 ⟨fun i H=>∃xs x,SqT K H a xs/\xs[i]?=some x,fun i H x H'=>H'=H/\∀xs,SqT K H a xs->xs[i]?=some x,fun i H=>∃xs,SqT K H a xs/\xs.length<=i⟩
def Itr(lo:Int)(n:Nat):It:=⟨fun i _=>i<n,fun i H x H'=>H'=H/\x=.int (lo+i),fun i _=>n<=i⟩
theorem Zm{P:Program}{w:World}{K:U0a}{tg:Expr}(a it:Addr):Turn P w K tg (Itl K a) [it] it (fun i h=>h.IsListIter it a i) where
 mem:=by simp
 obj:=fun i h st b hb=>by
  have e:b=it:=by simpa using hb
  subst e
  obtain⟨o,e,c,d⟩:=st
  exact⟨o,e,fun v z=>by rw[d] at z;cases z⟩
 keep:=fun i h h' st k=>st.at fun o e=>k it (by simp) o e
 item:=by
  intro X hP hw hK hc i pins s σ H E I hf st hg
  subst hP hw hK
  obtain⟨xs,x,hq,hx⟩:=hg
  obtain⟨its,rv,p,hz⟩:=I.list hq
  obtain⟨u,hu,ru⟩:=rv.get hx
  obtain⟨f0,f1,f2,f3,f4,f5⟩:=hf it (by simp)
  refine wpAny_pyNext_list_item st p.isList (x:=u) (by simpa using hu) fun h' st' sb=>?_
  have I1:Inv X pins σ H { s with heap:=h' }:=I.turned (t':=s.toks) (fun b o hb e=>(sb.2 b hb).trans e) f0 f1 f3 f4 f5
  obtain⟨o,e,c,d⟩:=id st'
  exact⟨u,rfl,Yk (s:={ s with heap:=h' }) e c d (by decide) ⟨x,H,I1,ru,⟨rfl,fun ys hy=>by rw[I.dX hy hq];exact hx⟩,st',fun b hb=>(hf b hb).1⟩⟩
 done:=by
  intro X hP hw hK hc i pins s σ H E I hf st hg
  subst hP hw hK
  obtain⟨xs,hq,hx⟩:=hg
  obtain⟨its,rv,p,hz⟩:=I.list hq
  obtain⟨f0,f1,f2,f3,f4,f5⟩:=hf it (by simp)
  have hl:=rv.length
  exact wpAny_pyNext_list_end (I.ok.hd hc) st p.isList (by simp;omega) fun h' eb=>⟨rfl,I.turned (t':=s.toks) (fun b o hb e=>eb b o hb e) f0 f1 f3 f4 f5⟩
 self:=fun _ _ _ _ _ st h=>wpAny_pyIter_listiter st h
theorem Ym{P:Program}{w:World}{K:U0a}{tg:Expr}(a it:Addr):Turn P w K tg (Itt K a) [it] it (fun i h=>h.IsTupleIter it a i) where
 mem:=by simp
 obj:=fun i h st b hb=>by
  have e:b=it:=by simpa using hb
  subst e
  obtain⟨o,e,c,d⟩:=st
  exact⟨o,e,fun v z=>by rw[d] at z;cases z⟩
 keep:=fun i h h' st k=>st.at fun o e=>k it (by simp) o e
 item:=by
  intro X hP hw hK hc i pins s σ H E I hf st hg
  subst hP hw hK
  obtain⟨xs,x,hq,hx⟩:=hg
  obtain⟨its,rv,p,hz⟩:=I.tuple hq
  obtain⟨u,hu,ru⟩:=rv.get hx
  obtain⟨f0,f1,f2,f3,f4,f5⟩:=hf it (by simp)
  refine wpAny_pyNext_tuple_item st (show s.heap.IsTuple a its.toArray from p) (x:=u) (by simpa using hu) fun h' st' sb=>?_
  have I1:Inv X pins σ H { s with heap:=h' }:=I.turned (t':=s.toks) (fun b o hb e=>(sb.2 b hb).trans e) f0 f1 f3 f4 f5
  obtain⟨o,e,c,d⟩:=id st'
  exact⟨u,rfl,Yk (s:={ s with heap:=h' }) e c d (by decide) ⟨x,H,I1,ru,⟨rfl,fun ys hy=>by rw[I.Zn hy hq];exact hx⟩,st',fun b hb=>(hf b hb).1⟩⟩
 done:=by
  intro X hP hw hK hc i pins s σ H E I hf st hg
  subst hP hw hK
  obtain⟨xs,hq,hx⟩:=hg
  obtain⟨its,rv,p,hz⟩:=I.tuple hq
  obtain⟨f0,f1,f2,f3,f4,f5⟩:=hf it (by simp)
  have hl:=rv.length
  exact wpAny_pyNext_tuple_end (I.ok.hd hc) st (show s.heap.IsTuple a its.toArray from p) (by simp;omega) fun h' eb=>⟨rfl,I.turned (t':=s.toks) (fun b o hb e=>eb b o hb e) f0 f1 f3 f4 f5⟩
 self:=fun _ _ _ _ _ st h=>wpAny_pyIter_tupleiter st h
theorem Yn{P:Program}{w:World}{K:U0a}{tg:Expr}(it:Addr)(lo:Int)(n:Nat):Turn P w K tg (Itr lo n) [it] it (fun i h=>IsRangeIter h it (lo+(i:Nat)*1) ((n:Int)-(i:Nat)) 1) where
 mem:=by simp
 obj:=fun i h st b hb=>by
  have e:b=it:=by simpa using hb
  subst e
  exact⟨_,st,fun v z=>by
   have z':Data.fields _=Data.cell v:=z
   cases z'⟩
 keep:=fun i h h' st k=>k it (by simp) _ st
 item:=by
  intro X hP hw hK hc i pins s σ H E I hf st hg
  subst hP hw hK
  obtain⟨f0,f1,f2,f3,f4,f5⟩:=hf it (by simp)
  have W:=Walks.range (prog:=X.prog) (w:=X.w) (I.ok.hd hc) it lo 1 n
  refine W.item i s _ _ hg st fun v h' tk hv st' kk=>?_
  obtain⟨t,rfl⟩:=hv
  have I1:Inv X pins σ H { s with heap:=h',toks:=tk }:=I.turned (fun b o hb e=>kk b o (by simpa using hb) e) f0 f1 f3 f4 f5
  refine⟨_,rfl,Yk (s:={ s with heap:=h',toks:=tk }) (n:="range_iterator") st' rfl rfl (by decide) ⟨.int (lo+i),H,I1,⟨t,?_⟩,⟨rfl,rfl⟩,st',fun b hb=>(hf b hb).1⟩⟩
  rw[Int.mul_one]
 done:=by
  intro X hP hw hK hc i pins s σ H E I hf st hg
  subst hP hw hK
  obtain⟨f0,f1,f2,f3,f4,f5⟩:=hf it (by simp)
  exact wpAny_pyNext_range_end (I.ok.hd hc) st (by have:n<=i:=hg;omega) fun h' eb=>⟨rfl,I.turned (t':=s.toks) (fun b o hb e=>eb b o hb e) f0 f1 f3 f4 f5⟩
 self:=fun _ _ _ _ _ st h=>wpAny_pyIter_rangeiter st h
end L2
namespace L2
open PySem PySem.Spec PyProof.Rows
section
variable{X:Cx}{tg:Expr}
theorem cV{pins:List (Addr×Obj)}{σ:St}{H:Hp}{s:Shared}{R:It->Hp->Prop}{E:Value->Shared->Prop}{lo hi:Int}{t u v:Tok}{tk:Nat}(I:Inv X pins σ H s)(h1:-(2^62)<=lo)(h2:lo<2^62)(h3:-(2^62)<=hi)(h4:hi<2^62)
  (q:R (Itr lo (hi-lo).toNat) H):wpAny (model X.prog X.w) X.A (pyIter (.ref s.heap.objs.size)) (PIE X pins σ tg R) E { s with heap:=s.heap.push { cls:=.type "range",data:=.fields #[.int lo t,.int hi u,.int 1 v] },toks:=tk }:=by
 refine wpAny_pyIter_range (IsRange.new ..) (small_one h1 h2 h3 h4) ?_
 have I1:Inv X pins σ H { s with heap:=s.heap.push { cls:=.type "range",data:=.fields #[.int lo t,.int hi u,.int 1 v] },toks:=tk }:=I.kept fun b o e=>U0b _ e
 refine⟨(s.heap.push { cls:=.type "range",data:=.fields #[.int lo t,.int hi u,.int 1 v] }).objs.size,[(s.heap.push { cls:=.type "range",data:=.fields #[.int lo t,.int hi u,.int 1 v] }).objs.size],_,_,H,rfl,
  I1.kept (t':=tk) fun b o e=>U0b _ e,Yn _ lo (hi-lo).toNat,?_,fun b hb=>?_,q⟩
 .have e1:lo+((0:Nat):Int)*1=lo:=by simp
  have e2:(((hi-lo).toNat:Nat):Int)-((0:Nat):Int)=Builtin.Range.rangeSize lo hi 1:=by rw[rangeSize_one];split<;>omega
  show IsRangeIter _ _ (lo+((0:Nat):Int)*1) ((((hi-lo).toNat:Nat):Int)-((0:Nat):Int)) 1
  rw[e1,e2]
  exact U0p _ rfl
 .have e:b=(s.heap.push { cls:=.type "range",data:=.fields #[.int lo t,.int hi u,.int 1 v] }).objs.size:=by simpa using hb
  subst e
  exact I1.YM (U0m _) (I1.hok.fresh (U0m _))
def rM(ta:TA):TI:=fun σ H R=>ta σ H fun vs H1=>∃j:Int,vs=[.int j]/\-(2^62)<=j/\j<2^62/\R (Itr 0 j.toNat) H1
theorem aD{a:Expr}{ta:TA}{p pos:Pos}(hg:Gl X "range")(hm:X.mg "range"=none)(ha:PA X [a] ta)(hs:starEach [a] X.env=[(false,eval a X.env)]:=by rfl):PI X tg (.Call (.Name "range" p) [a] [] pos) (rM ta):=by
 intro pins s σ H R I h
 refine Call_ (Ms I hg hm boot_range (U23 (thn (ha pos pins s σ H _ I h) fun us s1 ⟨vs,H1,I1,r1,q1⟩=>?_) hs rfl))
 obtain⟨j,e,q1,q2,q⟩:=q1
 subst e
 cases r1 with
 |cons r rr =>
  cases rr
  obtain⟨t,rfl⟩:=r
  exact call_range_1 (cV I1 (by omega) (by omega) q1 q2 (by simpa using q))
def tD(wi:TI)(g:TG)(tb:TS):TS:=fun D σ H=>wi σ H fun J H1=>∃W:Nat->Nat->St->Hp->Prop,(∃m,W 0 m σ H1)/\∀i m σ H,W i m σ H ->
 (J.stop i H/\D.nx σ H)∨(J.go i H/\∃N:St->Hp->Prop,(∀σ' H',N σ' H'->∃m',m'<m/\W (i+1) m' σ' H')/\∀x H',J.yld i H x H'->g x σ H' fun σ2 H2=>tb { D with nx:=N,ct:=N,bk:=D.nx } σ2 H2)
def LQ(fp:List Addr)(h:Heap):List (Addr×Obj):=fp.filterMap fun b=>(h.get? b).map fun o=>(b,o)
theorem M4{fp:List Addr}{h:Heap}{b:Addr}{o:Obj}(hb:b∈fp)(e:h.get? b=some o):(b,o)∈LQ fp h:=List.mem_filterMap.mpr ⟨b,hb,by rw[e];rfl⟩
theorem Ui{fp:List Addr}{h:Heap}{p:Addr×Obj}(hp:p∈LQ fp h):p.1∈fp/\h.get? p.1=some p.2:=by
 obtain⟨b,hb,e⟩:=List.mem_filterMap.mp hp
 cases q:h.get? b with
 |none=>rw[q] at e;cases e
 |some o =>
  rw[q] at e
  have e':(b,o)=p:=U0w e
  subst e'
  exact⟨hb,q⟩
theorem Inv.pinned{pins:List (Addr×Obj)}{σ:St}{H:Hp}{s:Shared}{fp:List Addr}(I:Inv X pins σ H s)(hf:∀b∈fp,Nz X pins H b)(ho:∀b∈fp,∃o,s.heap.get? b=some o/\∀v,o.data≠.cell v):Inv X (pins++LQ fp s.heap) σ H s :=
 I.Ql fun p hp=>(U1k.mp hp).elim (fun z=>I.pin p (U1g _ z)) fun z=>by
  obtain⟨hb,e⟩:=Ui z
  obtain⟨f0,f1,f2,_⟩:=hf p.1 hb
  obtain⟨o,e',d⟩:=ho p.1 hb
  rw[e] at e';cases e'
  exact⟨e,f0,f1,f2,d⟩
theorem Inv.Ol{pins pl:List (Addr×Obj)}{σ:St}{H:Hp}{s:Shared}(I:Inv X (pins++pl) σ H s):Inv X pins σ H s:=I.Ql fun p hp=>I.pin p (U1g _ (U3v _ hp))
theorem nG{iter:Expr}{body:List Stmt}{wi:TI}{g:TG}{tb:TS}{pos:Pos}(hp:PassesOwn (model X.prog X.w) X.A X.env X.xe)(hc:X.calm=true)(hi:PI X tg iter wi)(hg:PG X tg g)(hb:PSs X body tb)
  (hs:∀x,foldedSetIterable iter X.env x=pure x:=by intro _;rfl):PS X (.For tg iter body [] pos) (tD wi g tb):=by
 intro pins s σ H D I h
 refine wpAny_For (thn (hi pins s σ H _ I h) fun v s1 h1=>thn h1 fun itv s2 h2=>?_) hs
 obtain⟨it,fp,tn,J,H2,e,I2,T,st2,f2,W,⟨m0,w0⟩,turn⟩:=h2
 subst e
 -- what stays true of the iterator's objects through the loop
 have stat:∀{H':Hp},(∀b∈fp,H' b=none)->∀b∈fp,Nz X pins H' b:=fun hn b hb=>⟨hn b hb,(f2 b hb).2⟩
 refine codeAny_forLoop_any (fun n s'=>∃i σ' H',Inv X pins σ' H' s'/\tn i s'.heap/\(∀b∈fp,H' b=none)/\W i n σ' H') ?_ m0 ⟨0,σ,H2,I2,st2,fun b hb=>(f2 b hb).1,w0⟩
 rintro n s3 ⟨i,σ3,H3,I3,st3,fr3,w3⟩
 rcases turn i n σ3 H3 w3 with ⟨stop,qn⟩|⟨go,N,hN,step⟩
 .refine U43 hp (thn (T.done X rfl rfl rfl hc i pins s3 σ3 H3 X.xe I3 (stat fr3) st3 stop) fun r s4 ⟨hr,I4⟩=>?_)
  subst hr
  exact U6p ⟨σ3,H3,I4,qn⟩
 .refine U43 hp (thn (T.item X rfl rfl rfl hc i pins s3 σ3 H3 X.xe I3 (stat fr3) st3 go) fun r s4 ⟨u,hr,h4⟩=>?_)
  subst hr
  refine U43 hp (thn h4 fun _ s5 ⟨x,H5,I5,r5,y5,st5,fr5⟩=>?_)
  have I5':=I5.pinned (stat fr5) (T.obj _ _ st5)
  refine U43 hp (thn (hg _ s5 σ3 H5 x u _ I5' r5 (step x H5 y5)) fun _ s6 ⟨σ6,H6,I6,q6⟩=>?_)
  refine U43 hp (thn (hb _ s6 σ6 H6 _ I6 q6) fun f s7 q7=>?_)
  have again:∀{σ7:St} {H7:Hp},Inv X (pins++LQ fp s5.heap) σ7 H7 s7->N σ7 H7->∃m,m<n/\∃i σ' H',Inv X pins σ' H' s7/\tn i s7.heap/\(∀b∈fp,H' b=none)/\W i m σ' H':=fun {σ7 H7} I7 n7=>by
   obtain⟨m',hm,w7⟩:=hN σ7 H7 n7
   refine⟨m',hm,i+1,σ7,H7,I7.Ol,T.keep _ _ _ st5 fun b hb o e=>(I7.pin (b,o) (U1g _ (U1g _ (M4 hb e)))).1,fun b hb=>?_,w7⟩
   obtain⟨o,e,d⟩:=T.obj _ _ st5 b hb
   exact(I7.pin (b,o) (U1g _ (U1g _ (M4 hb e)))).2.1
  cases f with
  |next=>obtain⟨σ7,H7,I7,n7⟩:=q7;exact again I7 n7
  |cont=>obtain⟨σ7,H7,I7,n7⟩:=q7;exact again I7 n7
  |brk=>obtain⟨σ7,H7,I7,q7⟩:=q7;exact⟨σ7,H7,I7.Ol,q7⟩
  |ret v=>obtain⟨x7,σ7,H7,I7,r7,q7⟩:=q7;exact⟨x7,σ7,H7,I7.Ol,r7,q7⟩
end
end L2
namespace L2
open PySem PySem.Spec PyProof.Rows
abbrev R2:=V->V->Hp->VK->Prop
def OpR(X:Cx)(f:Value->Value->Sem Value)(r:R2):Prop :=
 ∀(pins:List (Addr×Obj))(s:Shared)(σ:St)(H:Hp)(x y:V)(v u:Value)(Q:VK),Inv X pins σ H s->RelV x v->RelV y u->r x y H Q ->
  wpAny (model X.prog X.w) X.A (f v u) (EP X pins σ Q) X.xe s
def UnR(X:Cx)(f:Value->Sem Value)(r:V->Hp->VK->Prop):Prop :=
 ∀(pins:List (Addr×Obj))(s:Shared)(σ:St)(H:Hp)(x:V)(v:Value)(Q:VK),Inv X pins σ H s->RelV x v->r x H Q ->
  wpAny (model X.prog X.w) X.A (f v) (EP X pins σ Q) X.xe s
def Dr(X:Cx)(f:Value)(r:List V->Hp->VK->Prop):Prop :=
 ∀(pins:List (Addr×Obj))(s:Shared)(σ:St)(H:Hp)(xs:List V)(us:List Value)(Q:VK),Inv X pins σ H s->Vals xs us->r xs H Q ->
  wpAny (model X.prog X.w) X.A (call f us) (EP X pins σ Q) X.xe s
def tOp(r:R2)(ta tb:TE):TE:=fun σ H Q=>ta σ H fun x H1=>tb σ H1 fun y H2=>r x y H2 Q
def tUn(r:V->Hp->VK->Prop)(ta:TE):TE:=fun σ H Q=>ta σ H fun x H1=>r x H1 Q
def rI(C:Int->Int->Prop)(g:Int->Int->V):R2:=fun x y H Q=>∃i j,x=.int i/\y=.int j/\C i j/\Q (g i j) H
def rI0(g:Int->Int->V):R2:=fun x y H Q=>∃i j,x=.int i/\y=.int j/\Q (g i j) H
def rU(g:Int->V):V->Hp->VK->Prop:=fun x H Q=>∃i,x=.int i/\Q (g i) H
section
variable{X:Cx}{a b c:Expr}{ta tb tc:TE}{pos:Pos}
theorem YT(ha:PE X a ta)(hb:PE X b tb){pins:List (Addr×Obj)}{s:Shared}{σ:St}{H:Hp}{R:V->V->Hp->Prop}(I:Inv X pins σ H s)
  (h:ta σ H fun x H1=>tb σ H1 fun y H2=>R x y H2) {Q:Value->Shared->Prop} {f:Value->Value->Sem Value}
  (hf:∀v u s2 x y H2,Inv X pins σ H2 s2->RelV x v->RelV y u->R x y H2->wpAny (model X.prog X.w) X.A (f v u) Q X.xe s2) :
  wpAny (model X.prog X.w) X.A (eval a X.env) (fun v s₁=>wpAny (model X.prog X.w) X.A (eval b X.env) (fun u s₂=>wpAny (model X.prog X.w) X.A (f v u) Q X.xe s₂) X.xe s₁) X.xe s:=by
 refine thn (ha pins s σ H _ I h) fun v s1 ⟨x,H1,I1,r1,q1⟩=>?_
 refine thn (hb pins s1 σ H1 _ I1 q1) fun u s2 ⟨y,H2,I2,r2,q2⟩=>?_
 exact hf v u s2 x y H2 I2 r1 r2 q2
theorem qm{op:Operator}{r:R2}(ho:OpR X (binaryOp op) r)(ha:PE X a ta)(hb:PE X b tb):PE X (.BinOp a op b pos) (tOp r ta tb):=by
 intro pins s σ H Q I h
 exact wpAny_BinOp (YT ha hb I h fun v u s2 x y H2 I2 rx ry q=>ho pins s2 σ H2 x y v u Q I2 rx ry q)
theorem qj{op:UnaryOp}{r:V->Hp->VK->Prop}(ho:UnR X (unaryOp op) r)(ha:PE X a ta):PE X (.UnaryOp op a pos) (tUn r ta):=by
 intro pins s σ H Q I h
 exact UnaryOp_ (thn (ha pins s σ H _ I h) fun v s1 ⟨x,H1,I1,r1,q1⟩=>ho pins s1 σ H1 x v Q I1 r1 q1)
theorem opI{f:Value->Value->Sem Value}{C:Int->Int->Prop}{g:Int->Int->Int}
  (rule:∀(i j:Int)(t u:Tok)(s:Shared)(Q:Value->Shared->Prop)(E:Value->Shared->Prop),C i j->Q (.int (g i j) s.toks) { s with toks:=s.toks+1 }->wpAny (model X.prog X.w) X.A (f (.int i t) (.int j u)) Q E s) :
  OpR X f (rI C fun i j=>.int (g i j)):=by
 intro pins s σ H x y v u Q I rx ry h
 obtain⟨i,j,rfl,rfl,hc,q⟩:=h
 obtain⟨t,rfl⟩:=rx
 obtain⟨t',rfl⟩:=ry
 exact rule i j t t' s _ _ hc ⟨.int (g i j),H,I.tok _,⟨_,rfl⟩,q⟩
theorem m6{f:Value->Value->Sem Value}{g:Int->Int->Int}
  (rule:∀(i j:Int)(t u:Tok)(s:Shared)(Q:Value->Shared->Prop)(E:Value->Shared->Prop),Q (.int (g i j) s.toks) { s with toks:=s.toks+1 }->wpAny (model X.prog X.w) X.A (f (.int i t) (.int j u)) Q E s) :
  OpR X f (rI0 fun i j=>.int (g i j)):=by
 intro pins s σ H x y v u Q I rx ry h
 obtain⟨i,j,rfl,rfl,q⟩:=h
 obtain⟨t,rfl⟩:=rx
 obtain⟨t',rfl⟩:=ry
 exact rule i j t t' s _ _ ⟨.int (g i j),H,I.tok _,⟨_,rfl⟩,q⟩
theorem YK{f:Value->Value->Sem Value}{g:Int->Int->Bool}
  (rule:∀(i j:Int)(t u:Tok)(s:Shared)(Q:Value->Shared->Prop)(E:Value->Shared->Prop),Q (.bool (g i j)) s->wpAny (model X.prog X.w) X.A (f (.int i t) (.int j u)) Q E s) :
  OpR X f (rI0 fun i j=>.bl (g i j)):=by
 intro pins s σ H x y v u Q I rx ry h
 obtain⟨i,j,rfl,rfl,q⟩:=h
 obtain⟨t,rfl⟩:=rx
 obtain⟨t',rfl⟩:=ry
 exact rule i j t t' s _ _ ⟨.bl (g i j),H,I,rfl,q⟩
def bV(i j:Int):Prop:=0<=j/\j<=1000000/\i.natAbs<2^64
def Vc(i j:Int):Prop:=(-(2^64)<i/\i<2^64)∨(-(2^64)<j/\j<2^64)
theorem Vc.ok{i j:Int}(h:Vc i j):IntMulOk i j:=by
 rcases h with ⟨h1,h2⟩|⟨h1,h2⟩
 .exact .of_left (intBits_le_64 h1 h2)
 .exact .of_right (intBits_le_64 h1 h2)
theorem o7:OpR X (binaryOp .Add) (rI0 fun i j=>.int (i+j)):=m6 fun _ _ _ _ _ _ _ q=>add_int q
theorem Ik:OpR X (binaryOp .Sub) (rI0 fun i j=>.int (i-j)):=m6 fun _ _ _ _ _ _ _ q=>sub_int q
theorem nZ:OpR X (binaryOp .Mult) (rI Vc fun i j=>.int (i*j)):=opI fun _ _ _ _ _ _ _ hc q=>mul_int q hc.ok
theorem Mr:OpR X (binaryOp .Mod) (rI (fun _ j=>0<j) fun i j=>.int (i%j)):=opI fun i j _ _ _ _ _ hc q=>by
 have h1:(0:Int)<j:=hc
 exact mod_int' (by omega) (by rw[Int.fmod_eq_emod_of_nonneg i (by omega)];exact q)
theorem K1:OpR X (binaryOp .Pow) (rI bV fun i j=>.int (i^j.toNat)):=opI fun _ _ _ _ _ _ _ hc q=>pow_int_small hc.1 hc.2.1 hc.2.2 q
theorem unI{f:Value->Sem Value}{g:Int->Int}
  (rule:∀(i:Int)(t:Tok)(s:Shared)(Q:Value->Shared->Prop)(E:Value->Shared->Prop),Q (.int (g i) s.toks) { s with toks:=s.toks+1 }->wpAny (model X.prog X.w) X.A (f (.int i t)) Q E s) :
  UnR X f (rU fun i=>.int (g i)):=by
 intro pins s σ H x v Q I rx h
 obtain⟨i,rfl,q⟩:=h
 obtain⟨t,rfl⟩:=rx
 exact rule i t s _ _ ⟨.int (g i),H,I.tok _,⟨_,rfl⟩,q⟩
theorem JZ:UnR X (unaryOp .USub) (rU fun i=>.int (-i)):=unI fun _ _ _ _ _ q=>neg_int q
end
def lN:V->V->Bool
 |.non,.non=>true|.non,.int _=>true|.int _,.non=>true|.non,.bl _=>true|.bl _,.non=>true|.non,.str _=>true|.str _,.non=>true
 |.int _,.int _=>true|.bl _,.bl _=>true|.str _,.str _=>true|.byt _,.byt _=>true
 |.int _,.str _=>true|.str _,.int _=>true|.bl _,.str _=>true|.str _,.bl _=>true
 |_,_=>false
def rEq:R2:=fun x y H Q=>lN x y=true/\Q (.bl (decide (x=y))) H
def rNe:R2:=fun x y H Q=>lN x y=true/\Q (.bl (!decide (x=y))) H
theorem Y7{i j:Int}:decide (V.int i=V.int j)=(i==j):=by
 rw[U4c]
 simp
theorem Ze{i j:Bool}:decide (V.bl i=V.bl j)=(i==j):=by
 rw[U4c]
 simp
theorem Y6{i j:Str}:decide (V.str i=V.str j)=(i==j):=by
 rw[U4c]
 simp
theorem Y8{i j:Array UInt8}:decide (V.byt i=V.byt j)=(i.toList==j.toList):=by
 rw[U4c]
 cases i
 cases j
 simp
section
variable{X:Cx}{a b c:Expr}{ta tb tc:TE}{pos:Pos}
theorem Dh{pins:List (Addr×Obj)}{σ:St}{H:Hp}{s:Shared}{Q:VK}{k k':Bool}(I:Inv X pins σ H s)(q:Q (.bl k) H)(e:k=k'):EP X pins σ Q (.bool k') s:=by
 subst e
 exact⟨.bl k,H,I,rfl,q⟩
theorem qz:OpR X (compareOp .Eq) rEq:=by
 intro pins s σ H x y v u Q I rx ry h
 obtain⟨hs,q⟩:=h
 cases x with
 |non =>
  cases rx
  cases y with
  |non=>cases ry;exact PySem.EqNone.eq_none_none (Dh I q (by simp))
  |bl j=>cases ry;exact PySem.EqNone.eq_none_bool (Dh I q (by simp))
  |int j=>obtain⟨t',rfl⟩:=ry;exact PySem.EqNone.eq_none_int (Dh I q (by simp))
  |str j=>obtain⟨t',rfl⟩:=ry;exact PySem.EqNone.eq_none_str (Dh I q (by simp))
  |_=>exact absurd (show false=true from hs) U05
 |bl i =>
  cases rx
  cases y with
  |non=>cases ry;exact PySem.EqNone.eq_bool_none (Dh I q (by simp))
  |bl j=>cases ry;exact eq_bool (Dh I q Ze)
  |str j=>obtain⟨t',rfl⟩:=ry;exact PySem.EqMixed.eq_bool_str (Dh I q (by simp))
  |_=>exact absurd (show false=true from hs) U05
 |int i =>
  obtain⟨t,rfl⟩:=rx
  cases y with
  |non=>cases ry;exact PySem.EqNone.eq_int_none (Dh I q (by simp))
  |int j=>obtain⟨t',rfl⟩:=ry;exact eq_int (Dh I q Y7)
  |str j=>obtain⟨t',rfl⟩:=ry;exact PySem.EqMixed.eq_int_str (Dh I q (by simp))
  |_=>exact absurd (show false=true from hs) U05
 |str i =>
  obtain⟨t,rfl⟩:=rx
  cases y with
  |non=>cases ry;exact PySem.EqNone.eq_str_none (Dh I q (by simp))
  |bl j=>cases ry;exact PySem.EqMixed.eq_str_bool (Dh I q (by simp))
  |int j=>obtain⟨t',rfl⟩:=ry;exact PySem.EqMixed.eq_str_int (Dh I q (by simp))
  |str j=>obtain⟨t',rfl⟩:=ry;exact eq_str (Dh I q Y6)
  |_=>exact absurd (show false=true from hs) U05
 |byt i =>
  obtain⟨t,rfl⟩:=rx
  cases y with
  |byt j=>obtain⟨t',rfl⟩:=ry;exact PySem.W.eq_bytes (Dh I q Y8)
  |_=>exact absurd (show false=true from hs) U05
 |_=>cases y<;>exact absurd (show false=true from hs) U05
theorem qx:OpR X (compareOp .NotEq) rNe:=by
 intro pins s σ H x y v u Q I rx ry h
 obtain⟨hs,q⟩:=h
 cases x with
 |non =>
  cases rx
  cases y with
  |non=>cases ry;exact PySem.EqNone.ne_none_none (Dh I q (by simp))
  |bl j=>cases ry;exact PySem.EqNone.ne_none_bool (Dh I q (by simp))
  |int j=>obtain⟨t',rfl⟩:=ry;exact PySem.EqNone.ne_none_int (Dh I q (by simp))
  |str j=>obtain⟨t',rfl⟩:=ry;exact PySem.EqNone.ne_none_str (Dh I q (by simp))
  |_=>exact absurd (show false=true from hs) U05
 |bl i =>
  cases rx
  cases y with
  |non=>cases ry;exact PySem.EqNone.ne_bool_none (Dh I q (by simp))
  |bl j=>cases ry;exact ne_bool (Dh I q (congrArg not Ze))
  |str j=>obtain⟨t',rfl⟩:=ry;exact PySem.EqMixed.ne_bool_str (Dh I q (by simp))
  |_=>exact absurd (show false=true from hs) U05
 |int i =>
  obtain⟨t,rfl⟩:=rx
  cases y with
  |non=>cases ry;exact PySem.EqNone.ne_int_none (Dh I q (by simp))
  |int j=>obtain⟨t',rfl⟩:=ry;exact ne_int (Dh I q (congrArg not Y7))
  |str j=>obtain⟨t',rfl⟩:=ry;exact PySem.EqMixed.ne_int_str (Dh I q (by simp))
  |_=>exact absurd (show false=true from hs) U05
 |str i =>
  obtain⟨t,rfl⟩:=rx
  cases y with
  |non=>cases ry;exact PySem.EqNone.ne_str_none (Dh I q (by simp))
  |bl j=>cases ry;exact PySem.EqMixed.ne_str_bool (Dh I q (by simp))
  |int j=>obtain⟨t',rfl⟩:=ry;exact PySem.EqMixed.ne_str_int (Dh I q (by simp))
  |str j=>obtain⟨t',rfl⟩:=ry;exact ne_str (Dh I q (congrArg not Y6))
  |_=>exact absurd (show false=true from hs) U05
 |byt i =>
  obtain⟨t,rfl⟩:=rx
  cases y with
  |byt j=>obtain⟨t',rfl⟩:=ry;exact PySem.W.ne_bytes (Dh I q (congrArg not Y8))
  |_=>exact absurd (show false=true from hs) U05
 |_=>cases y<;>exact absurd (show false=true from hs) U05
theorem Rt:OpR X (compareOp .Lt) (rI0 fun i j=>.bl (decide (i<j))):=YK fun _ _ _ _ _ _ _ q=>lt_int q
theorem Yg:OpR X (compareOp .LtE) (rI0 fun i j=>.bl (decide (i<=j))):=YK fun _ _ _ _ _ _ _ q=>le_int q
theorem Oi:OpR X (compareOp .Gt) (rI0 fun i j=>.bl (decide (j<i))):=YK fun _ _ _ _ _ _ _ q=>gt_int q
theorem qy:OpR X (compareOp .GtE) (rI0 fun i j=>.bl (decide (j<=i))):=YK fun _ _ _ _ _ _ _ q=>ge_int q
theorem ni:OpR X (compareOp .Is) (fun x y H Q=>y=.non/\Q (.bl (decide (x=.non))) H):=by
 intro pins s σ H x y v u Q I rx ry h
 obtain⟨rfl,q⟩:=h
 cases ry
 refine is_none_gen (Dh I q ?_)
 cases x<;>first
  |(cases rx;rfl)
  |(obtain⟨t,rfl⟩:=rx;rfl)
theorem OpR.or{f:Value->Value->Sem Value}{r r':R2}(h:OpR X f r)(h':OpR X f r'):OpR X f (fun x y H Q=>r x y H Q∨r' x y H Q):=by
 intro pins s σ H x y v u Q I rx ry q
 rcases q with q|q
 .exact h pins s σ H x y v u Q I rx ry q
 .exact h' pins s σ H x y v u Q I rx ry q
theorem CV(b:Expr){op:CmpOp}(h:op≠.In:=by decide)(h2:op≠.NotIn:=by decide):behindInMarks op b=false:=by
 have e1:(op==CmpOp.In)=false:=by cases op<;>first|rfl|exact absurd rfl h
 have e2:(op==CmpOp.NotIn)=false:=by cases op<;>first|rfl|exact absurd rfl h2
 cases b<;>simp[behindInMarks,e1,e2]
theorem Xx{op:CmpOp}{r:R2}(ho:OpR X (compareOp op) r)(ha:PE X a ta)(hb:PE X b tb)(hm:behindInMarks op b=false):PE X (.Compare a [op] [b] pos) (tOp r ta tb):=by
 intro pins s σ H Q I h
 exact wpAny_Compare1 (YT ha hb I h fun v u s2 x y H2 I2 rx ry q=>ho pins s2 σ H2 x y v u Q I2 rx ry q) hm
def Yb(t:TE):TT:=fun σ H Q=>t σ H fun x H'=>∃k,x=.bl k/\Q k H'
theorem ig{op:CmpOp}{r:R2}(ho:OpR X (compareOp op) r)(ha:PE X a ta)(hb:PE X b tb)(hm:behindInMarks op b=false):PT X (.Compare a [op] [b] pos) (Yb (tOp r ta tb)):=by
 intro pins s σ H Q I h
 refine wpAny_isTrue_Compare1 (thn (ha pins s σ H _ I h) fun v s1 ⟨x,H1,I1,r1,q1⟩=>thn (hb pins s1 σ H1 _ I1 q1) fun u s2 ⟨y,H2,I2,r2,q2⟩ =>
  thn (ho pins s2 σ H2 x y v u _ I2 r1 r2 q2) fun c s3 ⟨z,H3,I3,r3,k,e,q3⟩=>?_) hm
 subst e
 cases r3
 exact U22 ⟨H3,I3,q3⟩
def ZK(r r':R2)(ta tb tc:TE):TE:=fun σ H Q=>ta σ H fun x H1=>tb σ H1 fun y H2=>r x y H2 fun z H3=>∃k,z=.bl k /\
 (if k=true then tc σ H3 fun w' H4=>r' y w' H4 Q else Q (.bl false) H3)
theorem cY{op op':CmpOp}{r r':R2}(ho:OpR X (compareOp op) r)(ho':OpR X (compareOp op') r')(ha:PE X a ta)(hb:PE X b tb)(hc:PE X c tc)
  (hm:lastMarks [op,op'] [b,c]=false:=by with_unfolding_all rfl):PT X (.Compare a [op,op'] [b,c] pos) (Yb (ZK r r' ta tb tc)):=by
 intro pins s σ H Q I h
 refine isTrue_chain (thn (ha pins s σ H _ I h) fun v s1 ⟨x,H1,I1,r1,q1⟩=>test_link (thn (hb pins s1 σ H1 _ I1 q1) fun u s2 ⟨y,H2,I2,r2,q2⟩ =>
  thn (ho pins s2 σ H2 x y v u _ I2 r1 r2 q2) fun d s3 ⟨z,H3,I3,r3,k,e,q3⟩=>?_)) hm
 subst e
 cases r3
 refine U22 ?_
 cases k with
 |false =>
  obtain⟨k',e',q'⟩:=q3
  cases e'
  exact ite_ff ⟨H3,I3,q'⟩
 |true =>
  refine ite_tt (test_last (thn (hc pins s3 σ H3 _ I3 q3) fun w' s4 ⟨z',H4,I4,r4,q4⟩=>thn (ho' pins s4 σ H4 y z' u w' _ I4 r2 r4 q4) fun d' s5 ⟨z2,H5,I5,r5,k2,e2,q5⟩=>?_))
  subst e2
  cases r5
  exact U22 ⟨H5,I5,q5⟩
theorem Q6:(sizeLine:Nat)<2^63:=by rw[sizeLine_eq];decide
theorem Yv:OpR X (binaryOp .Add) (fun x y H Q=>∃i j,x=.str i/\y=.str j/\i.length+j.length<=sizeLine/\Q (.str (i++j)) H):=by
 intro pins s σ H x y v u Q I rx ry h
 obtain⟨i,j,rfl,rfl,hz,q⟩:=h
 obtain⟨t,rfl⟩:=rx
 obtain⟨t',rfl⟩:=ry
 exact add_str (fun t' tk=>⟨.str (i++j),H,I.tok _,⟨_,rfl⟩,q⟩) hz
theorem vals1{x:V}{us:List Value}(r:Vals [x] us):∃u,us=[u]/\RelV x u:=by
 cases r with
 |cons r1 r2=>cases r2;exact⟨_,rfl,r1⟩
theorem vals2{x y:V}{us:List Value}(r:Vals [x,y] us):∃u w',us=[u,w']/\RelV x u/\RelV y w':=by
 cases r with
 |cons r1 r2 =>
  cases r2 with
  |cons r3 r4=>cases r4;exact⟨_,_,rfl,r1,r3⟩
theorem WK:Dr X (.builtin "abs") (fun xs H Q=>∃i,xs=[.int i]/\Q (.int (if i<0 then -i else i)) H):=by
 intro pins s σ H xs us Q I r h
 obtain⟨i,rfl,q⟩:=h
 obtain⟨u,rfl,t,rfl⟩:=vals1 r
 exact call_abs_int fun u tk=>⟨.int (if i<0 then -i else i),H,I.tok _,⟨_,rfl⟩,q⟩
theorem bD(hc:X.calm=true):Dr X (.builtin "max") (fun xs H Q=>∃i j,xs=[.int i,.int j]/\Q (.int (if j>i then j else i)) H):=by
 intro pins s σ H xs us Q I r h
 obtain⟨i,j,rfl,q⟩:=h
 obtain⟨u,w',rfl,⟨t,rfl⟩,⟨t',rfl⟩⟩:=vals2 r
 refine max_two_ints (I.ok.hd hc) fun h' tk k=>⟨_,H,I.kept k,?_,q⟩
 by_cases hj:j>i
 .rw[if_pos hj,if_pos hj];exact⟨_,rfl⟩
 .rw[if_neg hj,if_neg hj];exact⟨_,rfl⟩
theorem bB(hc:X.calm=true):Dr X (.builtin "min") (fun xs H Q=>∃i j,xs=[.int i,.int j]/\Q (.int (if j<i then j else i)) H):=by
 intro pins s σ H xs us Q I r h
 obtain⟨i,j,rfl,q⟩:=h
 obtain⟨u,w',rfl,⟨t,rfl⟩,⟨t',rfl⟩⟩:=vals2 r
 refine min_two_ints (I.ok.hd hc) fun h' tk k=>⟨_,H,I.kept k,?_,q⟩
 by_cases hj:j<i
 .rw[if_pos hj,if_pos hj];exact⟨_,rfl⟩
 .rw[if_neg hj,if_neg hj];exact⟨_,rfl⟩
theorem Us:Dr X (.type "int") (fun xs H Q=>(∃i,xs=[.int i]/\Q (.int i) H)∨∃k,xs=[.bl k]/\Q (.int (if k then 1 else 0)) H):=by
 intro pins s σ H xs us Q I r h
 rcases h with ⟨i,rfl,q⟩|⟨k,rfl,q⟩
 .obtain⟨u,rfl,t,rfl⟩:=vals1 r
  exact call_int_int ⟨.int i,H,I,⟨_,rfl⟩,q⟩
 .obtain⟨u,rfl,r1⟩:=vals1 r
  cases r1
  exact call_int_bool ⟨.int (if k then 1 else 0),H,I.tok _,⟨_,rfl⟩,q⟩
end
end L2
namespace L2
open PySem PySem.Spec PyProof.Rows
structure bU(h:Heap)(x dx C:Addr)(mA:Str->Option Value):Prop where
 obj:h.get? x=some (U6o C dx)
 ns:h.Ns1 dx mA
 ne:dx≠x
theorem aL{h:Heap}{dx:Addr}{mA:Str->Option Value}(n:h.Ns1 dx mA):∃od,h.get? dx=some od/\∀name,U6x name od=some (mA name):=by
 obtain⟨o,es,ep,ho,hd,hk,_,hm⟩:=n
 refine⟨o,ho,fun name=>?_⟩
 have e:=hm name
 unfold nsFind findBy at e
 rw[←Array.find?_toList] at e
 unfold U6x
 rw[hd]
 dsimp only
 split
 .rename_i y q
  rw[q] at e
  exact congrArg some e
 .rename_i q
  rw[q] at e
  have a:es.toList.any (·.refKey)=false:=by
   rw[List.any_eq_false]
   intro y hy
   obtain⟨z,t,hkey⟩:=hk y (Array.mem_toList_iff.mp hy)
   simp[DictEntry.refKey,hkey]
  have a':¬es.toList.any (·.refKey)=true:=by rw[a];exact U05
  rw[if_neg a']
  exact congrArg some e
theorem bU.look{h:Heap}{x dx C:Addr}{mA:Str->Option Value}(I:bU h x dx C mA):∃od,PySem.W.InstAt h x (U6o C dx) C (some od)/\∀name,U6x name od=some (mA name) :=
 let ⟨od,ho,hl⟩:=aL I.ns
 ⟨od,⟨I.obj,rfl,rfl,ho⟩,hl⟩
section
variable{prog:Program}{w:World}{A:Around}{E:Value->Shared->Prop}{s:Shared}{K:U0a}{x dx C f:Addr}{mA:Str->Option Value}{name:Str}{v:Value}
end
section
variable{P:Program}{w:World}{H H':Hp}{h h':Heap}{a C dx:Addr}{fs fs':List (Str×V)}
theorem jc(hok:HOk P w H h)(e:H a=some (.ins C dx fs)):∃mA,bU h a dx C mA/\(∀f,bT (fs.lookup f) (mA f))/\PySem.Within mA (fs.map (·.1))/\fs.length<=1000/\H dx=some (.own a):=by
 obtain⟨d,z,ne,ob,mA,n,r,q⟩:=(show Eh P w H h a (.ins C dx fs) from hok a _ e)
 exact⟨mA,⟨ob,n,ne⟩,r,q,z,d⟩
end
structure Cls(K:U0a)(C:Addr):Prop where
 pg:PySem.W.plainGet K C Str.empty=true
 hd:PySem.W.hasDictIn K C=true
 po:PySem.W.plainOver K C=true
 sa:U5c K (.ref C) "__setattr__"=some (some (.builtin "object.__setattr__"))
theorem Cls.get{K:U0a}{C:Addr}(c:Cls K C)(f:Str):PySem.W.plainGet K C f=true:=c.pg
structure Con(K:U0a)(C:Addr)(f:Str)(v:V)(u:Value):Prop where
 at_:U5c K (.ref C) f=some (some u)
 rel:RelV v u
 get:PySem.W.specialIn K u "__get__"=some none
 cp:PySem.W.copiedNames.contains f=false
structure Meth(K:U0a)(C:Addr)(m:Str)(f:Addr):Prop where
 at_:U5c K (.ref C) m=some (some (.ref f))
 fn:PySem.W.isFn K (.ref f)=true
 kp:U01 K (.ref f)=true
section
variable{X:Cx}{pins:List (Addr×Obj)}{σ:St}{H:Hp}{s:Shared}{a C dx:Addr}{fs:List (Str×V)}{f:Str}{v:V}{A:Around}{E:Value->Shared->Prop}
end
section
variable{X:Cx}{o e value:Expr}{f:Str}{pos pos' tpos:Pos}{ta tv:TE}
end
section
variable{X:Cx}{pins:List (Addr×Obj)}{σ:St}{H:Hp}{s:Shared}{A:Around}{E:Value->Shared->Prop}{Q:Value->Shared->Prop}{c:Value}{b:Bool}
inductive Jf (K:U0a) (H:Hp):V->Value->Prop where
 |non:Jf K H .non (.type "NoneType")
 |bl (x:Bool):Jf K H (.bl x) (.type "bool")
 |int (i:Int):Jf K H (.int i) (.type "int")
 |str (x:Str):Jf K H (.str x) (.type "str")
 |flt (x:UInt64):Jf K H (.flt x) (.type "float")
 |lst {a:Addr} {xs:List V} (e:H a=some (.lst xs)):Jf K H (.ref a) (.type "list")
 |frz {a:Addr} {o:Obj} {xs:List V} (e:H a=some (.frz o (.lst xs))):Jf K H (.ref a) (.type "list")
 |tup {a:Addr} {xs:List V} (e:H a=some (.tup xs)):Jf K H (.ref a) (.type "tuple")
 |dK {a:Addr} {kvs:List (Key×V)} (e:H a=some (.dK kvs)):Jf K H (.ref a) (.type "dict")
 |dT {a:Addr} {kvs:List (List Key×V)} (e:H a=some (.dT kvs)):Jf K H (.ref a) (.type "dict")
 |ins {a C dx:Addr} {fs:List (Str×V)} (e:H a=some (.ins C dx fs)) (cl:Cls K C) (ha:U5c K (.ref C) "__class__"=some (some (.builtin "object.__class__")))
   (hn:PySem.W.specialIn K (.builtin "object.__class__") "__get__"=some (some (.builtin "getset_descriptor.__get__"))) (htk:PySem.W.takesIn K (.builtin "object.__class__")=some true)
   (hm:PySem.W.mroIn K C (.type "object")=some true):Jf K H (.ref a) (.ref C)
theorem aQ{x:V}{u t:Value}(I:Inv X pins σ H s)(rx:RelV x u)(ty:Jf X.K H x t)(e:U20 X.K t c=some b)(h:∀tk,Q (.bool b) { s with toks:=tk }) :
  wpAny (model X.prog X.w) A (call (.builtin "isinstance") [u,c]) Q E s:=by
 cases ty with
 |non=>cases (show u=U2e from rx);exact U2r PySem.W.kitx_none I.kIn U6j e (fun z=>nomatch z) h
 |bl y=>cases (show u=U27 y from rx);exact U2r PySem.W.kitx_bool I.kIn U6j e (fun z=>nomatch z) h
 |int i=>obtain⟨t,q⟩:=(show ∃t,u=U3n i t from rx);cases q;exact U2r PySem.W.kitx_int I.kIn U6j e (fun z=>nomatch z) h
 |str y=>obtain⟨t,q⟩:=(show ∃t,u=Value.str y t from rx);cases q;exact U2r PySem.W.kitx_str I.kIn U6j e (fun z=>nomatch z) h
 |flt y=>obtain⟨t,q⟩:=(show ∃t,u=Value.float y t from rx);cases q;exact U2r PySem.W.kitx_float I.kIn U6j e (fun z=>nomatch z) h
 |@lst a xs ea =>
  cases (show u=U17 a from rx)
  obtain⟨_,_,n,_,h1⟩:=(show Eh X.prog X.w H s.heap a (.lst xs) from I.hok a _ ea)
  exact U2r PySem.W.kitx_list I.kIn ⟨_,h1,rfl⟩ e (fun z=>nomatch z) h
 |@frz a ob xs ea =>
  cases (show u=U17 a from rx)
  obtain⟨_,_,_,n,_,h1⟩:=(show Eh X.prog X.w H s.heap a (.frz ob (.lst xs)) from I.hok a _ ea)
  exact U2r PySem.W.kitx_list I.kIn ⟨_,h1,rfl⟩ e (fun z=>nomatch z) h
 |@tup a xs ea =>
  cases (show u=U17 a from rx)
  obtain⟨_,_,_,p⟩:=(show Eh X.prog X.w H s.heap a (.tup xs) from I.hok a _ ea)
  obtain⟨o,h1,h2,_⟩:=p
  exact U2r PySem.W.kitx_tuple I.kIn ⟨o,h1,h2⟩ e (fun z=>nomatch z) h
 |@dK a kvs ea =>
  cases (show u=U17 a from rx)
  obtain⟨_,_,vs,_,p⟩:=(show Eh X.prog X.w H s.heap a (.dK kvs) from I.hok a _ ea)
  obtain⟨o,es,ep,h1,h2,_⟩:=p
  exact U2r PySem.W.kitx_dict I.kIn ⟨o,h1,h2.1⟩ e (fun z=>nomatch z) h
 |@dT a kvs ea =>
  cases (show u=U17 a from rx)
  obtain⟨_,_,xs,_,o,es,ep,h1,h2,_⟩:=(show Eh X.prog X.w H s.heap a (.dT kvs) from I.hok a _ ea)
  exact U2r PySem.W.kitx_dict I.kIn ⟨o,h1,h2.1⟩ e (fun z=>nomatch z) h
 |@ins a C dx fs ea cl ha hn htk hm =>
  cases (show u=U17 a from rx)
  obtain⟨mA,O,_⟩:=jc I.hok ea
  obtain⟨od,J,_⟩:=O.look
  exact U2r (PySem.W.kitx_own (cl.get _) cl.hd ha hn htk hm) I.kIn J e (fun z=>nomatch z) h
end
end L2
namespace L2
open PySem PySem.Spec PyProof.Rows
structure FN(k:Nat)(A:Around):Prop where
 hd:A.handled=none
 dp:A.depth+3*k+5<recursionLimit
 un:A.units+16*k+200<cLine
 gd:A.guards=some []
theorem FN.mono{j k:Nat}{A:Around}(r:FN k A)(h:j<=k):FN j A:=⟨r.hd,by have:=r.dp;omega,by have:=r.un;omega,r.gd⟩
theorem FN.deeper{k:Nat}{A:Around}(r:FN (k+1) A)(env:Env):FN k (A.deeper env) :=
 ⟨r.hd,by have:=r.dp;show A.depth+1+3*k+5<_;omega,by have:=r.un;show A.units+3+16*k+200<_;omega,r.gd⟩
theorem FN.depth{k:Nat}{A:Around}(r:FN k A):A.depth<recursionLimit:=by have:=r.dp;omega
theorem FN.units{k:Nat}{A:Around}(r:FN k A):A.units+64<cLine:=by have:=r.un;omega
def lG:TA:=fun _ H Q=>Q [] H
def fX(ta:TE)(tr:TA):TA:=fun σ H Q=>ta σ H fun x H1=>tr σ H1 fun xs H2=>Q (x::xs) H2
section
variable{X:Cx}{e:Expr}{es:List Expr}{te:TE}{t:TA}{pos:Pos}
theorem Q5:PA X [] lG:=fun _ _ _ _ H Q I h=>Calls.spliced_nil ⟨[],H,I,.nil,h⟩
theorem OJ(ha:PE X e te)(hr:PA X es t)(hs:starEach (e::es) X.env=(false,eval e X.env)::starEach es X.env:=by rfl):PA X (e::es) (fX te t):=by
 intro pos pins s σ H Q I h
 rw[hs]
 show wpAny _ _ (spliced ((false,eval e X.env)::backTo pos (starEach es X.env))) _ _ s
 refine Calls.spliced_cons (thn (ha pins s σ H _ I h) fun u s1 ⟨x,H1,I1,r1,q1⟩=>?_)
 exact thn (hr pos pins s1 σ H1 _ I1 q1) fun us s2 ⟨xs,H2,I2,r2,q2⟩=>⟨x::xs,H2,I2,.cons r1 r2,q2⟩
def lF(t:TA):TE:=fun σ H Q=>t σ H fun xs H1=>xs.length<=sizeLine/\∀p,H1 p=none->Q (.ref p) (upd H1 p (.tup xs))
def sZ(t:TA):TE:=fun σ H Q=>t σ H fun xs H1=>xs.length<=sizeLine/\∀p,H1 p=none->Q (.ref p) (upd H1 p (.lst xs))
theorem nO{x1}(h:PA X es t):PE X (.Tuple es x1 pos) (lF t):=by
 intro pins s σ H Q I hq
 refine wpAny_Tuple_spliced (thn (h pos pins s σ H _ I hq) fun us s1 ⟨xs,H1,I1,r,z,q⟩=>⟨by rw[←r.length];exact z,?_⟩)
 have hf:H1 s1.heap.objs.size=none:=I1.hok.fresh (U0m _)
 refine⟨.ref s1.heap.objs.size,upd H1 s1.heap.objs.size (.tup xs),I1.laid (t':=s1.toks) (fun b u e=>U0b _ e) (U0m _) ?_,rfl,q _ hf⟩
 exact⟨z,us,r,⟨_,U0p _ rfl,rfl,_,rfl⟩⟩
theorem ZR(h:PA X es t):PE X (.List es pos) (sZ t):=by
 intro pins s σ H Q I hq
 refine wpAny_List_spliced (thn (h pos pins s σ H _ I hq) fun us s1 ⟨xs,H1,I1,r,z,q⟩=>⟨by rw[←r.length];exact z,?_⟩)
 have hf:H1 s1.heap.objs.size=none:=I1.hok.fresh (U0m _)
 refine⟨.ref s1.heap.objs.size,upd H1 s1.heap.objs.size (.lst xs),I1.laid (t':=s1.toks) (fun b u e=>U0b _ e) (U0m _) ?_,rfl,q _ hf⟩
 exact⟨z,us,0,r,U0p _ rfl⟩
end
abbrev Sp:=List V->Hp->VK->XK->Prop
abbrev CXT:=List Env->Hp->Shared->XK->Value->Shared->Prop
structure YZ(P:Program)(w:World)(K:U0a)(mg:Str->Option Value)(base:Heap)(A:Around)(outer:List Env)(s:Shared)(H:Hp):Prop where
 frames:A.frames=some outer
 mod:Mod K mg base
 bs:∀b o,base.get? b=some o->s.heap.get? b=some o/\H b=none
 bsz:base.objs.size<=s.heap.objs.size
 Mh:s.heap.FunFrames base outer
 frf:∀b∈frs outer,H b=none
 hok:HOk P w H s.heap
 bare:AllBare s.gens
 sy:H sysModules=none
def CE(outer:List Env)(P:Program)(w:World)(H:Hp)(s:Shared)(Q:VK)(u:Value)(s':Shared):Prop :=
 ∃v H',s'.os=s.os/\AllBare s'.gens/\Un (frs outer) [] H H' s.heap s'.heap/\HOk P w H' s'.heap/\RelV v u/\Q v H'
def CR(CX:CXT)(outer:List Env)(P:Program)(w:World)(H:Hp)(s:Shared)(Q:VK)(E:XK)(r:Result)(s':Shared):Prop :=
 match r with
 |.ok (.ret u)=>CE outer P w H s Q u s'
 |.ok _=>False
 |.error e=>CX outer H s E e s'
structure Dp(P:Program)(w:World)(K:U0a)(mg:Str->Option Value)(base:Heap)(CX:CXT)(k:Nat)(f:Addr)(fd:FuncData)(ps:List Str)(sp:Sp):Prop where
 len:∀vs H Q E,sp vs H Q E->vs.length=ps.length
 run:∀(A:Around)(outer:List Env)(s:Shared)(H:Hp)(args:Args)(us:List Value)(vs:List V)(Q:VK)(E:XK),FN k A->YZ P w K mg base A outer s H->BindsTo s fd args (ps.zip us)->Vals vs us->sp vs H Q E ->
  codeAny (model P w) A (.call (.ref f) args) (CR CX outer P w H s Q E) s
theorem Dp.mono{P:Program}{w:World}{K:U0a}{mg:Str->Option Value}{base:Heap}{CX:CXT}{j k:Nat}{f:Addr}{fd:FuncData}{ps:List Str}{sp:Sp}(F:Dp P w K mg base CX j f fd ps sp)(h:j<=k) :
  Dp P w K mg base CX k f fd ps sp:=⟨F.len,fun A outer s H args us vs Q E hr=>F.run A outer s H args us vs Q E (hr.mono h)⟩
theorem Dp.imp{P:Program}{w:World}{K:U0a}{mg:Str->Option Value}{base:Heap}{CX:CXT}{k:Nat}{f:Addr}{fd:FuncData}{ps:List Str}{sp sp':Sp}(F:Dp P w K mg base CX k f fd ps sp)
  (h:∀vs H Q E,sp' vs H Q E->sp vs H Q E):Dp P w K mg base CX k f fd ps sp' :=
 ⟨fun vs H Q E q=>F.len vs H Q E (h _ _ _ _ q),fun A outer s H args us vs Q E hr he hb hv hs=>F.run A outer s H args us vs Q E hr he hb hv (h _ _ _ _ hs)⟩
section
variable{X:Cx}{pins:List (Addr×Obj)}{σ:St}{H:Hp}{s s':Shared}
theorem Inv.env0(I:Inv X pins σ H s):YZ X.prog X.w X.K X.mg X.base X.A X.stack s H :=
 ⟨I.ok.frames,I.ok.mod,I.bs,U02 I.ok.bsz I.sz,I.stack,I.Xk,I.hok,I.bare,I.TJ⟩
theorem Inv.after{Q:VK}{u:Value}(I:Inv X pins σ H s)(h:CE X.stack X.prog X.w H s Q u s'):EP X pins σ Q u s':=by
 obtain⟨v,H',os,bare,un,hok,r,q⟩:=h
 obtain⟨hh,g,d,t,os'⟩:=s'
 obtain rfl:os'=s.os:=os
 exact⟨v,H',I.call (h':=hh) (g':=g) (d':=d) (t':=t) (ch:=[]) un hok bare (fun b z=>absurd z (by simp)),r,q⟩
end
def fY(sp:Sp)(dvs:List V)(E:XK)(t:TA):TE:=fun σ H Q=>t σ H fun vs H1=>sp (vs++dvs) H1 Q E
def Binds(K:U0a)(fd:FuncData)(ps:List Str)(ds:List Value):Prop :=
 ∀(s:Shared)(us:List Value),K.In s.heap->(us++ds).length=ps.length->BindsTo s fd ⟨us,[]⟩ (ps.zip (us++ds))
theorem Binds.all{K:U0a}{fd:FuncData}{ps:List Str}(h:∀us:List Value,us.length=ps.length->bindArgs fd ⟨us,[]⟩=pure (ps.zip us)):Binds K fd ps []:=fun s us _ hl=>by
 rw[U2y] at hl ⊢
 exact .of_eq (h us hl)
def Passes(CX:CXT)(X:Cx)(E:XK):Prop:=∀(pins:List (Addr×Obj))(σ:St)(H:Hp)(s:Shared)(e:Value)(s':Shared),Inv X pins σ H s->CX X.stack H s E e s'->X.xe e s'
section
variable{X:Cx}{CX:CXT}{k:Nat}{f C:Addr}{fd:FuncData}{ps:List Str}{sp:Sp}{dvs:List V}{ds:List Value}{E:XK}{x m:Str}{p pos apos:Pos}{e o:Expr}{es:List Expr}{ta:TE}{t:TA}
theorem ZL{pins:List (Addr×Obj)}{σ:St}{H:Hp}{s:Shared}{Q:VK}{us:List Value}{vs:List V}(F:Dp X.prog X.w X.K X.mg X.base CX k f fd ps sp)(hr:FN k X.A)(hb:Binds X.K fd ps ds)(hd:Vals dvs ds)(hx:Passes CX X E)
  (I:Inv X pins σ H s) (r:Vals vs us) (h:sp (vs++dvs) H Q E):wpAny (model X.prog X.w) X.A (call (.ref f) us) (EP X pins σ Q) X.xe s:=by
 have r2:Vals (vs++dvs) (us++ds):=r.append hd
 have hl:(us++ds).length=ps.length:=by rw[←r2.length];exact F.len _ _ _ _ h
 refine wpAny_call (codeAny_mono (F.run X.A X.stack s H ⟨us,[]⟩ (us++ds) (vs++dvs) Q E hr I.env0 (hb s us I.kIn hl) r2 h) fun r s' hq=>?_)
 cases r with
 |error e=>exact hx pins σ H s e s' I hq
 |ok fl =>
  cases fl with
  |ret u=>exact I.after hq
  |next=>exact U3w hq
  |brk=>exact U3w hq
  |cont=>exact U3w hq
theorem jC(F:Dp X.prog X.w X.K X.mg X.base CX k f fd ps sp)(hr:FN k X.A)(hg:Gl X x)(hm:X.mg x=some (.ref f))(hk:U01 X.K (.ref f)=true)(hb:Binds X.K fd ps ds)(hd:Vals dvs ds)(hx:Passes CX X E)
  (ha:PA X (e::es) t) (hdb:(x==("__debug__":Str))=false:=by decide) (he:starEach (e::es) X.env=(false,eval e X.env)::starEach es X.env:=by rfl) (hpl:(backTo pos (starEach es X.env)).any (·.1)=false:=by rfl) :
  PE X (.Call (.Name x p) (e::es) [] pos) (fY sp dvs E t):=by
 intro pins s σ H Q I h
 refine U4d (Tf I hg hm ?_ hdb)
 refine PySem.W.callWith_K (h₀:=X.base) I.ok.mod.kin hk (thn (ha pos pins s σ H _ I h) fun us s1 ⟨vs,H1,I1,r,q⟩=>⟨I1.kIn,?_⟩) he hpl
 exact ZL F hr hb hd hx I1 r q
structure Mk(K:U0a)(C f:Addr):Prop where
 makes:PySem.W.makesIn K C=true
 init:U5c K (.ref C) "__init__"=some (some (.ref f))
 fn:PySem.W.isFn K (.ref f)=true
 kp:U01 K (.ref C)=true
end
section
variable{X:Cx}{CX:CXT}{k:Nat}{f C:Addr}{fd:FuncData}{ps ks:List Str}{sp:Sp}{E:XK}{x m:Str}{p pos apos kpos:Pos}{e o:Expr}{es:List Expr}{kws:List Keyword}{te ta:TE}{t tk:TA}{nm:Option Str}
structure uU(K:U0a)(fd:FuncData)(ps ks:List Str)(g:List Value->List Value->List Value)(gV:List V->List V->List V):Prop where
 to:∀(s:Shared)(us ws:List Value),K.In s.heap->(g us ws).length=ps.length->BindsTo s fd ⟨us,ks.zip ws⟩ (ps.zip (g us ws))
 rel:∀{vs:List V} {us:List Value} {zs:List V} {ws:List Value},Vals vs us->Vals zs ws->Vals (gV vs zs) (g us ws)
variable{g:List Value->List Value->List Value}{gV:List V->List V->List V}
end
structure DK(N P:List Str)(sc:Scope):Prop where
 kind:sc.kind=.function
 co:sc.isCoroutine=false
 gen:sc.isGenerator=false
 nd:N.Nodup
 pre:N.take P.length=P
 par:∀x∈P,sc.names.lookup x=some .local∨sc.names.lookup x=some .cell
 nofree:∀y∈sc.names,y.2≠.free
theorem Uv{kindOf:Str->Option NameKind}{x:Str}:∀{binds:List (Str×Value)} {m:Str->Option Value},(∀v,(x,v) ∉ binds)->bindL kindOf binds m x=m x
 |[],_,_=>rfl
 |(n,v)::r,m,h=>by
  unfold bindL
  rw[Uv fun w hw=>h w (U0r _ hw)]
  split
  .have:x≠n:=by rintro rfl;exact h v U04
   simp[this]
  .rfl
theorem Ux{kindOf:Str->Option NameKind}{x:Str}:∀{binds:List (Str×Value)} {m:Str->Option Value},(∀v,(x,v) ∉ binds)->bindC kindOf binds m x=m x
 |[],_,_=>rfl
 |(n,v)::r,m,h=>by
  unfold bindC
  rw[Ux fun w hw=>h w (U0r _ hw)]
  split
  .rfl
  .have:x≠n:=by rintro rfl;exact h v U04
   simp[this]
theorem Uw{kindOf:Str->Option NameKind}{x:Str}{v:Value}:∀{P:List Str} {vs:List Value} {i:Nat} {m:Str->Option Value},P.Nodup->P[i]?=some x->vs[i]?=some v->kindOf x=some .local ->
  bindL kindOf (P.zip vs) m x=some v
 |[],_,_,_,_,h,_,_=>by simp at h
 |_::_,[],_,_,_,_,h,_=>by simp at h
 |p::P,w::vs,0,m,nd,h1,h2,hk=>by
  simp at h1 h2;subst h1;subst h2
  show bindL kindOf ((p,w)::P.zip vs) m p=_
  unfold bindL
  rw[Uv fun v hv=>(U44.mp nd).1 (U6q hv).1,if_pos hk]
  simp
 |p::P,w::vs,i+1,m,nd,h1,h2,hk=>by
  show bindL kindOf ((p,w)::P.zip vs) m x=_
  unfold bindL
  exact Uw (i:=i) (U44.mp nd).2 (by simpa using h1) (by simpa using h2) hk
theorem Uy{kindOf:Str->Option NameKind}{x:Str}{v:Value}:∀{P:List Str} {vs:List Value} {i:Nat} {m:Str->Option Value},P.Nodup->P[i]?=some x->vs[i]?=some v->kindOf x≠some .local ->
  bindC kindOf (P.zip vs) m x=some v
 |[],_,_,_,_,h,_,_=>by simp at h
 |_::_,[],_,_,_,_,h,_=>by simp at h
 |p::P,w::vs,0,m,nd,h1,h2,hk=>by
  simp at h1 h2;subst h1;subst h2
  show bindC kindOf ((p,w)::P.zip vs) m p=_
  unfold bindC
  rw[Ux fun v hv=>(U44.mp nd).1 (U6q hv).1,if_neg hk]
  simp
 |p::P,w::vs,i+1,m,nd,h1,h2,hk=>by
  show bindC kindOf ((p,w)::P.zip vs) m x=_
  unfold bindC
  exact Uy (i:=i) (U44.mp nd).2 (by simpa using h1) (by simpa using h2) hk
def start(N:List Str)(vs:List V):St:=vs.map some++U0s (N.length-vs.length) none
def Pu(CX:CXT)(P:Program)(w:World)(K:U0a)(mg:Str->Option Value)(base:Heap)(N:List Str)(qual:Str)(scope:Scope)(f:Addr)(cd:Value)(A:Around)(outer:List Env)(s:Shared)(H:Hp)(E:XK):Cx where
 prog:=P
 w:=w
 K:=K
 mg:=mg
 base:=base
 A:=A.deeper (envOfC qual scope s.heap.objs.size f cd)
 N:=N
 s₀:=s
 H₀:=H
 env:=envOfC qual scope s.heap.objs.size f cd
 outer:=outer
 stack:=envOfC qual scope s.heap.objs.size f cd::outer
 ex:=[]
 calm:=true
 fn:=fun _=>true
 pn:=[]
 xe:=fun e s'=>wpAny (model P w) (A.deeper (envOfC qual scope s.heap.objs.size f cd)) (leaving (envOfC qual scope s.heap.objs.size f cd) e) (fun _ s''=>CX outer H s E e s'') (fun e' s''=>CX outer H s E e' s'') s'
theorem W9{sc:Scope}{n:Nat}{x:Str}(h:sc.names.lookup x=some .cell):∃c,(cellsFrom n sc.names []).lookup x=some c:=by
 have q:=U5l sc.names n [] (.inl h)
 exact U46.mp q
theorem aV{CX:CXT}{P:Program}{w:World}{K:U0a}{mg:Str->Option Value}{base:Heap}{N ps:List Str}{qual:Str}{scope:Scope}{f:Addr}{cd:Value}{A:Around}{outer:List Env}{s s1:Shared}{H:Hp}{E:XK}{us:List Value}{vs:List V}
  (S:DK N ps scope) (hd:A.handled=none) (e0:YZ P w K mg base A outer s H) (hl:vs.length=ps.length) (r:Vals vs us)
  (x:InCallC s s.heap.objs.size (bindL (envOfC qual scope s.heap.objs.size f cd).kindOf (ps.zip us) fun _=>none) (cellsFrom (s.heap.objs.size+1) scope.names []) (bindC (envOfC qual scope s.heap.objs.size f cd).kindOf (ps.zip us) fun _=>none) s1) :
  Inv (Pu CX P w K mg base N qual scope f cd A outer s H E) [] (start N vs) H s1:=by
 have hpl:ps.length<=N.length:=by have:=congrArg U4j S.pre;rw[U2c] at this;omega
 obtain⟨h1,tk,rfl,hk⟩:=x.done
 have noA:∀b:Addr,b ∉ (Pu CX P w K mg base N qual scope f cd A outer s H E).ex:=fun b z=>absurd (show b∈([]:List Addr) from z) (by simp)
 refine⟨⟨e0.mod,S.kind,rfl,rfl,U0m _,fun y z c h1 h2=>?_,fun y hy=>?_,fun y c _ h=>?_,fun _=>hd,Around.frames_deeper e0.frames,.inr ⟨rfl,rfl⟩,fun b z=>absurd z (noA b),e0.bs,e0.bsz,fun b _ _=>noA b,fun b z=>absurd z (noA b),e0.Mh,e0.frf,e0.sy⟩,
  rfl,e0.bare,Un.kept hk,⟨_,x.toInCall.ns,fun i y v h1 h2 h3=>?_⟩,fun y c h=>⟨_,x.cell y c h⟩,e0.hok.fresh (U0m _),fun y c h=>?_,fun p hp=>absurd (show p∈([]:List (Addr×Obj)) from hp) (by simp),e0.hok.kept hk,?_⟩
 .exact name_of_addr x.apart (U2o h1) (U2o h2)
 .have hy:scope.names.lookup y=some .cell∨scope.names.lookup y=some .free:=hy
  rcases hy with hy|hy
  .exact W9 hy
  .exact absurd rfl (S.nofree _ (U2o hy))
 .exact U19 (x.above y c (U2o h))
 .have hi:i<vs.length:=by
   unfold start at h2
   by_cases hi:i<vs.length
   .exact hi
   .rw[U1t (by simpa using hi)] at h2
    rw[U38] at h2
    split at h2<;>cases h2
  have ha:vs[i]?=some v:=by
   unfold start at h2
   rw[U09 (by simpa using hi),U03] at h2
   cases e:vs[i]? with
   |none=>rw[e] at h2;cases h2
   |some a=>rw[e] at h2;cases h2;rfl
  obtain⟨u,hu,rv⟩:=r.get ha
  have hp:ps[i]?=some y:=by
   rw[←S.pre,List.getElem?_take_of_lt (by omega)];exact h1
  have ndP:ps.Nodup:=by rw[←S.pre];exact S.nd.sublist (List.take_sublist _ _)
  refine⟨u,rv,?_⟩
  rcases S.par y (U06 hp) with k|k
  .exact .inl ⟨k,Uw ndP hp hu k⟩
  .obtain⟨c,e⟩:=W9 (n:=s.heap.objs.size+1) k
   refine .inr ⟨.inl k,c,e,?_⟩
   have q:=x.cell y c e
   rw[Uy ndP hp hu (by show scope.names.lookup y≠_;rw[k];decide)] at q
   exact q
 .exact e0.hok.fresh (U19 (x.above y c (U2o h)))
 .unfold start
  show _=N.length
  rw[U0o,U0g,U1u]
  omega
theorem rN{CX:CXT}{P:Program}{w:World}{K:U0a}{mg:Str->Option Value}{base:Heap}{k:Nat}{f:Addr}{name qual:Str}{params:Arguments}{body:List Stmt}{scope:Scope}{dV kV doc pm cdv ct oc:Value}{an od:Option Addr}
  {osl:Array (Option Value)} {N ps:List Str} {sp:Sp} (lk:K.lookup f=some ⟨oc,od,.func (U1b name qual params body scope dV kV doc pm an cdv ct),osl⟩) (hcd:U07 K cdv qual=true) (S:DK N ps scope)
  (len:∀vs H Q E,sp vs H Q E->vs.length=ps.length)
  (hbody:∀(A:Around)(outer:List Env)(s:Shared)(H:Hp)(vs:List V)(Q:VK)(E:XK),FN k (A.deeper (envOfC qual scope s.heap.objs.size f cdv))->sp vs H Q E ->
   ∃t,PSs (Pu CX P w K mg base N qual scope f cdv A outer s H E) body t/\t { nx:=fun _ H'=>Q .non H',rt:=Q } (start N vs) H) :
  Dp P w K mg base CX (k+1) f (U1b name qual params body scope dV kV doc pm an cdv ct) ps sp:=by
 refine⟨len,fun A outer s H args us vs Q E hr e0 hb r hsp=>?_⟩
 have hl:=len _ _ _ _ hsp
 have KX:K.In s.heap:=e0.mod.kin.keeps fun b o e=>(e0.bs b o e).1
 have lim:s.heap.NoLimit:=e0.mod.nolimit.keeps fun b o e=>(e0.bs b o e).1
 have hkind:∀y∈ps.zip us,scope.names.lookup y.1=some .local∨(scope.names.lookup y.1=some .cell/\((cellsFrom (s.heap.objs.size+1) scope.names []).lookup y.1).isSome=true):=fun⟨n,v⟩ hy=>by
  rcases S.par n (U6q hy).1 with q|q
  .exact .inl q
  .exact .inr ⟨q,U5l _ _ _ (.inl q)⟩
 refine codeAny_call_function hr.depth (KX _ _ lk) rfl S.co S.gen rfl (PySem.W.codeRec_of KX hcd) (hb _ _ _ _ ?_)
 refine wpAny_newFunctionEnv_cells S.kind hkind fun env he s1 x=>?_
 subst he
 refine⟨lim.keeps x.toInCall.keep,codeAny_func ?_⟩
 obtain⟨t,ht,hq⟩:=hbody A outer s H vs Q E (hr.deeper _) hsp
 have I:Inv (Pu CX P w K mg base N qual scope f cdv A outer s H E) [] (start N vs) H s1:=aV S hr.hd e0 hl r x
 refine U4t (ht [] s1 (start N vs) H _ I hq) (fun fl s' hs=>?_) fun e s' hs=>hs
 have fin:∀{σ':St} {H':Hp} {v:V} {u:Value},Inv (Pu CX P w K mg base N qual scope f cdv A outer s H E) [] σ' H' s'->RelV v u->Q v H'->CE outer P w H s Q u s' :=
  fun {σ' H' v u} J rv q=>⟨v,H',J.os,J.bare,J.base,J.hok,rv,q⟩
 cases fl with
 |ret u =>
  obtain⟨v,σ',H',J,rv,q⟩:=hs
  exact fin J rv q
 |next =>
  obtain⟨σ',H',J,q⟩:=hs
  exact fin (v:=V.non) (u:=U2e) J rfl q
 |brk =>
  obtain⟨_,_,_,q⟩:=hs
  exact U3w q
 |cont =>
  obtain⟨_,_,_,q⟩:=hs
  exact U3w q
end L2
namespace L2
open PySem PySem.Spec PyProof.Rows
section
variable{X:Cx}{x:Str}{p pos:Pos}{e:Expr}{es:List Expr}{t:TA}{id T:String}{r:List V->Hp->VK->Prop}
def tCB(r:List V->Hp->VK->Prop)(t:TA):TE:=fun σ H Q=>t σ H fun vs H1=>r vs H1 Q
theorem RT(hc:Dr X (.builtin id) r)(hg:Gl X x)(hm:X.mg x=none)(hv:bootBuiltins x=some (.builtin id))(ha:PA X (e::es) t)(hn:x≠"__name__":=by decide)(hdb:(x==("__debug__":Str))=false:=by decide)
  (he:starEach (e::es) X.env=(false,eval e X.env)::starEach es X.env:=by rfl) (hpl:(backTo pos (starEach es X.env)).any (·.1)=false:=by rfl):PE X (.Call (.Name x p) (e::es) [] pos) (tCB r t):=by
 intro pins s σ H Q I h
 refine U4d (Ms I hg hm hv ?_ hn hdb)
 exact PyProof.Rows.callWith_builtin1 (thn (ha pos pins s σ H _ I h) fun us s1 ⟨vs,H1,I1,r1,q1⟩=>hc pins s1 σ H1 vs us Q I1 r1 q1) he hpl
theorem Lf(hc:Dr X (.type T) r)(hg:Gl X x)(hm:X.mg x=none)(hv:bootBuiltins x=some (.type T))(ha:PA X (e::es) t)(hn:x≠"__name__":=by decide)(hdb:(x==("__debug__":Str))=false:=by decide)
  (he:starEach (e::es) X.env=(false,eval e X.env)::starEach es X.env:=by rfl) (hpl:(backTo pos (starEach es X.env)).any (·.1)=false:=by rfl):PE X (.Call (.Name x p) (e::es) [] pos) (tCB r t):=by
 intro pins s σ H Q I h
 refine U4d (Ms I hg hm hv ?_ hn hdb)
 exact U23 (thn (ha pos pins s σ H _ I h) fun us s1 ⟨vs,H1,I1,r1,q1⟩=>hc pins s1 σ H1 vs us Q I1 r1 q1) he hpl
end
end L2
namespace HT
open PySem PyProof.Rows
def lexLt:List Int->List Int->Bool
 |[],[]=>false
 |[],_::_=>true
 |_::_,[]=>false
 |x::xs,y::ys=>if x=y then lexLt xs ys else decide (x<y)
theorem PB(x y:Int)(xs ys:List Int):lexLt (x::xs) (y::ys)=if x=y then lexLt xs ys else decide (x<y):=rfl
theorem Pg:lexLt [] []=false:=rfl
theorem Tw(y:Int)(ys:List Int):lexLt [] (y::ys)=true:=rfl
theorem Tz(x:Int)(xs:List Int):lexLt (x::xs) []=false:=rfl
theorem fH(A:Around)(s:Shared)(a:Int)(t:Tok)(c:Int)(u:Tok):∃e,U61 A s (.int a t) (.int c u) e/\(e=true↔a=c) :=
 ⟨(a==c),U61.int_int a t c u,by simp⟩
theorem cU(A:Around)(s:Shared)(a:Int)(t:Tok)(c:Int)(u:Tok)(prog:Program)(w:World)(E:Value->Shared->Prop)(Q:Value->Shared->Prop)(h:Q (.bool (decide (a<c))) s) :
  wpAny (model prog w) A (richCompare .Lt (.int a t) (.int c u)) Q E s :=
 (PyProof.Rows.lt_int h:wpAny (model prog w) A (compareOp .Lt (.int a t) (.int c u)) Q E s)
section
open PySem.SeqAt
open PySem.AutoSeq1 (wpAny_loadPart')
open PySem.MeetsSeq PySem.MeetsSeq2 PySem.MeetsSeq3
theorem V0(l b:Addr)(items items2:Array Value)(n n2:Nat)(dd dd2:Option Addr)(sl sl2:Array (Option Value))(ns ms:List Int)(hi:IntsAre items.toList ns)(hj:IntsAre items2.toList ms) :
  Meets (Builtin.«tuple.__lt__» ⟨[.ref l,.ref b],[]⟩)
   (fun _ R s=>s.heap.get? l=some { cls:=.type "tuple",dict:=dd,data:=.seq items n,slots:=sl }/\s.heap.get? b=some { cls:=.type "tuple",dict:=dd2,data:=.seq items2 n2,slots:=sl2 } /\
    R (.ok (.ret (.bool (lexLt ns ms)))) s) :=
 .of_wp fun prog w A R s h=>by
  obtain⟨hp,g,d,tk,os⟩:=s;obtain⟨hl,hb,h⟩:=h
  have f2:=AutoSeq1.sub_tuple_tuple
  have z1:items.size=ns.length:=by rw[←hi.length];simp
  have z2:items2.size=ms.length:=by rw[←hj.length];simp
  wp_walk using wpAny_loadPart' hl,wpAny_loadPart' hb,wpAny_forIn_list _ (fun rest b s'=>b.1=none/\s'=⟨hp,g,d,tk,os⟩/\∃(vs ws:List Value)(ns' ms':List Int),rest=vs.zip ws /\
   IntsAre vs ns'/\IntsAre ws ms'/\ns'.length+items2.size=ms'.length+items.size/\R (.ok (.ret (.bool (lexLt ns' ms')))) ⟨hp,g,d,tk,os⟩) _
  case turn =>
   rintro⟨y,x⟩ rest b s' ⟨hb',rfl,vs,ws,ns',ms',hz,hvi,hwi,hlen,hR⟩
   cases hvi with
   |nil=>rw[List.zip_nil_left] at hz;cases hz
   |cons a t hvi' =>
    cases hwi with
    |nil=>rw[List.zip_nil_right] at hz;cases hz
    |cons c u hwi' =>
     rw[U47] at hz
     injection hz with hyx hrest
     injection hyx with hy hx
     subst hy hx
     rw[PB] at hR
     simp only[U0i] at hlen
     obtain⟨e,he,hiff⟩:=fH A.in1 ⟨hp,g,d,tk,os⟩ a t c u
     refine U0 (he prog w _ _ ?_)
     cases e with
     |true =>
      rw[if_pos (hiff.mp rfl)] at hR
      wp_walk
      exact⟨rfl,rfl,_,_,_,_,hrest,hvi',hwi',by omega,hR⟩
     |false =>
      rw[if_neg (fun q=>absurd (hiff.mpr q) U05)] at hR
      have hri:=cU A.in1 ⟨hp,g,d,tk,os⟩ a t c u prog w
      wp_walk using hri
      exact⟨_,rfl,by simpa using hR⟩
  case fin =>
   rintro⟨b1,b2⟩ s' ⟨hb',rfl,vs,ws,ns',ms',hz,hvi,hwi,hlen,hR⟩
   simp only at hb'
   subst hb'
   have hv:lexLt ns' ms'=decide (items.size<items2.size):=by
    cases hvi with
    |nil =>
     cases hwi with
     |nil =>
      simp only[U1r] at hlen
      rw[Pg]
      exact(decide_eq_false (by omega)).symm
     |cons c u hw =>
      simp only[U1r,U0i] at hlen
      rw[Tw]
      exact(decide_eq_true (by omega)).symm
    |cons a t hv =>
     cases hwi with
     |nil =>
      simp only[U1r,U0i] at hlen
      rw[Tz]
      exact(decide_eq_false (by omega)).symm
     |cons c u hw =>
      rw[U47] at hz
      cases hz
   rw[hv] at hR
   wp_walk
   exact⟨_,rfl,by simpa [Builtin.Tuple.tupleCompareSizes] using hR⟩
  case h =>
   exact⟨rfl,rfl,items.toList,items2.toList,ns,ms,rfl,hi,hj,by omega,h⟩
end
section
variable{prog:Program}{w:World}{A:Around}{E:Value->Shared->Prop}{s:Shared}
theorem Yz{l b:Addr}{items items2:Array Value}{ns ms:List Int}{Q:Value->Shared->Prop}(hl:IsTup s.heap l items)(hb:IsTup s.heap b items2)(hi:IntsAre items.toList ns)(hj:IntsAre items2.toList ms)
  (hu:A.units<cLine) (h:Q (.bool (lexLt ns ms)) s):wpAny (model prog w) A (compareOp .Lt (.ref l) (.ref b)) Q E s:=by
 obtain⟨⟨cls,dd,data,sl⟩,ho,hc,n,hd⟩:=id hl
 obtain⟨⟨cls2,dd2,data2,sl2⟩,ho2,hc2,n2,hd2⟩:=id hb
 simp only at hc hd hc2 hd2
 subst hc hd hc2 hd2
 exact richCompare_meets_room (op:=.Lt) ⟨_,ho,rfl⟩ ⟨_,ho2,rfl⟩ PySem.F.slot_tuple_lt PySem.F.entry_tuple_lt (PySem.F.args_tuple_lt_2 _ _) (V0 l b items items2 n n2 dd dd2 sl sl2 ns ms hi hj)
  ⟨ho,ho2,show U27 (lexLt ns ms)≠Value.notImplemented/\Q (.bool (lexLt ns ms)) s from ⟨(fun x=>nomatch x),h⟩⟩ hu
theorem jk{t b:Addr}{vs ws:List Value}{Q:Value->Shared->Prop}(ht:IsTup s.heap t vs.toArray)(hb:IsTup s.heap b ws.toArray)(hv:vs≠[])
  (h1:ws=[]->Q (.ref t) s) (h2:ws≠[]->Q (.ref s.heap.objs.size) { s with heap:=s.heap.push { cls:=.type "tuple",data:=.seq (vs++ws).toArray } })
  (hsz:vs.length+ws.length<=sizeLine):wpAny (model prog w) A (binaryOp .Add (.ref t) (.ref b)) Q E s:=by
 obtain⟨⟨cls,dd,data,sl⟩,ho,hc,n,hd⟩:=id ht
 obtain⟨⟨cls2,dd2,data2,sl2⟩,ho2,hc2,n2,hd2⟩:=id hb
 simp only at hc hd hc2 hd2
 subst hc hd hc2 hd2
 have e:vs.toArray++ws.toArray=(vs++ws).toArray:=by simp
 by_cases hw:ws=[]
 .exact concat_meets ⟨_,ho,rfl⟩ ⟨_,ho2,rfl⟩ noFill_tuple_add seq_tuple_add U5m U5g (U48 _ _)
   (tuple_addW1 t b vs.toArray ws.toArray n n2 dd dd2 sl sl2 (by simpa using hv) (by simp[hw])) ⟨ho,ho2,h1 hw⟩
 .refine concat_meets ⟨_,ho,rfl⟩ ⟨_,ho2,rfl⟩ noFill_tuple_add seq_tuple_add U5m U5g (U48 _ _)
   (tuple_addW2 t b vs.toArray ws.toArray n n2 dd dd2 sl sl2 (by simpa using hv) (by simpa using hw) (by rw[U0j,U0j];exact hsz)) ⟨ho,ho2,?_⟩
  rw[e]
  exact h2 hw
def sIx(n d:Nat):Option Int->Nat
 |none=>d
 |some v=>if v<0 then (v+(n:Int)).toNat else min v.toNat n
theorem mX(n d:Nat)(hd:d<=n)(o:Option Int):sIx n d o<=n:=by
 cases o with
 |none=>exact hd
 |some v =>
  show(if v<0 then (v+(n:Int)).toNat else min v.toNat n)<=n
  by_cases hv:v<0
  .rw[if_pos hv];omega
  .rw[if_neg hv];exact Nat.min_le_right _ _
theorem YC(v:Int)(n d:Nat):(if v<0 then max (v+(n:Int)) 0 else min v (n:Int))=((sIx n d (some v):Nat):Int):=by
 show(if v<0 then max (v+(n:Int)) 0 else min v (n:Int))=(((if v<0 then (v+(n:Int)).toNat else min v.toNat n):Nat):Int)
 by_cases hv:v<0
 .simp only[if_pos hv];omega
 .simp only[if_neg hv];omega
theorem ZG(lo hi:Option Int)(n:Nat):U45 lo hi 1 (n:Int)=(((sIx n 0 lo:Nat):Int),((sIx n n hi:Nat):Int)):=by
 have h1:¬((1:Int)<0):=by omega
 unfold U45
 simp only[h1,if_false]
 refine Prod.ext ?_ ?_
 .cases lo with
  |none=>rfl
  |some v=>exact YC v n 0
 .cases hi with
  |none=>rfl
  |some v=>exact YC v n n
theorem Yt(i j:Nat):U3x (i:Int) (j:Int) 1=j-i:=by
 unfold U3x
 have h1:(1:Int)>0:=by omega
 simp only[h1,if_true,Int.ediv_one]
 split<;>omega
theorem Sh{v:Value}{o:Option Int}{Q:Option Int->Shared->Prop}(p:IsPart v o)(h:Q o s):wpAny (model prog w) A (Builtin.Slice.slicePartIndex v) Q E s:=by
 cases p with
 |none=>exact slicePart_none h
 |int i t=>exact slicePart_int h
theorem NT{sl:Addr}{vl vu:Value}{lo hi:Option Int}{n:Nat}{Q:Int×Int×Nat->Shared->Prop}(hs:s.heap.IsSliceOf sl vl vu .none)(pl:IsPart vl lo)(pu:IsPart vu hi)
  (h:Q (((sIx n 0 lo:Nat):Int),1,sIx n n hi-sIx n 0 lo) s):wpAny (model prog w) A (Builtin.Slice.sliceApplied (.ref sl) (pure (n:Int))) Q E s:=by
 obtain⟨os,hos,hcs,hds⟩:=id hs
 unfold Builtin.Slice.sliceApplied Builtin.Slice.sliceFields
 refine U0 (U0 (U10 hos hds (x:=vl) rfl (U0 (U10 hos hds (x:=vu) rfl (U0 (U10 hos hds (x:=.none) rfl (U0c ?_)))))))
 refine U0 (slicePart_none ?_)
 show wpAny _ _ (if ((1:Int)==0)=true then _ else _) _ _ s
 rw[if_neg (by decide)]
 refine U0 (Sh pl (U0 (Sh pu (U0 (U0c ?_)))))
 show wpAny _ _ (match U45 lo hi 1 (n:Int) with|(lo,hi)=>pure (lo,(1:Int),U3x lo hi 1)) _ _ s
 rw[ZG lo hi n]
 show wpAny _ _ (pure (((sIx n 0 lo:Nat):Int),(1:Int),U3x ((sIx n 0 lo:Nat):Int) ((sIx n n hi:Nat):Int) 1)) _ _ s
 rw[Yt]
 exact U0c h
theorem cu(xs:Array Value)(i k:Nat):((U12 k).filterMap fun(m:Nat)=>xs[((i:Int)+(m:Int)*1).toNat]?).toArray=((xs.toList.drop i).take k).toArray:=by
 have e:(fun(m:Nat)=>xs[((i:Int)+(m:Int)*1).toNat]?)=fun m=>xs[i+m]?:=by
  funext m
  have:((i:Int)+(m:Int)*1).toNat=i+m:=by omega
  rw[this]
 rw[e]
 have:=pick_run xs i k
 rw[List.filterMap_map] at this
 have e2:((fun x=>xs[x]?)∘fun x=>i+x)=fun m=>xs[i+m]?:=rfl
 rw[e2] at this
 rw[this]
theorem Qt{t sl:Addr}{items:Array Value}{vl vu:Value}{lo hi:Option Int}{Q:Value->Shared->Prop}(ht:IsTup s.heap t items)(hs:s.heap.IsSliceOf sl vl vu .none)(pl:IsPart vl lo)(pu:IsPart vu hi)
  (hw:¬(sIx items.size 0 lo=0/\sIx items.size items.size hi=items.size))
  (h:Q (.ref s.heap.objs.size) { s with heap:=s.heap.push { cls:=.type "tuple",data:=.seq ((items.toList.drop (sIx items.size 0 lo)).take (sIx items.size items.size hi-sIx items.size 0 lo)).toArray } })
  (hsz:items.size<=sizeLine):wpAny (model prog w) A (getItem (.ref t) (.ref sl)) Q E s:=by
 have htake:sizeOk (.seq ((items.toList.drop (sIx items.size 0 lo)).take (sIx items.size items.size hi-sIx items.size 0 lo)).toArray):=by
  show((items.toList.drop (sIx items.size 0 lo)).take (sIx items.size items.size hi-sIx items.size 0 lo)).toArray.size<=sizeLine
  rw[U0j,U2c,U5s,U1l]
  omega
 have hj:sIx items.size items.size hi<=items.size:=mX _ _ (U0m _) hi
 obtain⟨os,hos,hcs,hds⟩:=id hs
 have hTs:s.TypeIs (.ref sl) "slice":=⟨os,hos,hcs⟩
 unfold getItem
 try with_reducible refine U1z ?_
 first|refine U0 (U0c ?_)|skip
 refine U0 (wpAny_sequenceKey ht.typeIs (by decide) ?_)
 refine U0 (wpAny_callSpecial?_slot (name:=U25 "__getitem__") ht.typeIs U2h
  (U1w U2h ht.typeIs entry_tuple_getitem ?_ (args_tuple_getitem _ _)))
 show wpAny _ _ (Builtin.Tuple.tupleItemsOf (.ref t) >>= _) _ _ s
 refine U0 (tupleItemsOf_ ht ?_)
 refine U0 (U49 hTs ?_)
 rw[if_pos (by decide)]
 refine U0 (NT hs pl pu ?_)
 have hno:¬((((sIx items.size 0 lo:Nat):Int)==0&&(1:Int)==1&&(sIx items.size items.size hi-sIx items.size 0 lo)==items.size)=true):=by
  intro q
  rw[U0x,U0x] at q
  have q1:((sIx items.size 0 lo:Nat):Int)=0:=eq_of_beq q.1.1
  have q2:sIx items.size items.size hi-sIx items.size 0 lo=items.size:=eq_of_beq q.2
  exact hw ⟨by omega,by omega⟩
 show wpAny _ _ (if (((sIx items.size 0 lo:Nat):Int)==0&&(1:Int)==1&&(sIx items.size items.size hi-sIx items.size 0 lo)==items.size)=true then _ else _) _ _ s
 rw[if_neg hno,cu]
 first
  |exact U0 (m:=U32 _) (U15 (U0c ⟨_,rfl,U0c h⟩) htake)
  |exact U0 (m:=U32 _) (U15 (U0 (U0c (U0c ⟨_,rfl,U0c h⟩))) htake)
  |exact U0 (U0 (m:=U32 _) (U15 (U0c (U0c ⟨_,rfl,U0c h⟩)) htake))
  |exact U0 (U0 (m:=U32 _) (U15 (U0c ⟨_,rfl,U0c h⟩) htake))
end
end HT
namespace L2
open PySem PySem.Spec PyProof.Rows
abbrev TO:=St->Hp->(Option Int->Hp->Prop)->Prop
def PO(X:Cx)(e:Option Expr)(t:TO):Prop :=
 ∀(pins:List (Addr×Obj))(s:Shared)(σ:St)(H:Hp)(Q:Option Int->Hp->Prop),Inv X pins σ H s->t σ H Q ->
  wpAny (model X.prog X.w) X.A (evalPart e X.env) (fun u s'=>∃o H',Inv X pins σ H' s'/\IsPart u o/\Q o H') X.xe s
def iH:TO:=fun _ H Q=>Q none H
def qQ(t:TE):TO:=fun σ H Q=>t σ H fun x H1=>∃i,x=.int i/\Q (some i) H1
theorem intsAre_of{ns:List Int}:∀{us:List Value},Vals (ns.map V.int) us->IntsAre us ns:=by
 induction ns with
 |nil=>intro us r;rw[U1p] at r;cases r;exact .nil
 |cons n ns ih =>
  intro us r
  rw[U00] at r
  cases r with
  |cons r1 r2 =>
   obtain⟨t,e⟩:=r1
   subst e
   exact .cons n t (ih r2)
section
variable{X:Cx}{e:Expr}{te:TE}{lo hi:Option Expr}{tl th:TO}{pos p2:Pos}
theorem j6:PO X none iH:=by
 intro pins s σ H Q I h
 rw[evalPart_none]
 exact U0c ⟨none,H,I,.none,h⟩
theorem j5(h:PE X e te):PO X (some e) (qQ te):=by
 intro pins s σ H Q I hw
 rw[evalPart_some]
 refine thn (h pins s σ H _ I hw) fun u s1 ⟨x,H1,I1,r1,q1⟩=>?_
 obtain⟨i,rfl,q⟩:=q1
 obtain⟨t,rfl⟩:=r1
 exact⟨some i,H1,I1,.int i t,q⟩
def SlR(X:Cx)(r:V->Option Int->Option Int->Hp->VK->Prop):Prop :=
 ∀(pins:List (Addr×Obj))(s:Shared)(σ:St)(H:Hp)(x:V)(v vl vu:Value)(lo hi:Option Int)(sl:Addr)(Q:VK),Inv X pins σ H s->RelV x v->s.heap.IsSliceOf sl vl vu .none->IsPart vl lo->IsPart vu hi->r x lo hi H Q ->
  ∃T id,typeLookup (.type T) "__getitem__"=pure (some (.builtin id))/\s.TypeIs v T/\wpAny (model X.prog X.w) X.A (getItem v (.ref sl)) (EP X pins σ Q) X.xe s
theorem SlR.or{r r':V->Option Int->Option Int->Hp->VK->Prop}(h:SlR X r)(h':SlR X r'):SlR X (fun x lo hi H Q=>r x lo hi H Q∨r' x lo hi H Q):=by
 intro pins s σ H x v vl vu lo hi sl Q I rx hs pl pu q
 rcases q with q|q
 .exact h pins s σ H x v vl vu lo hi sl Q I rx hs pl pu q
 .exact h' pins s σ H x v vl vu lo hi sl Q I rx hs pl pu q
def tSl(r:V->Option Int->Option Int->Hp->VK->Prop)(te:TE)(tl th:TO):TE:=fun σ H Q=>te σ H fun x H1=>tl σ H1 fun l H2=>th σ H2 fun u H3=>r x l u H3 Q
theorem dB{r:V->Option Int->Option Int->Hp->VK->Prop}(hr:SlR X r)(he:PE X e te)(hl:PO X lo tl)(hu:PO X hi th):PE X (.Subscript e (.Slice lo hi none p2) pos) (tSl r te tl th):=by
 intro pins s σ H Q I h
 refine Subscript_ (thn (he pins s σ H _ I h) fun v s1 ⟨x,H1,I1,r1,q1⟩=>?_)
 refine wpAny_Slice (thn (hl pins s1 σ H1 _ I1 q1) fun vl s2 ⟨l,H2,I2,pl,q2⟩=>thn (hu pins s2 σ H2 _ I2 q2) fun vu s3 ⟨u,H3,I3,pu,q3⟩=>?_)
 rw[evalPart_none]
 refine U0c ?_
 have I4:Inv X pins σ H3 { s3 with heap:=s3.heap.push { cls:=.type "slice",data:=.fields #[vl,vu,.none] } }:=I3.kept (t':=s3.toks) fun b ob q=>U0b _ q
 obtain⟨T,id,hT,ht,hg⟩:=hr pins { s3 with heap:=s3.heap.push { cls:=.type "slice",data:=.fields #[vl,vu,.none] } } σ H3 x v vl vu l u s3.heap.objs.size Q I4 r1 (Heap.IsSliceOf.new ..) pl pu q3
 show wpAny (model X.prog X.w) X.A (subscriptTail e (.Slice lo hi none p2) v (.ref s3.heap.objs.size)) (EP X pins σ Q) X.xe { s3 with heap:=s3.heap.push { cls:=.type "slice",data:=.fields #[vl,vu,.none] } }
 exact tail_any (ops:=[.ref s3.heap.objs.size,v]) ht hT hg (by with_unfolding_all rfl)
def Js(xs:List V)(lo hi:Option Int):List V:=(xs.drop (HT.sIx xs.length 0 lo)).take (HT.sIx xs.length xs.length hi-HT.sIx xs.length 0 lo)
theorem R0(xs:List V)(lo hi:Option Int):(Js xs lo hi).length<=xs.length:=by
 unfold Js
 rw[U2c,U5s]
 omega
def tG(K:U0a):V->Option Int->Option Int->Hp->VK->Prop:=fun x lo hi H Q=>∃a xs,x=.ref a/\SqT K H a xs /\
 ¬(HT.sIx xs.length 0 lo=0/\HT.sIx xs.length xs.length hi=xs.length)/\∀p,H p=none->Q (.ref p) (upd H p (.tup (Js xs lo hi)))
theorem mQ:SlR X (tG X.K):=by
 intro pins s σ H x v vl vu lo hi sl Q I rx hs pl pu h
 obtain⟨a,xs,rfl,hx,hw,q⟩:=h
 cases rx
 obtain⟨its,r,ht,hz⟩:=I.tuple hx
 have hlen:its.toArray.size=xs.length:=by rw[U0j];exact r.length.symm
 refine⟨"tuple",_,U2h.lookup,ht.typeIs,?_⟩
 refine HT.Qt ht hs pl pu (by rw[hlen];exact hw) ?_ (by rw[hlen];exact hz)
 rw[hlen]
 refine⟨.ref s.heap.objs.size,_,I.laid (t':=s.toks) (o:=.tup (Js xs lo hi)) (fun b ob q=>U0b _ q) (U0m _) ?_,rfl,q _ (I.hok.fresh (U0m _))⟩
 exact⟨U02 (R0 xs lo hi) hz,_,(r.drop (HT.sIx xs.length 0 lo)).take (HT.sIx xs.length xs.length hi-HT.sIx xs.length 0 lo),IsTup.new _ _⟩
def qb(K:U0a):R2:=fun x y H Q=>∃a b xs ys,x=.ref a/\y=.ref b/\SqT K H a xs/\SqT K H b ys/\xs≠[]/\xs.length+ys.length<=sizeLine /\
 (ys=[]->Q (.ref a) H)/\(ys≠[]->∀p,H p=none->Q (.ref p) (upd H p (.tup (xs++ys))))
theorem Vals.Qm{xs:List V}{us:List Value}(r:Vals xs us):us=[]↔xs=[]:=by
 cases r with
 |nil=>simp
 |cons _ _=>simp
theorem jF:OpR X (binaryOp .Add) (qb X.K):=by
 intro pins s σ H x y v u Q I rx ry h
 obtain⟨a,b,xs,ys,rfl,rfl,ha,hb,hx,hz,q1,q2⟩:=h
 cases rx
 cases ry
 obtain⟨its,r1,p1,_⟩:=I.tuple ha
 obtain⟨its2,r2,p2,_⟩:=I.tuple hb
 refine HT.jk p1 p2 (fun z=>hx (r1.Qm.mp z)) (fun z=>⟨.ref a,H,I,rfl,q1 (r2.Qm.mp z)⟩) (fun z=>?_) (by rw[←r1.length,←r2.length];exact hz)
 refine⟨.ref s.heap.objs.size,_,I.laid (t':=s.toks) (o:=.tup (xs++ys)) (fun b ob q=>U0b _ q) (U0m _) ?_,rfl,q2 (fun w=>z (r2.Qm.mpr w)) _ (I.hok.fresh (U0m _))⟩
 exact⟨by rw[U0o];exact hz,_,r1.append r2,IsTup.new _ _⟩
end
end L2
namespace L2
open PySem PySem.Spec PyProof.Rows
def ixN(n:Nat)(i:Int):Option Nat:=if 0<=i then (if i<n then some i.toNat else none) else if -(n:Int)<=i then some (i+n).toNat else none
def atI{α:Type}(xs:List α)(i:Int):Option α:=(ixN xs.length i).bind fun j=>xs[j]?
theorem Y0{n:Nat}{i:Int}{j:Nat}(h:ixN n i=some j):seqIndex? i n=some j/\j<n/\-(n:Int)<=i/\i<n:=by
 unfold ixN at h
 by_cases h0:0<=i
 .rw[if_pos h0] at h
  by_cases h1:i<n
  .rw[if_pos h1] at h
   have e:i.toNat=j:=U0w h
   exact⟨by rw[seqIndex_of h0 h1,e],by omega,by omega,h1⟩
  .rw[if_neg h1] at h;cases h
 .rw[if_neg h0] at h
  by_cases h1:-(n:Int)<=i
  .rw[if_pos h1] at h
   have e:(i+n).toNat=j:=U0w h
   exact⟨by rw[seqIndex_neg (by omega) h1,e],by omega,h1,by omega⟩
  .rw[if_neg h1] at h;cases h
theorem Tq{α:Type}{xs:List α}{i:Int}{v:α}(h:atI xs i=some v):∃j,seqIndex? i xs.length=some j/\xs[j]?=some v/\j<xs.length/\-(xs.length:Int)<=i/\i<xs.length:=by
 unfold atI at h
 cases e:ixN xs.length i with
 |none=>rw[e] at h;cases h
 |some j =>
  rw[e] at h
  obtain⟨h1,h2,h3,h4⟩:=Y0 e
  exact⟨j,h1,h,h2,h3,h4⟩
theorem MP{α:Type}{xs:List α}{j:Nat}{v:α}(h:xs[j]?=some v):atI xs (j:Int)=some v:=by
 have hj:j<xs.length:=(U0h.mp h).1
 have e:ixN xs.length (j:Int)=some j:=by
  unfold ixN
  rw[if_pos (by omega),if_pos (by omega)];simp
 unfold atI;rw[e];exact h
theorem fP{α:Type}(xs:List α)(v:α):atI (xs++[v]) (-1)=some v:=by
 have hl:(xs++[v]).length=xs.length+1:=by simp
 have e:ixN (xs++[v]).length (-1)=some xs.length:=by
  unfold ixN
  rw[hl,if_neg (by decide),if_pos (by omega)]
  congr 1
  omega
 unfold atI
 rw[e]
 show(xs++[v])[xs.length]?=some v
 simp
def Qs(b:Expr):Prop:=∀o i,subscripted b false o i=operate [o,i] (getItem o i)
def IxR(X:Cx)(r:R2):Prop :=
 ∀(value slice:Expr)(pins:List (Addr×Obj))(s:Shared)(σ:St)(H:Hp)(x y:V)(v u:Value)(Q:VK),Inv X pins σ H s->RelV x v->RelV y u->r x y H Q ->
  subscripted slice false v u=operate [v,u] (getItem v u)->wpAny (model X.prog X.w) X.A (subscriptTail value slice v u) (EP X pins σ Q) X.xe s
def MtR(X:Cx)(id:String)(r:V->List V->Hp->VK->Prop):Prop :=
 ∀(pins:List (Addr×Obj))(s:Shared)(σ:St)(H:Hp)(x:V)(xs:List V)(v:Value)(us:List Value)(Q:VK),Inv X pins σ H s->RelV x v->Vals xs us->r x xs H Q ->
  wpAny (model X.prog X.w) X.A (call (.builtin id) (v::us)) (EP X pins σ Q) X.xe s
section
variable{X:Cx}{a b:Expr}{ta tb:TE}{pos:Pos}
theorem IxR.or{r r':R2}(h:IxR X r)(h':IxR X r'):IxR X (fun x y H Q=>r x y H Q∨r' x y H Q):=by
 intro value slice pins s σ H x y v u Q I rx ry q hs
 rcases q with q|q
 .exact h value slice pins s σ H x y v u Q I rx ry q hs
 .exact h' value slice pins s σ H x y v u Q I rx ry q hs
theorem qp{r:R2}(hr:IxR X r)(ha:PE X a ta)(hb:PE X b tb)(hs:Qs b):PE X (.Subscript a b pos) (tOp r ta tb):=by
 intro pins s σ H Q I h
 exact Subscript_ (YT ha hb I h fun v u s2 x y H2 I2 rx ry q=>hr a b pins s2 σ H2 x y v u Q I2 rx ry q (hs _ _))
def lZ(K:U0a):R2:=fun x y H Q=>∃p xs i v,x=.ref p/\y=.int i/\SqL K H p xs/\atI xs i=some v/\Q v H
def lX(K:U0a):R2:=fun x y H Q=>∃p xs i v,x=.ref p/\y=.int i/\SqT K H p xs/\atI xs i=some v/\Q v H
def lY:R2:=fun x y H Q=>∃z i c,x=.str z/\y=.int i/\z.length<=sizeLine/\atI z.cps.toList i=some c/\Q (.str ⟨#[c]⟩) H
theorem jW:IxR X (lZ X.K):=by
 intro value slice pins s σ H x y v u Q I rx ry h hs
 obtain⟨p,xs,i,z,rfl,rfl,hq,he,q⟩:=h
 cases rx
 obtain⟨t,rfl⟩:=ry
 obtain⟨its,r,pl,hz⟩:=I.list hq
 obtain⟨j,h1,h2,h3,h4,h5⟩:=Tq he
 obtain⟨w,ew,rw'⟩:=r.get h2
 have hl:=r.length
 have hn:=Q6
 have fin:EP X pins σ Q w s:=⟨z,H,I,rw',q⟩
 by_cases h0:0<=i
 .have hj:i.toNat=j:=by
   rw[seqIndex_of h0 h5] at h1
   exact U0w h1
  exact item_listR pl.isList h0 (by omega) (by rw[hj];simpa using ew) fin hs
 .have hj:(i+(its.toArray.size:Int)).toNat=j:=by
   rw[seqIndex_neg (by omega) h4] at h1
   rw[U0j,←hl]
   exact U0w h1
  exact subscriptTail_builtinR (x:=w) pl.isList.typeIs slot_list_getitem.lookup
   (wpAny_getItem_list_neg (Q:=fun r s'=>r=w/\EP X pins σ Q r s') pl.isList (by omega) (by rw[U0j]<;>omega) (by omega) (by rw[hj];simpa using ew) ⟨rfl,fin⟩) hs
theorem oY:IxR X (lX X.K):=by
 intro value slice pins s σ H x y v u Q I rx ry h hs
 obtain⟨p,xs,i,z,rfl,rfl,hq,he,q⟩:=h
 cases rx
 obtain⟨t,rfl⟩:=ry
 obtain⟨its,r,pl,hz⟩:=I.tuple hq
 obtain⟨j,h1,h2,h3,h4,h5⟩:=Tq he
 obtain⟨w,ew,rw'⟩:=r.get h2
 have hl:=r.length
 have hn:=Q6
 have fin:EP X pins σ Q w s:=⟨z,H,I,rw',q⟩
 exact subscriptTail_builtinR (x:=w) pl.typeIs slot_tuple_getitem.lookup
  (getItem_tuple (j:=j) (Q:=fun r s'=>r=w/\EP X pins σ Q r s') pl (by omega) (by omega) (by rw[U0j,←hl];exact h1) (by simpa using ew) ⟨rfl,fin⟩) hs
theorem oZ:IxR X lY:=by
 intro value slice pins s σ H x y v u Q I rx ry h hs
 obtain⟨z,i,c,rfl,rfl,hz,he,q⟩:=h
 obtain⟨t,rfl⟩:=rx
 obtain⟨t',rfl⟩:=ry
 obtain⟨j,h1,h2,h3,h4,h5⟩:=Tq he
 have hl:z.cps.toList.length=z.length:=by simp[Str.length]
 rw[hl] at h1 h4 h5
 have hn:=Q6
 exact tail_any (typeIs_str s z t) slot_str_getitem.lookup (getItem_str (c:=c) (by
  have e1:decide (i < -(2^63:Int))=false:=decide_eq_false (by omega)
  have e2:decide (i≥2^63)=false:=decide_eq_false (by omega)
  rw[e1,e2,Bool.or_false]) (by rw[h1];simpa using h2) ⟨.str ⟨#[c]⟩,H,I.tok _,⟨_,rfl⟩,q⟩) hs
def rIx(K:U0a):R2:=fun x y H Q=>lZ K x y H Q∨lX K x y H Q∨lY x y H Q
theorem BZ:IxR X (rIx X.K):=jW.or (oY.or oZ)
theorem Yy(its:List Value)(n j:Nat)(u:Value):U1e (·.setIfInBounds j u) { cls:=.type "list",data:=.seq its.toArray n }={ cls:=.type "list",data:=.seq (its.set j u).toArray n }:=by
 simp[U1e]
theorem Inv.lst{pins:List (Addr×Obj)}{σ:St}{H:Hp}{s:Shared}{p:Addr}{xs:List V}(I:Inv X pins σ H s)(h:H p=some (.lst xs)) :
  ∃(its:List Value)(n:Nat),Vals xs its/\s.heap.get? p=some { cls:=.type "list",data:=.seq its.toArray n }/\xs.length<=sizeLine:=by
 obtain⟨z,its,n,r,e⟩:=I.hok p _ h
 exact⟨its,n,r,e,z⟩
theorem Inv.oH{pins:List (Addr×Obj)}{σ:St}{H:Hp}{s:Shared}{p:Addr}{xs ys:List V}{its its':List Value}{n n':Nat}{f:Obj->Obj}(I:Inv X pins σ H s)(h:H p=some (.lst xs))
  (ho:s.heap.get? p=some { cls:=.type "list",data:=.seq its.toArray n }) (hf:f { cls:=.type "list",data:=.seq its.toArray n }={ cls:=.type "list",data:=.seq its'.toArray n' }) (r:Vals ys its') (hz:ys.length<=sizeLine) (t:Nat) :
  Inv X pins σ (upd H p (.lst ys)) { s with heap:=s.heap.update p f,toks:=t }:=by
 have e:(s.heap.update p f).get? p=some { cls:=.type "list",data:=.seq its'.toArray n' }:=by
  rw[U11 f ho (by rw[hf]<;>rfl),hf]
 refine I.write (x:=p) (e:=p) (by rw[h];trivial) (.inl rfl) (fun b u hb q=>(U1a _ _ (U1j hb)).trans q) ⟨_,e⟩ ?_
 exact⟨hz,its',n',r,e⟩
def qY:V->V->V->Hp->(Hp->Prop)->Prop:=fun o i v H Q=>∃p xs k j,o=.ref p/\i=.int k/\H p=some (.lst xs)/\ixN xs.length k=some j/\Q (upd H p (.lst (xs.set j v)))
theorem set_list:mG X qY:=by
 intro pins s σ H o i v ov iv u Q I ro ri rv h
 obtain⟨p,xs,k,j,rfl,rfl,hp,hj,q⟩:=h
 cases ro
 obtain⟨t,rfl⟩:=ri
 obtain⟨its,n,r,ho,hz⟩:=I.lst hp
 obtain⟨h1,h2,h3,h4⟩:=Y0 hj
 have hl:=r.length
 have hn:=Q6
 have I':Inv X pins σ (upd H p (.lst (xs.set j v))) { s with heap:=s.heap.update p (U1e (·.setIfInBounds j u)) } :=
  I.oH hp ho (Yy its n j u) (r.set rv j) (by rw[U3p];exact hz) s.toks
 by_cases h0:0<=k
 .have hk:k.toNat=j:=by
   rw[seqIndex_of h0 h4] at h1
   exact U0w h1
  exact PySem.W.ki_setAt ho h0 (by omega) (by rw[U0j,←hl];exact h4) (by rw[hk];exact⟨_,I',q⟩)
 .have hk:(k+(its.toArray.size:Int)).toNat=j:=by
   rw[seqIndex_neg (by omega) h3] at h1
   rw[U0j,←hl]
   exact U0w h1
  exact PySem.W.ki_setBack ho (by omega) (by rw[U0j,←hl];exact h3) (by omega) (by rw[hk];exact⟨_,I',q⟩)
theorem WY(lo hi:Option Int)(n:Nat):(sliceBounds lo hi none n).1=((HT.sIx n 0 lo:Nat):Int)/\(sliceBounds lo hi none n).2.1=((HT.sIx n n hi:Nat):Int)/\(sliceBounds lo hi none n).2.2=1:=by
 refine⟨?_,?_,rfl⟩
 .cases lo with
  |none=>simp[sliceBounds,HT.sIx]
  |some i =>
   simp only[sliceBounds,HT.sIx,Option.getD_none,show(1:Int)>0 by decide,if_true]
   by_cases h:i<0
   .simp only[h,if_true]<;>omega
   .simp only[h,if_false]<;>omega
 .cases hi with
  |none=>simp[sliceBounds,HT.sIx]
  |some i =>
   simp only[sliceBounds,HT.sIx,Option.getD_none,show(1:Int)>0 by decide,if_true]
   by_cases h:i<0
   .simp only[h,if_true]<;>omega
   .simp only[h,if_false]<;>omega
theorem V1(its:List Value)(lo hi:Option Int):slicePick its.toArray lo hi none=((its.drop (HT.sIx its.length 0 lo)).take (HT.sIx its.length its.length hi-HT.sIx its.length 0 lo)).toArray:=by
 obtain⟨h1,h2,h3⟩:=WY lo hi its.toArray.size
 unfold slicePick
 rw[h1,h2,h3]
 simp only[sliceRange_one,pick_run,U0j]<;>rfl
def lQ(K:U0a):V->Option Int->Option Int->Hp->VK->Prop:=fun x lo hi H Q=>∃a xs,x=.ref a/\SqL K H a xs/\∀p,H p=none->Q (.ref p) (upd H p (.lst (Js xs lo hi)))
theorem iJ:SlR X (lQ X.K):=by
 intro pins s σ H x v vl vu lo hi sl Q I rx hs pl pu h
 obtain⟨a,xs,rfl,hx,q⟩:=h
 cases rx
 obtain⟨its,r,ht,hz⟩:=I.list hx
 have hlen:=r.length
 refine⟨"list",_,slot_list_getitem.lookup,ht.isList.typeIs,?_⟩
 refine wpAny_getItem_list_slice ht.isList hs pl pu .none (by simp) ?_ (by rw[U0j]<;>omega)
 rw[V1,←hlen]
 refine⟨.ref s.heap.objs.size,_,I.laid (t':=s.toks) (o:=.lst (Js xs lo hi)) (fun b ob q=>U0b _ q) (U0m _) ?_,rfl,q _ (I.hok.fresh (U0m _))⟩
 exact⟨U02 (R0 xs lo hi) hz,_,0,(r.drop (HT.sIx xs.length 0 lo)).take (HT.sIx xs.length xs.length hi-HT.sIx xs.length 0 lo),U0p _ rfl⟩
theorem Dk:Dr X (.builtin "len") (fun xs H Q=>∃p ys,xs=[.ref p]/\(SqL X.K H p ys∨SqT X.K H p ys)/\Q (.int ys.length) H):=by
 intro pins s σ H xs us Q I r h
 obtain⟨p,ys,rfl,hq,q⟩:=h
 obtain⟨u,rfl,rx⟩:=vals1 r
 cases rx
 have hn:=Q6
 rcases hq with hq|hq
 .obtain⟨its,r',pl,hz⟩:=I.list hq
  have hlen:=r'.length
  exact Calls.call_len_list pl.isList (by simp only[U0j]<;>omega) ⟨.int ys.length,H,I.tok _,⟨s.toks+1,by rw[U0j,hlen]⟩,q⟩
 .obtain⟨its,r',pl,hz⟩:=I.tuple hq
  have hlen:=r'.length
  exact len_tuple pl (by simp only[U0j]<;>omega) ⟨.int ys.length,H,I.tok _,⟨s.toks+1,by rw[U0j,hlen]⟩,q⟩
theorem Dr.or{f:Value}{r r':List V->Hp->VK->Prop}(h:Dr X f r)(h':Dr X f r'):Dr X f (fun xs H Q=>r xs H Q∨r' xs H Q):=by
 intro pins s σ H xs us Q I rs q
 rcases q with q|q
 .exact h pins s σ H xs us Q I rs q
 .exact h' pins s σ H xs us Q I rs q
theorem Wn:Dr X (.type "list") (fun xs H Q=>∃p ys,xs=[.ref p]/\(SqL X.K H p ys∨SqT X.K H p ys)/\∀l,H l=none->Q (.ref l) (upd H l (.lst ys))):=by
 intro pins s σ H xs us Q I r h
 obtain⟨p,ys,rfl,hq,q⟩:=h
 obtain⟨u,rfl,rx⟩:=vals1 r
 cases rx
 have fin:∀(its:List Value),Vals ys its->ys.length<=sizeLine->∀(h':Heap)(c':Nat),(∀b o',s.heap.get? b=some o'->h'.get? b=some o') ->
   h'.get? s.heap.objs.size=some { cls:=.type "list",dict:=none,data:=.seq its.toArray c',slots:=#[] }->EP X pins σ Q (.ref s.heap.objs.size) { s with heap:=h' }:=fun its r' hz h' c' kp e =>
  ⟨.ref s.heap.objs.size,_,I.laid (t':=s.toks) kp (U0m _) (show Eh X.prog X.w _ h' _ (.lst ys) from ⟨hz,its,c',r',e⟩),rfl,q _ (I.hok.fresh (U0m _))⟩
 rcases hq with hq|hq
 .obtain⟨its,r',pl,hz⟩:=I.list hq
  have hlen:=r'.length
  obtain⟨o,ho,hc,n,hd⟩:=pl.isList
  exact call_list_seq p (.inl rfl) ho hc hd (fun h' c' kp e=>fin its r' hz h' c' kp e) (by simp only[U0j]<;>omega)
 .obtain⟨its,r',pl,hz⟩:=I.tuple hq
  have hlen:=r'.length
  obtain⟨o,ho,hc,n,hd⟩:=pl
  exact call_list_seq p (.inr rfl) ho hc hd (fun h' c' kp e=>fin its r' hz h' c' kp e) (by simp only[U0j]<;>omega)
theorem Pk:Dr X (.type "tuple") (fun xs H Q=>∃p ys,xs=[.ref p]/\((SqL X.K H p ys/\∀l,H l=none->Q (.ref l) (upd H l (.tup ys)))∨(SqT X.K H p ys/\Q (.ref p) H))):=by
 intro pins s σ H xs us Q I r h
 obtain⟨p,ys,rfl,h⟩:=h
 obtain⟨u,rfl,rx⟩:=vals1 r
 cases rx
 rcases h with ⟨hq,q⟩|⟨hq,q⟩
 .obtain⟨its,r',pl,hz⟩:=I.list hq
  have hlen:=r'.length
  refine call_tuple_list pl.isList (fun h' kp=>?_) (by simp only[U0j]<;>omega)
  have I1:Inv X pins σ H { s with heap:=h' }:=I.kept (t':=s.toks) kp
  have I2:Inv X pins σ (upd H h'.objs.size (.tup ys)) { s with heap:=h'.push { cls:=.type "tuple",data:=.seq its.toArray } } :=
   I1.laid (t':=s.toks) (fun b o e=>U0b _ e) (U0m _) (show Eh X.prog X.w _ _ _ (.tup ys) from ⟨hz,its,r',IsTup.new _ _⟩)
  exact⟨.ref h'.objs.size,_,I2,rfl,q _ (I1.hok.fresh (U0m _))⟩
 .obtain⟨its,r',pl,hz⟩:=I.tuple hq
  exact call_tuple_same pl ⟨.ref p,H,I,rfl,q⟩
def tyV(K:U0a)(T:String)(x:V)(H:Hp):Prop:=match x with
 |.str _=>T="str"
 |.int _=>T="int"
 |.ref p=>(T="list"/\∃xs,SqL K H p xs)∨(T="tuple"/\∃o,K.lookup p=some o/\o.cls=.type "tuple"/\o.dict=none) ∨
   (T="dict"/\((∃kvs,H p=some (.dK kvs))∨∃kvs,H p=some (.dT kvs)))∨(T="set"/\∃S n,H p=some (.set S n))
 |_=>False
theorem mL{pins:List (Addr×Obj)}{σ:St}{H:Hp}{s:Shared}{T:String}{x:V}{v:Value}(I:Inv X pins σ H s)(r:RelV x v)(ty:tyV X.K T x H) :
  s.TypeIs v T/\∀a,v=.ref a->∃ob,s.heap.get? a=some ob/\ob.dict=none:=by
 cases x with
 |str z =>
  obtain⟨t,rfl⟩:=r
  cases (show T="str" from ty)
  exact⟨typeIs_str s z t,fun _ e=>nomatch e⟩
 |int i =>
  obtain⟨t,rfl⟩:=r
  cases (show T="int" from ty)
  exact⟨typeIs_int s i t,fun _ e=>nomatch e⟩
 |ref p =>
  cases r
  rcases ty with ⟨rfl,xs,hq⟩|⟨rfl,o,hk,hc,hd⟩|⟨rfl,hk⟩|⟨rfl,S,n,hk⟩
  .obtain⟨its,_,pl,_⟩:=I.list hq
   refine⟨pl.isList.typeIs,fun a e=>?_⟩
   cases e
   obtain⟨o,n,e,c,hd,_⟩:=pl
   exact⟨o,e,hd⟩
  .refine⟨⟨o,I.kIn p o hk,hc⟩,fun a e=>?_⟩
   cases e
   exact⟨o,I.kIn _ o hk,hd⟩
  .have z:∃o,s.heap.get? p=some o/\o.ExactDict:=by
    rcases hk with ⟨kvs,hk⟩|⟨kvs,hk⟩
    .obtain⟨_,_,_,_,o,_,_,e,ex,_⟩:=I.hok p _ hk
     exact⟨o,e,ex⟩
    .obtain⟨_,_,_,_,o,_,_,e,ex,_⟩:=I.hok p _ hk
     exact⟨o,e,ex⟩
   obtain⟨o,e,ex⟩:=z
   refine⟨⟨o,e,ex.1⟩,fun a e2=>?_⟩
   cases e2
   exact⟨o,e,ex.2.1⟩
  .obtain⟨o,_,_,_,e,ex,_⟩:=I.hok p _ hk
   refine⟨⟨o,e,ex.1⟩,fun a e2=>?_⟩
   cases e2
   exact⟨o,e,ex.2.1⟩
 |_=>exact U3w ty
def tBM(K:U0a)(T:String)(r:V->List V->Hp->VK->Prop)(to:TE)(t:TA):TE:=fun σ H Q=>to σ H fun x H1=>tyV K T x H1/\t σ H1 fun xs H2=>r x xs H2 Q
variable{o e:Expr}{es:List Expr}{to:TE}{t:TA}{name:Str}{apos cpos:Pos}{T id:String}{r:V->List V->Hp->VK->Prop}
theorem qt(pa:PlainAttrs T)(slot:Slot T name id)(hty:typeOf (.builtin id)=pure (.type "method_descriptor"))(hm:MtR X id r)(ho:PE X o to)(ha:PA X (e::es) t)
  (hbase:attributeBase o name X.env (eval o X.env)=eval o X.env:=by rfl)
  (hfew:((backTo cpos (starEach (e::es) X.env)).all (fun x=>!x.1)&&(backToKw cpos (keywordEach [] X.env)).all (fun x=>x.1.isSome)
   && decide ((e::es).length+([]:List Keyword).length+(if ([]:List Keyword).isEmpty then 0 else 1)<30))=true:=by rfl)
  (hline:(apos.endLine==cpos.line)=true:=by rfl) (hs:starEach (e::es) X.env=(false,eval e X.env)::starEach es X.env:=by rfl) (hplain:(backTo cpos (starEach es X.env)).any (·.1)=false:=by rfl) :
  PE X (.Call (.Attribute o name apos) (e::es) [] cpos) (tBM X.K T r to t):=by
 intro pins s σ H Q I h
 refine wpAny_Call_method_late hbase hfew hline rfl (thn (ho pins s σ H _ I h) fun v s1 ⟨x,H1,I1,r1,ty,q1⟩=>?_)
 obtain⟨h1,h2⟩:=mL I1 r1 ty
 refine⟨T,id,pa,slot,hty,h1,h2,?_⟩
 have hA:=ha cpos pins s1 σ H1 _ I1 q1
 rw[hs] at hA ⊢
 refine Calls.callWith_builtin (by show(false||(backTo cpos (starEach es X.env)).any (·.1))=false;rw[hplain]<;>rfl) (Calls.evalArgs_plain ?_)
 exact thn hA fun us s2 ⟨vs,H2,I2,r2,q2⟩=>hm pins s2 σ H2 x vs v us Q I2 r1 r2 q2
/- xs.append(e), list.index on a module's tuple .. are MtR facts of 06m -/
end
end L2
namespace L2
open PySem PySem.Spec PyProof.Rows
def MtM(X:Cx)(id:String)(r:V->List V->Hp->VK->Prop):Prop :=
 ∀(pins:List (Addr×Obj))(s:Shared)(σ:St)(H:Hp)(x:V)(xs:List V)(v:Value)(us:List Value)(Q:VK),Inv X pins σ H s->RelV x v->Vals xs us->r x xs H Q ->
  wpAny (model X.prog X.w) X.A (call (.builtin id) (v::us)) (EP X pins σ Q) X.xe s
theorem Vals.one:∀{x:V} {us:List Value},Vals [x] us->∃u,us=[u]/\RelV x u
 |_,_,.cons r .nil=>⟨_,rfl,r⟩
theorem Vals.eraseIdx:∀{xs:List V} {us:List Value} (i:Nat),Vals xs us->Vals (xs.eraseIdx i) (us.eraseIdx i)
 |_,_,_,.nil=>.nil
 |_,_,0,.cons _ t=>t
 |_,_,i+1,.cons r t=>.cons r (Vals.eraseIdx i t)
theorem Vals.rep{xs:List V}{us:List Value}(h:Vals xs us):∀k:Nat,Vals (U0s k xs).flatten (U0s k us).flatten
 |0=>.nil
 |k+1=>by
  rw[U0l,U0l,U3j,U3j]
  exact Vals.append h (Vals.rep h k)
theorem Um{α:Type}:∀(l:List α)(i:Nat),(l.eraseIdx i).length<=l.length
 |[],_=>U0m _
 |_::_,0=>U4k _
 |_::r,i+1=>Nat.succ_le_succ (Um r i)
theorem foldl_rep(its:List Value):∀(k:Nat)(acc:List Value),
  U5w (fun x1 x2=>x1++x2) acc.toArray (U0s k its.toArray)=(acc++(U0s k its).flatten).toArray
 |0,acc=>by simp
 |k+1,acc=>by
  have e:acc.toArray++its.toArray=(acc++its).toArray:=by simp
  have e2:(acc++its)++(U0s k its).flatten=acc++(U0s (k+1) its).flatten:=by
   rw[U0l,U3j,U5i]
  rw[←e2,←foldl_rep its k (acc++its),←e,U0l,U4e]
section
variable{X:Cx}{pins:List (Addr×Obj)}{σ:St}{H:Hp}{s:Shared}{l b:Addr}{xs ys zs:List V}
theorem Inv.bL{its its':List Value}{n:Nat}{f:Array Value->Array Value}{t':Nat}(I:Inv X pins σ H s)(hH:H l=some (.lst xs))
  (e:s.heap.get? l=some { cls:=.type "list",data:=.seq its.toArray n }) (hf:f its.toArray=its'.toArray) (hv:Vals ys its') (hz:ys.length<=sizeLine) :
  Inv X pins σ (upd H l (.lst ys)) { s with heap:=s.heap.update l (U1e f),toks:=t' }:=by
 have q:=PySem.IsL.update e f
 rw[hf] at q
 refine I.write (x:=l) (e:=l) (by rw[hH];exact trivial) (.inl rfl) (fun b' u hb hu=>(U1a s.heap (U1e f) (U1j hb)).trans hu) ⟨_,q⟩ ?_
 exact⟨hz,its',_,hv,q⟩
theorem Inv.mC{its:List Value}{t':Nat}(I:Inv X pins σ H s)(hv:Vals ys its)(hz:ys.length<=sizeLine) :
  Inv X pins σ (upd H s.heap.objs.size (.lst ys)) { s with heap:=s.heap.push { cls:=.type "list",data:=.seq its.toArray },toks:=t' } :=
 I.laid (fun _ _ q=>U0b _ q) (U0m _) ⟨hz,its,0,hv,U0p _ rfl⟩
theorem Inv.fresh(I:Inv X pins σ H s):H s.heap.objs.size=none:=I.hok.fresh (U0m _)
theorem Inv.RJ(I:Inv X pins σ H s)(hH:H l=some (.lst xs)):xs.length<=sizeLine/\∃(its:List Value)(n:Nat),Vals xs its/\xs.length=its.length/\s.heap.get? l=some { cls:=.type "list",data:=.seq its.toArray n }:=by
 obtain⟨z,its,n,r,e⟩:=I.hok l _ hH
 exact⟨z,its,n,r,r.length,e⟩
theorem W0{n:Nat}(h:n<=sizeLine):U33 n=false:=by
 unfold U33
 exact decide_eq_false (by omega)
end
section
variable{X:Cx}
def Xu:V->List V->Hp->VK->Prop:=fun x vs H Q=>∃l xs y,x=.ref l/\vs=[y]/\H l=some (.lst xs)/\xs.length<sizeLine/\Q .non (upd H l (.lst (xs++[y])))
theorem Lg:MtM X "list.append" Xu:=by
 intro pins s σ H x vs v us Q I rx rv h
 obtain⟨l,xs,y,rfl,rfl,hH,hz,q⟩:=h
 cases rx
 obtain⟨u,rfl,ru⟩:=rv.one
 obtain⟨z,its,n,r,hl,e⟩:=I.RJ hH
 refine call_meets F.slot_list_append ⟨_,e,rfl⟩ F.entry_list_append (F.args_list_append_2 _ _) (PySem.list_append l its.toArray n u (by rw[U0j];omega)) ⟨e,?_⟩
 refine⟨.non,_,I.bL (its':=its++[u]) hH e (by simp) (r.append (.cons ru .nil)) ?_,rfl,q⟩
 rw[U0o,U3c]
 omega
def Xr:V->List V->Hp->VK->Prop:=fun x vs H Q=>∃l b xs zs,x=.ref l/\vs=[.ref b]/\H l=some (.lst xs)/\H b=some (.lst zs)/\xs.length+zs.length<=sizeLine/\Q .non (upd H l (.lst (xs++zs)))
theorem Uj:MtM X "list.extend" Xr:=by
 intro pins s σ H x vs v us Q I rx rv h
 obtain⟨l,b,xs,zs,rfl,rfl,hH,hB,hz,q⟩:=h
 cases rx
 obtain⟨u,rfl,ru⟩:=rv.one
 cases ru
 obtain⟨z,its,n,r,hl,e⟩:=I.RJ hH
 obtain⟨z2,its2,n2,r2,hl2,e2⟩:=I.RJ hB
 have hsz:its.toArray.size+its2.toArray.size<=sizeLine:=by rw[U0j,U0j];omega
 have hlong:¬(!its.toArray.isEmpty&&U33 (its.toArray.size+its2.toArray.size))=true:=by
  rw[W0 hsz,Bool.and_false]
  exact U05
 refine call_meets F.slot_list_extend ⟨_,e,rfl⟩ F.entry_list_extend (F.args_list_extend_2 _ _)
  (AutoSeq1.list_extend_list_list_0 l its.toArray n b its2.toArray n2 hlong (by rw[U0j];omega) (by omega)) ⟨e,e2,?_⟩
 refine⟨.non,_,I.bL (its':=its++its2) hH e (by simp) (r.append r2) ?_,rfl,q⟩
 rw[U0o]
 omega
def ZM:V->List V->Hp->VK->Prop:=fun x vs H Q=>∃l xs i k y,x=.ref l/\vs=[.int i]/\H l=some (.lst xs)/\-(2^63)<=i/\i<2^63/\seqIndex? i xs.length=some k/\xs[k]?=some y/\Q y (upd H l (.lst (xs.eraseIdx k)))
theorem dJ:MtM X "list.pop" ZM:=by
 intro pins s σ H x vs v us Q I rx rv h
 obtain⟨l,xs,i,k,y,rfl,rfl,hH,h1,h2,hk,hy,q⟩:=h
 cases rx
 obtain⟨u,rfl,ru⟩:=rv.one
 obtain⟨t,rfl⟩:=ru
 obtain⟨z,its,n,r,hl,e⟩:=I.RJ hH
 obtain⟨w,hw,rw'⟩:=r.get hy
 refine call_meets F.slot_list_pop ⟨_,e,rfl⟩ F.entry_list_pop (F.args_list_pop_2 _ _)
  (MeetsSeq.list_pop_at l its.toArray n i t k w (fitsIndex_both h1 h2) (by rw[U0j,←hl];exact hk) (by rw[←U2q];exact hw) (by rw[U0j];omega)) ⟨e,?_⟩
 refine⟨y,_,I.bL (its':=its.eraseIdx k) hH e ?_ (r.eraseIdx k) ?_,rw',q⟩
 .show its.toArray.eraseIdxIfInBounds k=(its.eraseIdx k).toArray
  rw[List.eraseIdxIfInBounds_toArray]
 .have:=Um xs k
  omega
def lu:R2:=fun x y H Q=>∃l b xs zs,x=.ref l/\y=.ref b/\H l=some (.lst xs)/\H b=some (.lst zs)/\xs.length+zs.length<=sizeLine/\∀p,H p=none->Q (.ref p) (upd H p (.lst (xs++zs)))
theorem nu:OpR X (binaryOp .Add) lu:=by
 intro pins s σ H x y v u Q I rx ry h
 obtain⟨l,b,xs,zs,rfl,rfl,hH,hB,hz,q⟩:=h
 cases rx
 cases ry
 obtain⟨z,its,n,r,hl,e⟩:=I.RJ hH
 obtain⟨z2,its2,n2,r2,hl2,e2⟩:=I.RJ hB
 refine PySem.P.add_list e e2 ?_ (by rw[U0j,U0j];omega)
 have ea:its.toArray++its2.toArray=(its++its2).toArray:=by simp
 rw[ea]
 exact⟨.ref _,_,I.mC (t':=s.toks) (r.append r2) (by rw[U0o];omega),rfl,q _ I.fresh⟩
def lV:R2:=fun x y H Q=>∃l k xs,x=.ref l/\y=.int k/\H l=some (.lst xs)/\-(2^63)<=k/\k<2^63/\xs.length*k.toNat<=sizeLine /\
 ∀p,H p=none->Q (.ref p) (upd H p (.lst (U0s k.toNat xs).flatten))
theorem len_rep{α:Type}(xs:List α)(k:Nat):(U0s k xs).flatten.length=k*xs.length:=by
 induction k with
 |zero=>simp
 |succ k ih=>rw[U0l,U3j,U0o,ih,Nat.succ_mul,Nat.add_comm]
theorem nW:OpR X (binaryOp .Mult) lV:=by
 intro pins s σ H x y v u Q I rx ry h
 obtain⟨l,k,xs,rfl,rfl,hH,h1,h2,hz,q⟩:=h
 cases rx
 obtain⟨t,rfl⟩:=ry
 obtain⟨z,its,n,r,hl,e⟩:=I.RJ hH
 have hlen:its.toArray.size*k.toNat<=sizeLine:=by rw[U0j,←hl];exact hz
 have hcap:¬its.toArray.size*k.toNat>(2^63-1)/8:=by
  have:(sizeLine:Nat)<=(2^63-1)/8:=by decide
  omega
 have hfit:¬(!Builtin.List.listFitsIndex k)=true:=by
  rw[fitsIndex_both h1 h2]
  exact U05
 have hlong:¬U33 (its.toArray.size*k.toNat)=true:=by
  rw[W0 hlen]
  exact U05
 have hnew:U5w (fun x1 x2=>x1++x2) #[] (U0s (if its.toArray.isEmpty=true then 0 else k.toNat) its.toArray)=(U0s k.toNat its).flatten.toArray:=by
  have f0:∀m:Nat,U5w (fun x1 x2=>x1++x2) #[] (U0s m its.toArray)=(U0s m its).flatten.toArray:=fun m=>by
   have:=foldl_rep its m []
   rw[U13] at this
   exact this
  rw[f0]
  cases its with
  |nil=>simp
  |cons a r'=>rw[if_neg (by simp)]
 refine wpAny_binaryOp_repeat_ref (T:="list") (U:="int") (by decide) ⟨_,e,rfl⟩ (fun s'=>typeIs_int s' k t) noFill_list_mul F.fills_int_mul F.slot_int_rmul repeat_list F.slot_int_index.lookup
  (call_meets F.slot_int_rmul (typeIs_int s k t) F.entry_int_rmul (F.args_int_rmul_2 _ _) (int___rmul___int_list k t l its.toArray n)
   ⟨e,rfl,⟨_,e,rfl⟩,call_meets F.slot_list_mul ⟨_,e,rfl⟩ F.entry_list_mul (F.args_list_mul_2 _ _) (AutoListH.list___mul___list_int_3 l its.toArray n k t hfit hcap hlong) ⟨e,?_⟩⟩)
 rw[hnew]
 exact⟨.ref _,_,I.mC (t':=s.toks) (r.rep k.toNat) (by rw[len_rep,U6k];exact hz),rfl,q _ I.fresh⟩
end
section
variable{prog:Program}{w:World}{A:Around}{E:Value->Shared->Prop}{s:Shared}
set_option maxRecDepth 100000 in
end
section
variable{X:Cx}
end
end L2
namespace Att
open PySem PySem.W PySem.Calls PyProof.Rows
theorem T9{P:Params}{h:Heap}:∀(ns:List Int)(vs:List Value),WellAll P h vs (ns.map WData.int)->IntsAre vs ns:=by
 intro ns
 induction ns with
 |nil =>
  intro vs w
  rw[U1p] at w
  cases w
  exact .nil
 |cons n ns ih =>
  intro vs w
  rw[U00] at w
  cases w with
  |cons a b =>
   cases a
   exact .cons _ _ (ih _ b)
theorem Zw{l:OpenLaw}{n:Nat}(hn:l.most=some n){P:Params}{h:Heap}{args:List WData}{vals:List Value}
  (hpre:l.row.toRowW.claim.pre args=true) (hwl:WellAll P h vals args) :
  ∃a vs ns,vals=[U17 a]/\args=[WData.list (ns.map WData.int)]/\h.get? a=some { cls:=.type "list",data:=.seq vs.toArray }/\IntsAre vs ns/\ns.length<=n:=by
 have hsh:WShape.hasAll [] args [.list .int]=true:=(pre_splitW hpre).1
 have hc:l.pre.holds [] { args:=args }=true:=(pre_splitW hpre).2
 obtain⟨d,r,rfl,h1,h2⟩:=hasAllW_cons hsh
 obtain rfl:=hasAllW_nil h2
 obtain⟨xs,rfl,h3⟩:=hasW_list h1
 obtain⟨ns,rfl⟩:=items_int h3
 have hlen:ns.length<=n:=by
  unfold OpenLaw.pre at hc
  have h4:(WTm.not (.lt (.lit (.int (n:Int))) (.len (.arg 0)))).holds [] { args:=[.list (ns.map .int)] }=true:=by
   have h4:=(holds_andW hc).1
   rw[hn] at h4
   exact h4
  have h5:=condW_of h4 (w_not (w_lt w_lit (w_len_list (w_arg rfl))))
  rw[U0g] at h5
  refine Nat.le_of_not_lt fun q=>?_
  have q':(n:Int)<((ns.length:Nat):Int):=by omega
  first
   |(rw[decide_eq_true q'] at h5;exact absurd h5 (by decide))
   |(simp at h5;omega)
 cases hwl with
 |cons w1 w2 =>
  cases w2
  cases w1 with
  |list ho hall=>exact⟨_,_,ns,rfl,rfl,ho,T9 ns _ hall,hlen⟩
theorem aB(l:OpenLaw)(args:List WData):l.row.toRowW.claim.post args (.bool true) args=true :=
 postW_of (r:=l.row.toRowW) (X:=(true==true))
  (show WShape.has [] (.bool true) .bool=true by first|rfl|decide|simp[WShape.has,WShape.arms,WShape.armsAll])
  (show(WTm.eq .res (.lit (.bool true))).value [] { args:=args,res:=some (.bool true),after:=args }=some (.bool (true==true)) from w_eq_bool (w_res rfl) w_lit) rfl
theorem Z0{R:WRecords}{cl:Str->Option Addr}{h:Heap}{a:Addr}{ds:List WData}{as:List Addr}(r:ReadsAllW R cl h [.ref a] [.list ds] as)(lo:∀b∈as,(b==sysModules)=false):a≠sysModules:=by
 cases r with
 |cons r1 _ =>
  cases r1 with
  |list _ _ _ _=>exact fun z=>by have:=lo a (by simp);rw[z] at this;simp at this
theorem XS{l:OpenLaw}{n:Nat}{q:Program}{loose:List Str}{XP:(Str->Option Value)->Heap->Prop}{YP:World->Heap->Prop}{d:DefRec}
  (hn:l.most=some n) (hdf:d.params.defaults=[])
  (call:∀(w:World)(s₀ s₁:Shared)(mg mb:Str->Option Value)(fa:Addr)(o:Obj)(pm cd doc:Value)(a:Addr)(vs:List Value)(ns:List Int),
   Ground q loose [] XP w s₀ mg mb s₁.heap->YP w s₁.heap ->
   s₁.heap.get? fa=some o->o.data=.func (docDef d.name d.params d.body d.scope pm cd doc)->s₁.heap.CodeRec cd d.name->mg d.name=some (.ref fa) ->
   s₁.heap.get? a=some { cls:=.type "list",data:=.seq vs.toArray }->IntsAre vs ns->ns.length<=n->a≠sysModules->s₁.gens=#[] ->
   codeAny (model l.prog w) callerA (.call (.ref fa) ⟨[.ref a],[]⟩) (fun r s'=>r=.ok (.ret (.bool true))/\OldK s₁.heap s'.heap/\s'.os=s₁.os/\AllBare s'.gens) s₁) :
  WalkO q loose XP YP l.row.toRowW d [] (fun f vs=>U62 f vs):=by
 intro w s₀ s₁ mg mb G Y fa o pm cd doc dV kV ho hd hcd hD hmg hg args vals as hpre hlay hrd hwl hlo
 obtain rfl:dV=.none:=Dflts.none hD hdf
 obtain rfl:kV=.none:=Dflts.noKw hD
 obtain⟨a,vs,ns,rfl,rfl,hobj,hints,hlen⟩:=Zw hn hpre hwl
 refine enter_call (codeAny_mono (call w s₀ s₁ mg mb fa o pm cd doc a vs ns G Y ho (fd_plain hd) hcd hmg hobj hints hlen (Z0 hrd hlo) hg) fun r s' hq=>?_)
 obtain⟨rfl,h2,h3,h4⟩:=hq
 exact⟨.inl ⟨.bool true,.bool true,[],rfl,fun _=>rfl,.bool true,aB l _,fun _=>⟨U6e,fun _ hm=>(nomatch hm)⟩⟩,h2,h3,h4⟩
section
variable{prog:Program}{w:World}{A:Around}{E:Value->Shared->Prop}{s:Shared}{K:Frag}
end
end Att
namespace L2
open PySem PySem.Spec PyProof.Rows
theorem QF:∀{vs:List Value} {ns:List Int},IntsAre vs ns->Vals (ns.map V.int) vs
 |_,_,.nil=>.nil
 |_,_,.cons n t h=>.cons ⟨t,rfl⟩ (QF h)
def Only(H:Hp):Prop:=∀b,H b=none∨∃o xs,H b=some (.frz o (.lst xs))
theorem dh{P:Program}{w:World}{K:U0a}{mg mb:Str->Option Value}{CX:CXT}{k:Nat}{fa a:Addr}{fd:FuncData}{x:Str}{sp:Sp}{s₁:Shared}{vs:List Value}{ns:List Int}
  (KX:K.In s₁.heap) (hns:s₁.heap.Ns mainGlobals mg) (hb:s₁.heap.Ns builtinsNs mb) (hbb:∀x:Str,x≠"__name__"->mb x=bootBuiltins x) (hlim:s₁.heap.NoLimit) (hg:s₁.gens=#[])
  (ha:s₁.heap.get? a=some { cls:=.type "list",data:=.seq vs.toArray }) (hi:IntsAre vs ns) (hl:ns.length<=sizeLine) (hasy:a≠sysModules) (hr:FN k callerA)
  (F:∀base:Heap,K.In base->base.Ns mainGlobals mg->Dp P w K mg base CX k fa fd [x] sp) (hbind:∀(s:Shared)(u:Value),BindsTo s fd ⟨[u],[]⟩ [(x,u)])
  (hsp:∀H:Hp,Only H->SqL K H a (ns.map V.int)->sp [.ref a] H (fun v _=>v=.bl true) fun _ _ _=>False)
  (hCX:∀H e s',CX [] H s₁ (fun _ _ _=>False) e s'->False) :
  codeAny (model P w) callerA (.call (.ref fa) ⟨[.ref a],[]⟩) (fun r s'=>r=.ok (.ret (.bool true))/\OldK s₁.heap s'.heap/\s'.os=s₁.os/\AllBare s'.gens) s₁:=by
 have rv:=QF hi
 have lenV:=hi.length
 -- from an abstract heap in which nothing but the script may be tracked
 have core:∀H:Hp,Only H->SqL K H a (ns.map V.int)->HOk P w H s₁.heap->(∀b,H b≠none->b=a)->(H a≠none->K.lookup a=none) ->
   codeAny (model P w) callerA (.call (.ref fa) ⟨[.ref a],[]⟩) (fun r s'=>r=.ok (.ret (.bool true))/\OldK s₁.heap s'.heap/\s'.os=s₁.os/\AllBare s'.gens) s₁:=by
  intro H hO hS hok hA hK
  have base_of:∀{b:Addr} {o:Obj},s₁.heap.get? b=some o->H b=none->(Oe s₁.heap H).get? b=some o:=fun e n=>fG e n
  have noA:∀{b:Addr} {o:Obj} {es:Array DictEntry} {ep:Nat},s₁.heap.get? b=some o->o.data=.dict es ep->H b=none:=fun {b o es ep} e d=>by
   cases q:H b with
   |none=>rfl
   |some u =>
    have e':b=a:=hA b (by rw[q];simp)
    subst e'
    rw[ha] at e;cases e
    have d':Data.seq vs.toArray _=Data.dict es ep:=d
    cases d'
  have nsK:∀{b:Addr} {m:Str->Option Value},s₁.heap.Ns b m->(Oe s₁.heap H).Ns b m:=fun {b m} ⟨o,es,ep,e,d,r⟩=>⟨o,es,ep,base_of e (noA e d),d,r⟩
  have hKb:K.In (Oe s₁.heap H):=fun b o e=>base_of (KX b o e) (by
   cases q:H b with
   |none=>rfl
   |some u =>
    have e':b=a:=hA b (by rw[q];simp)
    subst e'
    rw[hK (by rw[q];simp)] at e;cases e)
  have hM:Mod K mg (Oe s₁.heap H):=⟨hKb,nsK hns,⟨mb,nsK hb,hbb⟩,let ⟨mc,h1,h2⟩:=hlim;⟨mc,nsK h1,h2⟩⟩
  have e0:YZ P w K mg (Oe s₁.heap H) callerA [] s₁ H:=⟨rfl,hM,fun b o e=>jH e,U66 (aW _ _),trivial,fun b hb=>absurd (show b∈([]:List Addr) from hb) (by simp),hok,.of_eq hg,Classical.byContradiction fun z=>hasy (hA _ z).symm⟩
  refine codeAny_mono ((F _ hKb (nsK hns)).run callerA [] s₁ H ⟨[.ref a],[]⟩ [.ref a] [.ref a] _ _ hr e0 (hbind s₁ (.ref a)) (.cons rfl .nil) (hsp H hO hS)) fun r s' h=>?_
  cases r with
  |error e=>exact(hCX H e s' h).elim
  |ok fl =>
   cases fl with
   |next=>exact U3w h
   |brk=>exact U3w h
   |cont=>exact U3w h
   |ret u =>
    obtain⟨v,H',os,bare,un,hok',r',q⟩:=h
    have q':v=.bl true:=q
    subst q'
    obtain rfl:u=U27 true:=r'
    refine⟨rfl,OldK.of_keep fun b o e=>?_,os,bare⟩
    cases q:H b with
    |none=>exact un.keep b o e q (by intro z;exact absurd (show b∈([]:List Addr) from z) (by simp)) (by simp)
    |some u =>
     rcases hO b with z|⟨ob,xs,z⟩
     .rw[q] at z;cases z
     .have z2:=un.frzs b ob _ z
      obtain⟨e1,_⟩:=hok b _ z
      obtain⟨e2,_⟩:=hok' b _ z2
      rw[e] at e1;cases e1
      exact e2
 cases hk:K.lookup a with
 |some o =>
  -- the script is one of the module's own objects
  have e:=KX a o hk
  rw[ha] at e
  cases e
  refine core (fun _=>none) (fun _=>.inl rfl) (.inr ⟨_,vs.toArray,_,hk,rfl,rfl,rfl,by rw[U0j,lenV];exact hl,by simpa using rv⟩) (fun b u z=>by have z':(none:Option HO)=some u:=z;cases z') (fun b z=>absurd rfl z) fun z=>absurd rfl z
 |none =>
  refine core (fun b=>if b=a then some (.frz { cls:=.type "list",data:=.seq vs.toArray } (.lst (ns.map V.int))) else none) (fun b=>?_) (.inl (.inr ⟨{ cls:=.type "list",data:=.seq vs.toArray },if_pos rfl⟩)) (fun b u z=>?_) (fun b z=>?_) fun _=>hk
  .by_cases hb:b=a
   .exact .inr ⟨_,_,if_pos hb⟩
   .exact .inl (if_neg hb)
  .by_cases hb:b=a
   .have z':=(if_pos hb).symm.trans z
    cases z'
    subst hb
    exact⟨ha,by rw[U0g];exact hl,vs,_,rv,ha⟩
   .have z':=(if_neg hb).symm.trans z
    cases z'
  .by_cases hb:b=a
   .exact hb
   .exact absurd (if_neg hb) z
end L2
namespace L2
open PySem PySem.Spec PyProof.Rows
abbrev KOf{K:U0a}{h:Heap}(_:K.In h):U0a:=K
theorem walk_of{l:U5x}{n k:Nat}{q:Program}{loose:List Str}{XP:(Str->Option Value)->Heap->Prop}{YP:World->Heap->Prop}{d:DefRec}{K:Params->U0a}{CX:World->CXT}{sp:World->Sp}{x:Str}
  (hn:l.most=some n) (hn2:n<=sizeLine) (hdf:d.params.defaults=[]) (hr:FN k callerA)
  (hY:∀(w:World)(h:Heap),YP w h->(K w.params).In h)
  (F:∀(w:World)(mg:Str->Option Value)(fa:Addr)(h:Heap),(K w.params).In h->h.Ns mainGlobals mg->mg d.name=some (.ref fa) ->
   ∃fd:FuncData,(∀(s:Shared)(u:Value),BindsTo s fd ⟨[u],[]⟩ [(x,u)]) /\
    ∀base:Heap,(K w.params).In base->base.Ns mainGlobals mg->Dp l.prog w (K w.params) mg base (CX w) k fa fd [x] (sp w))
  (hsp:∀(w:World)(H:Hp)(a:Addr)(ns:List Int),ns.length<=n->Only H->SqL (K w.params) H a (ns.map V.int)->sp w [.ref a] H (fun v _=>v=.bl true) fun _ _ _=>False)
  (hCX:∀(w:World)(H:Hp)(s:Shared)(e:Value)(s':Shared),CX w [] H s (fun _ _ _=>False) e s'->False) :
  U63 q loose XP YP l.row.toRowW d [] (fun f vs=>U62 f vs):=by
 refine Att.XS hn hdf fun w s₀ s₁ mg mb fa o pm cd doc a vs ns G Y ho hd hcd hmg hobj hints hlen hasy hg=>?_
 have KX:=hY w _ Y
 obtain⟨fd,hb,hF⟩:=F w mg fa _ KX G.T.g hmg
 exact dh KX G.T.g G.T.b G.T.builtins G.T.nolimit hg hobj hints (U02 hlen hn2) hasy hr hF hb (fun H hO hS=>hsp w H a ns hlen hO hS) fun H e s'=>hCX w H s₁ e s'
theorem bZ{l:U5x}{n k:Nat}{q:Program}{loose:List Str}{XP:(Str->Option Value)->Heap->Prop}{YP:World->Heap->Prop}{d:DefRec}{K:Params->U0a}{CX:CXT}{sp:U0a->Sp}{x:Str}
  (hn:l.most=some n) (hn2:n<=sizeLine) (hdf:d.params.defaults=[]) (hr:FN k callerA)
  (hY:∀(w:World)(h:Heap),YP w h->(K w.params).In h)
  (F:∀(w:World)(mg:Str->Option Value)(fa:Addr)(h:Heap),(K w.params).In h->h.Ns mainGlobals mg->mg d.name=some (.ref fa) ->
   ∃fd:FuncData,(∀(s:Shared)(u:Value),BindsTo s fd ⟨[u],[]⟩ [(x,u)]) /\
    ∀base:Heap,(K w.params).In base->base.Ns mainGlobals mg->Dp l.prog w (K w.params) mg base CX k fa fd [x] (sp (K w.params)))
  (hsp:∀(K:U0a)(H:Hp)(a:Addr)(ns:List Int),ns.length<=n->Only H->SqL K H a (ns.map V.int)->sp K [.ref a] H (fun v _=>v=.bl true) fun _ _ _=>False)
  (hCX:∀(H:Hp)(s:Shared)(e:Value)(s':Shared),CX [] H s (fun _ _ _=>False) e s'->False) :
  U63 q loose XP YP l.row.toRowW d [] (fun f vs=>U62 f vs) :=
 walk_of (K:=K) (CX:=fun _=>CX) (sp:=fun w=>sp (K w.params)) hn hn2 hdf hr hY F (fun w H a ns h1 h2 h3=>hsp (K w.params) H a ns h1 h2 h3) fun _ H s e s'=>hCX H s e s'
end L2
/- THE LAST THEOREM (shape; LID, My.* are yours):
   My.Adr: a structure of the addresses that your layer names (classes, functions); My.Txt K t: a structure (Prop) of the equations over K;
   My.txt_mk : {K} {implicit addresses ..} (e1 : nsIn K mainGlobals "law" = some (some (.ref f))) (e2 : K.lookup f = some ⟨oc, od, .func (fnOf "law" "law" params body scope dV kV doc pm an cdv ct), sl⟩) (e3 : codeIn K cdv "law" = true) .. : ∃ t, My.Txt K t

set_option maxRecDepth 100000 in
set_option maxHeartbeats 0 in
theorem PySem.Challenge.cw_LID_holds : PySem.Challenge.rw_LID.Holds := by
  w_on; o_law; k_head; (case hw => w_witness2)
  k_fill
  refine L2.walk_of (l := PySem.Challenge.rw_LID) (n := 63) (k := 40) (x := "script") (CX := fun w => ..) (sp := fun _ => My.sp_law) rfl (by decide) rfl ⟨rfl, by decide, by decide⟩ (fun w h Y => PySem.W.kIn_of Y) ?F ?S ?C
  case F =>
    intro w mg fa h KX G hmg
    have T : ∃ t, My.Txt (L2.KOf KX) t := by
      dsimp only [L2.KOf]                          -- K must stand as «<heap const> w.params» for k_is
      refine' My.txt_mk ?e1 ?e2 ?e3 ..
      (case e1 => PySem.W.k_is)                    -- in the order: a name -> its address -> its object -> its parts
      (case e2 => PySem.W.k_is)
      ..
    obtain ⟨t, T⟩ := T
    have e0 := hmg.symm.trans (PySem.W.mg_of KX G T.law)
    cases e0                                       -- fa is the law's own address
    exact ⟨_, fun s u => .of_eq rfl, fun base kb nb => My.law_fn T kb nb⟩     -- if «.of_eq rfl» comes too early: refine' ⟨_, ?b, fun base kb nb => My.law_fn T kb nb⟩; exact fun s u => .of_eq rfl
  case S => exact fun w H a ns hl hO hS => ..
  case C => exact ..
(the tactic k_is has no namespace: write k_is) -/
namespace L2
open PySem PySem.Spec PyProof.Rows
def DG(s:Stmt):Arguments:=match s with
 |.FunctionDef _ a _ _ _ _ _ _ _ _=>a
 |_=>{ posonlyargs:=[],args:=[],vararg:=none,kwonlyargs:=[],kw_defaults:=[],kwarg:=none,defaults:=[] }
def Cp(s:Stmt):List Stmt:=match s with
 |.FunctionDef _ _ b _ _ _ _ _ _ _=>b
 |_=>[]
def Ak(s:Stmt):Scope:=match s with
 |.FunctionDef _ _ _ _ _ _ sc _ _ _=>sc
 |_=>{ kind:=.function,names:=[],isGenerator:=false,isCoroutine:=false }
abbrev CX0:CXT:=fun _ _ _ _ _ _=>False
abbrev E0:XK:=fun _ _ _=>False
theorem gF{X:Cx}:Passes CX0 X E0:=fun _ _ _ _ _ _ _ h=>h.elim
structure Fun(K:U0a)(x qual:Str)(st:Stmt)(f:Addr)(fd:FuncData):Prop where
 ex:∃(oc:Value)(od:Option Addr)(kV doc pm:Value)(an:Option Addr)(cdv ct:Value)(osl:Array (Option Value)),
  fd=U1b x qual (DG st) (Cp st) (Ak st) .none kV doc pm an cdv ct/\K.lookup f=some ⟨oc,od,.func fd,osl⟩/\U07 K cdv qual=true
 kp:U01 K (.ref f)=true
section
variable{P:Program}{w:World}{K:U0a}{mg:Str->Option Value}{base:Heap}
theorem Fun.ok{x qual:Str}{st:Stmt}{f:Addr}{fd:FuncData}{N ps:List Str}{k:Nat}{sp:Sp}(F:Fun K x qual st f fd)(S:DK N ps (Ak st))(len:∀vs H Q E,sp vs H Q E->vs.length=ps.length)
  (hbody:∀(cdv:Value)(A:Around)(outer:List Env)(s:Shared)(H:Hp)(vs:List V)(Q:VK)(E:XK),FN k (A.deeper (envOfC qual (Ak st) s.heap.objs.size f cdv))->sp vs H Q E ->
   ∃t,PSs (Pu CX0 P w K mg base N qual (Ak st) f cdv A outer s H E).nox (Cp st) t/\t { nx:=fun _ H'=>Q .non H',rt:=Q } (start N vs) H):Dp P w K mg base CX0 (k+1) f fd ps sp:=by
 obtain⟨oc,od,kV,doc,pm,an,cdv,ct,osl,rfl,lk,hcd⟩:=F.ex
 refine rN lk hcd S len fun A outer s H vs Q E hr hsp=>?_
 obtain⟨t,h,q⟩:=hbody cdv A outer s H vs Q E hr hsp
 exact⟨t,h.nox,q⟩
theorem Fun.binds{x qual:Str}{st:Stmt}{f:Addr}{fd:FuncData}{ps:List Str}(F:Fun K x qual st f fd)
  (h:∀(kV doc pm:Value)(an:Option Addr)(cdv ct:Value)(us:List Value),us.length=ps.length->bindArgs (U1b x qual (DG st) (Cp st) (Ak st) .none kV doc pm an cdv ct) ⟨us,[]⟩=pure (ps.zip us)):Binds K fd ps []:=by
 obtain⟨oc,od,kV,doc,pm,an,cdv,ct,osl,rfl,lk,hcd⟩:=F.ex
 exact .all (h kV doc pm an cdv ct)
theorem Ek{x qual:Str}{st:Stmt}{f:Addr}{oc:Value}{od an:Option Addr}{osl:Array (Option Value)}{kV doc pm cdv ct:Value}(l:K.lookup f=some ⟨oc,od,.func (U1b x qual (DG st) (Cp st) (Ak st) .none kV doc pm an cdv ct),osl⟩)
  (c:U07 K cdv qual=true) (k:U01 K (.ref f)=true):Fun K x qual st f (U1b x qual (DG st) (Cp st) (Ak st) .none kV doc pm an cdv ct):=⟨⟨oc,od,kV,doc,pm,an,cdv,ct,osl,rfl,l,c⟩,k⟩
end
theorem Uc{n:Nat}(h:n<=1000):n<sizeLine:=U5 h (by decide)
section
variable{X:Cx}
end
def Same(H H':Hp):Prop:=∀b o,H b=some o->H' b=some o
theorem Same.refl(H:Hp):Same H H:=fun _ _ h=>h
theorem Same.free{H H':Hp}(e:Same H H'){l:Addr}(h:H' l=Option.none):H l=Option.none:=by
 cases q:H l with
 |none=>rfl
 |some o =>
  rw[e l o q] at h
  cases h
end L2
end
section
namespace SetP
open PySem
def Jg(xs:Array Nat):Prop:=xs.toList.Pairwise (·<·)
theorem cR:Jg #[]:=U6e
theorem Ys(n:Nat):Jg (Array.range n):=by
 unfold Jg
 rw[Array.toList_range]
 exact U5n
theorem Jg.lt{xs:Array Nat}(h:Jg xs){i k:Nat}(hik:i<k)(hk:k<xs.size):xs.getD i 0<xs.getD k 0:=by
 have q:=List.pairwise_iff_getElem.mp h i k (by rw[U1l];omega) (by rw[U1l];exact hk) hik
 rw[U2t,U2t,U1v (by omega),U1v hk]
 simpa using q
theorem Jg.le{xs:Array Nat}(h:Jg xs){i k:Nat}(hik:i<=k)(hk:k<xs.size):xs.getD i 0<=xs.getD k 0:=by
 rcases Nat.lt_or_eq_of_le hik with z|z
 .exact U19 (h.lt z hk)
 .rw[z];exact U0m _
theorem Tn{xs:Array Nat}{j:Nat}(h:Jg xs):∀(fuel lo hi:Nat),lo<=hi->hi<=xs.size->hi-lo<=fuel->(∀i,i<lo->xs.getD i 0<j)->(∀i,hi<=i->i<xs.size->j<=xs.getD i 0) ->
  U4n xs j fuel lo hi<=xs.size/\(∀i,i<U4n xs j fuel lo hi->xs.getD i 0<j)/\∀i,U4n xs j fuel lo hi<=i->i<xs.size->j<=xs.getD i 0
 |0,lo,hi,h1,h2,h3,h4,h5=>by
  have e:lo=hi:=by omega
  subst e
  unfold U4n
  exact⟨h2,h4,h5⟩
 |fuel+1,lo,hi,h1,h2,h3,h4,h5=>by
  unfold U4n
  by_cases hlt:lo<hi
  .rw[if_pos hlt]
   have hm:(lo+hi)/2<hi:=by omega
   have hl:lo<=(lo+hi)/2:=by omega
   have e:xs.getD ((lo+hi)/2) j=xs.getD ((lo+hi)/2) 0:=by
    rw[U2t,U2t,U1v (by omega)]
    rfl
   dsimp only
   rw[e]
   by_cases hc:xs.getD ((lo+hi)/2) 0<j
   .rw[if_pos hc]
    exact Tn h fuel _ hi (by omega) h2 (by omega) (fun i hi'=>U5 (h.le (by omega) (by omega)) hc) h5
   .rw[if_neg hc]
    exact Tn h fuel lo _ (by omega) (by omega) (by omega) h4 (fun i hi' hs=>U02 (Nat.le_of_not_lt hc) (h.le hi' hs))
  .rw[if_neg hlt]
   have e:lo=hi:=by omega
   subst e
   exact⟨h2,h4,h5⟩
theorem Pa{xs:Array Nat}{j:Nat}(h:Jg xs):U1h xs j<=xs.size/\(∀i,i<U1h xs j->xs.getD i 0<j)/\∀i,U1h xs j<=i->i<xs.size->j<=xs.getD i 0:=by
 unfold U1h
 exact Tn h xs.size 0 xs.size (U3e _) (U0m _) (by omega) (fun i hi=>absurd hi (U5y _)) fun i h1 h2=>absurd h2 (by omega)
theorem T7{xs:Array Nat}(h:Jg xs){i:Nat}(hi:i<xs.size):U1h xs (xs.getD i 0+1)=i+1:=by
 obtain⟨a,b,c⟩:=Pa (j:=xs.getD i 0+1) h
 generalize U1h xs (xs.getD i 0+1)=r at a b c
 rcases Nat.lt_trichotomy r (i+1) with z|z|z
 .have:=c i (by omega) hi;omega
 .exact z
 .have h1:=b (i+1) z
  have h2:xs.getD i 0<xs.getD (i+1) 0:=h.lt (U4u i) (by omega)
  omega
theorem T6{xs:Array Nat}(h:Jg xs):U1h xs 0=0:=by
 obtain⟨a,b,c⟩:=Pa (j:=0) h
 generalize U1h xs 0=r at a b c
 cases r with
 |zero=>rfl
 |succ r=>exact absurd (b 0 (by omega)) (U5y _)
theorem Wy{xs:Array Nat}{j:Nat}(h:Jg xs)(hn:xs[U1h xs j]?≠some j):Jg (SetTable.insertAt xs (U1h xs j) j):=by
 obtain⟨a,b,c⟩:=Pa (j:=j) h
 unfold Jg
 rw[SetTable.toList_insertAt]
 generalize U1h xs j=p at a b c hn
 have getT:∀i,i<xs.size->xs.toList[i]?=some (xs.getD i 0):=fun i hi=>by
  rw[U2q,U2t,U1v hi];rfl
 refine U3y.mpr ⟨h.sublist (List.take_sublist _ _),U2k.mpr ⟨fun y hy=>?_,h.sublist (List.drop_sublist _ _)⟩,fun x hx y hy=>?_⟩
 .obtain⟨i,hi⟩:=U3q.mp hy
  rw[List.getElem?_drop] at hi
  have hlt:p+i<xs.size:=by
   have:=(U0h.mp hi).1
   rwa [U1l] at this
  rw[getT _ hlt] at hi
  have e:=U0w hi
  have h1:=c (p+i) (U1f _ _) hlt
  rw[←e]
  rcases Nat.lt_or_eq_of_le h1 with z|z
  .exact z
  .exfalso
   have hp:p<xs.size:=by omega
   have h2:=c p (U0m _) hp
   have h3:=h.le (U1f p i) hlt
   have h4:xs.getD p 0=j:=by omega
   apply hn
   have:=getT p hp
   rw[U2q] at this
   rw[this,h4]
 .have hxj:x<j:=by
   obtain⟨i,hi⟩:=U3q.mp hx
   have hip:i<p:=by
    have:=(U0h.mp hi).1
    rw[U2c] at this;omega
   rw[List.getElem?_take_of_lt hip] at hi
   have hlt:i<xs.size:=by
    have:=(U0h.mp hi).1
    rwa [U1l] at this
   rw[getT _ hlt] at hi
   rw[←U0w hi]
   exact b i hip
  rcases U0t.mp hy with z|z
  .rw[z];exact hxj
  .obtain⟨i,hi⟩:=U3q.mp z
   rw[List.getElem?_drop] at hi
   have hlt:p+i<xs.size:=by
    have:=(U0h.mp hi).1
    rwa [U1l] at this
   rw[getT _ hlt] at hi
   rw[←U0w hi]
   exact U0n hxj (c (p+i) (U1f _ _) hlt)
def Off(t:SetTable)(j:Nat):Prop:=t.place[U1h t.place j]?≠some j
theorem Qv{t:SetTable}{j:Nat}(h:∀i,t.slot j≠.live i):Off t j:=fun e=>by
 apply h (U1h t.place j)
 unfold SetTable.slot
 dsimp only
 rw[e]
 simp
theorem QK{t:SetTable}{f:Nat->Int}{h:Int}{j:Nat}{d:Option Nat}:∀(fuel:Nat)(p:SetTable.Probe),(∀d,p.dummy=some d->Off t d)->U6f t f h fuel p=some (.empty j d)->Off t j/\∀d',d=some d'->Off t d'
 |0,_,_,e=>by unfold U6f at e;cases e
 |fuel+1,p,hp,e=>by
  unfold U6f at e
  cases hs:t.slot p.j with
  |empty =>
   rw[hs] at e
   have e':=U0w e
   cases e'
   exact⟨Qv (fun i z=>by rw[hs] at z;exact SetTable.Slot.noConfusion z),hp⟩
  |dummy =>
   rw[hs] at e
   refine QK fuel _ (fun d' hd=>?_) e
   have hd':(t.advance { p with dummy:=some p.j }).dummy=some p.j:=by
    unfold SetTable.advance;dsimp only;split<;>rfl
   rw[hd'] at hd
   cases hd
   exact Qv fun i z=>by rw[hs] at z;cases z
  |live i =>
   rw[hs] at e
   dsimp only at e
   split at e
   .cases e
   .refine QK fuel _ (fun d' hd=>hp d' ?_) e
    rw[←hd]
    unfold SetTable.advance
    split<;>rfl
theorem Wj{t:SetTable}{h:Int}{j:Nat}{b:Bool}(e:t.freeSlot h=some (j,b)):Off t j:=by
 unfold SetTable.freeSlot at e
 split at e
 .rename_i j' d q
  unfold U58 at q
  obtain⟨o1,o2⟩:=QK _ _ (fun d hd=>by unfold SetTable.probeStart at hd;cases hd) q
  have e':=U0w e
  cases d with
  |none=>cases e';exact o1
  |some d=>cases e';exact o2 _ rfl
 .cases e
def TabOk(L:Bool)(t:SetTable):Prop:=Jg t.place/\t.led=L
theorem TabOk.fresh(L:Bool)(f m:Nat):TabOk L (.fresh f m L):=⟨cR,rfl⟩
theorem TabOk.standIn{L:Bool}{t:SetTable}(h:TabOk L t)(n:Nat):TabOk L (t.standIn n):=⟨Ys n,h.2⟩
theorem TabOk.orStandIn{L:Bool}{t:SetTable}(h:TabOk L t)(n:Nat):TabOk L (t.orStandIn n):=by
 unfold SetTable.orStandIn
 split
 .exact h
 .exact h.standIn n
theorem TabOk.iC{L:Bool}{t:SetTable}(h:TabOk L t)(b:Bool):TabOk L { t with plain:=b }:=h
theorem Z4{L:Bool}{t:SetTable}(h:TabOk L t)(es:Array (Int×Value))(k:Int)(x:Value):TabOk L (layNew t es k x).2.1:=by
 unfold layNew
 split
 .rename_i slot wasDummy q
  exact TabOk.orStandIn (t:=(t.put slot).1) ⟨Wy h.1 (Wj q),h.2⟩ _
 .exact h.standIn _
theorem RW{α:Type}(g:Nat->Option α):∀l:List Nat,List.Sublist ((l.filterMap fun j=>(g j).map (j,·)).map (·.1)) l
 |[]=>List.Sublist.slnil
 |j::r=>by
  rw[U4z]
  cases hg:g j with
  |none=>exact(RW g r).cons j
  |some a=>exact(RW g r).cons_cons j
theorem Wb{L:Bool}{t:SetTable}(h:TabOk L t)(es:Array (Int×Value))(n:Nat):TabOk L (relayAll t es n).2.1:=by
 unfold relayAll
 split
 .rename_i t' order q
  dsimp only
  split
  .unfold SetTable.relaid SetTable.laid at q
   cases ho:SetTable.layClean (SetTable.sizeAbove n-1) (es.map (·.1)) with
   |none=>rw[ho] at q;cases q
   |some owner =>
    rw[ho] at q
    have q':=U0w q
    cases q'
    refine⟨?_,h.2⟩
    show U6a (·<·) (List.toArray _).toList
    exact U5n.sublist (RW (fun j=>owner.getD j none) _)
  .exact h.standIn _
 .exact h.standIn _
end SetP
end
section
set_option maxRecDepth 100000
namespace SetP
open PySem PyProof.Rows
abbrev Nh(w:World):Bool:=!(w.params.followText "set-order")
structure SetT(prog:Program)(w:World)(h:Heap)(a:Addr)(ds:List Int):Prop where
 nd:ds.Nodup
 ex:∃o es ep t,h.get? a=some o/\o.ExactSet/\o.data=.set es ep t/\ElemsOf (intKind prog w) es.toList/\(∀k,decide (k∈ds)=true↔∃e∈es.toList,(intKind prog w).is k e.2=true) /\
  es.size<scanBound/\t.fits es.size=true/\es.size=ds.length/\TabOk (Nh w) t
def GD(ds:List Int)(k:Int):List Int:=if k∈ds then ds else ds++[k]
theorem Rm{ds:List Int}(h:ds.Nodup)(k:Int):(GD ds k).Nodup:=by
 unfold GD
 split
 .exact h
 .rename_i hk
  exact List.nodup_append.mpr ⟨h,by simp,fun a ha b hb=>by rw[U08] at hb;subst hb;rintro rfl;exact hk ha⟩
theorem Ul{ds:List Int}{k j:Int}:j∈GD ds k↔j∈ds∨j=k:=by
 unfold GD
 split
 .rename_i hk
  exact⟨.inl,fun z=>z.elim id fun e=>e ▸ hk⟩
 .rw[U1k,U08]
theorem bG(ds:List Int)(k:Int):(GD ds k).length<=ds.length+1:=by
 unfold GD
 split
 .omega
 .rw[U0o,U3c];omega
section
variable{prog:Program}{w:World}{A:Around}{E:Value->Shared->Prop}{s:Shared}
theorem SetT.sameBut{h h':Heap}{a:Addr}{ds:List Int}(x:SetT prog w h a ds)(hs:∀o,h.get? a=some o->h'.get? a=some o):SetT prog w h' a ds:=by
 obtain⟨nd,o,es,ep,t,e,r⟩:=x
 exact⟨nd,o,es,ep,t,hs o e,r⟩
theorem SetT.stored{h:Heap}{a:Addr}{o:Obj}{es es':Array (Int×Value)}{ep:Nat}{t t':SetTable}{ds:List Int}(ho:h.get? a=some o)(hex:o.ExactSet)(hd:o.data=.set es ep t)(nd:ds.Nodup)
  (hel:ElemsOf (intKind prog w) es'.toList) (hm:∀k,decide (k∈ds)=true↔∃e∈es'.toList,(intKind prog w).is k e.2=true) (hb:es'.size<scanBound) (hf:t'.fits es'.size=true) (hn:es'.size=ds.length) (ht:TabOk (Nh w) t') :
  (h.update a (Obj.putSet es' t')).get? a=some { o with data:=.set es' (ep+1) t' }/\SetT prog w (h.update a (Obj.putSet es' t')) a ds:=by
 obtain⟨g,_⟩:=SetOf_store (knd:=intKind prog w) ho hex hd hel hm hb hf
 exact⟨g,nd,_,es',ep+1,t',g,hex,rfl,hel,hm,hb,hf,hn,ht⟩
theorem Uz{g:Bool->Sem Unit}(hg:∀(b:Bool)(s₁:Shared)(Q':Unit->Shared->Prop),Q' () s₁->wpAny (model prog w) A (g b) Q' E s₁)
  {a:Addr} {o:Obj} {es es1:Array (Int×Value)} {ep:Nat} {t t2:SetTable} {ds:List Int} (ho:s.heap.get? a=some o) (hex:o.ExactSet) (hd:o.data=.set es ep t) (nd:ds.Nodup)
  (hel:ElemsOf (intKind prog w) es1.toList) (hm:∀k,decide (k∈ds)=true↔∃e∈es1.toList,(intKind prog w).is k e.2=true) (hb:es1.size<scanBound) (hf:t2.fits es1.size=true) (hn:es1.size=ds.length) (ht:TabOk (Nh w) t2)
  {dummy:Bool} {R:Option Bool->Shared->Prop} (h:∀h',U0z a s.heap h'->SetT prog w h' a ds->R (some true) { s with heap:=h' }) :
  wpAny (model prog w) A (do
    storeSet a es1 t2
    if (!dummy&&t2.tooFull)=true then do
      g (relayAll t2 es1 (U30 es1.size)).2.2
      storeSet a (relayAll t2 es1 (U30 es1.size)).1 (relayAll t2 es1 (U30 es1.size)).2.1
      pure (some true)
     else pure (some true)) R E s:=by
 obtain⟨g1,T1⟩:=SetT.stored (prog:=prog) (w:=w) ho hex hd nd hel hm hb hf hn ht
 have sb1:=U1m s.heap a (Obj.putSet es1 t2)
 refine U0 (wpAny_storeSet_of ho hd ?_ (fits_of_scanBound hb))
 split
 .have p:=relayAll_perm t2 es1 (U30 es1.size)
  have f:=relayAll_fits t2 es1 (U30 es1.size)
  have tb:=Wb ht es1 (U30 es1.size)
  generalize relayAll t2 es1 (U30 es1.size)=RR at p f tb
  obtain⟨es2,t3,gave⟩:=RR
  have sz:es2.size=es1.size:=by simpa using p.length_eq
  have T2:=SetT.stored (prog:=prog) (w:=w) (es':=es2) (t':=t3) g1 hex rfl nd (hel.perm p) (fun k=>(hm k).trans ⟨fun⟨e,he,q⟩=>⟨e,p.mem_iff.mpr he,q⟩,fun⟨e,he,q⟩=>⟨e,p.mem_iff.mp he,q⟩⟩)
   (by rw[sz];exact hb) f (by rw[sz];exact hn) tb
  refine U0 (hg _ _ _ (U0 (wpAny_storeSet_of g1 rfl ?_ (fits_of_scanBound (by show es2.size<_;rw[sz];exact hb)))))
  exact U0c (h _ (sb1.trans (U1m _ a _)) T2.2)
 .exact U0c (h _ sb1 T1)
theorem Xa{a:Addr}{ds:List Int}{k:Int}{t0:Tok}{Q:Bool->Shared->Prop}(hS:SetT prog w s.heap a ds)(room:ds.length+1<scanBound)
  (h:∀b h',U0z a s.heap h'->SetT prog w h' a (GD ds k)->Q b { s with heap:=h' }):wpAny (model prog w) A (setAddHashed a (.int k t0) ((intKind prog w).hash k)) Q E s:=by
 obtain⟨nd,o,es,ep,t,ho,hex,hd,hel,hm,hb,hf,hn,ht⟩:=hS
 have hkey:(intKind prog w).is k (.int k t0)=true:=intKind_is prog w k t0
 have hsc:(U3n k t0).scannable=true:=rfl
 unfold setAddHashed setAddHashedIn
 refine U1z (U0 (U3u ho hd hf ?_))
 dsimp only
 rw[byScan_of hsc hb hel,if_pos rfl]
 unfold setAddByScan
 refine U0 (U0 (U4v (U0 (wpAny_setScan_of hkey ho hd hf hel ?_))))
 cases hr:List.findIdx? (fun e=>(intKind prog w).is k e.2) es.toList with
 |some j =>
  obtain⟨hj,hpj,_⟩:=List.findIdx?_eq_some_iff_getElem.mp hr
  have hk:k∈ds:=of_decide_eq_true ((hm k).mpr ⟨es.toList[j],U5t hj,hpj⟩)
  refine U0c (U0c ?_)
  have q:=h false s.heap (U0z.refl a s.heap) (by
   have e:GD ds k=ds:=by unfold GD;rw[if_pos hk]
   rw[e];exact⟨nd,o,es,ep,t,ho,hex,hd,hel,hm,hb,hf,hn,ht⟩)
  cases s;exact q
 |none =>
  have hk:k ∉ ds:=fun z=>by
   obtain⟨e,he,hp⟩:=(hm k).mp (decide_eq_true z)
   have q:=List.findIdx?_eq_none_iff.mp hr e he
   rw[hp] at q;cases q
  have eA:GD ds k=ds++[k]:=by unfold GD;rw[if_neg hk]
  have p:=layNew_perm t es ((intKind prog w).hash k) (.int k t0)
  have f:=layNew_fits t es ((intKind prog w).hash k) (.int k t0)
  have tb:=Z4 ht es ((intKind prog w).hash k) (.int k t0)
  generalize layNew t es ((intKind prog w).hash k) (.int k t0)=LL at p f tb
  obtain⟨es1,t1,dummy,gave⟩:=LL
  dsimp only at p f tb ⊢
  rw[Array.toList_push] at p
  have hel1:ElemsOf (intKind prog w) es1.toList:=(hel.push hkey hsc).perm p
  have sz:es1.size=(GD ds k).length:=by
   have q:=p.length_eq
   rw[U1l,U0o,U3c,U1l] at q
   rw[q,eA,U0o,U3c,hn]
  have hm1:∀j,decide (j∈GD ds k)=true↔∃e∈es1.toList,(intKind prog w).is j e.2=true:=fun j=>by
   rw[←mem_push_iff (S:=fun k'=>decide (k'∈ds)) hkey hm p j]
   simp only[decide_eq_true_eq,Bool.or_eq_true,Ul]
  have hb1:es1.size<scanBound:=by rw[sz,eA,U0o,U3c];exact room
  refine U0 ?_
  have gw:∀(b:Bool)(s₁:Shared)(Q':Unit->Shared->Prop),Q' () s₁->wpAny (model prog w) A (match b with|true=>rule "set.scan.the-table-gave-way"|false=>pure ()) Q' E s₁:=fun b s₁ Q' q=>by
   cases b
   .exact U0c q
   .exact U4v q
  refine gw _ _ _ ?_
  split
  .refine U0 ?_
   rw[hashByValue_scannable 8 hsc]
   refine U0c (Uz gw ho hex hd (Rm nd k) hel1 hm1 hb1 ?_ sz ?_ fun h' sb T=>U0c (h true h' sb T))
   .split
    .exact f
    .exact SetTable.fits_plain_off f
   .split
    .exact tb
    .exact tb.iC false
  .refine U0 (U0c ?_)
   rw[if_pos rfl]
   exact Uz gw ho hex hd (Rm nd k) hel1 hm1 hb1 f sz tb fun h' sb T=>U0c (h true h' sb T)
end
end SetP
end
section
set_option maxRecDepth 100000
namespace SetP
open PySem PyProof.Rows
theorem Uq:entryFor table "set.update.loop"=some Builtin.«set.update.loop»:=entryFor_of_tree (by kernel_rfl)
theorem QL:plainId "set.update.loop"=true:=by decide +kernel
def once(ns:List Int):List Int:=ns.foldl GD []
theorem aF(ns:List Int)(k:Int):once (ns++[k])=GD (once ns) k:=by unfold once;rw[U6g];rfl
theorem Ji:∀(ns:List Int),(once ns).Nodup/\(once ns).length<=ns.length/\∀j,j∈once ns↔j∈ns:=by
 intro ns
 have all:∀(ns ds:List Int),ds.Nodup->(ns.foldl GD ds).Nodup/\(ns.foldl GD ds).length<=ds.length+ns.length/\∀j,j∈ns.foldl GD ds↔j∈ds∨j∈ns:=by
  intro ns
  induction ns with
  |nil=>intro ds h;exact⟨h,by simp,fun j=>by simp⟩
  |cons n r ih =>
   intro ds h
   obtain⟨a,b,c⟩:=ih (GD ds n) (Rm h n)
   refine⟨a,?_,fun j=>?_⟩
   .have:=bG ds n
    rw[U4e,U0i];omega
   .rw[U4e,c j,Ul,U0t]
    constructor
    .rintro((z|z)|z)
     .exact .inl z
     .exact .inr (.inl z)
     .exact .inr (.inr z)
    .rintro(z|z|z)
     .exact .inl (.inl z)
     .exact .inl (.inr z)
     .exact .inr z
 obtain⟨a,b,c⟩:=all ns [] List.nodup_nil
 exact⟨a,by rw[U1r,Nat.zero_add] at b;exact b,fun j=>by rw[show once ns=ns.foldl GD [] from rfl,c j];simp⟩
section
variable{prog:Program}{w:World}{A:Around}{E:Value->Shared->Prop}{s:Shared}
theorem bf{R:Result->Shared->Prop}{S I l:Addr}{items:Array Value}{ns:List Int}(hh:A.handled=none)(hi:IntsAre items.toList ns)(hb:items.size+1<scanBound)(hSI:S≠I)(hSl:S≠l)(hIl:I≠l) :
  ∀(k i:Nat)(s:Shared),items.size-i=k->i<=items.size->s.heap.IsListIter I l i->s.heap.IsList l items->SetT prog w s.heap S (once (ns.take i)) ->
   (∀h' tk,(∀b o,b≠S->b≠I->s.heap.get? b=some o->h'.get? b=some o)->SetT prog w h' S (once ns)->R (.ok (.ret .none)) { s with heap:=h',toks:=tk }) ->
   codeAny (model prog w) A (.builtin "set.update.loop" ⟨[.ref S,.ref I],[]⟩) R s:=by
 have hlen:items.size=ns.length:=by have:=hi.length;simpa using this
 intro k
 induction k with
 |zero =>
  intro i s hk hi' it il T hR
  have e:i=items.size:=by omega
  subst e
  refine codeAny_builtin Uq ?_
  rw[U21 QL _]
  show wpAny _ A.in1 (pyNext (.ref I) >>= _) _ _ s
  refine U0 (wpAny_pyNext_list_end hh it il (by simp) fun h' eb=>?_)
  show wpAny _ A.in1 (ret U2e) _ _ _
  refine U0c (hR h' s.toks (fun b o _ hbI q=>eb b o hbI q) ?_)
  rw[U5o (by omega)] at T
  exact T.sameBut fun o q=>eb S o hSI q
 |succ k ih =>
  intro i s hk hi' it il T hR
  have hlt:i<items.size:=by omega
  refine codeAny_builtin Uq ?_
  rw[U21 QL _]
  show wpAny _ A.in1 (pyNext (.ref I) >>= _) _ _ s
  refine U0 (wpAny_pyNext_list_item it il (x:=items[i]) (by simp[hlt]) fun h1 it1 sb1=>?_)
  have hn:i<ns.length:=by omega
  obtain⟨t0,hv⟩:∃t0,items[i]=.int ns[i] t0:=by
   have all:∀{vs:List Value} {ms:List Int},IntsAre vs ms->∀(j:Nat)(h1:j<vs.length)(h2:j<ms.length),∃t0,vs[j]=.int ms[j] t0:=by
    intro vs ms r
    induction r with
    |nil=>intro j h1;simp at h1
    |cons n t _ ih=>intro j h1 h2;cases j with
     |zero=>exact⟨t,rfl⟩
     |succ j=>exact ih j (by simpa using h1) (by simpa using h2)
   have q:=all hi i (by simpa using hlt) hn
   simpa using q
  rw[hv]
  show wpAny _ A.in1 (holding [U3n ns[i] t0] (setAdd S (.int ns[i] t0)) >>= _) _ _ _
  have T1:SetT prog w h1 S (once (ns.take i)):=T.sameBut fun o q=>(sb1.2 S hSI).trans q
  have il1:h1.IsList l items:=by
   obtain⟨o,ho,r⟩:=il
   exact⟨o,(sb1.2 l hIl.symm).trans ho,r⟩
  refine U0 (U1z ?_)
  unfold setAdd
  refine U1z (U0 ((intKind prog w).pyHash (k:=ns[i]) (intKind_is _ _ _ _) ?_))
  have room:(once (ns.take i)).length+1<scanBound:=by
   have q:=(Ji (ns.take i)).2.1
   rw[U2c] at q
   omega
  refine Xa (s:={ s with heap:=h1,toks:=s.toks+1 }) T1 room fun b h2 sb2 T2=>?_
  have T2':SetT prog w h2 S (once (ns.take (i+1))):=by
   rw[List.take_succ_eq_append_getElem hn,aF];exact T2
  refine U0c ⟨plainId_quiet QL _,ih (i+1) _ (by omega) hlt ?_ ?_ T2' fun h' tk hk' T'=>?_⟩
  .obtain⟨o,ho,r⟩:=it1
   exact⟨o,(sb2.2 I hSI.symm).trans ho,r⟩
  .obtain⟨o,ho,r⟩:=il1
   exact⟨o,(sb2.2 l hSl.symm).trans ho,r⟩
  .exact hR h' tk (fun c o hcS hcI q=>hk' c o hcS hcI ((sb2.2 c hcS).trans ((sb1.2 c hcI).trans q))) T'
theorem rA(a:Value){Q₁:Value->Shared->Prop}
  (h:Q₁ (.ref s.heap.objs.size) { s with heap:=s.heap.push { cls:=.type "set",dict:=none,data:=.set #[] 0 (.fresh 0 0 (Nh w)) } }) :
  codeAny (model prog w) A (.call (.builtin "set.__new__") ⟨[.type "set",a],[]⟩) (wants Q₁ E) s:=by
 refine codeAny_of_tree ?_
 have hck:checkBuiltinCall "set.__new__" ⟨[.type "set",a],[]⟩=pure ():=by kernel_rfl
 show wpAny _ A.in1 (checkBuiltinCall "set.__new__" ⟨[.type "set",a],[]⟩ >>= fun _=>again (.builtin "set.__new__" ⟨[.type "set",a],[]⟩)) _ _ s
 rw[hck]
 refine U0 (U0c (U0c ⟨plainId_quiet F.plain_set_new _,codeAny_builtin F.entry_set_new ?_⟩))
 rw[U21 F.plain_set_new _]
 have hsub:=sub_set_self
 unfold Builtin.«set.__new__» Builtin.Frozenset.newClass
 obtain⟨hp,g,d,tk,os⟩:=s
 dsimp only
 wp_walk
 refine U34 (U0c ?_)
 simp only[newObj]
 exact U0 (wpAny_alloc (U0c (U0c h)))
theorem fD{M:Model}{self a:Value}{Q:Unit->Shared->Prop}(hT:s.TypeIs self "set")(hQ:Q () s):wpAny M A (checkBuiltinCall "set.__init__" ⟨[self,a],[]⟩) Q E s:=by
 simp only[checkBuiltinCall,kind_set_init,split_set_init,sig_set_init]
 refine U0 (U4w hT sub_set_self ?_)
 simp only[U5p,U1s,if_false]
 unfold Bind.checkArgs
 dsimp only
 refine U0 (m:=Bind.printed "set" true _ _) (printed_name (by decide) ?_)
 refine U0 (m:=Bind.printed "*" false _ _) (printed_star (self:=self) rfl hT fun short=>?_)
 have one:(if (U5j.self==U5j.none)=true then [self,a].length else [self,a].length-1)=1:=by
  have z:(U5j.self==U5j.none)=false:=by decide
  simp[z]
 rw[one]
 simp only[U1p]
 have z1:(U3s==U3s)=true:=by decide
 have z2:(U3s==U3o.posOrKw)=false:=by decide
 have z3:(U3s==U3o.varPos)=false:=by decide
 have fine:Bind.check ⟨.positional,"set","*",.self,[⟨"iterable",.posOnly,false⟩]⟩ "set" short 1 []=pure ():=by
  simp[Bind.check,Bind.checkCount,Bind.isPositional,z1,z2,z3]
 rw[fine]
 exact U0c hQ
set_option maxHeartbeats 3200000 in
theorem iK{l:Addr}{items:Array Value}{ns:List Int}{Q:Value->Shared->Prop}(hh:A.handled=none)(hl:s.heap.IsList l items)(hi:IntsAre items.toList ns)(hb:items.size+1<scanBound)
  (h:∀h' tk,(∀b o,s.heap.get? b=some o->h'.get? b=some o)->SetT prog w h' s.heap.objs.size (once ns)->Q (.ref s.heap.objs.size) { s with heap:=h',toks:=tk }) :
  wpAny (model prog w) A (call (.type "set") [.ref l]) Q E s:=by
 have hmade:=U35.made
 have hsub:=U35.sub
 have h1:=U35.notType
 have h2:=U35.canCreate
 have hct:checkTypeCall "set" ⟨[.ref l],[]⟩=pure ():=by kernel_rfl
 obtain⟨c,tl,hmro⟩:=U35.mro
 refine wpAny_call (codeAny_of_tree ?_)
 show wpAny _ _ (callAny (.type "set") ⟨[.ref l],[]⟩) _ _ s
 refine U0c ⟨Code.quiet_builtin _ (by decide +kernel),codeAny_builtin F.entry_type_call ?_⟩
 rw[Around.under_plain (weight_type_call_type "set" [.ref l] []) rfl]
 repeat (any_goals (first|assumption|wp_step))
 refine codeAny_mono (rA (.ref l) (E:=E) (Q₁:=fun obj s₁=>obj=.ref s.heap.objs.size/\s₁={ s with heap:=s.heap.push { cls:=.type "set",dict:=none,data:=.set #[] 0 (.fresh 0 0 (Nh w)) } }) ⟨rfl,rfl⟩) fun r s₁ hr=>?_
 cases r with
 |error e=>exact hr
 |ok fl =>
  cases fl with
  |ret obj =>
   obtain⟨rfl,rfl⟩:=hr
   generalize hg1:s.heap.push { cls:=.type "set",dict:=none,data:=.set #[] 0 (.fresh 0 0 (Nh w)) }=g1
   have e1:g1.get? s.heap.objs.size=some { cls:=.type "set",dict:=none,data:=.set #[] 0 (.fresh 0 0 (Nh w)) }:=hg1 ▸ U0p _ rfl
   have k1:∀b o,s.heap.get? b=some o->g1.get? b=some o:=fun b o q=>hg1 ▸ U0b _ q
   have z1:g1.objs.size=s.heap.objs.size+1:=by rw[←hg1,U1y]
   have hT:U5q { s with heap:=g1 } (.ref s.heap.objs.size) "set":=⟨_,e1,rfl⟩
   have hli:=U35.init.lookup
   have hbi:=U35.init.bind (.ref s.heap.objs.size)
   repeat (any_goals (first|assumption|wp_step))
   refine codeAny_mono (codeAny_call_builtin (R:=wants (fun r s₂=>r=.none/\∃h' tk,s₂={ s with heap:=h',toks:=tk }/\(∀b o,s.heap.get? b=some o->h'.get? b=some o)/\SetT prog w h' s.heap.objs.size (once ns)) E)
    U35.init.plain F.entry_set_init (fD hT ?_)) fun r₂ s₂ hr₂=>?_
   .obtain⟨ol,hol,hcl,nl,hdl⟩:=hl
    obtain⟨ocls,odict,odata,oslots⟩:=ol
    simp only at hcl hdl
    subst hcl hdl
    have q1:g1.get? l=some { cls:=.type "list",dict:=odict,data:=.seq items nl,slots:=oslots }:=k1 _ _ hol
    have il:g1.IsList l items:=⟨_,q1,rfl,nl,rfl⟩
    have hlS:l<s.heap.objs.size:=U0k hol
    have hs1:isSubtype (.type "list") (.type "set")=pure false:=by rw[isSubtype_type];kernel_rfl
    have hs2:isSubtype (.type "list") (.type "frozenset")=pure false:=by rw[isSubtype_type];kernel_rfl
    have hs3:(U2p "list"==U2p "dict")=false:=by decide
    unfold Builtin.«set.__init__» noKeywords Builtin.Frozenset.updateFrom
    generalize hPI:pyIter=PI
    wp_walk
    subst hPI
    refine U4o il (U0 (wpAny_runValue ?_))
    have n1:s.heap.objs.size≠g1.objs.size:=by rw[z1];exact U0q (U4u _)
    have n2:s.heap.objs.size≠l:=U1o hlS
    have n3:g1.objs.size≠l:=by rw[z1];exact U1o (U2a hlS)
    refine bf (l:=l) (items:=items) (by simpa using hh) hi hb n1 n2 n3 (items.size-0) 0 _ (by omega) (U3e _) ⟨_,U0p _ rfl,rfl,rfl⟩ ?_ ?_ ?_
    .obtain⟨o,ho,r⟩:=il
     exact⟨o,U0b _ ho,r⟩
    .refine⟨List.nodup_nil,_,#[],0,_,U0b _ e1,⟨rfl,rfl,rfl⟩,rfl,fun e he=>by simp at he,fun k=>by simp[once],by decide,by rfl,rfl,TabOk.fresh _ _ _⟩
    .intro h' tk hk T
     show wpAny _ _ _ _ _ _
     refine U0c ?_
     show wpAny _ _ (ret U2e) _ _ _
     refine U0c ⟨rfl,h',tk,rfl,fun b o q=>?_,T⟩
     have hb':=U0k q
     exact hk b o (U0q hb') (by rw[z1];exact U0q (U2a hb')) (U0b _ (k1 b o q))
   .cases r₂ with
    |error e=>exact hr₂
    |ok fl₂ =>
     cases fl₂ with
     |ret r =>
      obtain⟨rfl,h',tk,rfl,hk,T⟩:=hr₂
      repeat (any_goals (first|assumption|wp_step))
      exact h h' tk hk T
     |_=>exact hr₂.elim
  |_=>exact hr.elim
end
end SetP
end
section
set_option maxRecDepth 100000
namespace SetP
open PySem PyProof.Rows
theorem PX{α:Type}:∀(l:List α)(i:Nat)(h:i<l.length),(l[i]::l.eraseIdx i).Perm l
 |[],i,h=>absurd h (by simp)
 |x::r,0,_=>U59 _
 |x::r,i+1,h=>(U4f.swap x _ _).trans (U6y x (PX r i (by simpa using h)))
theorem Qu:∀{ds ns:List Int},ds.Nodup->(∀k,k∈ds->k∈ns)->ns.length<=ds.length->ns.Perm ds
 |[],ns,_,_,h=>by
  have e:ns=[]:=U39.mp (by simpa using h)
  rw[e]
 |d::r,ns,nd,sub,h=>by
  have hd:d∈ns:=sub d U04
  have p:=List.perm_cons_erase hd
  obtain⟨h1,h2⟩:=U44.mp nd
  refine p.trans (U6y d (Qu h2 (fun k hk=>?_) ?_))
  .have hne:k≠d:=fun e=>h1 (e ▸ hk)
   exact(List.mem_erase_of_ne hne).mpr (sub k (U0r _ hk))
  .rw[List.length_erase_of_mem hd]
   rw[U0i] at h
   omega
theorem Xv{α:Type}(next:Nat->Nat):∀(fuel k:Nat)(left:List α)(out:Array α),left.length=fuel->(pickOrder.go next fuel k left out).toList.Perm (out.toList++left)
 |0,_,left,out,h=>by
  have e:left=[]:=U39.mp h
  subst e
  unfold pickOrder.go
  simp
 |fuel+1,k,left,out,h=>by
  unfold pickOrder.go
  have hi:next k%left.length<left.length:=Nat.mod_lt _ (by omega)
  rw[U0y hi]
  dsimp only
  refine(Xv next fuel (k+1) _ _ (by rw[List.length_eraseIdx_of_lt hi];omega)).trans ?_
  rw[Array.toList_push,U5i]
  exact U4f.append_left _ (PX _ _ hi)
theorem aC{α:Type}(next:Nat->Nat)(xs:Array α):(pickOrder next xs).toList.Perm xs.toList:=by
 unfold pickOrder
 simpa using Xv next xs.size 0 xs.toList #[] (by simp)
section
variable{M:Model}{A:Around}{E:Value->Shared->Prop}
theorem ZD{src:Source}{n:Nat}{s:Shared}{Q:Nat->Shared->Prop}(hn:n≠0)(h:∀i d',i<n->Q i { s with drawn:=d' }):wpAny M A (choose src n) Q E s :=
 fun _ _ _=>⟨hn,h _ _ (Nat.mod_lt _ (Nat.pos_of_ne_zero hn))⟩
theorem Pj{α:Type}:∀(n:Nat)(xs:List α)(s:Shared)(Q:List α->Shared->Prop),xs.length<=n->(∀ys d',ys.Perm xs->Q ys { s with drawn:=d' })->wpAny M A (drawOrder n xs) Q E s
 |0,xs,s,Q,h,q=>by
  have e:xs=[]:=U39.mp (by omega)
  subst e
  unfold drawOrder
  exact U0c (q [] s.drawn (U59 _))
 |n+1,[],s,Q,h,q=>by
  unfold drawOrder
  exact U0c (q [] s.drawn (U59 _))
 |n+1,x::xs,s,Q,h,q=>by
  unfold drawOrder
  refine U0 (ZD (by simp) fun i d' hi=>?_)
  rw[U0y hi]
  dsimp only
  refine U0 (Pj n _ _ _ (by rw[List.length_eraseIdx_of_lt hi];simp at h ⊢;omega) fun ys d'' p=>U0c (q _ d'' ?_))
  exact(U6y _ p).trans (PX _ _ hi)
end
theorem Fq:Slot "set_iterator" "__next__" "set_iterator.__next__" :=
 .of (owner:="set_iterator") (n:="__next__") (by rw[typeLookup_type,builtinLookup_eq_fast];kernel_rfl) (by decide +kernel) (by decide +kernel) (by decide +kernel)
  (by first|exact .inl (by decide +kernel)|exact .inr (by decide +kernel)) (by rw[isSubtype_type];kernel_rfl)
theorem Nb:entryFor table "set_iterator.__next__"=some Builtin.«set_iterator.__next__»:=entryFor_of_tree (by kernel_rfl)
theorem Nv(a:Value):argsOk "set_iterator.__next__" ⟨[a],[]⟩:=by unfold argsOk;kernel_rfl
theorem U8:entryFor table "set.__iter__"=some Builtin.«frozenset.__iter__» :=
 entryFor_alias (id':="frozenset.__iter__") (by kernel_rfl) rfl (by decide +kernel) (by kernel_rfl)
def Jc(first:Value)(i:Nat)(S:Addr)(n ep:Nat):Obj:={ cls:=.type "set_iterator",data:=.fields #[first,.int i 0,.ref S,.int n 0,.int ep 0] }
inductive Road (w:World) (h:Heap) (es:Array (Int×Value)) (ep:Nat) (t:SetTable) (S it T:Addr) (vs:List Value) (i:Nat):Value->Prop
 |text (k:Int):w.params.followText "set-order"=true->(∀(j:Nat),vs[j]?=((pickOrder (w.params.setOrder S ep) es)[j]?).map fun(e:Int×Value)=>e.2)->Road w h es ep t S it T vs i (.int k 0)
 |plain:w.params.followText "set-order"=false->(!t.plain&&decide (es.size>1))=false->TabOk true t->(∀(j:Nat),vs[j]?=(es[j]?).map fun(e:Int×Value)=>e.2)->Road w h es ep t S it T vs i (.int ((if i=0 then 0 else t.place.getD (i-1) 0+1:Nat):Int) 0)
 |drawn (ps:List Nat):T≠it->h.get? T=some { cls:=.type "tuple",data:=.seq (ps.map fun(p:Nat)=>rawInt p).toArray 0 }->(∀p∈ps,p<es.size)->(∀(j:Nat),vs[j]?=(ps[j]?).bind fun p=>(es[p]?).map fun(e:Int×Value)=>e.2)->Road w h es ep t S it T vs i (.ref T)
structure Ly(w:World)(h:Heap)(it S T:Addr)(vs:List Value)(i:Nat):Prop where
 ne:it≠S
 ex:∃o es ep t first,h.get? S=some o/\o.data=.set es ep t/\t.fits es.size=true/\vs.length=es.size/\h.get? it=some (Jc first i S es.size ep)/\Road w h es ep t S it T vs i first
section
variable{prog:Program}{w:World}{A:Around}{E:Value->Shared->Prop}{s:Shared}
theorem Ly.keep{h h':Heap}{it S T:Addr}{vs:List Value}{i:Nat}(x:Ly w h it S T vs i)(k:∀b∈[it,S,T],∀o,h.get? b=some o->h'.get? b=some o):Ly w h' it S T vs i:=by
 obtain⟨ne,o,es,ep,t,first,a,b,c,d,e,r⟩:=x
 refine⟨ne,o,es,ep,t,first,k S (by simp) _ a,b,c,d,k it (by simp) _ e,?_⟩
 cases r with
 |text k1 z1 z2=>exact .text k1 z1 z2
 |plain z1 z2 z3 z4=>exact .plain z1 z2 z3 z4
 |drawn ps z1 z2 z3 z4=>exact .drawn ps z1 (k T (by simp) _ z2) z3 z4
theorem ou{S:Addr}{ds:List Int}{Q:Value->Shared->Prop}(hS:SetT prog w s.heap S ds)
  (h:∀h' d' it T vs,(∀b o,s.heap.get? b=some o->h'.get? b=some o)->s.heap.objs.size<=it->(T=S∨s.heap.objs.size<=T)->Ly w h' it S T vs 0->(∃ns,IntsAre vs ns/\ns.Perm ds)->Q (.ref it) { s with heap:=h',drawn:=d' }) :
  wpAny (model prog w) A (pyIter (.ref S)) Q E s:=by
 obtain⟨nd,o,es,ep,t,ho,hex,hd,hel,hm,hb,hf,hn,ht⟩:=hS
 have hT:s.TypeIs (.ref S) "set":=⟨o,ho,hex.1⟩
 have hlt:=U0k ho
 -- the members as ints
 have intsV:∀(l:List (Int×Value)),ElemsOf (intKind prog w) l->∃ns,IntsAre (l.map (·.2)) ns/\∀k,k∈ns↔∃e∈l,(intKind prog w).is k e.2=true:=by
  intro l
  induction l with
  |nil=>intro _;exact⟨[],.nil,fun k=>by simp⟩
  |cons e r ih =>
   intro he
   obtain⟨ns,a,b⟩:=ih he.tail
   obtain⟨⟨k0,hk0,_⟩,_⟩:=he.head
   obtain⟨t0,e0⟩:=Value.isInt_shape (show Value.isInt k0 e.2=true from hk0)
   refine⟨k0::ns,by rw[U00,e0];exact .cons k0 t0 a,fun k=>?_⟩
   rw[U0t,b k]
   constructor
   .rintro(z|⟨e',he',q⟩)
    .exact⟨e,U04,by rw[z];exact hk0⟩
    .exact⟨e',U0r _ he',q⟩
   .rintro⟨e',he',q⟩
    rcases U0t.mp he' with z|z
    .subst z;exact .inl ((intKind prog w).inj _ _ _ q hk0)
    .exact .inr ⟨e',z,q⟩
 -- any order of the members is the ints in some order
 have fin:∀(l:List (Int×Value)),l.Perm es.toList->∃ns,IntsAre (l.map (·.2)) ns/\ns.Perm ds:=fun l p=>by
  obtain⟨ns,a,b⟩:=intsV l (hel.perm p)
  refine⟨ns,a,?_⟩
  have hsub:ds ⊆ ns:=fun k hk=>(b k).mpr (by
   obtain⟨e,he,q⟩:=(hm k).mp (decide_eq_true hk)
   exact⟨e,p.mem_iff.mpr he,q⟩)
  have hle:ns.length<=ds.length:=by
   have q1:(l.map (·.2)).length=ns.length:=IntsAre.length a
   rw[U0g] at q1
   exact U66 (by rw[←q1,p.length_eq,U1l,hn])
  exact Qu nd (fun k hk=>hsub hk) hle
 refine U6h hT F.slot_set_iter (U1w F.slot_set_iter hT U8 ?_ (F.args_set_iter_1 _))
 unfold Builtin.«frozenset.__iter__» Builtin.Frozenset.slot0 slotArgs
 simp only[U6l,U5p,U1s,↓reduceIte,bind_assoc,U1r,bne_self_eq_false]
 unfold Builtin.Frozenset.addrOf Builtin.Frozenset.sizeOf
 refine U0 (U0c ?_)
 try dsimp only
 refine U0 (U0c ?_)
 refine U0 (U0 (U54 ho hd hf (U0c ?_)))
 unfold setDrawn setsByText
 simp only[bind_assoc]
 refine U0 (U3u ho hd hf ?_)
 refine U0 (U34 ?_)
 refine U0 (U0c (U0 (U0c ?_)))
 show wpAny (model prog w) A.in1 (if (!(w.params.followText "set-order")&&(!t.plain&&decide (es.size>1)))=true then _ else _) _ _ s
 have len2:∀(ps:List Nat),ps.Perm (U12 es.size)->((ps.filterMap fun p=>es[p]?)).Perm es.toList/\∀(j:Nat),((ps.filterMap fun p=>es[p]?).map (·.2))[j]?=(ps[j]?).bind fun p=>(es[p]?).map fun(e:Int×Value)=>e.2:=fun ps p=>by
  refine⟨(p.filterMap _).trans (by rw[filterMap_getElem?_range]),?_⟩
  have all:∀(ps:List Nat),(∀p∈ps,p<es.size)->∀(j:Nat),((ps.filterMap fun p=>es[p]?).map (·.2))[j]?=(ps[j]?).bind fun p=>(es[p]?).map fun(e:Int×Value)=>e.2:=by
   intro ps
   induction ps with
   |nil=>intro _ j;simp
   |cons q r ih =>
    intro hq j
    have hq':q<es.size:=hq q U04
    rw[List.filterMap_cons_some (b:=es[q]) (by simp[hq'])]
    cases j with
    |zero=>simp[hq']
    |succ j=>simpa using ih (fun p hp=>hq p (U0r _ hp)) j
  exact all ps fun q hq=>U3m.mp (p.mem_iff.mp hq)
 split
 .rename_i hc
  refine U0 (Pj es.size (U12 es.size) s _ (by simp) fun ps d' p=>?_)
  obtain⟨p1,p2⟩:=len2 ps p
  refine U0 (U15 ?_ ?_)
  .refine U0 (wpAny_setEpoch_of (U0b _ ho) hd hf ?_)
   refine U0 (U15 (U0c ⟨_,rfl,"set_iterator",_,⟨_,U0p _ rfl,rfl⟩,Fq.lookup,?_⟩))
   refine h _ d' _ s.heap.objs.size ((ps.filterMap fun p=>es[p]?).map (·.2)) (fun b o' e=>U0b _ (U0b _ e)) ?_ (.inr (U0m _)) ?_ (fin _ p1)
   .show s.heap.objs.size<=(s.heap.push _).objs.size
    rw[U1y];exact U4k _
   .refine⟨?_,o,es,ep,t,_,U0b _ (U0b _ ho),hd,hf,?_,U0p _ rfl,.drawn ps ?_ (U0b _ (U0p _ rfl)) (fun q hq=>U3m.mp (p.mem_iff.mp hq)) p2⟩
    .show(s.heap.push _).objs.size≠S
     rw[U1y];exact U1o (U2a hlt)
    .rw[U0g,p1.length_eq,U1l]
    .show s.heap.objs.size≠(s.heap.push _).objs.size
     rw[U1y];exact U0q (U4u _)
  .show _<=sizeLine
   rw[U0j,U0g,p.length_eq,U4p]
   exact fits_of_scanBound hb
 .rename_i hc
  refine U0 (U0c (U0 (wpAny_setEpoch_of ho hd hf ?_)))
  refine U0 (U15 (U0c ⟨_,rfl,"set_iterator",_,⟨_,U0p _ rfl,rfl⟩,Fq.lookup,?_⟩))
  by_cases ht':w.params.followText "set-order"=true
  .have pp:=aC (w.params.setOrder S ep) es
   have q:=h (s.heap.push (Jc (rawInt 0) 0 S es.size ep)) s.drawn s.heap.objs.size S ((pickOrder (w.params.setOrder S ep) es).toList.map (·.2)) (fun b o' e=>U0b _ e) (U0m _) (.inl rfl)
    ⟨U1o hlt,o,es,ep,t,_,U0b _ ho,hd,hf,by rw[U0g,pp.length_eq,U1l],U0p _ rfl,.text 0 ht' fun j=>by rw[U03,U2q]⟩ (fin _ pp)
   exact q
  .have hf':w.params.followText "set-order"=false:=by simpa using ht'
   have hL:Nh w=true:=by show(!_)=true;rw[hf'];rfl
   rw[hL] at ht
   have hdr:(!t.plain&&decide (es.size>1))=false:=by
    rw[hf'] at hc
    simpa using hc
   have q:=h (s.heap.push (Jc (rawInt 0) 0 S es.size ep)) s.drawn s.heap.objs.size S (es.toList.map (·.2)) (fun b o' e=>U0b _ e) (U0m _) (.inl rfl)
    ⟨U1o hlt,o,es,ep,t,_,U0b _ ho,hd,hf,by rw[U0g,U1l],U0p _ rfl,.plain hf' hdr ht fun j=>by rw[U03,U2q]⟩ (fin _ (U59 _))
   exact q
end
end SetP
end
section
set_option maxRecDepth 100000
namespace SetP
open PySem PyProof.Rows
section
variable{prog:Program}{w:World}{A:Around}{E:Value->Shared->Prop}{s:Shared}
theorem Ss(first x:Value)(i:Nat)(S:Addr)(n ep:Nat):U3k (·.setIfInBounds 0 x) (Jc first i S n ep)=Jc x i S n ep:=rfl
theorem Z6(first:Value)(i:Nat)(S:Addr)(n ep:Nat):U3k (·.setIfInBounds 1 (rawInt ((i:Int)+1))) (Jc first i S n ep)=Jc first (i+1) S n ep:=rfl
theorem QW{S:Addr}{o:Obj}{es:Array (Int×Value)}{ep slot given:Nat}{t:SetTable}{Q:Option (Value×Nat)->Shared->Prop}(ho:s.heap.get? S=some o)(hd:o.data=.set es ep t)(hf:t.fits es.size=true)
  (z:w.params.followText "set-order"=true) (h:Q (((pickOrder (w.params.setOrder S ep) es)[given]?).map fun e=>(e.2,slot)) s):wpAny (model prog w) A (setNext S slot given ep) Q E s:=by
 unfold setNext
 refine U0 (U3u ho hd hf ?_)
 unfold setsByText
 refine U0 (U0 (U34 (U0c ?_)))
 show wpAny _ _ (if (w.params.followText "set-order")=true then _ else _) _ _ s
 rw[if_pos z]
 show wpAny _ _ (if (ep != ep)=true then _ else _) _ _ s
 rw[if_neg (by simp)]
 unfold setWalk
 refine U0 (U0 (U3u ho hd hf ?_))
 unfold setsByText
 refine U0 (U0 (U34 (U0c ?_)))
 show wpAny _ _ (if (w.params.followText "set-order")=true then _ else _) _ _ s
 rw[if_pos z]
 exact U0 (U34 (U0c (U0c h)))
theorem Pb{S:Addr}{o:Obj}{es:Array (Int×Value)}{ep slot given:Nat}{t:SetTable}{Q:Option (Value×Nat)->Shared->Prop}(ho:s.heap.get? S=some o)(hd:o.data=.set es ep t)(hf:t.fits es.size=true)
  (z:w.params.followText "set-order"=false) (z2:(!t.plain&&decide (es.size>1))=false) (z3:t.led=true)
  (h:Q (match es[U1h t.place slot]?,t.place[U1h t.place slot]? with|some (_,x),some j=>some (x,j+1)|_,_=>none) s):wpAny (model prog w) A (setNext S slot given ep) Q E s:=by
 unfold setNext
 refine U0 (U3u ho hd hf ?_)
 unfold setsByText
 refine U0 (U0 (U34 (U0c ?_)))
 show wpAny _ _ (if (w.params.followText "set-order")=true then _ else _) _ _ s
 rw[if_neg (by rw[z];simp)]
 show wpAny _ _ (if (!t.plain&&decide (es.size>1))=true then _ else _) _ _ s
 rw[if_neg (by rw[z2];simp)]
 refine U0 ?_
 show wpAny _ _ (if (!t.led&&!es.isEmpty)=true then _ else _) _ _ s
 rw[if_neg (by rw[z3];simp)]
 exact U0c (U0c h)
theorem Yx{it S T:Addr}{vs:List Value}{i:Nat}{v:Value}{Q:Option Value->Shared->Prop}(x:Ly w s.heap it S T vs i)(hv:vs[i]?=some v)
  (h:∀h',U0z it s.heap h'->Ly w h' it S T vs (i+1)->Q (some v) { s with heap:=h' }):wpAny (model prog w) A (pyNext (.ref it)) Q E s:=by
 obtain⟨ne,o,es,ep,t,first,ho,hd,hf,hl,hi,r⟩:=x
 have hT:s.TypeIs (.ref it) "set_iterator":=⟨_,hi,rfl⟩
 unfold pyNext
 refine U0 (U3t (wpAny_callSpecial?_slot (name:=U25 "__next__") hT Fq (U1w Fq hT Nb ?_ (Nv _))))
 unfold Builtin.«set_iterator.__next__» slotArgs
 simp only[U6l,U5p,U1s,↓reduceIte,U1r,bne_self_eq_false]
 refine U0 (U0c ?_)
 refine U0 (wpAny_fieldsOf hi rfl ?_)
 show wpAny _ _ (setEntries S >>= _) _ _ s
 refine U0 (U54 ho hd hf ?_)
 show wpAny _ _ (if ((es.size:Int) != (es.size:Int))=true then _ else _) _ _ s
 rw[if_neg (by simp)]
 have lt:i<vs.length:=(U0h.mp hv).1
 have upd1:∀{h1:Heap} {f1:Value},h1.get? it=some (Jc f1 i S es.size ep)->(h1.update it (U3k (·.setIfInBounds 1 (rawInt ((i:Int)+1))))).get? it=some (Jc f1 (i+1) S es.size ep):=fun {h1 f1} e=>by
  rw[←Z6 f1 i S es.size ep];exact U11 _ e rfl
 have upd0:∀{h1:Heap} {f1 y:Value},h1.get? it=some (Jc f1 i S es.size ep)->(h1.update it (U3k (·.setIfInBounds 0 y))).get? it=some (Jc y i S es.size ep):=fun {h1 f1 y} e=>by
  rw[←Ss f1 y i S es.size ep];exact U11 _ e rfl
 cases r with
 |text k z1 z2 =>
  show wpAny _ _ (setNext S k.toNat i ep >>= _) _ _ s
  refine U0 (QW ho hd hf z1 ?_)
  have q:=z2 i
  rw[hv] at q
  cases hp:(pickOrder (w.params.setOrder S ep) es)[i]? with
  |none=>rw[hp] at q;cases q
  |some e =>
   rw[hp] at q
   have q':v=e.2:=U0w q
   subst q'
   refine U0 (U2w hi rfl (by simp) (U0 (U2w (upd0 hi) rfl (by simp) (U0c ⟨_,rfl,U0c (h _ ((U1m ..).trans (U1m ..)) ⟨ne,o,es,ep,t,_,?_,hd,hf,hl,upd1 (upd0 hi),.text _ z1 z2⟩)⟩))))
   rw[U1a _ _ ne,U1a _ _ ne];exact ho
 |plain z1 z2 z3 z4 =>
  show wpAny _ _ (setNext S (Int.toNat ((if i=0 then 0 else t.place.getD (i-1) 0+1:Nat):Int)) i ep >>= _) _ _ s
  rw[U2x]
  refine U0 (Pb ho hd hf z1 z2 z3.2 ?_)
  have psz:t.place.size=es.size:=by
   have q:=hf
   simp only[SetTable.fits,U0x,beq_iff_eq] at q
   exact q.1
  have hb:U1h t.place (if i=0 then 0 else t.place.getD (i-1) 0+1)=i:=by
   cases i with
   |zero=>rw[if_pos rfl];exact T6 z3.1
   |succ i=>rw[if_neg (by omega)];exact T7 z3.1 (by omega)
  rw[hb]
  have q:=z4 i
  rw[hv] at q
  have hie:i<es.size:=by omega
  have hip:i<t.place.size:=by omega
  rw[U1v hie] at q ⊢
  rw[U1v hip]
  have q':v=es[i].2:=U0w q
  subst q'
  show wpAny _ _ (setField (.ref it) 0 (rawInt ((t.place[i]+1:Nat):Int)) >>= _) _ _ s
  refine U0 (U2w hi rfl (by simp) (U0 (U2w (upd0 hi) rfl (by simp) (U0c ⟨_,rfl,U0c (h _ ((U1m ..).trans (U1m ..)) ⟨ne,o,es,ep,t,_,?_,hd,hf,hl,upd1 (upd0 hi),?_⟩)⟩))))
  .rw[U1a _ _ ne,U1a _ _ ne];exact ho
  .have e:t.place[i]=t.place.getD (i+1-1) 0:=by
    rw[U2t,Nat.add_sub_cancel,U1v hip];rfl
   have rr:∀hp:Heap,Road w hp es ep t S it T vs (i+1) (.int ((t.place[i]+1:Nat):Int) 0):=fun hp=>by
    have r1:Road w hp es ep t S it T vs (i+1) (.int ((if i+1=0 then 0 else t.place.getD (i+1-1) 0+1:Nat):Int) 0):=.plain z1 z2 z3 z4
    rw[if_neg (by omega),←e] at r1
    exact r1
   exact rr _
 |drawn ps z1 z2 z3 z4 =>
  show wpAny _ _ (seqItems? (.ref T) >>= _) _ _ s
  refine U0 (U2j z2 rfl ?_)
  have q:=z4 i
  rw[hv] at q
  cases hp:ps[i]? with
  |none=>rw[hp] at q;cases q
  |some p =>
   rw[hp] at q
   have hlt:p<es.size:=z3 p (U06 hp)
   have q2:some v=(es[p]?).map fun(e:Int×Value)=>e.2:=q
   rw[U1v hlt] at q2
   have q':v=es[p].2:=U0w q2
   subst q'
   have hg:((ps.map fun(p:Nat)=>rawInt p).toArray)[i]?=some (rawInt p):=by
    rw[U4r,U03,hp];rfl
   show wpAny _ _ (match ((ps.map fun(p:Nat)=>rawInt p).toArray)[(i:Int).toNat]? with|some (.int place _)=>_|some _=>_|none=>_) _ _ s
   rw[U2x,hg]
   show wpAny _ _ (setNextDrawn S p ep >>= _) _ _ s
   unfold setNextDrawn
   refine U0 (U0 (U3u ho hd hf ?_))
   show wpAny _ _ (if (ep != ep)=true then _ else _) _ _ s
   rw[if_neg (by simp)]
   dsimp only
   rw[U1v hlt]
   refine U0c ?_
   refine U0 (U2w hi rfl (by simp) (U0c ⟨_,rfl,U0c (h _ (U1m ..) ⟨ne,o,es,ep,t,_,?_,hd,hf,hl,upd1 hi,.drawn ps z1 ?_ z3 z4⟩)⟩))
   .rw[U1a _ _ ne];exact ho
   .rw[U1a _ _ z1.symm];exact z2
theorem aH{it S T:Addr}{vs:List Value}{Q:Option Value->Shared->Prop}(hh:A.handled=none)(x:Ly w s.heap it S T vs vs.length)
  (h:∀h',U4y it s.heap h'->Q none { s with heap:=h' }):wpAny (model prog w) A (pyNext (.ref it)) Q E s:=by
 obtain⟨ne,o,es,ep,t,first,ho,hd,hf,hl,hi,r⟩:=x
 have hT:s.TypeIs (.ref it) "set_iterator":=⟨_,hi,rfl⟩
 unfold pyNext
 refine U0 (U3t (wpAny_callSpecial?_slot (name:=U25 "__next__") hT Fq (U1w Fq hT Nb ?_ (Nv _))))
 unfold Builtin.«set_iterator.__next__» slotArgs
 simp only[U6l,U5p,U1s,↓reduceIte,U1r,bne_self_eq_false]
 refine U0 (U0c ?_)
 refine U0 (wpAny_fieldsOf hi rfl ?_)
 show wpAny _ _ (setEntries S >>= _) _ _ s
 refine U0 (U54 ho hd hf ?_)
 show wpAny _ _ (if ((es.size:Int) != (es.size:Int))=true then _ else _) _ _ s
 rw[if_neg (by simp)]
 have stop:∀{s1:Shared},U4y it s.heap s1.heap->s1={ s with heap:=s1.heap }->wpAny (model prog w) A.in1 (newExc (.type "StopIteration") [] >>= fun e=>(raiseNew e:Sem Fin)) (fun fin s'=>∃v,fin=.done (.ret v)/\wpAny (model prog w) A (pure (some v)) Q E s')
   (fun e s'=>wpAny (model prog w) A (do if ←isInstance e (.type "StopIteration") then pure none else throw e) Q E s') s1:=fun {s1} eb es1=>by
  refine U0 ?_
  simp only[newExc,newTuple]
  refine U0 (U15 ?_ (by size_fits))
  refine U0 (m:=firstArgMember _ _) (wpAny_of_eq (a:=U2e) (by first|rfl|(simp only[firstArgMember];rfl)) ?_)
  refine U15 ?_ (by size_fits)
  simp only[raiseNew]
  refine U0 (wpAny_handled ?_)
  rw[show A.in1.handled=none from hh]
  refine U0 (U0c (wpAny_throw ?_))
  refine U0 (U4w (T:="StopIteration") (b:=true) ⟨_,U0p _ rfl,rfl⟩ isSubtype_stop ?_)
  rw[if_pos rfl,es1]
  exact U0c (h _ ((eb.push _).push _))
 cases r with
 |text k z1 z2 =>
  show wpAny _ _ (setNext S k.toNat vs.length ep >>= _) _ _ s
  refine U0 (QW ho hd hf z1 ?_)
  have q:=z2 vs.length
  rw[U5u (U0m _)] at q
  cases hp:(pickOrder (w.params.setOrder S ep) es)[vs.length]? with
  |some e=>rw[hp] at q;cases q
  |none =>
   refine U0 (U2w hi rfl (by simp) ?_)
   exact stop (s1:={ s with heap:=s.heap.update it (U3k (·.setIfInBounds 2 U2e)) }) (U1m ..).extBut rfl
 |plain z1 z2 z3 z4 =>
  generalize hsl:(if vs.length=0 then 0 else t.place.getD (vs.length-1) 0+1:Nat)=sl
  show wpAny _ _ (setNext S (Int.toNat (sl:Int)) vs.length ep >>= _) _ _ s
  rw[U2x]
  refine U0 (Pb ho hd hf z1 z2 z3.2 ?_)
  have psz:t.place.size=es.size:=by
   have q:=hf
   simp only[SetTable.fits,U0x,beq_iff_eq] at q
   exact q.1
  have hb:U1h t.place sl=vs.length:=by
   rw[←hsl]
   generalize vs.length=n at hl
   cases n with
   |zero=>rw[if_pos rfl];exact T6 z3.1
   |succ i=>rw[if_neg (by omega)];exact T7 z3.1 (by omega)
  rw[hb,hl,Array.getElem?_eq_none (U0m _)]
  refine U0 (U2w hi rfl (by simp) ?_)
  exact stop (s1:={ s with heap:=s.heap.update it (U3k (·.setIfInBounds 2 U2e)) }) (U1m ..).extBut rfl
 |drawn ps z1 z2 z3 z4 =>
  show wpAny _ _ (seqItems? (.ref T) >>= _) _ _ s
  refine U0 (U2j z2 rfl ?_)
  have q:=z4 vs.length
  rw[U5u (U0m _)] at q
  have hg:((ps.map fun(p:Nat)=>rawInt p).toArray)[vs.length]?=none:=by
   rw[U4r,U03]
   cases hp:ps[vs.length]? with
   |none=>rfl
   |some p =>
    rw[hp] at q
    have hlt:p<es.size:=z3 p (U06 hp)
    have q2:none=(es[p]?).map fun(e:Int×Value)=>e.2:=q
    rw[U1v hlt] at q2
    cases q2
  show wpAny _ _ (match ((ps.map fun(p:Nat)=>rawInt p).toArray)[(vs.length:Int).toNat]? with|some (.int place _)=>_|some _=>_|none=>_) _ _ s
  rw[U2x,hg]
  refine U0 (U2w hi rfl (by simp) ?_)
  have e0:(s.heap.update it (U3k (·.setIfInBounds 0 (rawInt 0)))).get? it=some (Jc (rawInt 0) vs.length S es.size ep):=by
   rw[←Ss (.ref T) (rawInt 0) vs.length S es.size ep];exact U11 _ hi rfl
  refine U0 (U2w e0 rfl (by simp) ?_)
  exact stop (s1:={ s with heap:=(s.heap.update it (U3k (·.setIfInBounds 0 (rawInt 0)))).update it (U3k (·.setIfInBounds 2 U2e)) }) ((U1m ..).trans (U1m ..)).extBut rfl
end
end SetP
end
section
set_option maxRecDepth 100000
namespace SetP
open PySem PyProof.Rows
theorem Nu:Slot "set_iterator" "__iter__" "set_iterator.__iter__" :=
 .of (owner:="set_iterator") (n:="__iter__") (by rw[typeLookup_type,builtinLookup_eq_fast];kernel_rfl) (by decide +kernel) (by decide +kernel) (by decide +kernel)
  (by first|exact .inl (by decide +kernel)|exact .inr (by decide +kernel)) (by rw[isSubtype_type];kernel_rfl)
theorem Rp:entryFor table "set_iterator.__iter__"=some Builtin.«dict_keyiterator.__iter__» :=
 entryFor_alias (id':="dict_keyiterator.__iter__") (by kernel_rfl) rfl (by decide +kernel) (by kernel_rfl)
theorem TF(a:Value):argsOk "set_iterator.__iter__" ⟨[a],[]⟩:=by unfold argsOk;kernel_rfl
theorem Z2:typeLookup (.type "set") "__len__"=pure (some (.builtin "set.__len__")):=F.slot_set_len.lookup
section
variable{prog:Program}{w:World}{A:Around}{E:Value->Shared->Prop}{s:Shared}
theorem gq(hh:A.handled=none)(it S T:Addr)(vs:List Value):Walks prog w A it [it,S,T] [it] vs.length (fun i v=>vs[i]?=some v) (fun i h=>Ly w h it S T vs i) where
 sub:=fun b hb=>by simp at hb;subst hb;simp
 frame:=fun i h h' x k=>x.keep fun b hb o e=>k b hb o e
 item:=fun i s Q E hi x hQ=>by
  have hv:vs[i]?=some vs[i]:=U0y hi
  exact Yx x hv fun h' sb x'=>hQ _ h' s.toks hv x' fun b o hb e=>(sb.2 b (by simpa using hb)).trans e
 done:=fun s Q E x hQ=>aH hh x fun h' eb=>hQ h' s.toks fun b o hb e=>eb b o (by simpa using hb) e
 self:=fun i s Q E x hQ=>by
  obtain⟨_,o,es,ep,t,first,_,_,_,_,hi,_⟩:=x
  have hT:s.TypeIs (.ref it) "set_iterator":=⟨_,hi,rfl⟩
  refine U6h hT Nu (U1w Nu hT Rp ?_ (TF _))
  show wpAny _ _ (ret (.ref it)) _ _ s
  exact U0c ⟨_,rfl,"set_iterator",_,hT,Fq.lookup,hQ⟩
theorem p7{S:Addr}{Q:Bool->Shared->Prop}(hT:s.TypeIs (.ref S) "set")(h:Q false s):wpAny (model prog w) A (U4s (.ref S)) Q E s:=by
 unfold U4s
 refine U0 (U6r hT Z2 ?_)
 have hs:splitId "set.__len__"=some ("set","__len__"):=by decide +kernel
 dsimp only
 rw[hs]
 dsimp only
 refine U0 (U4w hT sub_set_self ?_)
 simp only[U5p,U1s,if_false]
 refine U0 (U49 hT ?_)
 exact U0c h
theorem bA{S:Addr}{ds:List Int}{Q:List Value->Shared->Prop}(hh:A.handled=none)(hS:SetT prog w s.heap S ds)(h64:ds.length<64)
  (h:∀h' d' tk vs ns,(∀b o,s.heap.get? b=some o->h'.get? b=some o)->IntsAre vs ns->ns.Perm ds->Q vs { s with heap:=h',drawn:=d',toks:=tk }):wpAny (model prog w) A (collect (.ref S)) Q E s:=by
 obtain⟨o,ho,hex⟩:∃o,s.heap.get? S=some o/\o.ExactSet:=by
  obtain⟨_,o,es,ep,t,ho,hex,_⟩:=hS
  exact⟨o,ho,hex⟩
 have hlt:=U0k ho
 unfold collect
 refine U0 (wpAny_runValue (codeAny_builtin F.entry_proto_collect ?_))
 rw[U21 F.plain_proto_collect _]
 show wpAny _ A.in1 (newList [] >>= fun l=>again (.builtin "list.__iadd__" ⟨[l,.ref S],[]⟩)) _ _ s
 refine U0 (U15 (U0c ⟨plainId_quiet F.plain_list_iadd _,codeAny_builtin F.entry_list_iadd ?_⟩))
 rw[U21 F.plain_list_iadd _]
 generalize hL:s.heap.objs.size=L
 generalize hg:s.heap.push { cls:=.type "list",dict:=none,data:=.seq ([]:List Value).toArray }=g
 have k1:∀b o,s.heap.get? b=some o->g.get? b=some o:=fun b o e=>hg ▸ U0b _ e
 have hLg:g.get? L=some { cls:=.type "list",data:=.seq ([]:List Value).toArray }:=hg ▸ hL ▸ U0p _ rfl
 have hsz:g.objs.size=L+1:=by rw[←hg,U1y,hL]
 have hLS:L≠S:=by rw[←hL];exact U1o hlt
 have hT:U5q { s with heap:=g } (.ref S) "set":=⟨o,k1 _ _ ho,hex.1⟩
 show wpAny _ A.in1 (U24 (.ref L) (.ref S) (.ref L)) _ _ _
 unfold U24
 refine U0 (U49 hT ?_)
 have h1:U36 (.ref L) (.ref S)=false:=by simp[U36,hLS]
 have h2:(U2p "set"==U2p "list")=false:=by decide
 have h3:(U2p "set"==U2p "tuple")=false:=by decide
 simp only[h1,h2,h3,Bool.or_false,U1s,if_false]
 refine U0 (ou (s:={ s with heap:=g }) (hS.sameBut fun o e=>k1 _ _ e) fun g2 d2 it T vs k2 hit hTT x ⟨ns,hi,hp⟩=>?_)
 have hT2:U5q { s with heap:=g2,drawn:=d2 } (.ref S) "set":=⟨o,k2 _ _ (k1 _ _ ho),hex.1⟩
 refine U0 (U1z (p7 hT2 ?_))
 have hit':L<it:=by
  have hit2:g.objs.size<=it:=hit
  omega
 show wpAny _ A.in1 (rule "list.extend.makes-room" >>= fun _=>Builtin.List.listTouch (.ref L) >>= fun _=>again (.builtin "list.extend.loop" ⟨[.ref L,.ref it,.ref L],[]⟩)) _ _ _
 refine U0 (U4v (U0 ?_))
 have e1:=k2 _ _ hLg
 show wpAny _ A.in1 (updateSeq L (·.push .none) >>= fun _=>updateSeq L (·.pop)) _ _ _
 refine U0 (U4g e1 rfl ?_)
 have e2:=U11 (U1e (·.push U2e)) e1 rfl
 refine U4g e2 rfl ?_
 have e3:=U11 (U1e (·.pop)) e2 rfl
 have oth:∀b o,b≠L->g2.get? b=some o->((g2.update L (U1e (·.push U2e))).update L (U1e (·.pop))).get? b=some o:=fun b o hb e=>(U1a _ _ (U1j hb)).trans ((U1a _ _ (U1j hb)).trans e)
 have hvn:vs.length=ns.length:=IntsAre.length hi
 have hv64:vs.length<64:=by rw[hvn,hp.length_eq];exact h64
 have hz:vs.length<=sizeLine:=by rw[sizeLine_eq];omega
 have nin:L ∉ [it,S,T]:=fun z=>by
  simp only[U0t,U1x,or_false] at z
  rcases z with z|z|z
  .omega
  .exact hLS z
  .rcases hTT with q|q
   .exact hLS (z.trans q)
   .have q':g.objs.size<=T:=q
    omega
 have W:=(gq (prog:=prog) (w:=w) (A:=A.in1) (by simpa using hh) it S T vs).toS
 have x3:Ly w ((g2.update L (U1e (·.push U2e))).update L (U1e (·.pop))) it S T vs 0:=x.keep fun b hb o e=>oth b o (fun z=>nin (z ▸ hb)) e
 refine U0c ⟨plainId_quiet F.plain_extend_loop _,codeAny_extend_loopS W hz L nin _ vs.length 0 _ _ _ (by omega) (U3e _) x3 e3 (ItemsOf.nil _) fun s' acc c hm hS' hacc=>?_⟩
 show wpAny _ A (load L >>= _) _ _ s'
 refine U0 (wpAny_load hS' ?_)
 have eacc:acc.toList=vs:=by
  apply List.ext_getElem?
  intro j
  rw[U2q]
  cases hj:acc[j]? with
  |some v=>exact(hacc.2 j v hj).symm
  |none =>
   have:acc.size<=j:=by simpa using hj
   rw[hacc.1] at this
   exact(U5u this).symm
 obtain⟨h',g',d',tk,os'⟩:=s'
 have q1:g'=s.gens:=hm.gens
 have q2:os'=s.os:=hm.os
 subst q1 q2
 refine U0c ?_
 show Q acc.toList _
 rw[eacc]
 refine h h' d' tk vs ns (fun b o e=>hm.heap b o ?_ (oth b o ?_ (k2 _ _ (k1 _ _ e)))) hi hp
 .have hb:b<L:=by rw[←hL];exact U0k e
  intro z
  rcases U0t.mp z with z|z
  .exact absurd z (U0q hb)
  .exact absurd (U08.mp z) (U0q (U2v hb hit'))
 .exact U0q (by rw[←hL];exact U0k e)
theorem Nt{h:Heap}{a:Addr}{vs:List Value}{n:Nat}{out:Array Value}(ho:h.get? a=some (seqObj "list" vs.toArray n)):∃n',(sortedHeap h a vs out).get? a=some (seqObj "list" out n'):=by
 unfold sortedHeap
 have q1:=get?_update_seq ho (fun _=>#[])
 exact⟨_,get?_update_seq (U0b _ (U0b _ q1)) (fun _=>out)⟩
theorem NQ{h:Heap}{a b:Addr}{vs:List Value}{out:Array Value}{o:Obj}(hb:b≠a)(ho:h.get? b=some o):(sortedHeap h a vs out).get? b=some o:=by
 unfold sortedHeap
 rw[U1a _ _ (U1j hb)]
 exact U0b _ (U0b _ ((U1a _ _ (U1j hb)).trans ho))
theorem cI{S:Addr}{ds:List Int}{Q:Value->Shared->Prop}(hh:A.handled=none)(hS:SetT prog w s.heap S ds)(h64:ds.length<64)
  (h:∀h' d' tk l vs ns n,(∀b o,s.heap.get? b=some o->h'.get? b=some o)->(∀b o,s.heap.get? b=some o->b<l)->h'.get? l=some { cls:=.type "list",data:=.seq vs n }->IntsAre vs.toList ns->ns.Perm ds->ns.Pairwise (·<=·)->Q (.ref l) { s with heap:=h',drawn:=d',toks:=tk }) :
  wpAny (model prog w) A (call (.builtin "sorted") [.ref S]) Q E s:=by
 refine Calls.call_function_entry kind_sorted plain_sorted entry_sorted (args_sorted1 _) ?_
 unfold Builtin.«sorted»
 refine U0 (m:=checkCount "sorted" 1 1 _) (U0c ?_)
 refine U0 (bA (A:=A.in1) (by simpa using hh) hS h64 fun h1 d1 t1 vs ns k1 hi hp=>?_)
 have hv64:vs.length<64:=by rw[show vs.length=ns.length from IntsAre.length hi,hp.length_eq];exact h64
 refine U0 (wpAny_newList ?_)
 have hoL:(h1.push (seqObj "list" vs.toArray 0)).get? h1.objs.size=some (seqObj "list" vs.toArray 0):=U0p _ rfl
 show wpAny _ _ _ _ _ { s with heap:=h1.push (seqObj "list" vs.toArray 0),drawn:=d1,toks:=t1 }
 refine U0 (U1z (U1w slot_list_sort ⟨_,hoL,rfl⟩ entry_list_sort (list_sort_tree hoL hi hv64 fun out ns' a1 a2 a3=>⟨_,rfl,?_⟩) (args_list_sort _)))
 refine U0c ⟨_,rfl,?_⟩
 have old:∀b o,s.heap.get? b=some o->b≠h1.objs.size:=fun b o e=>U0q (U0k (k1 b o e))
 obtain⟨n',e'⟩:=Nt (out:=out) hoL
 refine h _ d1 t1 h1.objs.size out ns' n' (fun b o e=>NQ (old b o e) (U0b _ (k1 b o e))) (fun b o e=>U0k (k1 b o e)) e' a1 (a2.trans hp) a3
end
end SetP
end
section
namespace L2
open PySem PySem.Spec PyProof.Rows
def PTs(X:Cx)(ifs:List Expr)(t:TT):Prop :=
 ∀(pins:List (Addr×Obj))(s:Shared)(σ:St)(H:Hp)(Q:Bool->Hp->Prop),Inv X pins σ H s->t σ H Q ->
  wpAny (model X.prog X.w) X.A (forIn ifs true fun c r=>if r=true then do let ok ←isTrue c X.env (eval c X.env);pure (U5z ok) else pure (U5z r)) (TP X pins σ Q) X.xe s
def Fw:TT:=fun _ H Q=>Q true H
theorem iZ{X:Cx}:PTs X [] Fw:=fun _ _ _ H _ I h=>U0c ⟨H,I,h⟩
theorem iY{X:Cx}{c:Expr}{t:TT}(h:PT X c t):PTs X [c] t:=by
 intro pins s σ H Q I hw
 rw[U3r]
 simp only[if_true]
 refine U0 (U0 (thn (h pins s σ H Q I hw) fun b s1 hb=>U0c ?_))
 show wpAny _ _ (pure b) _ _ _
 exact U0c hb
def Low(k:Nat)(g:TG):Prop:=∀x σ H Q,g x σ H Q->g x σ H fun σ' H'=>Q σ' H'/\σ'.length=σ.length/\∀j,k<=j->σ'[j]?=σ[j]?
def Va(k:Nat)(g:TGs):Prop:=∀x σ H Q,g x σ H Q->g x σ H fun σ' H'=>Q σ' H'/\σ'.length=σ.length/\∀j,k<=j->σ'[j]?=σ[j]?
theorem dU{k i:Nat}(h:i<k):Low k (VF i):=fun x σ H Q q =>
 ⟨q,U3p ..,fun j hj=>U2u (by omega)⟩
theorem jO{k:Nat}:Va k bN:=fun _ _ _ _ ⟨e,q⟩=>⟨e,q,rfl,fun _ _=>rfl⟩
theorem dW{k:Nat}{t:TG}{u:TGs}(ht:Low k t)(hu:Va k u)(mono:∀x σ H Q Q',(∀σ' H',Q σ' H'->Q' σ' H')->t x σ H Q->t x σ H Q')
  (monoU:∀x σ H Q Q',(∀σ' H',Q σ' H'->Q' σ' H')->u x σ H Q->u x σ H Q'):Va k (Yl t u):=fun x σ H Q ⟨v,r,e,q⟩=>by
 refine⟨v,r,e,mono v σ H _ _ (fun σ1 H1 z=>?_) (ht v σ H _ q)⟩
 obtain⟨z1,z2,z3⟩:=z
 exact monoU r σ1 H1 _ _ (fun σ2 H2 y=>⟨y.1,y.2.1.trans z2,fun j hj=>(y.2.2 j hj).trans (z3 j hj)⟩) (hu r σ1 H1 _ z1)
theorem jN{K:U0a}{n k:Nat}{t:TGs}(h:Va k t):Low k (bM K n t):=fun x σ H Q ⟨a,xs,e,hs,hl,q⟩=>⟨a,xs,e,hs,hl,h xs σ H Q q⟩
def compLook(sc:Scope)(N N2:List Str)(k:Nat)(caps:List Nat)(scope:Scope):Bool :=
 decide (scope.kind=.function)&&scope.names.all (fun y=>decide (y.2≠.cell)||decide (scope.names.lookup y.1=some .cell))&&scope.names.all (fun y=>decide (y.2≠.local)||decide (scope.names.lookup y.1=some .local)) &&
 scope.names.all (fun y=>decide (y.2≠.free)||decide (sc.names.lookup y.1=some .cell)||decide (sc.names.lookup y.1=some .free))&&decide N2.Nodup&&decide (N2.length=k+caps.length) &&
 (U12 caps.length).all fun j=>match caps[j]?,N2[k+j]? with
  |some i,some y=>decide (N[i]?=some y)&&decide (scope.names.lookup y=some .free)
  |_,_=>false
structure El(sc:Scope)(N N2:List Str)(k:Nat)(caps:List Nat)(scope:Scope):Prop where
 kind:scope.kind=.function
 one:∀y∈scope.names,y.2=.cell->scope.names.lookup y.1=some .cell
 loc:∀y∈scope.names,y.2=.local->scope.names.lookup y.1=some .local
 free:∀y∈scope.names,y.2=.free->sc.names.lookup y.1=some .cell∨sc.names.lookup y.1=some .free
 nd:N2.Nodup
 len:N2.length=k+caps.length
 cap:∀j i,caps[j]?=some i->∃y,N2[k+j]?=some y/\N[i]?=some y/\scope.names.lookup y=some .free
theorem El.of{sc:Scope}{N N2:List Str}{k:Nat}{caps:List Nat}{scope:Scope}(h:compLook sc N N2 k caps scope=true):El sc N N2 k caps scope:=by
 unfold compLook at h
 simp only[U0x,U14,Bool.or_eq_true,decide_eq_true_eq] at h
 obtain⟨⟨⟨⟨⟨⟨h1,h2⟩,h3⟩,h4⟩,h5⟩,h6⟩,h7⟩:=h
 refine⟨h1,fun y hy e=>?_,fun y hy e=>?_,fun y hy e=>?_,h5,h6,fun j i e=>?_⟩
 .rcases h2 y hy with z|z
  .exact absurd e z
  .exact z
 .rcases h3 y hy with z|z
  .exact absurd e z
  .exact z
 .rcases h4 y hy with (z|z)|z
  .exact absurd e z
  .exact .inl z
  .exact .inr z
 .have hj:j∈U12 caps.length:=U3m.mpr (U0h.mp e).1
  have q:=h7 j hj
  rw[e] at q
  cases hy:N2[k+j]? with
  |none=>rw[hy] at q;exact absurd q (by simp)
  |some y =>
   rw[hy] at q
   simp only[U0x,decide_eq_true_eq] at q
   exact⟨y,rfl,q.1,q.2⟩
theorem QZ{env:Env}:∀{names:List (Str×NameKind)} {x:Str},names.lookup x=some .free ->
  (names.map fun(n,k)=>if (k==U16&&env.scope.kind==.function&&env.kindOf n==some .cell) then (n,U29) else (n,k)).lookup x=some .cell ∨
  (names.map fun(n,k)=>if (k==U16&&env.scope.kind==.function&&env.kindOf n==some .cell) then (n,U29) else (n,k)).lookup x=some .free
 |[],_,h=>by simp at h
 |(n,k)::r,x,h=>by
  have ih:=@QZ env r x
  show U6u x ((if (k==U16&&env.scope.kind==.function&&env.kindOf n==some .cell)=true then (n,U29) else (n,k))::_)=_∨U6u x ((if (k==U16&&env.scope.kind==.function&&env.kindOf n==some .cell)=true then (n,U29) else (n,k))::_)=_
  cases hx:x==n with
  |true =>
   simp only[U1q,hx] at h
   cases h
   by_cases hc:(U16==U16&&env.scope.kind==.function&&env.kindOf n==some .cell)=true
   .rw[if_pos hc];left;simp only[U1q,hx]
   .rw[if_neg hc];right;simp only[U1q,hx]
  |false =>
   simp only[U1q,hx] at h
   by_cases hc:(k==U16&&env.scope.kind==.function&&env.kindOf n==some .cell)=true
   .rw[if_pos hc];simp only[U1q,hx];exact ih h
   .rw[if_neg hc];simp only[U1q,hx];exact ih h
theorem Qa{env:Env}:∀{names:List (Str×NameKind)} {x:Str},
  ((names.map fun(n,k)=>if (k==U16&&env.scope.kind==.function&&env.kindOf n==some .cell) then (n,U29) else (n,k)).lookup x=some .cell ∨
   (names.map fun(n,k)=>if (k==U16&&env.scope.kind==.function&&env.kindOf n==some .cell) then (n,U29) else (n,k)).lookup x=some .free)->names.lookup x=some .free∨names.lookup x=some .cell
 |[],_,h=>by simp at h
 |(n,k)::r,x,h=>by
  have ih:=@Qa env r x
  cases hx:x==n with
  |true =>
   simp only[U1q,hx]
   by_cases hf:k=.free
   .rw[hf];exact .inl rfl
   .have hkf:(k==U16)=false:=by
     cases k<;>first|rfl|exact absurd rfl hf
    simp only[U00,hkf,U6w,U1s,if_false,U1q,hx] at h
    rcases h with z|z
    .exact .inr z
    .exact absurd (U0w z) hf
  |false =>
   simp only[U1q,hx]
   refine ih ?_
   have h':U6u x ((if (k==U16&&env.scope.kind==.function&&env.kindOf n==some .cell)=true then (n,U29) else (n,k))::List.map _ r)=some .cell∨U6u x ((if (k==U16&&env.scope.kind==.function&&env.kindOf n==some .cell)=true then (n,U29) else (n,k))::List.map _ r)=some .free:=h
   by_cases hcc:(k==U16&&env.scope.kind==.function&&env.kindOf n==some .cell)=true
   .rw[if_pos hcc] at h';simp only[U1q,hx] at h';exact h'
   .rw[if_neg hcc] at h';simp only[U1q,hx] at h';exact h'
theorem Hy:∀(names:List (Str×NameKind))(n:Nat)(acc:List (Str×Addr)),cellsFrom n names acc=cellsFrom n names []++acc
 |[],_,_=>rfl
 |(x,k)::r,n,acc=>by
  unfold cellsFrom
  split
  .rw[Hy r (n+1) ((x,n)::acc),Hy r (n+1) [(x,n)],U5i];rfl
  .exact Hy r n acc
theorem Ls:∀(names:List (Str×NameKind))(n:Nat){x:Str}{c:Addr},(x,c)∈cellsFrom n names []->(x,U29)∈names
 |[],_,_,_,h=>by simp[cellsFrom] at h
 |(y,k)::r,n,x,c,h=>by
  unfold cellsFrom at h
  split at h
  .rename_i hk
   rw[Hy] at h
   rcases U1k.mp h with z|z
   .exact U0r _ (Ls r (n+1) z)
   .have z':(x,c)=(y,n):=by simpa using z
    have hk':k=.cell:=by simpa using hk
    cases z'
    rw[hk'];exact U04
  .exact U0r _ (Ls r n h)
theorem Z1{cs ds:List (Str×Addr)}{x:Str}{c:Addr}(h:(cs++ds).lookup x=some c):cs.lookup x=some c∨(cs.lookup x=none/\ds.lookup x=some c):=by
 rw[U4h] at h
 cases e:cs.lookup x with
 |none=>rw[e] at h;exact .inr ⟨rfl,h⟩
 |some d=>rw[e] at h;exact .inl h
theorem XD{M:Model}{A:Around}{E:Value->Shared->Prop}{s:Shared}{scope:Scope}{globals:Addr}{cl:List (Str×Addr)}{qual:Str}{env:Env}{Q:Env->Shared->Prop}
  (hQ:∀h':Heap,h'.Ns s.heap.objs.size (fun _=>none)->(∀b o,s.heap.get? b=some o->h'.get? b=some o)->CellsOk h' (s.heap.objs.size+1) (cellsFrom (s.heap.objs.size+1) scope.names []) ->
   Q { scope,locals:=s.heap.objs.size,globals,cells:=cellsFrom (s.heap.objs.size+1) scope.names []++cl,qual,func:=none,code:=env.code,frame:=env.frame,builtins:=env.builtins } { s with heap:=h' }) :
  wpAny M A (newFunctionEnv scope globals cl [] qual none .none (some env)) Q E s:=by
 simp only[newFunctionEnv,Option.isSome_some,if_true]
 refine U0 (wpAny_alloc ?_)
 refine U0 (wpAny_layCells _ (fun name kind cells=>by cases hkc:kind==U29<;>simp[hkc]) _ _ _ _ ?_)
 rw[show({ s with heap:=s.heap.push { cls:=.type "dict",data:=.dict #[] } }:Shared).heap.objs.size=s.heap.objs.size+1 from U1y ..]
 have ok:=cellsFrom_ok scope.names (s.heap.push { cls:=.type "dict",data:=.dict #[] }) (s.heap.objs.size+1) [] ⟨fun _ _ hm=>(nomatch hm),U6e⟩ (by rw[U1y];exact U0m _)
 rw[U1y] at ok
 rw[Hy]
 refine U0 ?_
 rw[U5d]
 refine U0c (U0c (hQ _ ?_ ?_ ok))
 .exact(Heap.Ns.new s.heap (.type "dict")).keeps (pushCells_keeps _ _)
 .exact fun b o e=>pushCells_keeps _ _ b o (U0b _ e)
theorem T4{scope:Scope}{env:Env}(h:∀y∈scope.names,y.2=.free->∃c,env.cells.lookup y.1=some c) :
  ∃cl,closureFor scope env=pure cl/\(∀x c,cl.lookup x=some c->env.cells.lookup x=some c)/\∀x,scope.names.lookup x=some .free->∃c,cl.lookup x=some c:=by
 have all:∀(names:List (Str×NameKind))(cs:List (Str×Addr)),(∀y∈names,y.2=.free->∃c,env.cells.lookup y.1=some c)->(∀x c,cs.lookup x=some c->env.cells.lookup x=some c) ->
   ∃cl,(forIn names cs (fun(x:Str×NameKind) (cs:List (Str×Addr))=>(match x with
     |(name,kind)=>if (kind==U16)=true then (cellOf env name >>= fun a=>pure (U5z ((name,a)::cs))) else pure (U5z cs):Sem (ForInStep (List (Str×Addr)))) ):Sem (List (Str×Addr)))=pure cl /\
    (∀x c,cl.lookup x=some c->env.cells.lookup x=some c)/\(∀x c,cs.lookup x=some c->∃c',cl.lookup x=some c')/\∀x,names.lookup x=some .free->∃c,cl.lookup x=some c:=by
  intro names
  induction names with
  |nil=>intro cs _ hc;exact⟨cs,rfl,hc,fun x c e=>⟨c,e⟩,fun x e=>by simp at e⟩
  |cons y r ih =>
   intro cs hy hc
   obtain⟨n,kd⟩:=y
   by_cases hk:kd=.free
   .subst hk
    obtain⟨c,hcn⟩:=hy (n,.free) U04 rfl
    have hc':∀x c',((n,c)::cs).lookup x=some c'->env.cells.lookup x=some c':=fun x c' e=>by
     rw[U1q] at e
     cases hx:x==n with
     |true =>
      rw[hx] at e
      have hxn:x=n:=by simpa using hx
      rw[hxn,hcn];exact e
     |false=>rw[hx] at e;exact hc x c' e
    obtain⟨cl,e1,e2,e3,e4⟩:=ih ((n,c)::cs) (fun z hz=>hy z (U0r _ hz)) hc'
    refine⟨cl,?_,e2,fun x c' e=>?_,fun x e=>?_⟩
    .rw[U3r]
     have hb:(U16==U16)=true:=rfl
     simp only[hb,if_true,cellOf,hcn,pure_bind]
     exact e1
    .by_cases hx:(x==n)=true
     .exact e3 x c (by rw[U1q,hx])
     .have hx':(x==n)=false:=by simpa using hx
      exact e3 x c' (by rw[U1q,hx'];exact e)
    .rw[U1q] at e
     cases hx:x==n with
     |true=>exact e3 x c (by rw[U1q,hx])
     |false=>rw[hx] at e;exact e4 x e
   .have hb:(kd==U16)=false:=by
     cases kd<;>first|rfl|exact absurd rfl hk
    obtain⟨cl,e1,e2,e3,e4⟩:=ih cs (fun z hz=>hy z (U0r _ hz)) hc
    refine⟨cl,?_,e2,e3,fun x e=>?_⟩
    .rw[U3r]
     simp only[hb,U1s,if_false,pure_bind]
     exact e1
    .rw[U1q] at e
     cases hx:x==n with
     |true=>rw[hx] at e;exact absurd (U0w e) hk
     |false=>rw[hx] at e;exact e4 x e
 obtain⟨cl,e1,e2,_,e4⟩:=all scope.names [] h (fun x c e=>by simp at e)
 refine⟨cl,?_,e2,e4⟩
 unfold closureFor
 rw[←bind_pure (pure cl:Sem _),←e1]
abbrev Dz(X:Cx)(N2:List Str)(scope:Scope)(cl:List (Str×Addr))(C:Addr)(s:Shared)(H:Hp)(ex:List Addr):Cx :=
 { X with N:=N2,s₀:=s,H₀:=H,env:=compEnvC scope cl C X.env,outer:=X.stack,ex:=ex,fn:=fun x=>decide (scope.names.lookup x=some .cell),pn:=[],xe:=fun _ _=>False }
def JV(k:Nat)(caps:List Nat)(σ:St):St:=U0s k none++caps.map fun j=>(σ[j]?).join
def rR(J:It)(k:Nat)(caps:List Nat)(σ:St)(g:TG)(tt:TT)(te:TE)(Q:VK)(H1:Hp):Prop:=∃W:Nat->Nat->List V->Hp->Prop,(∃m,W 0 m [] H1)/\∀i m ys H,W i m ys H ->
 (J.stop i H/\∀p,H p=none->Q (.ref p) (upd H p (.lst ys))) ∨
 (J.go i H/\ys.length<sizeLine/\∀x H',J.yld i H x H'->g x (JV k caps σ) H' fun σ2 H2=>tt σ2 H2 fun b H3 =>
  if b=true then te σ2 H3 fun v H4=>∃m',m'<m/\W (i+1) m' (ys++[v]) H4 else ∃m',m'<m/\W (i+1) m' ys H3)
def Yc(k:Nat)(caps:List Nat)(wi:TI)(g:TG)(tt:TT)(te:TE):TE:=fun σ H Q=>wi σ H fun J H1=>rR J k caps σ g tt te Q H1
theorem YD{k:Nat}{caps:List Nat}{σ:St}{i:Nat}{v:V}(h:(JV k caps σ)[i]?=some (some v)):∃j a,i=k+j/\caps[j]?=some a/\σ[a]?=some (some v):=by
 unfold JV at h
 by_cases hi:i<k
 .rw[U09 (by simpa using hi),U38,if_pos hi] at h
  cases h
 .rw[U1t (by simpa using hi),U1u,U03] at h
  cases e:caps[i-k]? with
  |none=>rw[e] at h;cases h
  |some a =>
   rw[e] at h
   have h':(σ[a]?).join=some v:=U0w h
   refine⟨i-k,a,by omega,e,?_⟩
   cases e2:σ[a]? with
   |none=>rw[e2] at h';cases h'
   |some o =>
    rw[e2] at h'
    cases o with
    |none=>cases h'
    |some v' =>
     have h'':some v'=some v:=h'
     rw[h'']
theorem Ks{a b n:Nat}(h1:a<n)(h2:n<=b):a≠b:=by omega
section
variable{X:Cx}{pins:List (Addr×Obj)}{σ:St}
theorem Inv.but{H:Hp}{s:Shared}{C:Addr}{h':Heap}(I:Inv X pins σ H s)(hb:U0z C s.heap h')(hn:H C=none)(hL:C≠X.env.locals)(h1:X.s₀.heap.objs.size<=C)(h2:∀x c,X.env.cells.lookup x=some c->c≠C)(h3:∀p∈X.pn++pins,p.1≠C) :
  Inv X pins σ H { s with heap:=h' }:=I.turned (t':=s.toks) (fun b o hne e=>(hb.2 b hne).trans e) hn hL (.inr h1) h2 h3
theorem T3{s2:Shared}{H2:Hp}{elt tg iter:Expr}{ifs:List Expr}{scope:Scope}{pos:Pos}{N2:List Str}{k:Nat}{caps:List Nat}{cl:List (Str×Addr)}{g:TG}{tt:TT}{te:TE}{E:Value->Shared->Prop}
  {it:Addr} {fp:List Addr} {tn:Nat->Heap->Prop} {J:It} {RR:Value->Addr->Result->Shared->Prop} {Qe:List V->Hp->Prop} {W:Nat->Nat->List V->Hp->Prop} {m0:Nat}
  (hc:X.calm=true) (hS:El X.env.scope X.N N2 k caps scope) (hlow:Low k g)
  (hcl:∀x c,cl.lookup x=some c->X.env.cells.lookup x=some c) (hcf:∀x,scope.names.lookup x=some .free->∃c,cl.lookup x=some c)
  (hb:∀(cl:List (Str×Addr))(C:Addr)(s:Shared)(H:Hp)(ex:List Addr),PG (Dz X N2 scope cl C s H ex) tg g/\PTs (Dz X N2 scope cl C s H ex) ifs tt/\PE (Dz X N2 scope cl C s H ex) elt te)
  (I2:Inv X pins σ H2 s2) (T:Turn X.prog X.w X.K tg J fp it tn) (st2:tn 0 s2.heap) (f2:∀b∈fp,Nz X pins H2 b) (w0:W 0 m0 [] H2)
  (turn:∀i m ys H,W i m ys H->(J.stop i H/\Qe ys H) ∨
   (J.go i H/\ys.length<sizeLine/\∀x H',J.yld i H x H'->g x (JV k caps σ) H' fun σ2 H2=>tt σ2 H2 fun b H3 =>
    if b=true then te σ2 H3 fun v H4=>∃m',m'<m/\W (i+1) m' (ys++[v]) H4 else ∃m',m'<m/\W (i+1) m' ys H3))
  (hRR:∀D C s' H' ys,s2.heap.objs.size<=D->s2.heap.objs.size<=C->C≠D->H' D=none->H' C=none->Inv X pins σ (upd H' D (.lst ys)) s'->(∃m,s'.heap.Ns C m)->Qe ys H'->RR (.ref D) C (.ok .next) s') :
  wpAny (model X.prog X.w) X.A (newList []) (fun acc s₃=>wpAny (model X.prog X.w) X.A (newFunctionEnv scope X.env.globals cl [] X.env.qual none .none (some X.env)) (fun cenv s₄ =>
   codeAny (model X.prog X.w) X.A (.compStart (.ListComp elt [⟨tg,iter,ifs,0⟩] scope pos) 0 (.ref it) acc { cenv with scope:=relabel scope X.env }) (RR acc cenv.locals) s₄) E s₃) E s2:=by
 refine U15 (XD fun h₁ hns₁ kp cok=>?_)
 dsimp only at hns₁ kp cok ⊢
 generalize hH3:s2.heap.push { cls:=.type "list",dict:=none,data:=.seq ([]:List Value).toArray }=H3 at hns₁ kp cok ⊢
 have hC:H3.objs.size=s2.heap.objs.size+1:=by rw[←hH3,U1y]
 generalize hDD:s2.heap.objs.size=D at hC
 generalize hCC:H3.objs.size=C at hns₁ cok hC ⊢
 have hDC:D≠C:=by omega
 have szD:s2.heap.objs.size<=D:=U66 hDD
 have szC:s2.heap.objs.size<=C:=by rw[hDD,hC];exact U4k _
 have below:∀b o,s2.heap.get? b=some o->b≠C/\b≠D:=fun b o e=>⟨Ks (U0k e) szC,Ks (U0k e) szD⟩
 have old:∀b o,s2.heap.get? b=some o->h₁.get? b=some o:=fun b o e=>kp b o (hH3 ▸ U0b _ e)
 have hacc:h₁.get? D=some { cls:=.type "list",data:=.seq ([]:List Value).toArray 0 }:=kp _ _ (hH3 ▸ hDD ▸ U0p _ rfl)
 have f2h:∀b∈fp,∃o,s2.heap.get? b=some o:=fun b hbf=>let ⟨o,e,_⟩:=T.obj 0 _ st2 b hbf;⟨o,e⟩
 -- the block's context
 have okc:∀x c,X.env.cells.lookup x=some c->∃o,s2.heap.get? c=some o:=fun x c e=>let ⟨_,o,ho,_⟩:=I2.cell x c e;⟨o,ho⟩
 have oMem:∀x c,(cellsFrom (C+1) scope.names []).lookup x=some c->C+1<=c/\h₁.IsCell c none/\scope.names.lookup x=some .cell:=fun x c e=>by
  have m:=U2o e
  exact⟨(cok.empty x c m).2,(cok.empty x c m).1,hS.one _ (Ls _ _ m) rfl⟩
 have oHas:∀x,scope.names.lookup x=some .cell->∃c,(cellsFrom (C+1) scope.names []).lookup x=some c:=fun x e=>U46.mp (U5l scope.names (C+1) [] (.inl e))
 have oApart:=cok.apart
 generalize cellsFrom (C+1) scope.names []=own at oMem oHas oApart ⊢
 have hcs:∀x c,(own++cl).lookup x=some c->(C+1<=c/\h₁.IsCell c none/\own.lookup x=some c)∨X.env.cells.lookup x=some c:=fun x c e=>by
  rcases Z1 e with z|z
  .exact .inl ⟨(oMem x c z).1,(oMem x c z).2.1,z⟩
  .exact .inr (hcl x c z.2)
 have hlt:∀x c,X.env.cells.lookup x=some c->c<s2.heap.objs.size:=fun x c e=>let ⟨o,ho⟩:=okc x c e;U0k ho
 have OK:(Dz X N2 scope (own++cl) C s2 H2 fp).Ok:=by
  refine⟨I2.ok.mod,hS.kind,I2.ok.glob,I2.ok.blt,?_,fun x y c h1 h2=>?_,fun x hx=>?_,fun x c hf h1=>?_,I2.ok.hd,I2.ok.frames,.inl rfl,fun b hbf=>?_,I2.bs,
   U02 I2.ok.bsz I2.sz,fun b o e hbf=>?_,fun b hbf hb'=>?_,I2.stack,I2.Xk,I2.TJ⟩
  .exact szC
  .rcases hcs x c h1 with z|z
   .rcases hcs y c h2 with z'|z'
    .exact name_of_addr oApart (U2o z.2.2) (U2o z'.2.2)
    .exact absurd (hlt y c z') (Nat.not_lt.mpr (U02 szC (U02 (U4k _) z.1)))
   .rcases hcs y c h2 with z'|z'
    .exact absurd (hlt x c z) (Nat.not_lt.mpr (U02 szC (U02 (U4k _) z'.1)))
    .exact I2.ok.inj x y c z z'
  .rcases Qa (env:=X.env) hx with z|z
   .obtain⟨c,e⟩:=hcf x z
    show ∃c,(own++cl).lookup x=some c
    rw[U4h]
    cases q:own.lookup x with
    |none=>exact⟨c,e⟩
    |some d=>exact⟨d,rfl⟩
   .obtain⟨c,e⟩:=oHas x z
    exact⟨c,by show(own++cl).lookup x=some c;rw[U4h,e];rfl⟩
  .obtain⟨d,e⟩:=oHas x (of_decide_eq_true hf)
   have h1':(own++cl).lookup x=some c:=h1
   rw[U4h,e] at h1'
   have e2:d=c:=U0w h1'
   rw[←e2]
   exact U02 szC (U02 (U4k _) (oMem x d e).1)
  .obtain⟨o,e⟩:=f2h b hbf
   refine⟨(below b o e).1,fun x c h1=>?_⟩
   rcases hcs x c h1 with z|z
   .exact fun w=>absurd (U0k e) (by rw[←w];exact Nat.not_lt.mpr (U02 szC (U02 (U4k _) z.1)))
   .exact(f2 b hbf).2.2.2.2.1 x c z
  .rcases(f2 b hbf).2.2.2.1 with z|z
   .exact I2.ok.noex b o e z
   .exact absurd (U0n (U0k (I2.ok.bs b o e).1) z) (U28 _)
  .rcases U0t.mp (I2.Py b hb') with z|z
   .exact(f2 b hbf).2.1 z
   .exact(f2 b hbf).2.2.1 z
 have fresh:∀a,s2.heap.objs.size<=a->H2 a=none:=fun a ha=>I2.hok.fresh ha
 have I4:∀tk,Inv (Dz X N2 scope (own++cl) C s2 H2 fp) [(D,{ cls:=.type "list",data:=.seq ([]:List Value).toArray 0 })] (JV k caps σ) H2 { s2 with heap:=h₁,toks:=tk }:=fun tk=>by
  refine⟨OK,rfl,I2.bare,Un.kept old,⟨_,hns₁,fun i x v e1 e2 e3=>?_⟩,fun x c e=>?_,fresh C szC,fun x c e=>?_,fun p hp=>?_,I2.hok.kept old,?_⟩
  .obtain⟨j,a,rfl,ha,hv⟩:=YD e2
   obtain⟨y,y1,y2,y3⟩:=hS.cap j a ha
   have e1':N2[k+j]?=some x:=e1
   rw[y1] at e1';cases e1'
   have hk:X.env.scope.names.lookup x=some .cell∨X.env.scope.names.lookup x=some .free:=hS.free (x,.free) (U2o y3) rfl
   obtain⟨m',_,hl⟩:=id I2.loc
   obtain⟨u,ru,lk⟩:=hl a x v y2 hv (hk.elim (fun z=>.inr (.inl z)) fun z=>.inr (.inr z))
   refine⟨u,ru,.inr ⟨QZ y3,?_⟩⟩
   rcases lk with ⟨kk,_⟩|⟨_,c,e,z⟩
   .have kk':X.env.scope.names.lookup x=some .local:=kk
    rw[kk'] at hk
    rcases hk with z|z<;>cases z
   .obtain⟨c',e'⟩:=hcf x y3
    have e'':=hcl x c' e'
    rw[e] at e'';cases e''
    obtain⟨o,ho,hd⟩:=z
    refine⟨c,?_,o,old c o ho,hd⟩
    show(own++cl).lookup x=some c
    rw[U4h]
    cases q:own.lookup x with
    |none=>exact e'
    |some d=>have:=(oMem x d q).2.2;rw[y3] at this;cases this
  .rcases hcs x c e with z|z
   .exact⟨none,z.2.1⟩
   .obtain⟨v,o,ho,hd⟩:=I2.cell x c z
    exact⟨v,o,old c o ho,hd⟩
  .rcases hcs x c e with z|z
   .exact fresh c (U02 szC (U02 (U4k _) z.1))
   .exact I2.freeC x c z
  .have hp':p∈[(D,({ cls:=.type "list",data:=.seq ([]:List Value).toArray 0 }:Obj))]:=hp
   have e:p=(D,({ cls:=.type "list",data:=.seq ([]:List Value).toArray 0 }:Obj)):=by simpa using hp'
   subst e
   exact⟨hacc,fresh D szD,hDC,fun z=>by
    rcases U0t.mp (I2.Py D z) with z|z
    .exact Ks I2.lt szD z.symm
    .exact I2.bJ szD z,fun v z=>by cases z⟩
  .show(JV k caps σ).length=N2.length
   unfold JV
   rw[U0o,U1u,U0g,hS.len]
 -- the loop
 obtain⟨hg,ht,he⟩:=hb (own++cl) C s2 H2 fp
 have loop:∀s₃:Shared,Inv (Dz X N2 scope (own++cl) C s2 H2 fp) [(D,{ cls:=.type "list",data:=.seq ([]:List Value).toArray 0 })] (JV k caps σ) H2 s₃->tn 0 s₃.heap ->
   codeAny (model X.prog X.w) X.A (.compLoop (.ListComp elt [⟨tg,iter,ifs,0⟩] scope pos) 0 (.ref it) (.ref D) (compEnvC scope (own++cl) C X.env)) (RR (.ref D) C) s₃:=by
  intro s₃ I₃ st₃
  refine codeAny_loop rfl (fun n s'=>∃i ys its nn H',Inv (Dz X N2 scope (own++cl) C s2 H2 fp) [(D,{ cls:=.type "list",data:=.seq (its:List Value).toArray nn })] (JV k caps σ) H' s'/\Vals ys its/\tn i s'.heap/\(∀b∈fp,H' b=none)/\ys.length<=sizeLine/\W i n ys H') ?_ m0
   ⟨0,[],[],0,H2,I₃,.nil,st₃,fun b hbf=>(f2 b hbf).1,U3e _,w0⟩
  rintro n s5 ⟨i,ys,its,nn,H5,I5,rv,st5,fr5,hz,w5⟩
  show wpAny _ X.A ((compTurn (.ListComp elt [⟨tg,iter,ifs,0⟩] scope pos) 0 (.ref it) (.ref D) (compEnvC scope (own++cl) C X.env)).onRaise (fun x=>do noteFrame x (compEnvC scope (own++cl) C X.env);theTreesLotGoes x)) _ _ s5
  refine wpAny_noted ?_
  rw[compTurn_list]
  refine U0 (wpAny_standAt (U0 ?_))
  have fpok:∀{H':Hp} {o:Obj},(∀b∈fp,H' b=none)->∀b∈fp,Nz (Dz X N2 scope (own++cl) C s2 H2 fp) [(D,o)] H' b:=fun {H' o} hn b hbf=>by
   obtain⟨ob,e⟩:=f2h b hbf
   refine⟨hn b hbf,(below b ob e).1,OK.exfs b hbf,.inl hbf,(OK.exf b hbf).2,fun p hp z=>?_⟩
   have hp':p∈[(D,o)]:=hp
   have e':p=(D,o):=by simpa using hp'
   subst e'
   exact(below b ob e).2 z.symm
  rcases turn i n ys H5 w5 with ⟨stop,qn⟩|⟨go,hz2,step⟩
  .refine thn (T.done (Dz X N2 scope (own++cl) C s2 H2 fp) rfl rfl rfl hc i _ s5 _ H5 _ I5 (fpok fr5) st5 stop) fun r s6 ⟨hr,I6⟩=>?_
   subst hr
   refine U0c ?_
   obtain⟨pe,pn,pne,pnf,_⟩:=I6.pin (D,{ cls:=.type "list",data:=.seq its.toArray nn }) (U1g _ (U08.mpr rfl))
   have hD:H5 D=none:=pn
   have hCn:H5 C=none:=I6.free
   refine hRR D C s6 H5 ys szD szC (U1j hDC) hD hCn ?_ ?_ qn
   .have un:Un (frs X.stack) fp H2 (upd H5 D (.lst ys)) s2.heap s6.heap:=by
     have u:=I6.base
     refine⟨u.keep,u.slot,fun b o e n1 n2=>?_,u.there,fun b xs e=>?_,fun b o u' e=>?_,fun b ps e=>?_,fun n=>by rw[Bj (U0q (U0n I2.YW szD))];exact u.sy n⟩
     .rw[Bj (below b o e).2];exact u.free b o e n1 n2
     .rw[Bj (Dv (u.tups b xs e) hD)];exact u.tups b xs e
     .rw[Bj (Dv (u.frzs b o u' e) hD)];exact u.frzs b o u' e
     .obtain⟨more,q⟩:=u.tbls b ps e
      exact⟨more,by rw[Bj (Dv q hD)];exact q⟩
    refine I2.call' I6.os un (fun b u e=>?_) I6.bare (fun b hbf=>⟨(f2 b hbf).2.2.2.1,(f2 b hbf).2.1,(f2 b hbf).2.2.2.2.1,(f2 b hbf).2.2.2.2.2⟩)
    by_cases hbd:b=D
    .subst hbd
     rw[CZ] at e;cases e
     exact⟨hz,its,nn,rv,pe⟩
    .rw[Bj hbd] at e
     exact(I6.hok b u e).stay (fun _ _ _ q=>q) (fun c q=>by rw[Bj (Dv q hD)];exact q) fun c xs q=>by rw[Bj (Dv q hD)];exact q
   .obtain⟨m,hn,_⟩:=I6.loc
    exact⟨m,hn⟩
  .refine thn (T.item (Dz X N2 scope (own++cl) C s2 H2 fp) rfl rfl rfl hc i _ s5 _ H5 _ I5 (fpok fr5) st5 go) fun r s6 ⟨u,hr,h6⟩=>?_
   subst hr
   refine U0 (thn h6 fun _ s7 ⟨x,H7,I7,r7,y7,st7,fr7⟩=>?_)
   have I7':=I7.pinned (fpok fr7) (T.obj _ _ st7)
   refine U0 (U4t (hg _ s7 _ H7 x u _ I7' r7 (hlow _ _ _ _ (step x H7 y7))) (fun _ s8 ⟨σ8,H8,I8,q8,ql,qk⟩=>?_) fun _ _ z=>z.elim)
   have wk:∀{pl:List (Addr×Obj)} {H9:Hp} {s9:Shared},Inv (Dz X N2 scope (own++cl) C s2 H2 fp) pl σ8 H9 s9->Inv (Dz X N2 scope (own++cl) C s2 H2 fp) pl (JV k caps σ) H9 s9:=fun {pl H9 s9} I9 =>
    I9.weak ql.symm fun i v e=>by
     obtain⟨j,a,rfl,_,_⟩:=YD e
     rw[qk (k+j) (U1f _ _)];exact e
   have pinD:∀{pl:List (Addr×Obj)} {σ9:St} {H9:Hp} {s9:Shared},Inv (Dz X N2 scope (own++cl) C s2 H2 fp) (((D,({ cls:=.type "list",data:=.seq its.toArray nn }:Obj))::[])++pl) σ9 H9 s9->s9.heap.get? D=some { cls:=.type "list",data:=.seq its.toArray nn }/\H9 D=none:=fun {pl σ9 H9 s9} I9=>by
    obtain⟨e1,e2,_⟩:=I9.pin (D,_) (U1g _ (U3v _ (U08.mpr rfl)))
    exact⟨e1,e2⟩
   have stn:∀{pl:List (Addr×Obj)} {σ9:St} {H9:Hp} {s9:Shared},Inv (Dz X N2 scope (own++cl) C s2 H2 fp) (pl++LQ fp s7.heap) σ9 H9 s9->tn (i+1) s9.heap/\∀b∈fp,H9 b=none:=fun {pl σ9 H9 s9} I9=>by
    refine⟨T.keep _ _ _ st7 fun b hbf o e=>(I9.pin (b,o) (U1g _ (U1g _ (M4 hbf e)))).1,fun b hbf=>?_⟩
    obtain⟨o,e,d⟩:=T.obj _ _ st7 b hbf
    exact(I9.pin (b,o) (U1g _ (U1g _ (M4 hbf e)))).2.1
   refine U0 (U4t (ht _ s8 σ8 H8 _ I8 q8) (fun ok s9 ⟨H9,I9,q9⟩=>?_) fun _ _ z=>z.elim)
   cases ok with
   |false =>
    obtain⟨m',hm,w9⟩:=(by simpa using q9:∃m',m'<n/\W (i+1) m' ys H9)
    refine U0c ⟨rfl,m',hm,i+1,ys,its,nn,H9,wk I9.Ol,rv,(stn I9).1,(stn I9).2,hz,w9⟩
   |true =>
    have q9':te σ8 H9 fun v H4=>∃m',m'<n/\W (i+1) m' (ys++[v]) H4:=by simpa using q9
    refine U0 (U0 (U4t (he _ s9 σ8 H9 _ I9 q9') (fun y s10 ⟨v,H10,I10,r10,q10⟩=>U0 ?_) fun _ _ z=>z.elim))
    obtain⟨m',hm,w10⟩:=q10
    obtain⟨eD,nD⟩:=pinD I10
    have hl:=rv.length
    refine call_meets F.slot_list_append ⟨_,eD,rfl⟩ F.entry_list_append (F.args_list_append_2 _ _) (PySem.list_append D its.toArray nn y (by rw[U0j];omega)) ⟨eD,?_⟩
    refine U0c (U0c ⟨rfl,m',hm,?_⟩)
    obtain⟨n2,qD⟩:∃n2,(s10.heap.update D (U1e fun z=>z.push y)).get? D=some { cls:=.type "list",data:=.seq (its++[y]).toArray n2 }:=by
     have q0:=PySem.IsL.update eD (fun z=>z.push y)
     have hf:its.toArray.push y=(its++[y]).toArray:=by simp
     rw[hf] at q0
     exact⟨_,q0⟩
    have J0:Inv (Dz X N2 scope (own++cl) C s2 H2 fp) (LQ fp s7.heap) (JV k caps σ) H10 s10:=wk (I10.Ql fun p hp=>I10.pin p (U1g _ (U1g _ hp)))
    have J1:Inv (Dz X N2 scope (own++cl) C s2 H2 fp) (LQ fp s7.heap) (JV k caps σ) H10 { s10 with heap:=s10.heap.update D (U1e fun z=>z.push y),toks:=s10.toks }:=by
     refine J0.turned (fun b o hne e=>(U1a s10.heap _ (U1j hne)).trans e) nD hDC (.inr szD) (fun x c e z=>?_) fun p hp z=>?_
     .rcases hcs x c e with y|y
      .have:=y.1
       rw[z] at this
       omega
      .obtain⟨o,ho⟩:=okc x c y
       exact(below c o ho).2 z
     .have hp':p∈LQ fp s7.heap:=hp
      obtain⟨ob,e⟩:=f2h p.1 (Ui hp').1
      exact(below p.1 ob e).2 z
    have J2:Inv (Dz X N2 scope (own++cl) C s2 H2 fp) [(D,{ cls:=.type "list",data:=.seq (its++[y]).toArray n2 })] (JV k caps σ) H10 { s10 with heap:=s10.heap.update D (U1e fun z=>z.push y),toks:=s10.toks }:=by
     refine J1.Ql fun p hp=>?_
     have e:p=(D,{ cls:=.type "list",data:=.seq (its++[y]).toArray n2 }):=U08.mp hp
     subst e
     exact⟨qD,nD,hDC,fun z=>by
      rcases U0t.mp (I2.Py D z) with z|z
      .exact Ks I2.lt szD z.symm
      .exact I2.bJ szD z,fun v z=>by cases z⟩
    refine⟨i+1,ys++[v],its++[y],_,H10,J2,rv.append (.cons r10 .nil),?_,(stn I10).2,?_,w10⟩
    .refine T.keep _ _ _ (stn I10).1 fun b hbf o e=>?_
     obtain⟨ob,e'⟩:=f2h b hbf
     exact(U1a s10.heap _ (U1j (below b ob e').2)).trans e
    .rw[U0o,U3c];omega
 have st1:tn 0 h₁:=T.keep _ _ _ st2 fun b hbf o e=>old b o e
 exact codeAny_compStart_list (loop _ (I4 _) st1) (T.self X.A 0 _ _ _ st1 (loop _ (I4 _) st1))
theorem jB{elt tg iter:Expr}{ifs:List Expr}{scope:Scope}{pos:Pos}{N2:List Str}{k:Nat}{caps:List Nat}{wi:TI}{g:TG}{tt:TT}{te:TE}
  (hc:X.calm=true) (hS:El X.env.scope X.N N2 k caps scope) (hlow:Low k g) (hi:PI X tg iter wi)
  (hb:∀(cl:List (Str×Addr))(C:Addr)(s:Shared)(H:Hp)(ex:List Addr),PG (Dz X N2 scope cl C s H ex) tg g/\PTs (Dz X N2 scope cl C s H ex) ifs tt/\PE (Dz X N2 scope cl C s H ex) elt te)
  (hs:∀x,foldedSetIterable iter X.env x=pure x:=by intro _;rfl):PE X (.ListComp elt [⟨tg,iter,ifs,0⟩] scope pos) (Yc k caps wi g tt te):=by
 intro pins s σ H Q I h
 rw[eval_ListComp]
 obtain⟨cl,hcl0,hcl,hcf⟩:=T4 (scope:=scope) (env:=X.env) fun y hy e=>I.ok.has y.1 (hS.free y hy e)
 refine wpAny_comprehension_free (use:=none) rfl hs hcl0 hS.kind hS.loc ?_
 refine thn (hi pins s σ H _ I h) fun v s1 h1=>thn h1 fun itv s2 h2=>?_
 obtain⟨it,fp,tn,J,H2,e,I2,T,st2,f2,W,⟨m0,w0⟩,turn⟩:=h2
 subst e
 refine T3 (RR:=fun acc C=>compPost (model X.prog X.w) X.A X.xe none (EP X pins σ Q) acc C) (Qe:=fun ys H=>∀p,H p=none->Q (.ref p) (upd H p (.lst ys))) hc hS hlow hcl hcf hb I2 T st2 f2 w0 turn ?_
 intro D C s' H' ys hD hC hDC nD nC I' hn q
 obtain⟨m,hn⟩:=hn
 refine⟨m,hn,fun h' hsb=>⟨.ref D,_,?_,rfl,q D nD⟩⟩
 refine I'.but hsb (by rw[Bj hDC];exact nC) (fun z=>?_) (U02 I2.sz hC) (fun x c e z=>?_) fun p hp z=>?_
 .exact Ks I2.lt hC z.symm
 .obtain⟨v,o,ho,_⟩:=I2.cell x c e
  exact Ks (U0k ho) hC z
 .exact Ks (U0k (I2.pin p hp).1) hC z
def qO(i:Nat)(t:TE):TS:=fun D σ H=>t σ H fun v H1=>D.nx (σ.set i (some v)) H1
theorem iz{elt tg iter:Expr}{ifs:List Expr}{scope:Scope}{pos py spos:Pos}{N2:List Str}{k i:Nat}{y:Str}{caps:List Nat}{wi:TI}{g:TG}{tt:TT}{te:TE}
  (hc:X.calm=true) (hN:X.N.Nodup) (hi':X.N[i]?=some y) (hS:El X.env.scope X.N N2 k caps scope) (hlow:Low k g) (hi:PI X tg iter wi)
  (hb:∀(cl:List (Str×Addr))(C:Addr)(s:Shared)(H:Hp)(ex:List Addr),PG (Dz X N2 scope cl C s H ex) tg g/\PTs (Dz X N2 scope cl C s H ex) ifs tt/\PE (Dz X N2 scope cl C s H ex) elt te)
  (hx:X.env.scope.names.lookup y=some .local:=by rfl) (hsw:swapsWith (.ListComp elt [⟨tg,iter,ifs,0⟩] scope pos) (some (.Name y py)) spos.line X.env=pure true:=by rfl)
  (hs:∀x,foldedSetIterable iter X.env x=pure x:=by intro _;rfl):PS X (.Assign [.Name y py] (.ListComp elt [⟨tg,iter,ifs,0⟩] scope pos) spos) (qO i (Yc k caps wi g tt te)):=by
 intro pins s σ H D0 I h
 obtain⟨cl,hcl0,hcl,hcf⟩:=T4 (scope:=scope) (env:=X.env) fun y hy e=>I.ok.has y.1 (hS.free y hy e)
 rw[exec_Assign_Name_used _ _ _ _ hsw]
 refine U0 (wpAny_standAt (U0 ?_))
 show wpAny _ X.A (do let _ ←comprehension (.ListComp elt [⟨tg,iter,ifs,0⟩] scope pos) scope X.env _ (newList []) false (eval iter X.env) (some (assign (.Name y py) X.env))) _ _ s
 refine U0 (U4t (wpAny_comprehension_free (use:=some (assign (.Name y py) X.env)) (Q:=fun _ s'=>SP X pins D0 .next s') rfl hs hcl0 hS.kind hS.loc ?_) (fun _ s' hq=>U0c (U0c hq)) fun _ _ e=>e)
 refine thn (hi pins s σ H _ I h) fun v s1 h1=>thn h1 fun itv s2 h2=>?_
 obtain⟨it,fp,tn,J,H2,e,I2,T,st2,f2,W,⟨m0,w0⟩,turn⟩:=h2
 subst e
 refine T3 (RR:=fun acc C=>compPost (model X.prog X.w) X.A X.xe (some (assign (.Name y py) X.env)) (fun _ s'=>SP X pins D0 .next s') acc C)
  (Qe:=fun ys H=>∀p,H p=none->D0.nx (σ.set i (some (.ref p))) (upd H p (.lst ys))) hc hS hlow hcl hcf hb I2 T st2 f2 w0 turn ?_
 intro D C s' H' ys hD hC hDC nD nC I' hn q
 obtain⟨m,hn⟩:=hn
 show wpAny _ X.A (assign (.Name y py) X.env (.ref D)) _ _ _
 refine wpAny_assign_Name (UL (v:=.ref D) I' hN hi' (.inl hx) rfl (fun s'' I'' ⟨a,hsb,ha⟩=>?_) (.inr hx))
 have hLC:C≠X.env.locals:=fun z=>Ks I2.lt hC z.symm
 have hcC:∀x c,X.env.cells.lookup x=some c->c≠C:=fun x c e z=>by
  obtain⟨v,o,ho,_⟩:=I2.cell x c e
  exact Ks (U0k ho) hC z
 have haC:C≠a:=by
  rcases ha with z|z
  .rw[z];exact hLC
  .exact fun e=>hcC y a z e.symm
 refine⟨m,hn.sameBut hsb haC,fun h' hsb'=>?_⟩
 refine⟨_,_,I''.but hsb' (by rw[Bj hDC];exact nC) hLC (U02 I2.sz hC) hcC fun p hp z=>?_,q D nD⟩
 exact Ks (U0k (I2.pin p hp).1) hC z
end
end L2
end
section
namespace L2
open PySem PySem.Spec PyProof.Rows
theorem Eh.obj{P:Program}{w:World}{H:Hp}{h:Heap}{a:Addr}{o:HO}(x:Eh P w H h a o):∃ob,h.get? a=some ob:=by
 cases o with
 |lst xs=>obtain⟨_,_,_,_,e⟩:=x;exact⟨_,e⟩
 |tup xs=>obtain⟨_,_,_,ob,e,_⟩:=x;exact⟨ob,e⟩
 |dK kvs=>obtain⟨_,_,_,_,o,_,_,e,_⟩:=x;exact⟨o,e⟩
 |dT kvs=>obtain⟨_,_,_,_,o,_,_,e,_⟩:=x;exact⟨o,e⟩
 |set S n=>obtain⟨o,_,_,_,e,_⟩:=x;exact⟨o,e⟩
 |ins C dx fs=>obtain⟨_,_,_,e,_⟩:=x;exact⟨_,e⟩
 |own y=>exact x
 |xd fs=>obtain⟨_,⟨o,_,_,e,_⟩,_⟩:=x;exact⟨o,e⟩
 |rng lo hi=>obtain⟨_,_,_,e⟩:=x;exact⟨_,e⟩
 |frz ob u=>obtain⟨e,_⟩:=x;exact⟨_,e⟩
 |tbl ps=>exact⟨_,x⟩
 |met f y=>exact⟨_,x⟩
 |ext φ=>obtain⟨_,e,_⟩:=x;exact e
section
variable{X:Cx}{pins:List (Addr×Obj)}{σ:St}{H:Hp}{s:Shared}
theorem Inv.Tc(I:Inv X pins σ H s){a:Addr}(h:s.heap.get? a=none):H a=none:=by
 cases q:H a with
 |none=>rfl
 |some o =>
  obtain⟨ob,e⟩:=(I.hok a o q).obj
  rw[h] at e;cases e
theorem Inv.laidN{a:Addr}{o:HO}{h':Heap}{d':Drawn}{t':Nat}(I:Inv X pins σ H s)(k:∀b u,s.heap.get? b=some u->h'.get? b=some u)(hn:s.heap.get? a=none)(hsy:sysModules≠a)(new:Eh X.prog X.w (upd H a o) h' a o) :
  Inv X pins σ (upd H a o) { s with heap:=h',drawn:=d',toks:=t' }:=by
 have hH:=I.Tc hn
 have ne:∀b u,s.heap.get? b=some u->b≠a:=fun b u e z=>by rw[z,hn] at e;cases e
 refine I.step (g':=s.gens) (ch:=[]) (fun _ z=>nomatch z) (fun b u _ _ _ e _=>k b u e) (fun b u _ _ _ e _=>⟨u.slots,k b u e⟩) (fun b u _ e n=>by rw[Bj (ne b u e)];exact n) (fun b u _ e=>⟨u,k b u e⟩)
  (fun b xs e=>by rw[Bj (Dv e hH)];exact e) (fun b u xs e=>by rw[Bj (Dv e hH)];exact e) (fun b ps e=>⟨#[],by rw[Bj (Dv e hH),e];simp⟩) (fun m hm=>?_) (fun b u e=>?_) I.bare (fun n=>by rw[Bj hsy];exact n)
 .obtain⟨ob,es,ep,e,r⟩:=hm
  exact⟨ob,es,ep,k _ _ e,r⟩
 .by_cases hb:b=a
  .subst hb;rw[CZ] at e;cases e;exact new
  .rw[Bj hb] at e
   exact(I.hok b u e).stay (fun c v _ q=>k c v q) (fun c q=>by rw[Bj (Dv q hH)];exact q) fun c xs q=>by rw[Bj (Dv q hH)];exact q
end
def VG(P:Program)(w:World)(a:Addr)(ds:List Int):HO:=.ext fun h=>SetP.SetT P w h a ds
theorem iM{P:Program}{w:World}{H:Hp}{h:Heap}{a:Addr}{ds:List Int}(x:SetP.SetT P w h a ds):Eh P w H h a (VG P w a ds) :=
 ⟨x,(by obtain⟨_,o,_,_,_,e,_⟩:=x;exact⟨o,e⟩),fun h1 h2 y k=>y.sameBut k⟩
section
variable{X:Cx}
theorem fL(hc:X.calm=true):Dr X (.type "set") (fun xs H Q=>∃p ns,xs=[.ref p]/\SqL X.K H p (ns.map V.int)/\ns.length<1000/\∀a,H a=none->Q (.ref a) (upd H a (VG X.prog X.w a (SetP.once ns)))):=by
 intro pins s σ H xs us Q I r h
 obtain⟨p,ns,rfl,hq,hl,q⟩:=h
 obtain⟨u,rfl,rx⟩:=vals1 r
 cases rx
 obtain⟨its,rv,pl,hz⟩:=I.list hq
 have hlen:=rv.length
 rw[U0g] at hlen
 refine SetP.iK (I.ok.hd hc) pl.isList (by simpa using intsAre_of rv) (by rw[U0j,←hlen];unfold scanBound;omega) fun h' tk k T=>?_
 have hn:s.heap.get? s.heap.objs.size=none:=Heap.get?_none_of_le (U0m _)
 exact⟨.ref s.heap.objs.size,_,I.laidN (d':=s.drawn) (t':=tk) k hn (U0q I.YW) (iM T),rfl,q _ (I.hok.fresh (U0m _))⟩
theorem U9(hc:X.calm=true):Dr X (.builtin "sorted") (fun xs H Q=>∃(a:Addr)(ds:List Int),xs=[.ref a]/\H a=some (VG X.prog X.w a ds)/\ds.length<64 /\
  ∀(l:Addr)(ns:List Int),H l=none->ns.Perm ds->ns.Pairwise (·<=·)->Q (.ref l) (upd H l (.lst (ns.map V.int)))):=by
 intro pins s σ H xs us Q I r h
 obtain⟨a,ds,rfl,hH,hl,q⟩:=h
 obtain⟨u,rfl,rx⟩:=vals1 r
 cases rx
 obtain⟨T,_,_⟩:=(show Eh X.prog X.w H s.heap a (VG X.prog X.w a ds) from I.hok a _ hH)
 refine SetP.cI (I.ok.hd hc) T hl fun h' d' tk l vs ns n k hb e hi hp hs=>?_
 have hn:s.heap.get? l=none:=by
  cases q:s.heap.get? l with
  |none=>rfl
  |some o=>exact absurd (hb l o q) (U28 _)
 have hsy:sysModules≠l:=by
  obtain⟨o,_,_,e,_⟩:=I.ok.mod.glob
  exact U0q (U2v (by decide:(1:Nat)<3) (hb _ _ (I.bk _ _ e)))
 have hlen:ns.length<64:=by rw[hp.length_eq];exact hl
 refine⟨.ref l,_,I.laidN (d':=d') (t':=tk) (o:=.lst (ns.map V.int)) k hn hsy ⟨?_,vs.toList,n,QF hi,by simpa using e⟩,rfl,q l ns (I.Tc hn) hp hs⟩
 rw[U0g]
 exact U19 (Uc (by omega))
theorem Wr{prog:Program}{w:World}{A:Around}{bs:List Bool}{its:List Value}(r:Vals (bs.map V.bl) its):TruthOf prog w A (fun i v=>its.toArray[i]?=some v) (fun i=>bs.getD i false):=by
 intro i v s Q E hP h
 rw[U4r] at hP
 have hlen:=r.length
 rw[U0g] at hlen
 have hi:i<bs.length:=by rw[hlen];exact(U0h.mp hP).1
 obtain⟨u,e,ru⟩:=r.get (i:=i) (x:=.bl bs[i]) (by rw[U03,U0y hi];rfl)
 rw[e] at hP;cases hP
 have ru':v=U27 bs[i]:=ru
 subst ru'
 have e2:bs.getD i false=bs[i]:=by rw[U18,U0y hi];rfl
 have h:Q (bs.getD i false) s:=h
 rw[e2] at h
 exact U22 h
theorem all_range(bs:List Bool):(U12 bs.length).all (fun i=>bs.getD i false)=bs.all id:=by
 rw[U4c,U14,U14]
 constructor
 .intro h b hb
  obtain⟨i,hi⟩:=U3q.mp hb
  have q:=h i (U3m.mpr (U0h.mp hi).1)
  rw[U18,hi] at q
  exact q
 .intro h i hi
  have hi':=U3m.mp hi
  rw[U18,U0y hi']
  exact h _ (U5t hi')
theorem WD(hc:X.calm=true):Dr X (.builtin "all") (fun xs H Q=>∃(p:Addr)(bs:List Bool),xs=[.ref p]/\SqL X.K H p (bs.map V.bl)/\Q (.bl (bs.all id)) H):=by
 intro pins s σ H xs us Q I r h
 obtain⟨p,bs,rfl,hq,q⟩:=h
 obtain⟨u,rfl,rx⟩:=vals1 r
 cases rx
 obtain⟨its,rv,pl,hz⟩:=I.list hq
 have hlen:=rv.length
 rw[U0g] at hlen
 have hl:=pl.isList
 have hlt:p<s.heap.objs.size:=by obtain⟨o,ho,_⟩:=hl;exact U0k ho
 refine call_all_walk (U4o hl ?_)
 refine⟨s.heap.objs.size,[s.heap.objs.size,p],[s.heap.objs.size],its.toArray.size,_,_,fun i=>bs.getD i false,rfl,Walks.list (by simpa using I.ok.hd hc) s.heap.objs.size p (U0q hlt) its.toArray,⟨⟨_,U0p _ rfl,rfl,rfl⟩,hl.push _⟩,Wr rv,fun h' tk k=>?_⟩
 refine⟨.bl (bs.all id),H,I.kept (h':=h') (t':=tk) fun b o e=>k b o (fun z=>?_) (U0b _ e),?_,q⟩
 .exact absurd (U08.mp z) (U0q (U0k e))
 .show U27 _=U27 _
  rw[U0j,←hlen,all_range]
theorem Cw{K:U0a}{a b:String}{r:Bool}(h:(if (U2p a==U2p b)=true then some true else if PySem.W.kitMeta b=true then (PySem.fastBuiltinMro a).map (·.contains (.type b)) else none)=some r):U20 K (.type a) (.type b)=some r:=h
theorem XM:Dr X (.builtin "isinstance") (fun xs H Q=>∃(x:V)(T:String)(t:Value)(b:Bool),xs=[x,.ty T]/\Jf X.K H x t/\U20 X.K t (.type T)=some b/\Q (.bl b) H):=by
 intro pins s σ H xs us Q I r h
 obtain⟨x,T,t,b,rfl,ty,e,q⟩:=h
 obtain⟨u,w',rfl,rx,rt⟩:=vals2 r
 cases (show w'=U2p T from rt)
 exact aQ I rx ty e fun tk=>⟨.bl b,H,I.tok tk,rfl,q⟩
theorem dG:OpR X (compareOp .Is) (fun x y H Q=>∃(c d:Bool),x=.bl c/\y=.bl d/\Q (.bl (decide (c=d))) H):=by
 intro pins s σ H x y v u Q I rx ry h
 obtain⟨c,d,rfl,rfl,q⟩:=h
 cases (show v=U27 c from rx)
 cases (show u=U27 d from ry)
 refine is_bool ⟨.bl (decide (c=d)),H,I,?_,q⟩
 show U27 _=U27 _
 cases c<;>cases d<;>rfl
theorem XJ:Dr X (.type "range") (fun xs H Q=>∃(n:Int),xs=[.int n]/\∀p,H p=none->Q (.ref p) (upd H p (.rng 0 n))):=by
 intro pins s σ H xs us Q I r h
 obtain⟨n,rfl,q⟩:=h
 obtain⟨u,rfl,rx⟩:=vals1 r
 obtain⟨t,rfl⟩:=(show ∃t,u=U3n n t from rx)
 exact call_range_1 ⟨.ref s.heap.objs.size,_,I.laid (o:=.rng 0 n) (fun _ _ e=>U0b _ e) (U0m _) ⟨_,_,_,U0p _ rfl⟩,rfl,q _ (I.hok.fresh (U0m _))⟩
theorem XH:Dr X (.type "range") (fun xs H Q=>∃(a b:Int),xs=[.int a,.int b]/\∀p,H p=none->Q (.ref p) (upd H p (.rng a b))):=by
 intro pins s σ H xs us Q I r h
 obtain⟨a,b,rfl,q⟩:=h
 obtain⟨u,w',rfl,rx,ry⟩:=vals2 r
 obtain⟨t,rfl⟩:=(show ∃t,u=U3n a t from rx)
 obtain⟨t',rfl⟩:=(show ∃t,w'=U3n b t from ry)
 exact call_range_2 ⟨.ref s.heap.objs.size,_,I.laid (o:=.rng a b) (fun _ _ e=>U0b _ e) (U0m _) ⟨_,_,_,U0p _ rfl⟩,rfl,q _ (I.hok.fresh (U0m _))⟩
def upTo(lo:Int)(n:Nat):List Int:=(U12 n).map fun(i:Nat)=>lo+i
theorem UG(hc:X.calm=true):Dr X (.type "list") (fun xs H Q=>∃(r:Addr)(lo hi:Int),xs=[.ref r]/\H r=some (.rng lo hi)/\-(2^62)<=lo/\lo<2^62/\-(2^62)<=hi/\hi<2^62/\(hi-lo).toNat<=1000 /\
  ∀l,H l=none->Q (.ref l) (upd H l (.lst ((upTo lo (hi-lo).toNat).map V.int)))):=by
 intro pins s σ H xs us Q I rr h
 obtain⟨r,lo,hi,rfl,hH,h1,h2,h3,h4,h5,q⟩:=h
 obtain⟨u,rfl,rx⟩:=vals1 rr
 cases rx
 obtain⟨t,u,v,e⟩:=(show Eh X.prog X.w H s.heap r (.rng lo hi) from I.hok r _ hH)
 have hsz:Builtin.Range.rangeSize lo hi 1=(((hi-lo).toNat:Nat):Int):=by rw[rangeSize_one];split<;>omega
 refine call_list_range (a:=lo) (b:=hi) (c:=1) (I.ok.hd hc) e (small_one h1 h2 h3 h4) hsz (by omega) fun h' tk acc c k eS hacc=>?_
 refine⟨.ref s.heap.objs.size,_,I.laid (o:=.lst ((upTo lo (hi-lo).toNat).map V.int)) (t':=tk) k (U0m _) ⟨?_,acc.toList,c,?_,by simpa using eS⟩,rfl,q _ (I.hok.fresh (U0m _))⟩
 .unfold upTo
  rw[U0g,U0g,U4p]
  exact U19 (Uc h5)
 .have gen:∀(l:List Value)(j:Nat),(∀(i:Nat)(v:Value),l[i]?=some v->∃t,v=U3n (lo+((i+j:Nat):Int)) t)->Vals (((U7 j l.length).map fun(i:Nat)=>lo+i).map V.int) l:=by
   intro l
   induction l with
   |nil=>intro j _;exact .nil
   |cons x r ih =>
    intro j hx
    obtain⟨t,e⟩:=hx 0 x rfl
    subst e
    rw[U0i,List.range'_succ]
    refine .cons ⟨t,by simp⟩ (ih (j+1) fun i v hv=>?_)
    obtain⟨t',e'⟩:=hx (i+1) v (by simpa using hv)
    exact⟨t',by rw[e',show i+1+j=i+(j+1) by omega]⟩
  have q2:=gen acc.toList 0 fun i v hv=>by
   obtain⟨t',e'⟩:=hacc.2 i v (by simpa using hv)
   exact⟨t',by rw[e'];simp⟩
  have el:acc.toList.length=(hi-lo).toNat:=by simpa using hacc.1
  rw[el,←List.range_eq_range'] at q2
  exact q2
end
end L2
end
section
namespace L2
open PySem PySem.Spec PyProof.Rows
mutual
inductive Tr (N:Addr->Prop) (H:Hp):V->PyData->Prop
 |non:Tr N H .non .none
 |bl (b:Bool):Tr N H (.bl b) (.bool b)
 |int (i:Int):Tr N H (.int i) (.int i)
 |str (x:Str):Tr N H (.str x) (.str x)
 |lst {a:Addr} {xs:List V} {ds:List PyData}:N a->H a=some (.lst xs)->Jy N H xs ds->Tr N H (.ref a) (.list ds)
 |tup {a:Addr} {xs:List V} {ds:List PyData}:N a->H a=some (.tup xs)->Jy N H xs ds->Tr N H (.ref a) (.tuple ds)
 |dct {a:Addr}:N a->H a=some (.dK [])->Tr N H (.ref a) (.dict [])
inductive Jy (N:Addr->Prop) (H:Hp):List V->List PyData->Prop
 |nil:Jy N H [] []
 |cons {x:V} {d:PyData} {xs:List V} {ds:List PyData}:Tr N H x d->Jy N H xs ds->Jy N H (x::xs) (d::ds)
end
section
variable{N N':Addr->Prop}{H H':Hp}
end
section
variable{N:Addr->Prop}{P:Program}{w:World}{H:Hp}{h:Heap}
mutual
theorem Tr.reads(ok:HOk P w H h)(hs:H sysModules=none):∀{v:V} {d:PyData},Tr N H v d->∀u,RelV v u->∃as,Reads h u d as/\sysModules ∉ as
 |_,_,.non,u,r=>⟨[],by cases (show u=U2e from r);exact .none,by simp⟩
 |_,_,.bl b,u,r=>⟨[],by cases (show u=U27 b from r);exact .bool b,by simp⟩
 |_,_,.int i,u,r=>by obtain⟨t,rfl⟩:=(show ∃t,u=U3n i t from r);exact⟨[],.int i t,by simp⟩
 |_,_,.str x,u,r=>by obtain⟨t,rfl⟩:=(show ∃t,u=Value.str x t from r);exact⟨[],.str x t,by simp⟩
 |_,_,.lst (a:=a) (xs:=xs) (ds:=ds) _ hH t,u,r=>by
  cases (show u=U17 a from r)
  obtain⟨_,its,n,rv,e⟩:=(show Eh P w H h a (.lst xs) from ok a _ hH)
  obtain⟨as,ra,na⟩:=Jy.reads ok hs t its rv
  refine⟨a::as,.list e rfl rfl (by simpa using ra),fun z=>?_⟩
  rcases U0t.mp z with z|z
  .rw[z] at hs;rw[hs] at hH;cases hH
  .exact na z
 |_,_,.tup (a:=a) (xs:=xs) (ds:=ds) _ hH t,u,r=>by
  cases (show u=U17 a from r)
  obtain⟨_,its,rv,ob,e,c,n,d⟩:=(show Eh P w H h a (.tup xs) from ok a _ hH)
  obtain⟨as,ra,na⟩:=Jy.reads ok hs t its rv
  exact⟨as,.tuple e c d (by simpa using ra),na⟩
 |_,_,.dct (a:=a) _ hH,u,r=>by
  cases (show u=U17 a from r)
  obtain⟨_,y,vs,kv,o,es,ep,e,ex,d,el⟩:=(show Eh P w H h a (.dK []) from ok a _ hH)
  cases kv
  have e0:es.toList=[]:=by
   have q:Pairs (Td P w) es.toList []:=el.2.1
   generalize es.toList=l at q
   cases q
   rfl
  refine⟨[a],.dict (as:=[]) (bs:=[]) e ex.1 d (by rw[e0];exact .nil) (by rw[e0];exact .nil),fun z=>?_⟩
  have z':=U08.mp z
  rw[←z'] at y
  simp at y
theorem Jy.reads(ok:HOk P w H h)(hs:H sysModules=none):∀{xs:List V} {ds:List PyData},Jy N H xs ds->∀us,Vals xs us->∃as,ReadsAll h us ds as/\sysModules ∉ as
 |_,_,.nil,us,r=>by cases r;exact⟨[],.nil,by simp⟩
 |_,_,.cons t ts,us,r=>by
  cases r with
  |cons rx rr =>
   obtain⟨as,ra,na⟩:=Tr.reads ok hs t _ rx
   obtain⟨bs,rb,nb⟩:=Jy.reads ok hs ts _ rr
   exact⟨as++bs,.cons ra rb,fun z=>(U1k.mp z).elim na nb⟩
end
end
section
variable{X:Cx}
theorem nq{k:Nat}(hr:FN k X.A):OpR X (compareOp .Eq) (fun x y H Q=>∃(N N':Addr->Prop)(d e:PyData),Tr N H x d/\Tr N' H y e/\U2d d=true/\U2d e=true/\Q (.bl (U4x d e)) H):=by
 intro pins s σ H x y v u Q I rx ry h
 obtain⟨N,N',d,e,t1,t2,s1,s2,q⟩:=h
 obtain⟨as,ra,_⟩:=t1.reads I.hok I.TJ v rx
 obtain⟨bs,rb,_⟩:=t2.reads I.hok I.TJ u ry
 exact SeqAt.compareEq_shaped ra rb s1 s2 hr.units ⟨.bl _,H,I,rfl,q⟩
theorem nY{k:Nat}(hr:FN k X.A):OpR X (compareOp .NotEq) (fun x y H Q=>∃(N N':Addr->Prop)(d e:PyData),Tr N H x d/\Tr N' H y e/\U2d d=true/\U2d e=true/\Q (.bl (!PyData.eqv d e)) H):=by
 intro pins s σ H x y v u Q I rx ry h
 obtain⟨N,N',d,e,t1,t2,s1,s2,q⟩:=h
 obtain⟨as,ra,_⟩:=t1.reads I.hok I.TJ v rx
 obtain⟨bs,rb,_⟩:=t2.reads I.hok I.TJ u ry
 exact SeqAt.compareNe_shaped ra rb s1 s2 hr.units ⟨.bl _,H,I,rfl,q⟩
end
end L2
end
section
namespace HT
open PySem PySem.Spec PyProof.Rows
section
variable{prog:Program}{w:World}{A:Around}{E:Value->Shared->Prop}{s:Shared}
theorem fK{t b:Addr}{ws:List Value}{Q:Value->Shared->Prop}(ht:IsTup s.heap t ([]:List Value).toArray)(hb:IsTup s.heap b ws.toArray)(h:Q (.ref b) s):wpAny (model prog w) A (binaryOp .Add (.ref t) (.ref b)) Q E s:=by
 obtain⟨⟨c1,d1,x1,sl1⟩,ho,hc,n,hd⟩:=id ht
 obtain⟨⟨c2,d2,x2,sl2⟩,ho2,hc2,n2,hd2⟩:=id hb
 simp only at hc hd hc2 hd2
 subst hc hd hc2 hd2
 exact concat_meets ⟨_,ho,rfl⟩ ⟨_,ho2,rfl⟩ noFill_tuple_add seq_tuple_add U5m U5g (U48 _ _) (tuple_addW0 t b _ ws.toArray n n2 d1 d2 sl1 sl2 (by simp)) ⟨ho,ho2,h⟩
theorem Ws{t sl:Addr}{items:Array Value}{vl vu:Value}{lo hi:Option Int}{Q:Value->Shared->Prop}(ht:IsTup s.heap t items)(hs:s.heap.IsSliceOf sl vl vu .none)(pl:IsPart vl lo)(pu:IsPart vu hi)
  (hw:sIx items.size 0 lo=0/\sIx items.size items.size hi=items.size) (h:Q (.ref t) s):wpAny (model prog w) A (getItem (.ref t) (.ref sl)) Q E s:=by
 obtain⟨os,hos,hcs,hds⟩:=id hs
 have hTs:s.TypeIs (.ref sl) "slice":=⟨os,hos,hcs⟩
 unfold getItem
 try with_reducible refine U1z ?_
 first|refine U0 (U0c ?_)|skip
 refine U0 (wpAny_sequenceKey ht.typeIs (by decide) ?_)
 refine U0 (wpAny_callSpecial?_slot (name:=U25 "__getitem__") ht.typeIs U2h (U1w U2h ht.typeIs entry_tuple_getitem ?_ (args_tuple_getitem _ _)))
 show wpAny _ _ (Builtin.Tuple.tupleItemsOf (.ref t) >>= _) _ _ s
 refine U0 (tupleItemsOf_ ht (U0 (U49 hTs ?_)))
 rw[if_pos (by decide)]
 refine U0 (NT hs pl pu ?_)
 have yes:(((sIx items.size 0 lo:Nat):Int)==0&&(1:Int)==1&&(sIx items.size items.size hi-sIx items.size 0 lo)==items.size)=true:=by
  rw[hw.1,hw.2];simp
 show wpAny _ _ (if (((sIx items.size 0 lo:Nat):Int)==0&&(1:Int)==1&&(sIx items.size items.size hi-sIx items.size 0 lo)==items.size)=true then _ else _) _ _ s
 rw[if_pos yes]
 unfold Builtin.Tuple.tupleIsExact
 refine U0 (U0 (U49 ht.typeIs (U0c ?_)))
 rw[if_pos (by decide)]
 exact U0 (U4v (U0c ⟨_,rfl,U0c h⟩))
end
end HT
namespace L2
open PySem PySem.Spec PyProof.Rows
theorem Di{H:Hp}{p:Addr}(h:H p=none)(o:HO):Same H (upd H p o):=fun b u q=>by rw[Bj (Dv q h)];exact q
theorem ZC(xs:List V)(lo hi:Option Int)(h:HT.sIx xs.length 0 lo=0/\HT.sIx xs.length xs.length hi=xs.length):Js xs lo hi=xs:=by
 unfold Js
 rw[h.1,h.2,U6z,Nat.sub_zero,U37]
section
variable{X:Cx}
theorem jG:OpR X (binaryOp .Add) (fun x y H Q=>∃(a b:Addr)(xs ys:List V),x=.ref a/\y=.ref b/\H a=some (.tup xs)/\H b=some (.tup ys)/\xs.length+ys.length<=sizeLine/\∀p H',Same H H'->H' p=some (.tup (xs++ys))->Q (.ref p) H'):=by
 intro pins s σ H x y v u Q I rx ry h
 obtain⟨a,b,xs,ys,rfl,rfl,ha,hb,hz,q⟩:=h
 by_cases hx:xs=[]
 .subst hx
  cases rx
  cases ry
  obtain⟨its,r1,p1,_⟩:=I.tuple (SqT.of ha)
  obtain⟨its2,r2,p2,_⟩:=I.tuple (SqT.of hb)
  cases r1
  exact HT.fK p1 p2 ⟨.ref b,H,I,rfl,q b H (Same.refl H) hb⟩
 .refine jF pins s σ H _ _ v u Q I rx ry ⟨a,b,xs,ys,rfl,rfl,SqT.of ha,SqT.of hb,hx,hz,fun z=>?_,fun _ p hp=>q p _ (Di hp _) CZ⟩
  subst z
  exact q a H (Same.refl H) (by rw[U2y];exact ha)
theorem iI:SlR X (fun x lo hi H Q=>∃(a:Addr)(xs:List V),x=.ref a/\H a=some (.tup xs)/\∀p H',Same H H'->H' p=some (.tup (Js xs lo hi))->Q (.ref p) H'):=by
 intro pins s σ H x v vl vu lo hi sl Q I rx hs pl pu h
 obtain⟨a,xs,rfl,ha,q⟩:=h
 by_cases hw:HT.sIx xs.length 0 lo=0/\HT.sIx xs.length xs.length hi=xs.length
 .cases rx
  obtain⟨its,r,ht,hz⟩:=I.tuple (SqT.of ha)
  have hlen:its.toArray.size=xs.length:=by rw[U0j];exact r.length.symm
  refine⟨"tuple",_,U2h.lookup,ht.typeIs,?_⟩
  exact HT.Ws ht hs pl pu (by rw[hlen];exact hw) ⟨.ref a,H,I,rfl,q a H (Same.refl H) (by rw[ZC xs lo hi hw];exact ha)⟩
 .exact mQ pins s σ H _ v vl vu lo hi sl Q I rx hs pl pu ⟨a,xs,rfl,SqT.of ha,hw,fun p hp=>q p _ (Di hp _) CZ⟩
theorem dH{d:Addr}{D:List (PyData×PyData)}(hT:∀h,X.K.In h->IntTab X.prog X.w h d D):OpR X (compareOp .In) (fun x y H Q=>∃(i:Int),x=.int i/\y=.ref d/\Q (.bl (lookup (.int i) D).isSome) H):=by
 intro pins s σ H x y v u Q I rx ry h
 obtain⟨i,rfl,rfl,q⟩:=h
 obtain⟨t,rfl⟩:=(show ∃t,v=U3n i t from rx)
 cases ry
 exact in_intTab (hT _ I.kIn) ⟨.bl _,H,I.tok _,rfl,q⟩
theorem lE{P:Program}{w:World}{K:U0a}{d:Addr}{ep:Nat}{h1 h2 h3 k1 k2 k3 v1 v2 v3:Int}{t1 t2 t3 u1 u2 u3:Tok}(hd:(d==sysModules)=false)
  (l:K.lookup d=some { cls:=.type "dict",data:=.dict #[⟨h1,.int k1 t1,.int v1 u1⟩,⟨h2,.int k2 t2,.int v2 u2⟩,⟨h3,.int k3 t3,.int v3 u3⟩] ep })
  (e1:h1=hashInt k1) (e2:h2=hashInt k2) (e3:h3=hashInt k3) (nd:[k1,k2,k3].Nodup):∀h,K.In h->IntTab P w h d [(.int k1,.int v1),(.int k2,.int v2),(.int k3,.int v3)]:=by
 intro h kin
 refine⟨hd,[(k1,.int v1 u1),(k2,.int v2 u2),(k3,.int v3 u3)],⟨_,_,ep,kin _ _ l,⟨rfl,rfl,rfl⟩,rfl,?_,?_,nd⟩,?_⟩
 .intro e he
  simp only[List.mem_toArray,U0t,U1x,or_false] at he
  rcases he with z|z|z
  .subst z;exact⟨k1,intKind_is P w k1 t1,e1⟩
  .subst z;exact⟨k2,intKind_is P w k2 t2,e2⟩
  .subst z;exact⟨k3,intKind_is P w k3 t3,e3⟩
 .exact .cons (intKind_is P w k1 t1) rfl (.cons (intKind_is P w k2 t2) rfl (.cons (intKind_is P w k3 t3) rfl .nil))
 .exact .cons (.int v1 u1) (.cons (.int v2 u2) (.cons (.int v3 u3) .nil))
end
end L2
end
section
namespace L2
open PySem PySem.Spec PyProof.Rows
def Cal(P:Program)(w:World)(K:U0a)(mg:Str->Option Value)(base:Heap)(x:Str)(k:Nat)(ps:List Str)(sp:Sp):Prop :=
 ∃f fd,Dp P w K mg base CX0 k f fd ps sp/\Binds K fd ps []/\U01 K (.ref f)=true/\mg x=some (.ref f)
section
variable{X:Cx}
theorem Mx{x:Str}{k k':Nat}{ps:List Str}{sp:Sp}{e:Expr}{es:List Expr}{t:TA}{p pos:Pos}(c:Cal X.prog X.w X.K X.mg X.base x k ps sp)(hr:FN k' X.A)(hk:k<=k')(hg:Gl X x)(ha:PA X (e::es) t)
  (hdb:(x==("__debug__":Str))=false:=by decide) (he:starEach (e::es) X.env=(false,eval e X.env)::starEach es X.env:=by rfl) (hpl:(backTo pos (starEach es X.env)).any (·.1)=false:=by rfl) :
  PE X (.Call (.Name x p) (e::es) [] pos) (fY sp [] E0 t):=by
 obtain⟨f,fd,F,b,kp,m⟩:=c
 exact jC (F.mono hk) hr hg m kp b .nil gF ha hdb he hpl
theorem Vz:OpR X (binaryOp .FloorDiv) (rI (fun _ j=>0<j/\j<2^64) fun i j=>.int (i/j)):=opI fun i j _ _ _ _ _ hc q=>by
 rw[←Int.fdiv_eq_ediv_of_nonneg _ (U67 hc.1)] at q
 refine floordiv_int (Int.ne_of_gt hc.1) q (.inl (PyProof.noPylong_of_log2 ?_))
 have h1:j.natAbs<2^64:=by omega
 have h2:j.natAbs≠0:=by omega
 exact U2v ((Nat.log2_lt h2).mpr h1) (by decide)
end
theorem Gp:bootBuiltins "len"=some (.builtin "len"):=by decide +kernel
theorem Dg:bootBuiltins "isinstance"=some (.builtin "isinstance"):=by decide +kernel
theorem Zh:bootBuiltins "all"=some (.builtin "all"):=by decide +kernel
theorem Uu:bootBuiltins "sorted"=some (.builtin "sorted"):=by decide +kernel
theorem pL:bootBuiltins "min"=some (.builtin "min"):=by decide +kernel
theorem Zg:bootBuiltins "max"=some (.builtin "max"):=by decide +kernel
theorem Zi:bootBuiltins "abs"=some (.builtin "abs"):=by decide +kernel
theorem pK:bootBuiltins "set"=some (.type "set"):=by decide +kernel
theorem MN:bootBuiltins "list"=some (.type "list"):=by decide +kernel
theorem Ir:bootBuiltins "tuple"=some (.type "tuple"):=by decide +kernel
theorem fO:bootBuiltins "range"=some (.type "range"):=by decide +kernel
theorem SN:bootBuiltins "int"=some (.type "int"):=by decide +kernel
theorem YF:bootBuiltins "bool"=some (.type "bool"):=by decide +kernel
theorem pJ:bootBuiltins "str"=some (.type "str"):=by decide +kernel
def Rj:List Str:=["len","isinstance","all","sorted","min","max","abs","repr","set","list","tuple","range","int","bool","str"]
def Blt(mg:Str->Option Value):Prop:=∀x∈Rj,mg x=none
theorem Blt.is{mg:Str->Option Value}(b:Blt mg)(x:Str)(h:Rj.contains x=true:=by decide +kernel):mg x=none:=b x (List.contains_iff_mem.mp h)
def tyName:PyData->String
 |.none=>"NoneType"
 |.bool _=>"bool"
 |.int _=>"int"
 |.str _=>"str"
 |.list _=>"list"
 |.tuple _=>"tuple"
 |.dict _=>"dict"
theorem Tr.ty{N:Addr->Prop}{K:U0a}{H:Hp}{v:V}{d:PyData}(t:Tr N H v d):Jf K H v (.type (tyName d)):=by
 cases t with
 |non=>exact .non
 |bl b=>exact .bl b
 |int i=>exact .int i
 |str x=>exact .str x
 |lst _ h _=>exact .lst h
 |tup _ h _=>exact .tup h
 |dct _ h=>exact .dK h
def VL(T:String)(d:PyData):Bool:=match T with
 |"int"=>(match d with|.int _=>true|.bool _=>true|_=>false)
 |"bool"=>(match d with|.bool _=>true|_=>false)
 |"tuple"=>(match d with|.tuple _=>true|_=>false)
 |"list"=>(match d with|.list _=>true|_=>false)
 |_=>false
theorem jU{K:U0a}(d:PyData):U20 K (.type (tyName d)) (.type "int")=some (VL "int" d):=by
 cases d with
 |none=>exact Cw (a:="NoneType") (r:=false) (by decide +kernel)
 |bool _=>exact Cw (a:="bool") (r:=true) (by decide +kernel)
 |int _=>exact Cw (a:="int") (r:=true) (by decide +kernel)
 |str _=>exact Cw (a:="str") (r:=false) (by decide +kernel)
 |list _=>exact Cw (a:="list") (r:=false) (by decide +kernel)
 |tuple _=>exact Cw (a:="tuple") (r:=false) (by decide +kernel)
 |dict _=>exact Cw (a:="dict") (r:=false) (by decide +kernel)
theorem dw{K:U0a}(d:PyData):U20 K (.type (tyName d)) (.type "bool")=some (VL "bool" d):=by
 cases d with
 |none=>exact Cw (a:="NoneType") (r:=false) (by decide +kernel)
 |bool _=>exact Cw (a:="bool") (r:=true) (by decide +kernel)
 |int _=>exact Cw (a:="int") (r:=false) (by decide +kernel)
 |str _=>exact Cw (a:="str") (r:=false) (by decide +kernel)
 |list _=>exact Cw (a:="list") (r:=false) (by decide +kernel)
 |tuple _=>exact Cw (a:="tuple") (r:=false) (by decide +kernel)
 |dict _=>exact Cw (a:="dict") (r:=false) (by decide +kernel)
theorem kit_tuple{K:U0a}(d:PyData):U20 K (.type (tyName d)) (.type "tuple")=some (VL "tuple" d):=by
 cases d with
 |none=>exact Cw (a:="NoneType") (r:=false) (by decide +kernel)
 |bool _=>exact Cw (a:="bool") (r:=false) (by decide +kernel)
 |int _=>exact Cw (a:="int") (r:=false) (by decide +kernel)
 |str _=>exact Cw (a:="str") (r:=false) (by decide +kernel)
 |list _=>exact Cw (a:="list") (r:=false) (by decide +kernel)
 |tuple _=>exact Cw (a:="tuple") (r:=true) (by decide +kernel)
 |dict _=>exact Cw (a:="dict") (r:=false) (by decide +kernel)
theorem dj{K:U0a}(d:PyData):U20 K (.type (tyName d)) (.type "list")=some (VL "list" d):=by
 cases d with
 |none=>exact Cw (a:="NoneType") (r:=false) (by decide +kernel)
 |bool _=>exact Cw (a:="bool") (r:=false) (by decide +kernel)
 |int _=>exact Cw (a:="int") (r:=false) (by decide +kernel)
 |str _=>exact Cw (a:="str") (r:=false) (by decide +kernel)
 |list _=>exact Cw (a:="list") (r:=true) (by decide +kernel)
 |tuple _=>exact Cw (a:="tuple") (r:=false) (by decide +kernel)
 |dict _=>exact Cw (a:="dict") (r:=false) (by decide +kernel)
end L2
end
section
namespace L2
open PySem PySem.Spec PyProof.Rows
def jR:PyData->Bool
 |.none=>true
 |.bool _=>true
 |.int i=>decide (i.natAbs<10^41)
 |.str x=>decide (x.length<=30)&&x.cps.toList.all fun c=>decide (c<16^8)
 |.dict kvs=>kvs.isEmpty
 |_=>false
def fit:List Nat->PyData->Bool
 |w::ws,.list xs=>decide (xs.length<=w)&&xs.all (fit ws)
 |w::ws,.tuple xs=>decide (xs.length<=w)&&xs.all (fit ws)
 |_,d=>jR d
def Nx(n:Nat)(Pv:Nat->List V->Hp->Prop)(i:Nat)(ys:List V)(H:Hp):Prop:=∃m',m'<n-i/\(m'=n-(i+1)/\i+1<=n/\Pv (i+1) ys H)
theorem nx{n:Nat}{Pv:Nat->List V->Hp->Prop}{i:Nat}{ys:List V}{H:Hp}(hi:i<n)(p:Pv (i+1) ys H):Nx n Pv i ys H:=⟨n-(i+1),by omega,rfl,hi,p⟩
section
variable{k:Nat}{caps:List Nat}{σ:St}{g:TG}{tt:TT}{te:TE}{Q:VK}{H:Hp}
end
def Well(H:Hp)(a:Addr):Prop:=∃x y:Int,H a=some (.lst [.int x,.int y])
end L2
end
section
namespace L2
open PySem PySem.Spec PyProof.Rows
section
variable{a:Addr}{H0:Hp}{σ:St}{te t1 t2:TE}{ta:TA}{d:PyData}{ds d1 d2:List PyData}{i j:Int}
end
end L2
end
section
namespace L2
open PySem PySem.Spec PyProof.Rows
section
variable{X:Cx}{K:U0a}
abbrev tK(K:U0a):List V->Hp->VK->Prop:=fun xs H Q=>∃p ys,xs=[.ref p]/\(SqL K H p ys∨SqT K H p ys)/\Q (.int ys.length) H
abbrev iV(K:U0a):List V->Hp->VK->Prop:=fun xs H Q=>∃p ys,xs=[.ref p]/\(SqL K H p ys∨SqT K H p ys)/\∀l,H l=none->Q (.ref l) (upd H l (.lst ys))
abbrev cW(K:U0a):List V->Hp->VK->Prop:=fun xs H Q=>∃p ys,xs=[.ref p]/\((SqL K H p ys/\∀l,H l=none->Q (.ref l) (upd H l (.tup ys)))∨(SqT K H p ys/\Q (.ref p) H))
theorem dD{d:Addr}{D:List (PyData×PyData)}{x:Str}{p pos:Pos}{b:Expr}{ta tb:TE}(hT:∀h,X.K.In h->IntTab X.prog X.w h d D)(ha:PE X (.Name x p) ta)(hb:PE X b tb)(hs:Qs b)
  (hg:∀r,letTemporaryGo (.Name x p) (.ref d) r=pure ():=by intro _;with_unfolding_all rfl) :
  PE X (.Subscript (.Name x p) b pos) (tOp (fun x y H Q=>∃(i j:Int),x=.ref d/\y=.int i/\lookup (.int i) D=some (.int j)/\Q (.int j) H) ta tb):=by
 intro pins s σ H Q I h
 refine Subscript_ (YT ha hb I h fun v u s2 x y H2 I2 rx ry q=>?_)
 obtain⟨i,j,rfl,rfl,hl,q⟩:=q
 cases rx
 obtain⟨t,rfl⟩:=ry
 refine item_intTab (hT _ I2.kIn) hl (fun v fl=>?_) (hs _ _) hg
 cases fl s2.heap with
 |int _ t'=>exact⟨.int j,H2,I2.tok _,⟨t',rfl⟩,q⟩
theorem bC(hc:X.calm=true)(hK:X.K=K):Dr X (.builtin "max") (fun xs H Q=>∃(p:Addr)(ns:List Int),xs=[.ref p]/\SqL K H p (ns.map V.int)/\ns≠[]/\∀m,m∈ns->(∀n∈ns,n<=m)->Q (.int m) H):=by
 subst hK
 intro pins s σ H xs us Q I r h
 obtain⟨p,ns,rfl,hq,hne,q⟩:=h
 obtain⟨u,rfl,rx⟩:=vals1 r
 cases rx
 obtain⟨its,rv,pl,hz⟩:=I.list hq
 have hlen:=rv.length
 rw[U0g] at hlen
 have hl:=pl.isList
 have hlt:p<s.heap.objs.size:=by obtain⟨o,ho,_⟩:=hl;exact U0k ho
 have hval:∀i v,its.toArray[i]?=some v->∃t,v=U3n (ns.getD i 0) t:=fun i v e=>by
  rw[U4r] at e
  have hi:i<ns.length:=by rw[hlen];exact(U0h.mp e).1
  obtain⟨u,e1,ru⟩:=rv.get (i:=i) (x:=.int ns[i]) (by rw[U03,U0y hi];rfl)
  rw[e] at e1;cases e1
  have e2:ns.getD i 0=ns[i]:=by rw[U18,U0y hi];rfl
  rw[e2]
  exact ru
 have hpos:0<ns.length:=U40.mpr hne
 refine call_max_walk (U4o hl ?_)
 refine⟨s.heap.objs.size,[s.heap.objs.size,p],[s.heap.objs.size],its.toArray.size,fun i v=>its.toArray[i]?=some v,_,_,rfl,Walks.list (by simpa using I.ok.hd hc) s.heap.objs.size p (U0q hlt) its.toArray,⟨⟨_,U0p _ rfl,rfl,rfl⟩,hl.push _⟩,?_,?_,CmpOf.ints_gt (fun i=>ns.getD i 0) hval,fun v h' tk hP hk=>?_⟩
 .intro b hb
  show b<(s.heap.push _).objs.size
  rw[U1y]
  rcases U0t.mp hb with z|hb
  .rw[z];exact U4u _
  .rw[U08.mp hb];exact U2a hlt
 .rw[U0j,←hlen];exact hpos
 .obtain⟨g1,g2⟩:=argBest_gt (fun i=>ns.getD i 0) (its.toArray.size-1)
  obtain⟨t,rfl⟩:=hval _ _ hP
  rw[U0j,←hlen] at g1 g2
  have hb:argBest (fun i j=>decide (ns.getD i 0>ns.getD j 0)) (ns.length-1)<ns.length:=by omega
  rw[U0j,←hlen]
  refine⟨.int _,H,I.kept (h':=h') (t':=tk) fun b o e=>hk b o (fun z=>?_) (U0b _ e),⟨t,rfl⟩,q _ ?_ fun n hn=>?_⟩
  .exact absurd (U08.mp z) (U0q (U0k e))
  .rw[U18,U0y hb]
   exact U5t hb
  .obtain⟨j,hj,rfl⟩:=List.getElem_of_mem hn
   have:=g2 j (by omega)
   rw[U18,U0y hj] at this
   exact this
end
end L2
end
section
namespace Bc
open PySem PySem.Spec PyProof.Rows L2
abbrev D3:List (PyData×PyData):=[(.int 1,.int 20),(.int 2,.int 10),(.int 3,.int 6)]
theorem rK(i:Int):(lookup (.int i) D3).isSome=decide (i=1∨i=2∨i=3):=by
 have same_i:∀a b:Int,same (.int a) (.int b)=decide (a=b):=fun a b=>by by_cases h:a=b<;>simp[same,h]
 simp only[lookup,same_i]
 by_cases h1:(1:Int)=i
 .subst h1;rfl
 by_cases h2:(2:Int)=i
 .subst h2;rfl
 by_cases h3:(3:Int)=i
 .subst h3;rfl
 rw[decide_eq_false h1,decide_eq_false h2,decide_eq_false h3]
 have h:¬(i=1∨i=2∨i=3):=by omega
 rw[decide_eq_false h]
 rfl
def Marks(ms:List Int):Prop:=ms.Pairwise (·<·)/\2<=ms.length/\ms.length<=60/\∀m∈ms,-(10^9)<=m/\m<=10^9
def mD:PyData->Bool
 |.tuple es=>U5k es&&decide (U50 es<=60)
 |_=>true
def lay:PyData->Bool
 |.tuple ds=>ds.all mD
 |_=>true
abbrev F3:List Nat:=[9,9,9]
def nr(a:Int):Bool:=decide (-(10^9)<=a)&&decide (a<=10^9)
def bx:PyData->Bool
 |.tuple [.int a,.int b]=>nr a&&nr b&&decide (a<b)
 |_=>false
def part(d:PyData):Bool:=fit [9,9] d&&mD d
def good(d:PyData):Bool:=fit F3 d&&lay d
end Bc
end
section
set_option maxRecDepth 100000
namespace HT
open PySem PySem.Spec PyProof.Rows
open AutoSeq1 (wpAny_loadPart')
theorem Ro:fillsNumberSlot (.type "tuple") "mul"=pure false :=
 PySem.fillsNumberSlot_seq (id:="tuple.__mul__") (r:=some (.builtin "tuple.__rmul__")) U4l.lookup (by decide +kernel) PySem.F.slot_tuple_rmul.lookup (by decide +kernel)
theorem Zz:seqRepeat? (.type "tuple")=pure (some (.builtin "tuple.__mul__")):=by
 unfold seqRepeat?
 rw[PySem.seqSlot_of (T:="tuple") (name:="__mul__") (id:="tuple.__mul__") U4l.lookup (by decide +kernel),PySem.seqSlot_of (T:="tuple") (name:="__rmul__") (id:="tuple.__rmul__") PySem.F.slot_tuple_rmul.lookup (by decide +kernel)]
 rfl
theorem Wi(a:Int)(t:Tok)(l:Addr)(items:Array Value)(n:Nat)(dd:Option Addr)(sl:Array (Option Value)) :
  Meets (Builtin.«int.__rmul__» ⟨[.int a t,.ref l],[]⟩) (fun _ R s=>s.heap.get? l=some { cls:=.type "tuple",dict:=dd,data:=.seq items n,slots:=sl }/\R (.ok (.ret Value.notImplemented)) s) :=
 .of_wp fun prog w A R s h=>by obtain⟨hp,g,d,tk,os⟩:=s;obtain⟨hl,h⟩:=h;wp_walk using wpAny_loadPart' hl;exact⟨_,rfl,h⟩
theorem cD(l:Addr)(items:Array Value)(n:Nat)(dd:Option Addr)(sl:Array (Option Value))(x:Int)(u:Tok)(hc0:¬(decide (x < -(2^63))||decide (x≥2^63))=true)(hc1:(items.isEmpty||x==1)=true) :
  Meets (Builtin.«tuple.__mul__» ⟨[.ref l,.int x u],[]⟩) (fun _ R s=>s.heap.get? l=some { cls:=.type "tuple",dict:=dd,data:=.seq items n,slots:=sl }/\R (.ok (.ret (U17 l))) { s with heap:=s.heap,toks:=s.toks }) :=
 .of_wp fun prog w A R s h=>by obtain⟨hp,g,d,tk,os⟩:=s;obtain⟨hl,h⟩:=h;have f1:=AutoSeq1.idx_int;wp_walk;refine U6s (decide_eq_false hc0) ?_;wp_walk using wpAny_loadPart' hl;exact⟨_,rfl,h⟩
theorem bw(l:Addr)(items:Array Value)(n:Nat)(dd:Option Addr)(sl:Array (Option Value))(x:Int)(u:Tok)(hc0:¬(decide (x < -(2^63))||decide (x≥2^63))=true)(hc1:¬(items.isEmpty||x==1)=true)
  (hc2:¬(decide (x<=0)||items.isEmpty)=true) (hc3:¬(items.size:Int)*x>(2^63-1)/8) (hc4:¬Builtin.Tuple.tupleTooMany ((items.size:Int)*x)=true) (hsz:(U5w (fun x1 x2=>x1++x2) #[] (U0s x.toNat items)).size<=sizeLine) :
  Meets (Builtin.«tuple.__mul__» ⟨[.ref l,.int x u],[]⟩) (fun _ R s=>s.heap.get? l=some { cls:=.type "tuple",dict:=dd,data:=.seq items n,slots:=sl }/\R (.ok (.ret (U17 s.heap.objs.size))) { s with heap:=s.heap.push { cls:=U2p "tuple",data:=Data.seq (U5w (fun x1 x2=>x1++x2) #[] (U0s x.toNat items)) },toks:=s.toks }) :=
 .of_wp fun prog w A R s h=>by obtain⟨hp,g,d,tk,os⟩:=s;obtain⟨hl,h⟩:=h;have f1:=AutoSeq1.idx_int;wp_walk;refine U6s (decide_eq_false hc0) ?_;wp_walk using wpAny_loadPart' hl;refine U6s (decide_eq_false hc3) ?_;wp_walk;exact⟨_,rfl,h⟩
section
variable{prog:Program}{w:World}{A:Around}{E:Value->Shared->Prop}{s:Shared}
theorem jK{t:Addr}{its:List Value}{k:Int}{u:Tok}{Q:Value->Shared->Prop}(ht:IsTup s.heap t its.toArray)(hne:its≠[])(h1:1<=k)(h2:k<2^60)(hz:its.length*k.toNat<=sizeLine)
  (q1:k=1->Q (.ref t) s) (q2:k≠1->Q (.ref s.heap.objs.size) { s with heap:=s.heap.push { cls:=.type "tuple",data:=.seq (U0s k.toNat its).flatten.toArray } }) :
  wpAny (model prog w) A (binaryOp .Mult (.ref t) (.int k u)) Q E s:=by
 obtain⟨⟨c1,d1,x1,sl1⟩,ho,hc,n,hd⟩:=id ht
 simp only at hc hd
 subst hc hd
 have c0:¬(decide (k < -(2^63))||decide (k≥2^63))=true:=by
  rw[decide_eq_false (by omega),decide_eq_false (by omega)];exact U05
 have ne:its.toArray.isEmpty=false:=by cases its with|nil=>exact absurd rfl hne|cons _ _=>rfl
 have hnew:U5w (fun x1 x2=>x1++x2) #[] (U0s k.toNat its.toArray)=(U0s k.toNat its).flatten.toArray:=by
  have:=L2.foldl_rep its k.toNat []
  rw[U13] at this
  exact this
 refine wpAny_binaryOp_repeat_ref (T:="tuple") (U:="int") (by decide) ⟨_,ho,rfl⟩ (fun s'=>typeIs_int s' k u) Ro PySem.F.fills_int_mul PySem.F.slot_int_rmul Zz PySem.F.slot_int_index.lookup
  (call_meets PySem.F.slot_int_rmul (typeIs_int s k u) PySem.F.entry_int_rmul (PySem.F.args_int_rmul_2 _ _) (Wi k u t its.toArray n d1 sl1) ⟨ho,rfl,⟨_,ho,rfl⟩,?_⟩)
 by_cases k1:k=1
 .exact call_meets U4l ⟨_,ho,rfl⟩ PySem.F.entry_tuple_mul (PySem.F.args_tuple_mul_2 _ _) (cD t its.toArray n d1 sl1 k u c0 (by rw[k1];simp)) ⟨ho,q1 k1⟩
 .have e:((its.toArray.size:Nat):Int)*k=((its.length*k.toNat:Nat):Int):=by
   rw[U0j,Int.natCast_mul,Int.toNat_of_nonneg (by omega)]
  have hs:(sizeLine:Nat)=16777216:=by decide
  refine call_meets U4l ⟨_,ho,rfl⟩ PySem.F.entry_tuple_mul (PySem.F.args_tuple_mul_2 _ _) (bw t its.toArray n d1 sl1 k u c0 ?_ ?_ ?_ ?_ ?_) ⟨ho,?_⟩
  .rw[ne];simp[k1]
  .rw[ne,decide_eq_false (by omega)];exact U05
  .rw[e];omega
  .rw[e]
   unfold Builtin.Tuple.tupleTooMany
   rw[decide_eq_true_eq]
   omega
  .rw[hnew,U0j,L2.len_rep,U6k];exact hz
  .rw[hnew];exact q2 k1
end
end HT
namespace L2
open PySem PySem.Spec PyProof.Rows
abbrev fZ:R2:=fun x y H Q=>∃(a:Addr)(k:Int)(xs:List V),x=.ref a/\y=.int k/\H a=some (.tup xs)/\xs≠[]/\1<=k/\k<2^60/\xs.length*k.toNat<=sizeLine/\∀p H',Same H H'->H' p=some (.tup (U0s k.toNat xs).flatten)->Q (.ref p) H'
section
variable{X:Cx}
theorem jE:OpR X (binaryOp .Mult) fZ:=by
 intro pins s σ H x y v u Q I rx ry h
 obtain⟨a,k,xs,rfl,rfl,ha,hne,k1,k2,hz,q⟩:=h
 cases rx
 obtain⟨t,rfl⟩:=ry
 obtain⟨its,r1,p1,_⟩:=I.tuple (SqT.of ha)
 refine HT.jK p1 (fun z=>hne (r1.Qm.mp z)) k1 k2 (by rw[←r1.length];exact hz) (fun e=>?_) (fun e=>?_)
 .refine⟨.ref a,H,I,rfl,q a H (Same.refl H) ?_⟩
  rw[e]
  simpa using ha
 .refine⟨.ref s.heap.objs.size,_,I.laid (t':=s.toks) (o:=.tup (U0s k.toNat xs).flatten) (fun b ob q=>U0b _ q) (U0m _) ?_,rfl,q _ _ (Di (I.hok.fresh (U0m _)) _) CZ⟩
  exact⟨by rw[len_rep,U6k];exact hz,_,r1.rep k.toNat,IsTup.new _ _⟩
end
section
variable{X:Cx}
end
section
variable{a:Addr}{H0:Hp}{σ:St}{te t1 t2:TE}{ta:TA}{d:PyData}{ds d1 d2:List PyData}{i j:Int}{K:U0a}
end
structure Wq(a q:Addr)(bs:List V)(H:Hp):Prop where
 w:Well H a
 at_:H q=some (.lst bs)
 ne:q≠a
section
variable{a q p:Addr}{bs:List V}{H H':Hp}
abbrev fu:R2:=fun x y H Q=>∃(a b:Addr)(xs ys:List V),x=.ref a/\y=.ref b/\H a=some (.tup xs)/\H b=some (.tup ys)/\xs.length+ys.length<=sizeLine/\∀p H',Same H H'->H' p=some (.tup (xs++ys))->Q (.ref p) H'
abbrev lR:V->Option Int->Option Int->Hp->VK->Prop:=fun x lo hi H Q=>∃(a:Addr)(xs:List V),x=.ref a/\H a=some (.tup xs)/\∀p H',Same H H'->H' p=some (.tup (Js xs lo hi))->Q (.ref p) H'
end
end L2
end
section
namespace L2
open PySem PySem.Spec PyProof.Rows
end L2
namespace Bc
open PySem PySem.Spec PyProof.Rows L2
def oF:PyData->Nat
 |.int 1=>20
 |.int 2=>10
 |.int 3=>6
 |_=>0
def tY(n:Nat):PyData->Bool
 |.tuple es=>decide (es.length=n)&&es.all bx
 |_=>false
end Bc
end
section
namespace L2
open PySem PySem.Spec PyProof.Rows
theorem Inv.Xg{X:Cx}{pins:List (Addr×Obj)}{σ:St}{H:Hp}{s:Shared}{h':Heap}{t':Nat}{fp:List Addr}(I:Inv X pins σ H s)(k:∀b o,b ∉ fp->s.heap.get? b=some o->h'.get? b=some o)(hf:∀b∈fp,Nz X pins H b) :
  Inv X pins σ H { s with heap:=h',toks:=t' }:=by
 have nit:∀b u,H b=some u->b ∉ fp:=fun b u e z=>by
  have:=(hf b z).1
  rw[this] at e
  cases e
 refine I.step (g':=s.gens) (d':=s.drawn) (ch:=fp) (fun b hb=>?_) (fun b o _ _ hc e _=>k b o hc e) (fun b o _ _ hc e _=>⟨o.slots,k b o hc e⟩) (fun _ _ _ _ n=>n) (fun b o hc e=>⟨o,k b o hc e⟩) (fun _ _ e=>e) (fun _ _ _ e=>e)
  (fun b ps e=>⟨#[],by rw[e];simp⟩) (fun m hm=>?_) (fun b u e=>?_) I.bare id
 .obtain⟨_,a2,_,a4,a5,a6⟩:=hf b hb
  exact⟨a4,a2,a5,a6⟩
 .obtain⟨o,es,ep,ho,r⟩:=hm
  exact⟨o,es,ep,k _ o (fun z=>(hf _ z).2.1 rfl) ho,r⟩
 .refine(I.hok b u e).stay (fun c v hc q=>k c v ?_ q) (fun _ q=>q) fun _ _ q=>q
  rcases hc with z|z
  .rw[z];exact nit b u e
  .exact nit c _ z
theorem Inv.qw{X:Cx}{pins:List (Addr×Obj)}{σ:St}{H:Hp}{s:Shared}{h':Heap}{t':Nat}{fp:List Addr}{x y:V}{u v:Value}(I:Inv X pins σ H s)(rx:RelV x u)(ry:RelV y v)
  (ht:h'.get? s.heap.objs.size=some { cls:=.type "tuple",data:=.seq #[u,v] }) (k:∀b o,b ∉ fp->s.heap.get? b=some o->h'.get? b=some o) (hf:∀b∈fp,Nz X pins H b) (hlt:∀b∈fp,b<s.heap.objs.size) :
  Inv X pins σ (upd H s.heap.objs.size (.tup [x,y])) { s with heap:=h',toks:=t' }:=by
 have I1:=I.laid (h':=s.heap.push { cls:=.type "tuple",data:=.seq #[u,v] }) (t':=s.toks) (a:=s.heap.objs.size) (o:=.tup [x,y]) (fun b ob q=>U0b _ q) (U0m _)
  ⟨(by decide:2<=sizeLine),[u,v],.cons rx (.cons ry .nil),IsTup.new _ _⟩
 refine Inv.Xg (s:={ s with heap:=s.heap.push { cls:=.type "tuple",data:=.seq #[u,v] } }) (h':=h') (t':=t') (fp:=fp) I1 (fun b o hb e=>?_) (fun b hb=>?_)
 .rcases Heap.get?_push_cases e with ⟨z1,z2⟩|z
  .rw[z1,z2]
   exact ht
  .exact k b o hb z
 .obtain⟨a1,a2,a3,a4,a5,a6⟩:=hf b hb
  exact⟨by rw[Bj (U0q (hlt b hb))];exact a1,a2,a3,a4,a5,a6⟩
section
variable{X:Cx}
end
end L2
end
section
set_option maxRecDepth 100000
namespace HT
open PySem PySem.Spec PyProof.Rows
section
variable{prog:Program}{w:World}{A:Around}{E:Value->Shared->Prop}{s:Shared}
theorem nextT{it t:Addr}{i:Nat}{ws:Array Value}{x:Value}{Q:Value->Shared->Prop}(c:s.heap.IsTupleIter it t i)(ct:s.heap.IsTuple t ws)(ex:ws[i]?=some x)
  (q:∀h',h'.IsTupleIter it t (i+1)->U0z it s.heap h'->Q x { s with heap:=h' }):wpAny (model prog w) A (U1d (.ref it)) Q E s:=by
 obtain⟨o,e0,e1,e2⟩:=id c
 obtain⟨ot,f0,_,nt,f1⟩:=ct
 unfold U1d
 refine U0 (wpAny_callSpecial?_slot (name:=U25 "__next__") c.typeIs U3b (U1w U3b c.typeIs PySem.F.entry_tuple_iterator_next ?_ (PySem.F.args_tuple_iterator_next_1 _)))
 refine(show wpAny _ _ (field (.ref it) 0 >>= _) _ _ s from U0 (U10 e0 e2 (x:=.ref t) rfl ?_))
 show wpAny _ _ (ite ((U17 t==U2e)=true) _ _) _ _ s
 rw[if_neg (by exact U05)]
 refine(show wpAny _ _ (field (.ref it) 1 >>= _) _ _ s from U0 (U10 e0 e2 (x:=.int i 0) rfl ?_))
 refine(show wpAny _ _ (seqItems? (.ref t) >>= _) _ _ s from U0 (U2j f0 f1 ?_))
 simp only[ex,U2x]
 refine U0 (U2w e0 e2 (by simp) (U0c ⟨x,rfl,U0c (q _ ⟨_,U11 _ e0 (Obj.isFreed_of_fields (Obj.data_mapFields e2 _)),(Obj.cls_mapFields ..).trans e1,?_⟩ (U1m ..))⟩))
 rw[Obj.data_mapFields e2]
 simp[rawInt]
theorem oA{it t:Addr}{i:Nat}{ws:Array Value}{Q:Value->Shared->Prop}(ha:A.handled=none)(c:s.heap.IsTupleIter it t i)(ct:s.heap.IsTuple t ws)(ex:ws[i]?=none)
  (q:∀h' e,U4y it s.heap h'->(∃o,h'.get? e=some o/\o.cls=.type "StopIteration")->E (.ref e) { s with heap:=h' }):wpAny (model prog w) A (U1d (.ref it)) Q E s:=by
 obtain⟨o,e0,e1,e2⟩:=id c
 obtain⟨ot,f0,_,nt,f1⟩:=ct
 unfold U1d
 refine U0 (wpAny_callSpecial?_slot (name:=U25 "__next__") c.typeIs U3b (U1w U3b c.typeIs PySem.F.entry_tuple_iterator_next ?_ (PySem.F.args_tuple_iterator_next_1 _)))
 refine(show wpAny _ _ (field (.ref it) 0 >>= _) _ _ s from U0 (U10 e0 e2 (x:=.ref t) rfl ?_))
 show wpAny _ _ (ite ((U17 t==U2e)=true) _ _) _ _ s
 rw[if_neg (by exact U05)]
 refine(show wpAny _ _ (field (.ref it) 1 >>= _) _ _ s from U0 (U10 e0 e2 (x:=.int i 0) rfl ?_))
 refine(show wpAny _ _ (seqItems? (.ref t) >>= _) _ _ s from U0 (U2j f0 f1 ?_))
 simp only[ex,U2x]
 refine U0 (U4v (U0 (U2w e0 e2 (by simp) (show wpAny _ _ (newExc (.type "StopIteration") [] >>= _) _ _ _ from U0 ?_))))
 simp only[newTuple,newExc]
 refine U0 (U15 (U0 (m:=firstArgMember _ _) (wpAny_of_eq (a:=U2e) (by first|rfl|(simp only[firstArgMember];rfl)) (U15 ?_ (by size_fits)))) (by size_fits))
 simp only[raiseNew]
 refine U0 (wpAny_handled ?_)
 rw[show A.in1.handled=none from ha]
 exact U0 (U0c (wpAny_throw (q _ _ (((U1m ..).extBut.push _).push _) ⟨_,U0p _ rfl,rfl⟩)))
theorem pG(ha:A.handled=none)(it t:Addr)(ne:t≠it)(ws:Array Value):Draws prog w A it [it,t] ws.size (fun i v=>ws[i]?=some v) (fun i h=>h.IsTupleIter it t i/\h.IsTuple t ws) where
 live:=fun _ _ st=>let ⟨o,e,_⟩:=st.1;⟨o,e⟩
 frame:=fun _ _ _ st k=>⟨st.1.at fun o e=>k it (by simp) o e,st.2.at fun o e=>k t (by simp) o e⟩
 item:=fun i s Q E hi st q=>nextT st.1 st.2 (x:=ws[i]) (by simp[hi]) fun h' c' sb=>q _ h' s.toks (by simp[hi]) ⟨c',st.2.extBut sb.extBut ne⟩ sb
 done:=fun s Q E st q=>oA ha st.1 st.2 (by simp) q
structure Apart(z TI TO i1 i2:Addr)(fp1 fp2:List Addr):Prop where
 a1:TI≠z
 a2:TO≠z
 a3:TI≠TO
 b1:∀b∈fp1,b≠z/\b≠TO/\b≠i2
 b2:∀b∈fp2,b≠z/\b≠TO/\b≠i1
 c1:i1≠z/\i1≠TO/\i1≠TI
 c2:i2≠z/\i2≠TO/\i2≠TI
 c3:i1≠i2
section
variable{z TI TO i1 i2:Addr}{fp1 fp2:List Addr}{n1 n2 k:Nat}{P1 P2:Nat->Value->Prop}{S1 S2:Nat->Heap->Prop}{a b:Value}
theorem sS{Q:Value->Shared->Prop}(D1:Draws prog w A i1 fp1 n1 P1 S1)(D2:Draws prog w A i2 fp2 n2 P2 S2)(D:Apart z TI TO i1 i2 fp1 fp2)(hZ:IsZip s.heap z TI TO .none)(hI:IsPair s.heap TI (.ref i1) (.ref i2))(hO:IsPair s.heap TO a b)
  (s1:S1 k s.heap) (s2:S2 k s.heap) (k1:k<n1) (k2:k<n2)
  (q:∀x y h' tk,P1 k x->P2 k y->IsZip h' z TI TO (rawInt s.heap.objs.size)->IsPair h' TO x y->S1 (k+1) h'->S2 (k+1) h'->IsPair h' s.heap.objs.size x y->h'.objs.size=s.heap.objs.size+1 ->
   (∀c o,c≠z->c≠TO->c≠i1->c≠i2->s.heap.get? c=some o->h'.get? c=some o)->Q (.ref s.heap.objs.size) { s with heap:=h',toks:=tk }) :
  wpAny (model prog w) A (Builtin.«zip.__next__» ⟨[.ref z],[]⟩) (fun fin s'=>∃v,fin=.done (.ret v)/\Q v s') E s:=by
 obtain⟨hp,g,d,tk0,os⟩:=s
 refine(show wpAny _ _ (field (.ref z) 2 >>= _) _ _ _ from U0 (U10 hZ rfl (x:=.bool false) rfl ?_))
 refine(show wpAny _ _ (field (.ref z) 3 >>= _) _ _ _ from U0 (U10 hZ rfl (x:=.ref TI) rfl (U0 (U2j hI rfl ?_))))
 refine(show wpAny _ _ (U1n (.ref z) >>= _) _ _ _ from U0 ?_)
 unfold U1n
 refine U0 (U10 hZ rfl (x:=.none) rfl (U0c ?_))
 simp only[if_true]
 refine U0 (U4v (U0 (U10 hZ rfl (x:=.ref TO) rfl (U0 (U3d hZ (by simp) fun g1 z1 m1=>?_)))))
 replace z1:IsZip g1 z TI TO .ellipsis:=z1
 replace m1:U0z z hp g1:=m1
 refine U0 ?_
 simp only[U6m,List.zipIdx_nil,U3r,U5d]
 have t1:S1 k g1:=D1.frame _ _ _ s1 fun c hc o e=>m1.extBut _ _ (D.b1 c hc).1 e
 have u1:S2 k g1:=D2.frame _ _ _ s2 fun c hc o e=>m1.extBut _ _ (D.b2 c hc).1 e
 refine U0 (U0 (U5r (show wpAny _ _ (U1d (.ref i1) >>= _) _ _ _ from U0 (D1.item k ⟨g1,g,d,tk0,os⟩ _ _ k1 t1 fun x g2 tk1 px t2 m2=>U0c ?_))))
 replace m2:U0z i1 g1 g2:=m2
 have o2:IsPair g2 TO a b:=m2.extBut _ _ (U1j D.c1.2.1) (m1.extBut _ _ D.a2 hO)
 refine U0 (U2j o2 rfl (U0 (U51 o2 fun g3 o3 m3=>?_)))
 replace o3:IsPair g3 TO x b:=o3
 replace m3:U0z TO g2 g3:=m3
 have u3:S2 k g3:=D2.frame _ _ _ u1 fun c hc o e=>m3.extBut _ _ (D.b2 c hc).2.1 (m2.extBut _ _ (D.b2 c hc).2.2 e)
 refine U0 (U6v (U0c ?_))
 refine U0 (U0 (U5r (show wpAny _ _ (U1d (.ref i2) >>= _) _ _ _ from U0 (D2.item k ⟨g3,g,d,tk1,os⟩ _ _ k2 u3 fun y g4 tk2 py u4 m4=>U0c ?_))))
 replace m4:U0z i2 g3 g4:=m4
 have o4:IsPair g4 TO x b:=m4.extBut _ _ (U1j D.c2.2.1) o3
 refine U0 (U2j o4 rfl (U0 (U51 o4 fun g5 o5 m5=>?_)))
 replace o5:IsPair g5 TO x y:=o5
 replace m5:U0z TO g4 g5:=m5
 refine U0 (U6v (U0c (U0c (U0 (U2j o5 rfl (U0 (U60 ?_)))))))
 have sz:g5.objs.size=hp.objs.size:=by rw[m5.1,m4.1,m3.1,m2.1,m1.1]
 have z5:IsZip g5 z TI TO .ellipsis:=m5.extBut _ _ (U1j D.a2) (m4.extBut _ _ (U1j D.c2.1) (m3.extBut _ _ (U1j D.a2) (m2.extBut _ _ (U1j D.c1.1) z1)))
 have kk:∀c o,c≠z->c≠TO->c≠i1->c≠i2->hp.get? c=some o->g5.get? c=some o:=fun c o n1 n2 n3 n4 e=>m5.extBut _ _ n2 (m4.extBut _ _ n4 (m3.extBut _ _ n2 (m2.extBut _ _ n3 (m1.extBut _ _ n1 e))))
 have lz:z<g5.objs.size:=U0k z5
 refine(show wpAny _ _ (Builtin.SmallTypes.ownedTupleHandOut (.ref z) (.ref g5.objs.size) >>= _) _ _ _ from U0 ?_)
 unfold Builtin.SmallTypes.ownedTupleHandOut
 have z6:IsZip (g5.push { cls:=.type "tuple",data:=.seq #[x,y] }) z TI TO .ellipsis:=U0b _ z5
 refine U0 (U3d z6 (by simp) fun g7 z7 m7=>?_)
 replace z7:IsZip g7 z TI TO (rawInt g5.objs.size):=z7
 refine U3d z7 (by simp) fun g8 z8 m8=>?_
 replace z8:IsZip g8 z TI TO (rawInt g5.objs.size):=z8
 have up:∀c o,c≠z->g5.get? c=some o->g8.get? c=some o:=fun c o n e=>m8.extBut _ _ n (m7.extBut _ _ n (U0b _ e))
 have p8:IsPair g8 g5.objs.size x y:=m8.extBut _ _ (U1o lz) (m7.extBut _ _ (U1o lz) (U0p _ rfl))
 have w8:g8.objs.size=g5.objs.size+1:=by rw[m8.1,m7.1,U1y]
 rw[sz] at z8 p8 w8
 refine U0c ⟨_,rfl,?_⟩
 show Q (.ref g5.objs.size) _
 rw[sz]
 refine q x y g8 tk2 px py z8 (up _ _ D.a2 o5) ?_ ?_ p8 w8 fun c o n1 n2 n3 n4 e=>up c o n1 (kk c o n1 n2 n3 n4 e)
 .exact D1.frame _ _ _ t2 fun c hc o e=>up _ _ (D.b1 c hc).1 (m5.extBut _ _ (D.b1 c hc).2.1 (m4.extBut _ _ (D.b1 c hc).2.2 (m3.extBut _ _ (D.b1 c hc).2.1 e)))
 .exact D2.frame _ _ _ u4 fun c hc o e=>up _ _ (D.b2 c hc).1 (m5.extBut _ _ (D.b2 c hc).2.1 e)
theorem sU{Q:PySem.Fin->Shared->Prop}(D1:Draws prog w A i1 fp1 n1 P1 S1)(D2:Draws prog w A i2 fp2 n2 P2 S2)(D:Apart z TI TO i1 i2 fp1 fp2)(hZ:IsZip s.heap z TI TO .none)(hI:IsPair s.heap TI (.ref i1) (.ref i2))(hO:IsPair s.heap TO a b)
  (s1:S1 k s.heap) (s2:S2 k s.heap) (ke:k=n1∨(k<n1/\k=n2))
  (q:∀h' e tk,(∀c o,c≠z->c≠TO->c≠i1->c≠i2->s.heap.get? c=some o->h'.get? c=some o)->(∃o,h'.get? e=some o/\o.cls=.type "StopIteration")->E (.ref e) { s with heap:=h',toks:=tk }) :
  wpAny (model prog w) A (Builtin.«zip.__next__» ⟨[.ref z],[]⟩) Q E s:=by
 obtain⟨hp,g,d,tk0,os⟩:=s
 refine(show wpAny _ _ (field (.ref z) 2 >>= _) _ _ _ from U0 (U10 hZ rfl (x:=.bool false) rfl ?_))
 refine(show wpAny _ _ (field (.ref z) 3 >>= _) _ _ _ from U0 (U10 hZ rfl (x:=.ref TI) rfl (U0 (U2j hI rfl ?_))))
 refine(show wpAny _ _ (U1n (.ref z) >>= _) _ _ _ from U0 ?_)
 unfold U1n
 refine U0 (U10 hZ rfl (x:=.none) rfl (U0c ?_))
 simp only[if_true]
 refine U0 (U4v (U0 (U10 hZ rfl (x:=.ref TO) rfl (U0 (U3d hZ (by simp) fun g1 z1 m1=>?_)))))
 replace z1:IsZip g1 z TI TO .ellipsis:=z1
 replace m1:U0z z hp g1:=m1
 refine U0 ?_
 simp only[U6m,List.zipIdx_nil,U3r,U5d]
 have t1:S1 k g1:=D1.frame _ _ _ s1 fun c hc o e=>m1.extBut _ _ (D.b1 c hc).1 e
 have u1:S2 k g1:=D2.frame _ _ _ s2 fun c hc o e=>m1.extBut _ _ (D.b2 c hc).1 e
 rcases ke with ke|⟨k1,ke⟩
 .subst ke
  refine U0 (U0 (U5r (show wpAny _ _ (U1d (.ref i1) >>= _) _ _ _ from U0 (D1.done ⟨g1,g,d,tk0,os⟩ _ _ t1 fun g2 e m2 he=>?_))))
  obtain⟨oe,he1,he2⟩:=he
  replace m2:U4y i1 g1 g2:=m2
  have z2:IsZip g2 z TI TO .ellipsis:=m2 _ _ (U1j D.c1.1) z1
  have ez:e≠z:=fun x=>by subst x;rw[z2] at he1;cases he1;simp at he2
  exact U3d z2 (by simp) fun g3 _ m3=>q g3 e _ (fun c o n1 _ n3 _ x=>m3.extBut _ _ n1 (m2 _ _ n3 (m1.extBut _ _ n1 x))) ⟨oe,m3.extBut _ _ ez he1,he2⟩
 .refine U0 (U0 (U5r (show wpAny _ _ (U1d (.ref i1) >>= _) _ _ _ from U0 (D1.item k ⟨g1,g,d,tk0,os⟩ _ _ k1 t1 fun x g2 tk1 px t2 m2=>U0c ?_))))
  replace m2:U0z i1 g1 g2:=m2
  have o2:IsPair g2 TO a b:=m2.extBut _ _ (U1j D.c1.2.1) (m1.extBut _ _ D.a2 hO)
  refine U0 (U2j o2 rfl (U0 (U51 o2 fun g3 o3 m3=>?_)))
  replace m3:U0z TO g2 g3:=m3
  have u3:S2 k g3:=D2.frame _ _ _ u1 fun c hc o e=>m3.extBut _ _ (D.b2 c hc).2.1 (m2.extBut _ _ (D.b2 c hc).2.2 e)
  rw[ke] at u3
  refine U0 (U6v (U0c ?_))
  refine U0 (U0 (U5r (show wpAny _ _ (U1d (.ref i2) >>= _) _ _ _ from U0 (D2.done ⟨g3,g,d,tk1,os⟩ _ _ u3 fun g4 e m4 he=>?_))))
  obtain⟨oe,he1,he2⟩:=he
  replace m4:U4y i2 g3 g4:=m4
  have z4:IsZip g4 z TI TO .ellipsis:=m4 _ _ (U1j D.c2.1) (m3.extBut _ _ (U1j D.a2) (m2.extBut _ _ (U1j D.c1.1) z1))
  have ez:e≠z:=fun x=>by subst x;rw[z4] at he1;cases he1;simp at he2
  exact U3d z4 (by simp) fun g5 _ m5=>q g5 e _ (fun c o n1 n2 n3 n4 x=>m5.extBut _ _ n1 (m4 _ _ n4 (m3.extBut _ _ n2 (m2.extBut _ _ n3 (m1.extBut _ _ n1 x))))) ⟨oe,m5.extBut _ _ ez he1,he2⟩
theorem Xc{Q:Option Value->Shared->Prop}(D1:Draws prog w A.in1 i1 fp1 n1 P1 S1)(D2:Draws prog w A.in1 i2 fp2 n2 P2 S2)(D:Apart z TI TO i1 i2 fp1 fp2)(hZ:IsZip s.heap z TI TO .none)(hI:IsPair s.heap TI (.ref i1) (.ref i2))(hO:IsPair s.heap TO a b)
  (s1:S1 k s.heap) (s2:S2 k s.heap) (k1:k<n1) (k2:k<n2)
  (q:∀x y h' tk,P1 k x->P2 k y->IsZip h' z TI TO (rawInt s.heap.objs.size)->IsPair h' TO x y->S1 (k+1) h'->S2 (k+1) h'->IsPair h' s.heap.objs.size x y->h'.objs.size=s.heap.objs.size+1 ->
   (∀c o,c≠z->c≠TO->c≠i1->c≠i2->s.heap.get? c=some o->h'.get? c=some o)->Q (some (.ref s.heap.objs.size)) { s with heap:=h',toks:=tk }) :
  wpAny (model prog w) A (pyNext (.ref z)) Q E s:=by
 have T:s.TypeIs (.ref z) "zip":=⟨_,hZ,rfl⟩
 unfold pyNext
 exact U0 (U3t (wpAny_callSpecial?_slot (name:=U25 "__next__") T U2g (U1w U2g T U4m (sS D1 D2 D hZ hI hO s1 s2 k1 k2 fun x y h' tk c1 c2 c3 c4 c5 c6 c7 c8 c9=>U0c (q x y h' tk c1 c2 c3 c4 c5 c6 c7 c8 c9)) (U4 _))))
theorem Xb{Q:Option Value->Shared->Prop}(D1:Draws prog w A.in1 i1 fp1 n1 P1 S1)(D2:Draws prog w A.in1 i2 fp2 n2 P2 S2)(D:Apart z TI TO i1 i2 fp1 fp2)(hZ:IsZip s.heap z TI TO .none)(hI:IsPair s.heap TI (.ref i1) (.ref i2))(hO:IsPair s.heap TO a b)
  (s1:S1 k s.heap) (s2:S2 k s.heap) (ke:k=n1∨(k<n1/\k=n2))
  (q:∀h' tk,(∀c o,c≠z->c≠TO->c≠i1->c≠i2->s.heap.get? c=some o->h'.get? c=some o)->Q none { s with heap:=h',toks:=tk }):wpAny (model prog w) A (pyNext (.ref z)) Q E s:=by
 have T:s.TypeIs (.ref z) "zip":=⟨_,hZ,rfl⟩
 unfold pyNext
 refine U0 (U3t (wpAny_callSpecial?_slot (name:=U25 "__next__") T U2g (U1w U2g T U4m (sU D1 D2 D hZ hI hO s1 s2 ke fun h' e tk kk he=>?_) (U4 _))))
 obtain⟨o,e1,e2⟩:=he
 exact U0 (U4w (T:="StopIteration") (b:=true) ⟨o,e1,e2⟩ isSubtype_stop (U0c (q h' tk kk)))
end
abbrev itO(c:String)(l:Addr):Obj:={ cls:=.type c,data:=.fields #[.ref l,.int 0 0] }
abbrev zt1(c1:String)(h:Heap)(l1:Addr):Heap:=h.push (itO c1 l1)
abbrev zt2(c1 c2:String)(h:Heap)(l1 l2:Addr):Heap:=(zt1 c1 h l1).push (itO c2 l2)
abbrev zt3(c1 c2:String)(h:Heap)(l1 l2:Addr):Heap:=(zt2 c1 c2 h l1 l2).push { cls:=.type "tuple",data:=.seq #[.ref h.objs.size,.ref (zt1 c1 h l1).objs.size] }
abbrev zt4(c1 c2:String)(h:Heap)(l1 l2:Addr):Heap:=(zt3 c1 c2 h l1 l2).push { cls:=.type "tuple",data:=.seq #[.none,.none] }
abbrev zt5(c1 c2:String)(h:Heap)(l1 l2:Addr):Heap:=(zt4 c1 c2 h l1 l2).push { cls:=.type "zip",data:=.fields #[.none,.bool false,.bool false,.ref (zt2 c1 c2 h l1 l2).objs.size,.ref (zt3 c1 c2 h l1 l2).objs.size] }
theorem gR(l1 l2:Addr)(xs ys:Array Value):Meets (Builtin.«zip.__new__» ⟨[.type "zip",.ref l1,.ref l2],[]⟩) (fun _ R s=>s.heap.IsTuple l1 xs/\s.heap.IsTuple l2 ys/\R (.ok (.ret (.ref (zt4 "tuple_iterator" "tuple_iterator" s.heap l1 l2).objs.size))) { s with heap:=zt5 "tuple_iterator" "tuple_iterator" s.heap l1 l2 }) :=
 .of_wp fun prog w A R s h=>by
  obtain⟨hp,g,d,tk,os⟩:=s
  obtain⟨e1,e2,h⟩:=h
  have sub:=sub_zip
  have T1:U5a (U6 ⟨hp,g,d,tk,os⟩) l1 xs:=e1
  have T2:U5a (U6 ⟨hp.push { cls:=.type "tuple_iterator",data:=.fields #[.ref l1,.int 0 0] },g,d,tk,os⟩) l2 ys:=U5a.push e2 _
  wp_walk using U5b T1,U5b T2
  exact⟨_,rfl,h⟩
theorem gU(l1 l2:Addr)(xs ys:Array Value):Meets (Builtin.«zip.__new__» ⟨[.type "zip",.ref l1,.ref l2],[]⟩) (fun _ R s=>s.heap.IsList l1 xs/\s.heap.IsTuple l2 ys/\R (.ok (.ret (.ref (zt4 "list_iterator" "tuple_iterator" s.heap l1 l2).objs.size))) { s with heap:=zt5 "list_iterator" "tuple_iterator" s.heap l1 l2 }) :=
 .of_wp fun prog w A R s h=>by
  obtain⟨hp,g,d,tk,os⟩:=s
  obtain⟨e1,e2,h⟩:=h
  have sub:=sub_zip
  have T1:Heap.IsList (U6 ⟨hp,g,d,tk,os⟩) l1 xs:=e1
  have T2:U5a (U6 ⟨hp.push { cls:=.type "list_iterator",data:=.fields #[.ref l1,.int 0 0] },g,d,tk,os⟩) l2 ys:=U5a.push e2 _
  wp_walk using U4o T1,U5b T2
  exact⟨_,rfl,h⟩
theorem WM{c1 c2:String}{l1 l2:Addr}{P1 P2:Heap->Prop}{Q:Value->Shared->Prop}(m:Meets (Builtin.«zip.__new__» ⟨[.type "zip",.ref l1,.ref l2],[]⟩) (fun _ R s=>P1 s.heap/\P2 s.heap/\R (.ok (.ret (.ref (zt4 c1 c2 s.heap l1 l2).objs.size))) { s with heap:=zt5 c1 c2 s.heap l1 l2 }))(e1:P1 s.heap)(e2:P2 s.heap)
  (q:∀h',IsZip h' (s.heap.objs.size+4) (s.heap.objs.size+2) (s.heap.objs.size+3) .none->IsPair h' (s.heap.objs.size+2) (.ref s.heap.objs.size) (.ref (s.heap.objs.size+1))->IsPair h' (s.heap.objs.size+3) .none .none ->
   h'.get? s.heap.objs.size=some (itO c1 l1)->h'.get? (s.heap.objs.size+1)=some (itO c2 l2)->(∀c o,s.heap.get? c=some o->h'.get? c=some o)->Q (.ref (s.heap.objs.size+4)) { s with heap:=h' }) :
  wpAny (model prog w) A (call (.type "zip") [.ref l1,.ref l2]) Q E s:=by
 refine callType_new PySem.F.called_zip (by decide) (PySem.F.typeCall_zip_2 _ _) (PySem.F.newCall_zip_2 _ _) (fun obj=>PySem.F.args_object_init_3 obj _ _) PySem.F.entry_zip_new m ⟨e1,e2,?_⟩
 have z1:(zt1 c1 s.heap l1).objs.size=s.heap.objs.size+1:=U1y ..
 have z2:(zt2 c1 c2 s.heap l1 l2).objs.size=s.heap.objs.size+2:=by rw[U1y,z1]
 have z3:(zt3 c1 c2 s.heap l1 l2).objs.size=s.heap.objs.size+3:=by rw[U1y,z2]
 have z4:(zt4 c1 c2 s.heap l1 l2).objs.size=s.heap.objs.size+4:=by rw[U1y,z3]
 have g5:(zt5 c1 c2 s.heap l1 l2).get? (zt4 c1 c2 s.heap l1 l2).objs.size=some _:=U0p _ rfl
 have g4:(zt5 c1 c2 s.heap l1 l2).get? (zt3 c1 c2 s.heap l1 l2).objs.size=some _:=U0b _ (U0p _ rfl)
 have g3:(zt5 c1 c2 s.heap l1 l2).get? (zt2 c1 c2 s.heap l1 l2).objs.size=some _:=U0b _ (U0b _ (U0p _ rfl))
 have g2:(zt5 c1 c2 s.heap l1 l2).get? (zt1 c1 s.heap l1).objs.size=some _:=U0b _ (U0b _ (U0b _ (U0p _ rfl)))
 have g1:(zt5 c1 c2 s.heap l1 l2).get? s.heap.objs.size=some _:=U0b _ (U0b _ (U0b _ (U0b _ (U0p _ rfl))))
 have kk:∀c o,s.heap.get? c=some o->(zt5 c1 c2 s.heap l1 l2).get? c=some o:=fun c o e=>U0b _ (U0b _ (U0b _ (U0b _ (U0b _ e))))
 show _/\_
 rw[z2,z3,z4] at g5
 rw[z1,z2] at g3
 rw[z3] at g4
 rw[z1] at g2
 have Z:IsZip (zt5 c1 c2 s.heap l1 l2) (s.heap.objs.size+4) (s.heap.objs.size+2) (s.heap.objs.size+3) .none:=g5
 rw[z4]
 exact⟨⟨_,Z,rfl⟩,q _ Z g3 g4 g1 g2 kk⟩
theorem WL{l1 l2:Addr}{xs ys:Array Value}{Q:Value->Shared->Prop}(e1:s.heap.IsTuple l1 xs)(e2:s.heap.IsTuple l2 ys)
  (q:∀h',IsZip h' (s.heap.objs.size+4) (s.heap.objs.size+2) (s.heap.objs.size+3) .none->IsPair h' (s.heap.objs.size+2) (.ref s.heap.objs.size) (.ref (s.heap.objs.size+1))->IsPair h' (s.heap.objs.size+3) .none .none ->
   h'.IsTupleIter s.heap.objs.size l1 0->h'.IsTupleIter (s.heap.objs.size+1) l2 0->(∀c o,s.heap.get? c=some o->h'.get? c=some o)->Q (.ref (s.heap.objs.size+4)) { s with heap:=h' }) :
  wpAny (model prog w) A (call (.type "zip") [.ref l1,.ref l2]) Q E s :=
 WM (P1:=fun h=>h.IsTuple l1 xs) (P2:=fun h=>h.IsTuple l2 ys) (gR l1 l2 xs ys) e1 e2 fun h' c1 c2 c3 c4 c5 k=>q h' c1 c2 c3 ⟨_,c4,rfl,rfl⟩ ⟨_,c5,rfl,rfl⟩ k
theorem fM{l1 l2:Addr}{xs ys:Array Value}{Q:Value->Shared->Prop}(e1:s.heap.IsList l1 xs)(e2:s.heap.IsTuple l2 ys)
  (q:∀h',IsZip h' (s.heap.objs.size+4) (s.heap.objs.size+2) (s.heap.objs.size+3) .none->IsPair h' (s.heap.objs.size+2) (.ref s.heap.objs.size) (.ref (s.heap.objs.size+1))->IsPair h' (s.heap.objs.size+3) .none .none ->
   h'.IsListIter s.heap.objs.size l1 0->h'.IsTupleIter (s.heap.objs.size+1) l2 0->(∀c o,s.heap.get? c=some o->h'.get? c=some o)->Q (.ref (s.heap.objs.size+4)) { s with heap:=h' }) :
  wpAny (model prog w) A (call (.type "zip") [.ref l1,.ref l2]) Q E s :=
 WM (P1:=fun h=>h.IsList l1 xs) (P2:=fun h=>h.IsTuple l2 ys) (gU l1 l2 xs ys) e1 e2 fun h' c1 c2 c3 c4 c5 k=>q h' c1 c2 c3 ⟨_,c4,rfl,rfl⟩ ⟨_,c5,rfl,rfl⟩ k
end
end HT
end
section
namespace L2
open PySem PySem.Spec PyProof.Rows
def HB(L:Bool)(xs:List V):HO:=if L=true then .lst xs else .tup xs
theorem HB.inj{L:Bool}{xs ys:List V}(h:HB L xs=HB L ys):xs=ys:=by cases L<;>cases h<;>rfl
def Itz(L M:Bool)(a b:Addr):It :=
 ⟨fun i H=>∃xs ys x y,H a=some (HB L xs)/\H b=some (HB M ys)/\xs[i]?=some x/\ys[i]?=some y,
  fun i H v H'=>∃p x y,H p=none/\v=.ref p/\H'=upd H p (.tup [x,y])/\(∀xs,H a=some (HB L xs)->xs[i]?=some x)/\∀ys,H b=some (HB M ys)->ys[i]?=some y,
  fun i H=>∃xs ys,H a=some (HB L xs)/\H b=some (HB M ys)/\(i=xs.length∨(i<xs.length/\i=ys.length))⟩
def Jd(L:Bool)(h:Heap)(it a:Addr)(i:Nat):Prop:=if L=true then h.IsListIter it a i else h.IsTupleIter it a i
def YX(L:Bool)(h:Heap)(a:Addr)(ws:Array Value):Prop:=if L=true then h.IsList a ws else h.IsTuple a ws
theorem OD{prog:Program}{w:World}{A:Around}(L:Bool)(ha:A.handled=none)(it t:Addr)(ne:t≠it)(ws:Array Value):Draws prog w A it [it,t] ws.size (fun i v=>ws[i]?=some v) (fun i h=>Jd L h it t i/\YX L h t ws):=by
 cases L with
 |true=>exact Draws.list ha it t ne ws
 |false=>exact HT.pG ha it t ne ws
theorem Jd.at{L:Bool}{h h':Heap}{it a:Addr}{i:Nat}(x:Jd L h it a i)(k:∀o,h.get? it=some o->h'.get? it=some o):Jd L h' it a i:=by
 cases L with
 |true=>exact Heap.IsListIter.at x k
 |false=>exact Heap.IsTupleIter.at x k
theorem Jd.obj{L:Bool}{h:Heap}{it a:Addr}{i:Nat}(x:Jd L h it a i):∃o vs,h.get? it=some o/\o.data=.fields vs:=by
 cases L with
 |true=>obtain⟨o,e,_,d⟩:=(show h.IsListIter it a i from x);exact⟨o,_,e,d⟩
 |false=>obtain⟨o,e,_,d⟩:=(show h.IsTupleIter it a i from x);exact⟨o,_,e,d⟩
theorem Inv.Pq{X:Cx}{pins:List (Addr×Obj)}{σ:St}{H:Hp}{s:Shared}{L:Bool}{a:Addr}{xs:List V}(I:Inv X pins σ H s)(h:H a=some (HB L xs)):∃its:List Value,Vals xs its/\YX L s.heap a its.toArray:=by
 cases L with
 |true=>obtain⟨its,rv,p,_⟩:=I.list (SqL.of h);exact⟨its,rv,p.isList⟩
 |false=>obtain⟨its,rv,p,_⟩:=I.tuple (SqT.of h);exact⟨its,rv,p⟩
def rQ(L M:Bool)(a b z TI TO i1 i2:Addr)(i:Nat)(h:Heap):Prop:=IsZip h z TI TO .none/\IsPair h TI (.ref i1) (.ref i2)/\(∃c d,IsPair h TO c d)/\Jd L h i1 a i/\Jd M h i2 b i
theorem Rk{z TI TO i1 i2 a b:Addr}(d1:TI≠z)(d2:TO≠z)(d3:TI≠TO)(d4:i1≠z/\i1≠TO/\i1≠TI)(d5:i2≠z/\i2≠TO/\i2≠TI)(d6:i1≠i2)(na:a ∉ [z,TI,TO,i1,i2])(nb:b ∉ [z,TI,TO,i1,i2]):HT.Apart z TI TO i1 i2 [i1,a] [i2,b] where
 a1:=d1
 a2:=d2
 a3:=d3
 b1:=fun c hc=>by
  simp only[U0t,U1x,or_false,not_or] at hc na
  rcases hc with rfl|rfl
  .exact⟨d4.1,d4.2.1,d6⟩
  .exact⟨na.1,na.2.2.1,na.2.2.2.2⟩
 b2:=fun c hc=>by
  simp only[U0t,U1x,or_false,not_or] at hc nb
  rcases hc with rfl|rfl
  .exact⟨d5.1,d5.2.1,U1j d6⟩
  .exact⟨nb.1,nb.2.2.1,nb.2.2.2.1⟩
 c1:=d4
 c2:=d5
 c3:=d6
theorem bh{P:Program}{w:World}{K:U0a}{elts:List Expr}{x1:Nat}{pos:Pos}(L M:Bool)(a b z TI TO i1 i2:Addr)(d1:TI≠z)(d2:TO≠z)(d3:TI≠TO)(d4:i1≠z/\i1≠TO/\i1≠TI)(d5:i2≠z/\i2≠TO/\i2≠TI)(d6:i1≠i2) :
  Turn P w K (.Tuple elts x1 pos) (Itz L M a b) [z,TI,TO,i1,i2] z (rQ L M a b z TI TO i1 i2) where
 mem:=by simp
 obj:=fun i h st c hc=>by
  obtain⟨h1,h2,⟨c',d',h3⟩,h4,h5⟩:=st
  simp only[U0t,U1x,or_false] at hc
  rcases hc with rfl|rfl|rfl|rfl|rfl
  .exact⟨_,h1,fun v q=>by cases q⟩
  .exact⟨_,h2,fun v q=>by cases q⟩
  .exact⟨_,h3,fun v q=>by cases q⟩
  .obtain⟨o,vs,e,d⟩:=h4.obj
   exact⟨o,e,fun v q=>by rw[d] at q;cases q⟩
  .obtain⟨o,vs,e,d⟩:=h5.obj
   exact⟨o,e,fun v q=>by rw[d] at q;cases q⟩
 keep:=fun i h h' st k=>by
  obtain⟨h1,h2,⟨c',d',h3⟩,h4,h5⟩:=st
  exact⟨k z (by simp) _ h1,k TI (by simp) _ h2,⟨c',d',k TO (by simp) _ h3⟩,h4.at fun o q=>k i1 (by simp) o q,h5.at fun o q=>k i2 (by simp) o q⟩
 item:=by
  intro X hP hw hK hc i pins s σ H E I hf st hg
  subst hP hw hK
  obtain⟨xs,ys,x,y,hq1,hq2,hx,hy⟩:=hg
  obtain⟨its1,rv1,p1⟩:=I.Pq hq1
  obtain⟨its2,rv2,p2⟩:=I.Pq hq2
  obtain⟨u,hu,ru⟩:=rv1.get hx
  obtain⟨v,hv,rv⟩:=rv2.get hy
  obtain⟨h1,h2,⟨c',d',h3⟩,h4,h5⟩:=st
  have lt:∀c∈[z,TI,TO,i1,i2],c<s.heap.objs.size:=fun c hc=>by
   simp only[U0t,U1x,or_false] at hc
   rcases hc with rfl|rfl|rfl|rfl|rfl
   .exact U0k h1
   .exact U0k h2
   .exact U0k h3
   .obtain⟨o,vs,e,_⟩:=h4.obj;exact U0k e
   .obtain⟨o,vs,e,_⟩:=h5.obj;exact U0k e
  have na:a ∉ [z,TI,TO,i1,i2]:=fun q=>by rw[(hf a q).1] at hq1;cases hq1
  have nb:b ∉ [z,TI,TO,i1,i2]:=fun q=>by rw[(hf b q).1] at hq2;cases hq2
  have ap:=Rk d1 d2 d3 d4 d5 d6 na nb
  have hh:X.A.in1.handled=none:=I.ok.hd hc
  refine HT.Xc (OD L hh i1 a (fun q=>na (by simp[q])) its1.toArray) (OD M hh i2 b (fun q=>nb (by simp[q])) its2.toArray) ap h1 h2 h3 ⟨h4,p1⟩ ⟨h5,p2⟩ (by rw[U0j];exact(U0h.mp hu).1) (by rw[U0j];exact(U0h.mp hv).1)
   fun x' y' h' tk q1 q2 z' o' s1' s2' tp sz k=>⟨_,rfl,?_⟩
  have q1':its1[i]?=some x':=by simpa using q1
  have q2':its2[i]?=some y':=by simpa using q2
  rw[hu] at q1'
  rw[hv] at q2'
  cases q1'
  cases q2'
  refine wpAny_letOwnedTupleGo_zip z' fun h3' z2 sb=>?_
  have sb':U0z z h' h3':=sb
  have nz:s.heap.objs.size≠z:=U1o (lt z (by simp))
  have J:=I.qw (h':=h3') (t':=tk) (fp:=[z,TI,TO,i1,i2]) (x:=x) (y:=y) ru rv (sb'.extBut _ _ nz tp) (fun c o hc q=>by
   simp only[U0t,U1x,or_false,not_or] at hc
   exact sb'.extBut _ _ hc.1 (k c o hc.1 hc.2.2.1 hc.2.2.2.1 hc.2.2.2.2 q)) hf lt
  refine⟨.ref s.heap.objs.size,_,J,rfl,⟨_,x,y,I.hok.fresh (U0m _),rfl,rfl,fun zs hz=>?_,fun zs hz=>?_⟩,⟨z2,?_,⟨_,_,sb'.extBut _ _ d2 o'⟩,s1'.1.at fun o q=>sb'.extBut _ _ d4.1 q,s2'.1.at fun o q=>sb'.extBut _ _ d5.1 q⟩,fun c hc=>?_⟩
  .rw[hq1] at hz
   rw[←HB.inj (U0w hz)]
   exact hx
  .rw[hq2] at hz
   rw[←HB.inj (U0w hz)]
   exact hy
  .exact sb'.extBut _ _ d1 (k TI _ d1 d3 (U1j d4.2.2) (U1j d5.2.2) h2)
  .rw[Bj (U0q (lt c hc))]
   exact(hf c hc).1
 done:=by
  intro X hP hw hK hc i pins s σ H E I hf st hg
  subst hP hw hK
  obtain⟨xs,ys,hq1,hq2,ke⟩:=hg
  obtain⟨its1,rv1,p1⟩:=I.Pq hq1
  obtain⟨its2,rv2,p2⟩:=I.Pq hq2
  obtain⟨h1,h2,⟨c',d',h3⟩,h4,h5⟩:=st
  have na:a ∉ [z,TI,TO,i1,i2]:=fun q=>by rw[(hf a q).1] at hq1;cases hq1
  have nb:b ∉ [z,TI,TO,i1,i2]:=fun q=>by rw[(hf b q).1] at hq2;cases hq2
  have hh:X.A.in1.handled=none:=I.ok.hd hc
  refine HT.Xb (OD L hh i1 a (fun q=>na (by simp[q])) its1.toArray) (OD M hh i2 b (fun q=>nb (by simp[q])) its2.toArray) (Rk d1 d2 d3 d4 d5 d6 na nb) h1 h2 h3 ⟨h4,p1⟩ ⟨h5,p2⟩ (by rw[U0j,U0j,←rv1.length,←rv2.length];exact ke)
   fun h' tk k=>⟨rfl,I.Xg (t':=tk) (fp:=[z,TI,TO,i1,i2]) (fun c o hc q=>?_) hf⟩
  simp only[U0t,U1x,or_false,not_or] at hc
  exact k c o hc.1 hc.2.2.1 hc.2.2.2.1 hc.2.2.2.2 q
 self:=fun _ _ _ _ _ st h=>wpAny_pyIter_zip st.1 h
abbrev tW(L M:Bool)(ta:TA):TI:=fun σ H R=>ta σ H fun vs H1=>∃a b xs ys,vs=[.ref a,.ref b]/\H1 a=some (HB L xs)/\H1 b=some (HB M ys)/\R (Itz L M a b) H1
section
variable{X:Cx}
theorem Vg(L M:Bool)(hLM:L=M∨(L=true/\M=false)){a b:Expr}{ta:TA}{p pos:Pos}{elts:List Expr}{x1:Nat}{tpos:Pos}(hg:Gl X "zip")(hm:X.mg "zip"=none)(ha:PA X [a,b] ta)(hs:starEach [a,b] X.env=[(false,eval a X.env),(false,eval b X.env)]:=by rfl)(hs2:starEach [b] X.env=[(false,eval b X.env)]:=by rfl) :
  PI X (.Tuple elts x1 tpos) (.Call (.Name "zip" p) [a,b] [] pos) (tW L M ta):=by
 intro pins s σ H R I h
 refine Call_ (Ms I hg hm (by decide +kernel:bootBuiltins "zip"=some (.type "zip")) (U23 (thn (ha pos pins s σ H _ I h) fun us s1 ⟨vs,H1,I1,r1,q1⟩=>?_) (by rw[hs,hs2]) (by rw[hs2];rfl)))
 obtain⟨l,m,xs,ys,e,e1,e2,q⟩:=q1
 subst e
 obtain⟨us1,us2⟩:us=[.ref l,.ref m]/\True:=by
  cases r1 with
  |cons r rr =>
   cases rr with
   |cons r' rr =>
    cases rr
    cases r
    cases r'
    exact⟨rfl,trivial⟩
 subst us1
 obtain⟨its1,rv1,p1⟩:=I1.Pq e1
 obtain⟨its2,rv2,p2⟩:=I1.Pq e2
 have fin:∀h',IsZip h' (s1.heap.objs.size+4) (s1.heap.objs.size+2) (s1.heap.objs.size+3) .none->IsPair h' (s1.heap.objs.size+2) (.ref s1.heap.objs.size) (.ref (s1.heap.objs.size+1))->IsPair h' (s1.heap.objs.size+3) .none .none ->
   Jd L h' s1.heap.objs.size l 0->Jd M h' (s1.heap.objs.size+1) m 0->(∀c o,s1.heap.get? c=some o->h'.get? c=some o)->wpAny (model X.prog X.w) X.A (pyIter (.ref (s1.heap.objs.size+4))) (PIE X pins σ (.Tuple elts x1 tpos) R) X.xe { s1 with heap:=h' }:=fun h' c1 c2 c3 c4 c5 k=>by
  refine wpAny_pyIter_zip c1 ?_
  refine⟨s1.heap.objs.size+4,[s1.heap.objs.size+4,s1.heap.objs.size+2,s1.heap.objs.size+3,s1.heap.objs.size,s1.heap.objs.size+1],_,_,H1,rfl,I1.kept (t':=s1.toks) k,
   bh L M l m _ _ _ _ _ (by simp) (by simp) (by simp) ⟨by simp,by simp,by simp⟩ ⟨by simp,by simp,by simp⟩ (by simp),⟨c1,c2,⟨_,_,c3⟩,c4,c5⟩,fun c hc=>?_,q⟩
  have hc':s1.heap.objs.size<=c:=by
   simp only[U0t,U1x,or_false] at hc
   rcases hc with rfl|rfl|rfl|rfl|rfl<;>first|exact U1f _ _|exact U0m _
  exact I1.YM hc' (I1.hok.fresh hc')
 cases L with
 |true =>
  cases M with
  |true=>exact call_zip_2 p1 p2 fun h' c1 c2 c3 c4 c5 _ k=>fin h' c1 c2 c3 c4 c5 k
  |false=>exact HT.fM p1 p2 fun h' c1 c2 c3 c4 c5 k=>fin h' c1 c2 c3 c4 c5 k
 |false =>
  cases M with
  |true=>rcases hLM with z|⟨z,_⟩<;>cases z
  |false=>exact HT.WL p1 p2 fun h' c1 c2 c3 c4 c5 k=>fin h' c1 c2 c3 c4 c5 k
end
end L2
end
section
namespace L2
open PySem PySem.Spec PyProof.Rows
section
variable{k:Nat}{caps:List Nat}{σ:St}{g:TG}{tt:TT}{te:TE}{Q:VK}{H:Hp}
end
end L2
end
section
set_option maxRecDepth 100000
namespace HT
open PySem PySem.Spec PyProof.Rows
section
variable{prog:Program}{w:World}{A:Around}{E:Value->Shared->Prop}{s:Shared}
theorem jZ{x:Value}{Tx:String}{tp:Addr}{cs:List Value}{vs:List Bool}{dd:Option Addr}{n:Nat}{sl:Array (Option Value)}(ha:AnswersAll (fun s=>s.TypeIs x Tx) x cs vs) :
  Meets (Builtin.«isinstance» ⟨[x,.ref tp],[]⟩) (fun _ R s=>s.TypeIs x Tx/\s.heap.get? tp=some { cls:=.type "tuple",dict:=dd,data:=.seq cs.toArray n,slots:=sl }/\∀tk,R (.ok (.ret (.bool (vs.any id)))) { s with toks:=tk }) :=
 fun prog w A R s hs=>isinstance_outer (by
  obtain⟨h,g,d,t,os⟩:=s
  obtain⟨hx,htp,hq⟩:=hs
  have T2:(⟨h,g,d,t,os⟩:Shared).TypeIs (.ref tp) "tuple":=⟨_,htp,rfl⟩
  have f1:=PySem.F.isi_sub_tuple
  repeat (any_goals first|assumption|wp_step)
  refine wpAny_arrayLoop ?_
  simp only[List.toList_toArray,Option.getD_some]
  refine isinstance_items (dep:=0) (fun _ tk q=>q.toks tk) cs vs _ _ ha hx fun tk'=>?_
  cases hv:vs.any id with
  |true =>
   simp only[if_true]
   repeat (any_goals first|assumption|wp_step)
   exact hv ▸ hq tk'
  |false =>
   simp only[if_false,U1s]
   repeat (any_goals first|assumption|wp_step)
   exact hv ▸ hq tk') (U5q.not_mainsLoader hs.1)
end
end HT
namespace L2
open PySem PySem.Spec PyProof.Rows
def isSeq:PyData->Bool
 |.list _=>true
 |.tuple _=>true
 |_=>false
def noDict:PyData->Bool
 |.dict _=>false
 |_=>true
theorem fW(T:String)(h:T="tuple"∨T="list"):typeOf (.type T)=pure (.type "type"):=by rcases h with rfl|rfl<;>first|rfl|kernel_rfl
theorem Ja{a b:String}(h:(a,b)∈[("int","tuple"),("int","list"),("bool","tuple"),("bool","list"),("str","tuple"),("str","list"),("NoneType","tuple"),("NoneType","list"),("list","tuple"),("tuple","list")]):isSubtype (.type a) (.type b)=pure false:=by
 simp only[U0t,U1x,or_false,Prod.mk.injEq] at h
 rcases h with ⟨rfl,rfl⟩|⟨rfl,rfl⟩|⟨rfl,rfl⟩|⟨rfl,rfl⟩|⟨rfl,rfl⟩|⟨rfl,rfl⟩|⟨rfl,rfl⟩|⟨rfl,rfl⟩|⟨rfl,rfl⟩|⟨rfl,rfl⟩<;>(rw[isSubtype_type];kernel_rfl)
theorem Xj{a:String}(h:a="tuple"∨a="list"):isSubtype (.type a) (.type a)=pure true:=by rcases h with rfl|rfl<;>(rw[isSubtype_type];kernel_rfl)
section
variable{X:Cx}
theorem VB:Dr X (.builtin "isinstance") (fun xs H Q=>∃(N:Addr->Prop)(x:V)(d:PyData)(p:Addr),xs=[x,.ref p]/\H p=some (.tup [.ty "tuple",.ty "list"])/\Tr N H x d/\noDict d=true/\Q (.bl (isSeq d)) H):=by
 intro pins s σ H xs us Q I r h
 obtain⟨N,x,d,p,rfl,hp,t,nd,q⟩:=h
 obtain⟨u,v,rfl,rx,rv⟩:=vals2 r
 cases (show v=U17 p from rv)
 obtain⟨its,rt,pt,_⟩:=I.tuple (SqT.of hp)
 have ei:its=[.type "tuple",.type "list"]:=by
  cases rt with
  |cons r1 rr =>
   cases rr with
   |cons r2 rn =>
    cases rn
    cases (show _=U2p "tuple" from r1)
    cases (show _=U2p "list" from r2)
    rfl
 subst ei
 obtain⟨⟨c1,d1,x1,sl1⟩,ho,hc,n,hd⟩:=id pt
 simp only at hc hd
 subst hc hd
 have fin:∀(Tx:String)(vs:List Bool),AnswersAll (fun s=>s.TypeIs u Tx) u [.type "tuple",.type "list"] vs->s.TypeIs u Tx->vs.any id=isSeq d->wpAny (model X.prog X.w) X.A (call (.builtin "isinstance") [u,.ref p]) (EP X pins σ Q) X.xe s:=fun Tx vs ha hx e =>
  call_isinstance (HT.jZ (cs:=[.type "tuple",.type "list"]) (dd:=d1) (n:=n) (sl:=sl1) ha) ⟨hx,ho,fun tk=>⟨.bl (isSeq d),H,I.tok tk,(by rw[e];rfl),q⟩⟩
 have y1:=fW "tuple" (.inl rfl)
 have y2:=fW "list" (.inr rfl)
 cases t with
 |non =>
  cases (show u=U2e from rx)
  exact fin "NoneType" [false,false] (.cons (Answers.of_false_none (by decide) y1 (Ja (by decide))) (.cons (Answers.of_false_none (by decide) y2 (Ja (by decide))) .nil)) rfl rfl
 |bl b =>
  cases (show u=U27 b from rx)
  exact fin "bool" [false,false] (.cons (Answers.of_false_bool (by decide) y1 (Ja (by decide))) (.cons (Answers.of_false_bool (by decide) y2 (Ja (by decide))) .nil)) rfl rfl
 |int i =>
  obtain⟨t,rfl⟩:=rx
  exact fin "int" [false,false] (.cons (Answers.of_false_int (by decide) y1 (Ja (by decide))) (.cons (Answers.of_false_int (by decide) y2 (Ja (by decide))) .nil)) rfl rfl
 |str z =>
  obtain⟨t,rfl⟩:=rx
  exact fin "str" [false,false] (.cons (Answers.of_false_str (by decide) y1 (Ja (by decide))) (.cons (Answers.of_false_str (by decide) y2 (Ja (by decide))) .nil)) rfl rfl
 |lst n1 h1 t1 =>
  cases rx
  obtain⟨its,_,pl,_⟩:=I.list (SqL.of h1)
  exact fin "list" [false,true] (.cons (Answers.of_false_list (by decide) y1 (Ja (by decide))) (.cons (Answers.of_true y2 (Xj (.inr rfl))) .nil)) pl.isList.typeIs rfl
 |tup n1 h1 t1 =>
  cases rx
  obtain⟨its,_,pl,_⟩:=I.tuple (SqT.of h1)
  exact fin "tuple" [true,false] (.cons (Answers.of_true y1 (Xj (.inl rfl))) (.cons (Answers.of_false_tuple (by decide) y2 (Ja (by decide))) .nil)) pl.typeIs rfl
 |dct _ _=>cases nd
end
end L2
end
section
namespace L2
open PySem PySem.Spec PyProof.Rows
end L2
namespace Bc
open PySem PySem.Spec PyProof.Rows L2
structure Good(n:Nat)(ds:List PyData):Prop where
 n1:1<=n
 n3:n<=3
 le:ds.length<=oF (.int n)
 all:ds.all (tY n)=true
end Bc
end
section
namespace L2
open PySem PySem.Spec PyProof.Rows
section
variable{X:Cx}{K:U0a}
end
end L2
namespace Bc
open PySem PySem.Spec PyProof.Rows L2
def Du(w:Nat):PyData->Int
 |.tuple es=>(match es[w]? with|some (.tuple [.int a,.int _])=>a|_=>0)
 |_=>0
def Dd(w:Nat):PyData->Int
 |.tuple es=>(match es[w]? with|some (.tuple [.int _,.int b])=>b|_=>0)
 |_=>0
end Bc
end
section
namespace VS
open PySem PySem.Spec L2
inductive D where
 |non|bl (b:Bool)|int (i:Int)|str (x:Str)|ty (n:String)
 |tup (ds:List D)|lst (m:Bool) (ds:List D)|ref (i:Nat)|scr (ns:List Int)|emp
 |dref (i:Nat)|dcf (kvs:List (Key×V))|dcm (kvs:List (Key×V))|fn (a:Addr) (n:Nat)|lent (ds:List D)
abbrev Mu:=List (Option Addr)
def Cm(μ:Mu)(a:Addr):Prop:=some a∈μ
structure Fr where
 K:U0a
 H0:Hp
 N:Addr->Prop
 m0:List Addr
def Fr.Ok(Γ:Fr)(m:Bool)(a:Addr):Prop:=(m=true->Γ.H0 a=none)/\(Γ.N a∨Γ.H0 a=none)
def IsL(H:Hp)(a:Addr):Prop:=∃xs,H a=some (.lst xs)
def IsK(H:Hp)(a:Addr):Prop:=∃kvs,H a=some (.dK kvs)
mutual
inductive VR (Γ:Fr) (μ:Mu) (H:Hp):V->D->Prop
 |non:VR Γ μ H .non .non
 |bl (b:Bool):VR Γ μ H (.bl b) (.bl b)
 |int (i:Int):VR Γ μ H (.int i) (.int i)
 |str (x:Str):VR Γ μ H (.str x) (.str x)
 |ty (n:String):VR Γ μ H (.ty n) (.ty n)
 |fn (a:Addr) (n:Nat):VR Γ μ H (.ref a) (.fn a n)
 |lent {a:Addr} {xs:List V} {ds:List D}:¬Cm μ a->H a=some (.lst xs)->VRs Γ μ H xs ds->VR Γ μ H (.ref a) (.lent ds)
 |tup {a:Addr} {xs:List V} {ds:List D}:H a=some (.tup xs)->VRs Γ μ H xs ds->VR Γ μ H (.ref a) (.tup ds)
 |lst {m:Bool} {a:Addr} {xs:List V} {ds:List D}:Γ.Ok m a->¬Cm μ a->H a=some (.lst xs)->VRs Γ μ H xs ds->VR Γ μ H (.ref a) (.lst m ds)
 |ref {i:Nat} {v:V}:i<μ.length->(∀a,μ[i]?=some (some a)->v=.ref a/\IsL H a)->VR Γ μ H v (.ref i)
 |dref {i:Nat} {v:V}:i<μ.length->(∀a,μ[i]?=some (some a)->v=.ref a/\IsK H a)->VR Γ μ H v (.dref i)
 |dcf {a:Addr} {kvs:List (Key×V)}:Γ.Ok false a->¬Cm μ a->H a=some (.dK kvs)->VR Γ μ H (.ref a) (.dcf kvs)
 |scrK {a:Addr} {ns:List Int}:(∀H',SqL Γ.K H' a (ns.map V.int))->VR Γ μ H (.ref a) (.scr ns)
 |scrR {a:Addr} {ns:List Int} {o:Obj}:¬Cm μ a->H a=some (.frz o (.lst (ns.map V.int)))->VR Γ μ H (.ref a) (.scr ns)
 |emp {a:Addr}:Γ.Ok false a->¬Cm μ a->H a=some (.dK [])->VR Γ μ H (.ref a) .emp
inductive VRs (Γ:Fr) (μ:Mu) (H:Hp):List V->List D->Prop
 |nil:VRs Γ μ H [] []
 |cons {x:V} {d:D} {xs:List V} {ds:List D}:VR Γ μ H x d->VRs Γ μ H xs ds->VRs Γ μ H (x::xs) (d::ds)
end
structure Ext(μ:Mu)(H:Hp)(μ':Mu)(H':Hp):Prop where
 keep:∀a o,H a=some o->¬Cm μ a->H' a=some o/\¬Cm μ' a
 tups:∀a xs,H a=some (.tup xs)->H' a=some (.tup xs)
 none:∀a,H' a=none->H a=none
 ids:∀(i:Nat)(a:Addr),i<μ.length->μ'[i]?=some (some a)->μ[i]?=some (some a)
 len:μ.length<=μ'.length
 isl:∀a,Cm μ a->IsL H a->IsL H' a
 isk:∀a,Cm μ a->IsK H a->IsK H' a
theorem Ext.refl(μ:Mu)(H:Hp):Ext μ H μ H:=⟨fun _ _ h n=>⟨h,n⟩,fun _ _ h=>h,fun _ h=>h,fun _ _ _ h=>h,U0m _,fun _ _ h=>h,fun _ _ h=>h⟩
theorem Ext.trans{μ μ1 μ2:Mu}{H H1 H2:Hp}(a:Ext μ H μ1 H1)(b:Ext μ1 H1 μ2 H2):Ext μ H μ2 H2 :=
 ⟨fun c o h n=>let ⟨x,y⟩:=a.keep c o h n;b.keep c o x y,fun c xs h=>b.tups c xs (a.tups c xs h),fun c h=>a.none c (b.none c h),fun i c hi h=>a.ids i c hi (b.ids i c (U0n hi a.len) h),U02 a.len b.len,
  fun c l h=>by
  by_cases z:Cm μ1 c
  .exact b.isl c z (a.isl c l h)
  .obtain⟨xs,e⟩:=a.isl c l h
   exact⟨xs,(b.keep c _ e z).1⟩,
  fun c l h=>by
  by_cases z:Cm μ1 c
  .exact b.isk c z (a.isk c l h)
  .obtain⟨xs,e⟩:=a.isk c l h
   exact⟨xs,(b.keep c _ e z).1⟩⟩
section
variable{Γ:Fr}{μ μ':Mu}{H H':Hp}
mutual
theorem VR.ext(e:Ext μ H μ' H'):∀{v:V} {d:D},VR Γ μ H v d->VR Γ μ' H' v d
 |_,_,.non=>.non
 |_,_,.bl b=>.bl b
 |_,_,.int i=>.int i
 |_,_,.str x=>.str x
 |_,_,.ty n=>.ty n
 |_,_,.fn a n=>.fn a n
 |_,_,.lent n h t=>.lent (e.keep _ _ h n).2 (e.keep _ _ h n).1 (VRs.ext e t)
 |_,_,.tup h t=>.tup (e.tups _ _ h) (VRs.ext e t)
 |_,_,.lst o n h t=>.lst o (e.keep _ _ h n).2 (e.keep _ _ h n).1 (VRs.ext e t)
 |_,_,.ref hi f=>.ref (U0n hi e.len) fun a q=>have z:=e.ids _ _ hi q;⟨(f a z).1,e.isl a (U06 z) (f a z).2⟩
 |_,_,.dref hi f=>.dref (U0n hi e.len) fun a q=>have z:=e.ids _ _ hi q;⟨(f a z).1,e.isk a (U06 z) (f a z).2⟩
 |_,_,.dcf o n h=>.dcf o (e.keep _ _ h n).2 (e.keep _ _ h n).1
 |_,_,.scrK h=>.scrK h
 |_,_,.scrR n h=>.scrR (e.keep _ _ h n).2 (e.keep _ _ h n).1
 |_,_,.emp o n h=>.emp o (e.keep _ _ h n).2 (e.keep _ _ h n).1
theorem VRs.ext(e:Ext μ H μ' H'):∀{vs:List V} {ds:List D},VRs Γ μ H vs ds->VRs Γ μ' H' vs ds
 |_,_,.nil=>.nil
 |_,_,.cons r t=>.cons (VR.ext e r) (VRs.ext e t)
end
theorem VRs.length:∀{xs:List V} {ds:List D},VRs Γ μ H xs ds->xs.length=ds.length
 |_,_,.nil=>rfl
 |_,_,.cons _ t=>by rw[U0i,U0i,VRs.length t]
theorem VRs.append:∀{xs ys:List V} {ds es:List D},VRs Γ μ H xs ds->VRs Γ μ H ys es->VRs Γ μ H (xs++ys) (ds++es)
 |_,_,_,_,.nil,t=>t
 |_,_,_,_,.cons r s,t=>.cons r (VRs.append s t)
theorem VRs.take:∀{xs:List V} {ds:List D} (n:Nat),VRs Γ μ H xs ds->VRs Γ μ H (xs.take n) (ds.take n)
 |_,_,0,_=>.nil
 |_,_,_+1,.nil=>.nil
 |_,_,n+1,.cons r t=>.cons r (VRs.take n t)
theorem VRs.drop:∀{xs:List V} {ds:List D} (n:Nat),VRs Γ μ H xs ds->VRs Γ μ H (xs.drop n) (ds.drop n)
 |_,_,0,r=>r
 |_,_,_+1,.nil=>.nil
 |_,_,n+1,.cons _ t=>VRs.drop n t
theorem VRs.get:∀{xs:List V} {ds:List D} {i:Nat} {d:D},VRs Γ μ H xs ds->ds[i]?=some d->∃x,xs[i]?=some x/\VR Γ μ H x d
 |_,_,_,_,.nil,h=>by simp at h
 |_,_,0,_,.cons r _,h=>by simp at h;subst h;exact⟨_,rfl,r⟩
 |_,_,i+1,d,.cons _ t,h=>by
  obtain⟨x,h1,h2⟩:=VRs.get (i:=i) (d:=d) t (by simpa using h)
  exact⟨x,by simpa using h1,h2⟩
theorem VRs.set{x:V}{d:D}(r:VR Γ μ H x d):∀{xs:List V} {ds:List D} (i:Nat),VRs Γ μ H xs ds->VRs Γ μ H (xs.set i x) (ds.set i d)
 |_,_,_,.nil=>.nil
 |_,_,0,.cons _ t=>.cons r t
 |_,_,i+1,.cons q t=>.cons q (VRs.set r i t)
theorem VRs.eraseIdx:∀{xs:List V} {ds:List D} (i:Nat),VRs Γ μ H xs ds->VRs Γ μ H (xs.eraseIdx i) (ds.eraseIdx i)
 |_,_,_,.nil=>.nil
 |_,_,0,.cons _ t=>t
 |_,_,i+1,.cons q t=>.cons q (VRs.eraseIdx i t)
theorem VRs.rep{xs:List V}{ds:List D}(h:VRs Γ μ H xs ds):∀n:Nat,VRs Γ μ H (U0s n xs).flatten (U0s n ds).flatten
 |0=>.nil
 |n+1=>by rw[U0l,U0l,U3j,U3j];exact h.append (VRs.rep h n)
theorem VRs.ints:∀(ns:List Int),VRs Γ μ H (ns.map V.int) (ns.map D.int)
 |[]=>.nil
 |n::r=>.cons (.int n) (VRs.ints r)
theorem VRs.Oj:∀{xs:List V} {ns:List Int},VRs Γ μ H xs (ns.map D.int)->xs=ns.map V.int
 |_,[],.nil=>rfl
 |_,n::r,.cons q t=>by cases q;rw[U00,VRs.Oj t]
end
abbrev Env:=List (Option D)
abbrev Store:=List (Option (List D))
def Cell(Γ:Fr)(μ:Mu)(H:Hp)(a:Addr)(ds:List D):Prop:=(∃xs,H a=some (.lst xs)/\VRs Γ μ H xs ds)∨∃kvs,ds=[.dcm kvs]/\H a=some (.dK kvs)
structure Rep(Γ:Fr)(μ:Mu)(σ:St)(H:Hp)(env:Env)(S:Store):Prop where
 vals:∀(i:Nat)(d:D),env[i]?=some (some d)->∃v,σ[i]?=some (some v)/\VR Γ μ H v d
 len:σ.length=env.length
 sto:∀(i:Nat)(ds:List D),S[i]?=some (some ds)->∃a,μ[i]?=some (some a)/\Cell Γ μ H a ds
 liv:∀(i:Nat)(a:Addr),μ[i]?=some (some a)->∃ds,S[i]?=some (some ds)
 inj:∀(i j:Nat)(a:Addr),μ[i]?=some (some a)->μ[j]?=some (some a)->i=j
 slen:S.length=μ.length
 ent:Ext (Γ.m0.map some) Γ.H0 μ H
 new:∀(i:Nat)(a:Addr),Γ.m0.length<=i->μ[i]?=some (some a)->Γ.H0 a=none
section
variable{Γ:Fr}{μ μ':Mu}{σ σ2:St}{H H':Hp}{env env2:Env}{S S':Store}
theorem Cell.kind{a:Addr}{ds:List D}(c:Cell Γ μ H a ds):IsL H a∨IsK H a:=by
 rcases c with ⟨xs,h,_⟩|⟨kvs,_,h⟩
 .exact .inl ⟨xs,h⟩
 .exact .inr ⟨kvs,h⟩
theorem Cell.list{a:Addr}{ds:List D}(c:Cell Γ μ H a ds)(l:IsL H a):∃xs,H a=some (.lst xs)/\VRs Γ μ H xs ds:=by
 rcases c with z|⟨kvs,_,h⟩
 .exact z
 .obtain⟨xs,q⟩:=l
  rw[h] at q;cases q
theorem Cell.dict{a:Addr}{ds:List D}(c:Cell Γ μ H a ds)(l:IsK H a):∃kvs,ds=[.dcm kvs]/\H a=some (.dK kvs):=by
 rcases c with ⟨xs,h,_⟩|z
 .obtain⟨xs,q⟩:=l
  rw[h] at q;cases q
 .exact z
theorem Cell.to{μ':Mu}{H':Hp}{a:Addr}{ds:List D}(c:Cell Γ μ H a ds)(x:Ext μ H μ' H')(e:∀o,H a=some o->H' a=some o):Cell Γ μ' H' a ds:=by
 rcases c with ⟨xs,h,r⟩|⟨kvs,q,h⟩
 .exact .inl ⟨xs,e _ h,r.ext x⟩
 .exact .inr ⟨kvs,q,e _ h⟩
theorem Rep.live(R:Rep Γ μ σ H env S){a:Addr}(h:Cm μ a):IsL H a∨IsK H a:=by
 obtain⟨i,hi⟩:=U3q.mp h
 obtain⟨ds,hs⟩:=R.liv i a hi
 obtain⟨b,h1,h2⟩:=R.sto i ds hs
 rw[hi] at h1;cases h1
 exact h2.kind
theorem Rep.dead(R:Rep Γ μ σ H env S){p:Addr}(h:H p=none):¬Cm μ p:=fun z=>by
 rcases R.live z with ⟨xs,e⟩|⟨xs,e⟩<;>(rw[h] at e;cases e)
theorem Rep.fresh(R:Rep Γ μ σ H env S){p:Addr}(h:H p=none):Γ.H0 p=none:=R.ent.none p h
theorem Rep.ok(R:Rep Γ μ σ H env S){p:Addr}(h:H p=none)(m:Bool):Γ.Ok m p:=⟨fun _=>R.fresh h,.inr (R.fresh h)⟩
theorem Rep.grow(R:Rep Γ μ σ H env S)(e:Same H H'):Rep Γ μ σ H' env S/\Ext μ H μ H':=by
 have x:Ext μ H μ H':=⟨fun a o h n=>⟨e a o h,n⟩,fun a xs h=>e a _ h,fun a h=>e.free h,fun _ _ _ h=>h,U0m _,fun a _ ⟨xs,h⟩=>⟨xs,e a _ h⟩,fun a _ ⟨xs,h⟩=>⟨xs,e a _ h⟩⟩
 refine⟨⟨fun i d h=>?_,R.len,fun i ds h=>?_,R.liv,R.inj,R.slen,R.ent.trans x,R.new⟩,x⟩
 .obtain⟨v,h1,h2⟩:=R.vals i d h
  exact⟨v,h1,h2.ext x⟩
 .obtain⟨a,h1,h2⟩:=R.sto i ds h
  exact⟨a,h1,h2.to x fun o q=>e _ _ q⟩
theorem Rep.back(R:Rep Γ μ σ H env S)(x:Ext μ H μ' H')(R2:Rep Γ μ' σ2 H' env2 S'):Rep Γ μ' σ H' env S' :=
 ⟨fun i d h=>let ⟨v,h1,h2⟩:=R.vals i d h;⟨v,h1,h2.ext x⟩,R.len,R2.sto,R2.liv,R2.inj,R2.slen,R2.ent,R2.new⟩
theorem Rep.bI(R:Rep Γ μ σ H env S)(i:Nat){v:V}{d:D}(r:VR Γ μ H v d):Rep Γ μ (σ.set i (some v)) H (env.set i (some d)) S:=by
 refine⟨fun j e h=>?_,by rw[U3p,U3p];exact R.len,R.sto,R.liv,R.inj,R.slen,R.ent,R.new⟩
 by_cases hj:i=j
 .subst hj
  have hl:i<env.length:=by
   have:=(U0h.mp h).1
   rw[U3p] at this;exact this
  rw[U2m hl] at h
  cases h
  exact⟨v,U2m (by rw[R.len];exact hl),r⟩
 .rw[U2u hj] at h ⊢
  exact R.vals j e h
theorem Rep.rD(R:Rep Γ μ σ H env S){p:Addr}{o:HO}{ds:List D}(hp:H p=none)(r:∀μ' H',Ext μ H μ' H'->H' p=some o->Cell Γ μ' H' p ds) :
  Rep Γ (μ++[some p]) σ (upd H p o) env (S++[some ds])/\Ext μ H (μ++[some p]) (upd H p o):=by
 have ne:∀a o,H a=some o->a≠p:=fun a o h z=>by rw[z,hp] at h;cases h
 have x:Ext μ H (μ++[some p]) (upd H p o):=by
  refine⟨fun a o h n=>⟨by rw[Bj (ne a o h)];exact h,fun z=>?_⟩,fun a ys h=>by rw[Bj (ne a _ h)];exact h,fun a h=>?_,fun i a hi h=>?_,by rw[U0o];omega,fun a _ ⟨ys,h⟩=>⟨ys,by rw[Bj (ne a _ h)];exact h⟩,fun a _ ⟨ys,h⟩=>⟨ys,by rw[Bj (ne a _ h)];exact h⟩⟩
  .rcases U1k.mp z with z|z
   .exact n z
   .have z':a=p:=by simpa using z
    exact ne a o h z'
  .by_cases ha:a=p
   .rw[ha,CZ] at h;cases h
   .rw[Bj ha] at h;exact h
  .rw[U09 hi] at h;exact h
 have idx:∀i a,(μ++[some p])[i]?=some (some a)->(i<μ.length/\μ[i]?=some (some a))∨(i=μ.length/\a=p):=fun i a h=>by
  by_cases hi:i<μ.length
  .rw[U09 hi] at h;exact .inl ⟨hi,h⟩
  .rw[U1t (by omega)] at h
   have hl:=(U0h.mp h).1
   have hi':i=μ.length:=by simp at hl;omega
   subst hi'
   simp at h
   exact .inr ⟨rfl,h.symm⟩
 have no:∀a,μ[a]?=some (some p)->False:=fun i h=>R.dead hp (U06 h)
 refine⟨⟨fun i d h=>?_,R.len,fun i es h=>?_,fun i a h=>?_,fun i j a h1 h2=>?_,by rw[U0o,U0o,R.slen];rfl,R.ent.trans x,fun i a hi h=>?_⟩,x⟩
 .obtain⟨v,h1,h2⟩:=R.vals i d h
  exact⟨v,h1,h2.ext x⟩
 .by_cases hi:i<S.length
  .rw[U09 hi] at h
   obtain⟨a,h1,h2⟩:=R.sto i es h
   exact⟨a,by rw[U09 (by rw[←R.slen];exact hi)];exact h1,h2.to x fun o q=>by rw[Bj (ne a _ q)];exact q⟩
  .rw[U1t (by omega)] at h
   have hl:=(U0h.mp h).1
   have hi':i=S.length:=by simp at hl;omega
   subst hi'
   simp at h
   subst h
   exact⟨p,by rw[R.slen];simp,r _ _ x CZ⟩
 .rcases idx i a h with ⟨hi,h⟩|⟨rfl,rfl⟩
  .obtain⟨ds',q⟩:=R.liv i a h
   exact⟨ds',by rw[U09 (by rw[R.slen];exact hi)];exact q⟩
  .exact⟨ds,by rw[←R.slen];simp⟩
 .rcases idx i a h1 with ⟨_,g1⟩|⟨e1,e2⟩
  .rcases idx j a h2 with ⟨_,g2⟩|⟨e3,e4⟩
   .exact R.inj i j a g1 g2
   .exact(no i (e4 ▸ g1)).elim
  .rcases idx j a h2 with ⟨_,g2⟩|⟨e3,_⟩
   .exact(no j (e2 ▸ g2)).elim
   .rw[e1,e3]
 .rcases idx i a h with ⟨_,h⟩|⟨rfl,rfl⟩
  .exact R.new i a hi h
  .exact R.fresh hp
theorem Rep.laid(R:Rep Γ μ σ H env S){p:Addr}{xs:List V}{ds:List D}(hp:H p=none)(r:VRs Γ μ H xs ds) :
  Rep Γ (μ++[some p]) σ (upd H p (.lst xs)) env (S++[some ds])/\Ext μ H (μ++[some p]) (upd H p (.lst xs)):=R.rD hp fun _ _ x q=>.inl ⟨xs,q,r.ext x⟩
theorem Rep.tQ(R:Rep Γ μ σ H env S){i:Nat}{a:Addr}{o:HO}{ds:List D}(hi:μ[i]?=some (some a))(k1:IsL H a->IsL (upd H a o) a)(k2:IsK H a->IsK (upd H a o) a)(r:∀H',Ext μ H μ H'->H' a=some o->Cell Γ μ H' a ds) :
  Rep Γ μ σ (upd H a o) env (S.set i (some ds))/\Ext μ H μ (upd H a o):=by
 have hl:Cm μ a:=U06 hi
 have hy:=R.live hl
 have x:Ext μ H μ (upd H a o):=by
  refine⟨fun b o h n=>⟨?_,n⟩,fun b zs h=>?_,fun b h=>?_,fun _ _ _ h=>h,U0m _,fun b _ h=>?_,fun b _ h=>?_⟩
  .rw[Bj (fun z=>n (by rw[z];exact hl))];exact h
  .rw[Bj (fun z=>by
    rw[z] at h
    rcases hy with ⟨_,q⟩|⟨_,q⟩<;>(rw[q] at h;cases h))];exact h
  .by_cases hb:b=a
   .rw[hb,CZ] at h;cases h
   .rw[Bj hb] at h;exact h
  .by_cases hb:b=a
   .subst hb;exact k1 h
   .obtain⟨ys,h⟩:=h
    exact⟨ys,by rw[Bj hb];exact h⟩
  .by_cases hb:b=a
   .subst hb;exact k2 h
   .obtain⟨ys,h⟩:=h
    exact⟨ys,by rw[Bj hb];exact h⟩
 have hiS:i<S.length:=by rw[R.slen];exact(U0h.mp hi).1
 refine⟨⟨fun j d h=>?_,R.len,fun j es h=>?_,fun j b h=>?_,R.inj,by rw[U3p];exact R.slen,R.ent.trans x,R.new⟩,x⟩
 .obtain⟨v,h1,h2⟩:=R.vals j d h
  exact⟨v,h1,h2.ext x⟩
 .by_cases hj:i=j
  .subst hj
   rw[U2m hiS] at h
   cases h
   exact⟨a,hi,r _ x CZ⟩
  .rw[U2u hj] at h
   obtain⟨b,h1,h2⟩:=R.sto j es h
   refine⟨b,h1,h2.to x fun o q=>?_⟩
   rw[Bj (fun z=>hj (R.inj i j a hi (by rw[←z];exact h1)))]
   exact q
 .by_cases hj:i=j
  .subst hj;exact⟨ds,U2m hiS⟩
  .rw[U2u hj];exact R.liv j b h
theorem Rep.put(R:Rep Γ μ σ H env S){i:Nat}{a:Addr}{xs:List V}{ds:List D}(hi:μ[i]?=some (some a))(hx:IsL H a)(r:VRs Γ μ H xs ds) :
  Rep Γ μ σ (upd H a (.lst xs)) env (S.set i (some ds))/\Ext μ H μ (upd H a (.lst xs)) :=
 R.tQ hi (fun _=>⟨xs,CZ⟩) (fun⟨_,q⟩=>by obtain⟨_,p⟩:=hx;rw[q] at p;cases p) fun _ x q=>.inl ⟨xs,q,r.ext x⟩
end
end VS
end
section
namespace VS
open PySem PySem.Spec L2
abbrev BK:=Env->Store->Option (D×Store)
abbrev Bg:=Env->Store->Option (List D×Store)
abbrev FT:=Env->Store->Option (Bool×Store)
abbrev RM:=Env->Store->Option (Option Int×Store)
inductive Fl where|nx|brk|cnt|ret (d:D)
abbrev Bl:=Env->Store->Option (Fl×Env×Store)
abbrev Lj:=Env->Store->Option ((List D×List (Nat×List D))×Store)
abbrev Ju:=D->Env->Option Env
def Ac(i:Nat):BK:=fun env S=>(env[i]?.join).map fun d=>(d,S)
def eC(d:D):BK:=fun _ S=>some (d,S)
def eOp(g:Store->D->D->Option D)(a b:BK):BK:=fun env S=>(a env S).bind fun p=>(b env p.2).bind fun q=>(g q.2 p.1 q.1).map fun d=>(d,q.2)
def eUn(g:Store->D->Option D)(a:BK):BK:=fun env S=>(a env S).bind fun p=>(g p.2 p.1).map fun d=>(d,p.2)
def Af:Bg:=fun _ S=>some ([],S)
def Aa(a:BK)(r:Bg):Bg:=fun env S=>(a env S).bind fun p=>(r env p.2).bind fun q=>some (p.1::q.1,q.2)
def eCB(g:Store->List D->Option D)(a:Bg):BK:=fun env S=>(a env S).bind fun p=>(g p.2 p.1).map fun d=>(d,p.2)
def Pr(a b:BK):BK:=fun env S=>(a env S).bind fun p=>match p.1 with|.bl true=>b env p.2|.bl false=>some (.bl false,p.2)|_=>none
def YQ(a:BK):BK:=fun env S=>(a env S).bind fun p=>match p.1 with|.bl c=>some (.bl (!c),p.2)|_=>none
def eIf(c:FT)(a b:BK):BK:=fun env S=>(c env S).bind fun p=>if p.1=true then a env p.2 else b env p.2
def QB(g g':Store->D->D->Option D)(a b c:BK):BK:=fun env S=>(a env S).bind fun p=>(b env p.2).bind fun q=>(g q.2 p.1 q.1).bind fun z=>match z with
 |.bl true=>(c env q.2).bind fun r=>(g' r.2 q.1 r.1).map fun d=>(d,r.2)
 |.bl false=>some (.bl false,q.2)
 |_=>none
def Bt(a:BK):FT:=fun env S=>(a env S).bind fun p=>match p.1 with|.bl c=>some (c,p.2)|_=>none
def Mg(a b:FT):FT:=fun env S=>(a env S).bind fun p=>if p.1=true then b env p.2 else some (false,p.2)
def tOr(a b:FT):FT:=fun env S=>(a env S).bind fun p=>if p.1=true then some (true,p.2) else b env p.2
def Hq(a:FT):FT:=fun env S=>(a env S).bind fun p=>some (!p.1,p.2)
def GC:RM:=fun _ S=>some (none,S)
def G9(a:BK):RM:=fun env S=>(a env S).bind fun p=>match p.1 with|.int i=>some (some i,p.2)|_=>none
def eSl(g:Store->D->Option Int->Option Int->Option D)(a:BK)(l h:RM):BK:=fun env S=>(a env S).bind fun p=>(l env p.2).bind fun q=>(h env q.2).bind fun r=>(g r.2 p.1 q.1 r.1).map fun d=>(d,r.2)
def Bh(a b:Bl):Bl:=fun env S=>(a env S).bind fun p=>match p.1 with|.nx=>b p.2.1 p.2.2|f=>some (f,p.2.1,p.2.2)
def Ep:Bl:=fun env S=>some (.nx,env,S)
def Ve:Bl:=fun _ _=>none
def Cd(i:Nat)(a:BK):Bl:=fun env S=>(a env S).bind fun p=>some (.nx,env.set i (some p.1),p.2)
def VH(a:BK)(g:Ju):Bl:=fun env S=>(a env S).bind fun p=>(g p.1 env).bind fun e=>some (.nx,e,p.2)
def JR(a:BK):Bl:=fun env S=>(a env S).bind fun p=>some (.nx,env,p.2)
def DQ(a:BK):Bl:=fun env S=>(a env S).bind fun p=>some (.ret p.1,env,p.2)
def sIf(c:FT)(a b:Bl):Bl:=fun env S=>(c env S).bind fun p=>if p.1=true then a env p.2 else b env p.2
inductive Pat where
 |nm (i:Nat)|tp (ps:List Pat)
mutual
def Pat.sem:Pat->D->Env->Option Env
 |.nm i,d,env=>some (env.set i (some d))
 |.tp ps,.tup ds,env=>Hr ps ds env
 |.tp _,_,_=>none
def Hr:List Pat->List D->Env->Option Env
 |[],[],env=>some env
 |p::ps,d::ds,env=>(Pat.sem p d env).bind fun e=>Hr ps ds e
 |_,_,_=>none
end
mutual
def Pat.raw(K:U0a):Pat->TG
 |.nm i=>VF i
 |.tp ps=>bM K ps.length (Je K ps)
def Je(K:U0a):List Pat->TGs
 |[]=>bN
 |p::ps=>Yl (Pat.raw K p) (Je K ps)
end
mutual
def Pat.low(k:Nat):Pat->Bool
 |.nm i=>decide (i<k)
 |.tp ps=>YL k ps
def YL(k:Nat):List Pat->Bool
 |[]=>true
 |p::ps=>Pat.low k p&&YL k ps
end
mutual
theorem Pat.mono(K:U0a):∀(p:Pat)(x:V)(σ:St)(H:Hp)(Q Q':St->Hp->Prop),(∀σ' H',Q σ' H'->Q' σ' H')->p.raw K x σ H Q->p.raw K x σ H Q'
 |.nm i,x,σ,H,Q,Q',f,h=>by rw[Pat.raw] at h ⊢;exact f _ _ h
 |.tp ps,x,σ,H,Q,Q',f,h=>by rw[Pat.raw] at h ⊢;obtain⟨a,xs,e,hs,hl,q⟩:=h;exact⟨a,xs,e,hs,hl,Yh K ps xs σ H Q Q' f q⟩
theorem Yh(K:U0a):∀(ps:List Pat)(x:List V)(σ:St)(H:Hp)(Q Q':St->Hp->Prop),(∀σ' H',Q σ' H'->Q' σ' H')->Je K ps x σ H Q->Je K ps x σ H Q'
 |[],x,σ,H,Q,Q',f,h=>by rw[Je] at h ⊢;exact⟨h.1,f _ _ h.2⟩
 |p::ps,x,σ,H,Q,Q',f,h=>by rw[Je] at h ⊢;obtain⟨v,r,e,q⟩:=h;exact⟨v,r,e,Pat.mono K p v σ H _ _ (fun σ1 H1 z=>Yh K ps r σ1 H1 Q Q' f z) q⟩
end
mutual
theorem Pat.Yi(K:U0a){k:Nat}:∀(p:Pat),p.low k=true->Low k (p.raw K)
 |.nm i,h=>by rw[Pat.raw];rw[Pat.low] at h;exact dU (of_decide_eq_true h)
 |.tp ps,h=>by rw[Pat.raw];rw[Pat.low] at h;exact jN (Zd K ps h)
theorem Zd(K:U0a){k:Nat}:∀(ps:List Pat),YL k ps=true->Va k (Je K ps)
 |[],_=>by rw[Je];exact jO
 |p::ps,h=>by
  rw[Je]
  rw[YL,U0x] at h
  exact dW (Pat.Yi K p h.1) (Zd K ps h.2) (Pat.mono K p) (Yh K ps)
end
theorem Vt:∀{ps:List Pat} {ds:List D} {env env':Env},Hr ps ds env=some env'->ds.length=ps.length
 |[],[],_,_,_=>rfl
 |[],_::_,_,_,h=>by simp[Hr] at h
 |_::_,[],_,_,h=>by simp[Hr] at h
 |p::ps,d::ds,env,env',h=>by
  rw[Hr] at h
  cases e1:p.sem d env with
  |none=>rw[e1] at h;cases h
  |some env1 =>
   rw[e1] at h
   rw[U0i,U0i,Vt (show Hr ps ds env1=some env' from h)]
mutual
theorem Pat.run{Γ:Fr}{μ:Mu}{H:Hp}{S:Store}(K:U0a):∀(p:Pat){v:V}{d:D}{σ:St}{env env':Env}{Q:St->Hp->Prop},Rep Γ μ σ H env S->VR Γ μ H v d->p.sem d env=some env'->(∀σ',Rep Γ μ σ' H env' S->Q σ' H)->p.raw K v σ H Q
 |.nm i,v,d,σ,env,env',Q,R,r,e,q=>by
  rw[Pat.raw]
  rw[Pat.sem] at e
  cases e
  exact q _ (R.bI i r)
 |.tp ps,v,d,σ,env,env',Q,R,r,e,q=>by
  rw[Pat.raw]
  cases r with
  |@tup b xs ds hb rs =>
   rw[Pat.sem] at e
   obtain⟨hl,w⟩:=lO K ps R rs e q
   exact⟨b,xs,rfl,SqT.of hb,hl,w⟩
  |_=>simp[Pat.sem] at e
theorem lO{Γ:Fr}{μ:Mu}{H:Hp}{S:Store}(K:U0a):∀(ps:List Pat){vs:List V}{ds:List D}{σ:St}{env env':Env}{Q:St->Hp->Prop},Rep Γ μ σ H env S->VRs Γ μ H vs ds->Hr ps ds env=some env'->(∀σ',Rep Γ μ σ' H env' S->Q σ' H)->vs.length=ps.length/\Je K ps vs σ H Q
 |[],vs,ds,σ,env,env',Q,R,r,e,q=>by
  rw[Je]
  cases r with
  |nil=>rw[Hr] at e;cases e;exact⟨rfl,rfl,q σ R⟩
  |cons _ _=>simp[Hr] at e
 |p::ps,vs,ds,σ,env,env',Q,R,r,e,q=>by
  rw[Je]
  cases r with
  |nil=>simp[Hr] at e
  |@cons y d ys ds' r1 r2 =>
   rw[Hr] at e
   cases e1:p.sem d env with
   |none=>rw[e1] at e;cases e
   |some env1 =>
    rw[e1] at e
    have e':Hr ps ds' env1=some env':=e
    have hl:ys.length=ps.length:=by rw[r2.length];exact Vt e'
    exact⟨by rw[U0i,U0i,hl],y,ys,rfl,Pat.run K p R r1 e1 fun σ1 R1=>(lO K ps R1 r2 e' q).2⟩
end
def calm(w:List (Nat×List D))(S:Store):Prop:=∀p∈w,S[p.1]?=some (some p.2)
open Classical in
def loop(w:List (Nat×List D))(g:Ju)(b:Bl):List D->Bl
 |[],env,S=>if calm w S then some (.nx,env,S) else none
 |d::r,env,S=>if calm w S then (g d env).bind fun e=>(b e S).bind fun p=>match p.1 with
   |.nx=>loop w g b r p.2.1 p.2.2
   |.cnt=>loop w g b r p.2.1 p.2.2
   |.brk=>some (.nx,p.2.1,p.2.2)
   |.ret d=>some (.ret d,p.2.1,p.2.2)
  else none
def Ny(it:Lj)(g:Ju)(b:Bl):Bl:=fun env S=>(it env S).bind fun p=>loop p.1.2 g b p.1.1 env p.2
def Gv(k:Nat)(caps:List Nat)(env:Env):Env:=U0s k none++caps.map fun j=>(env[j]?).join
open Classical in
def G4(w:List (Nat×List D))(e0:Env)(g:Ju)(t:FT)(e:BK):List D->List D->Store->Option (List D×Store)
 |[],ys,S=>if calm w S/\ys.length<=1000000 then some (ys,S) else none
 |d::r,ys,S=>if calm w S/\ys.length<=1000000 then (g d e0).bind fun e1=>(t e1 S).bind fun p =>
   if p.1=true then (e e1 p.2).bind fun q=>G4 w e0 g t e r (ys++[q.1]) q.2 else G4 w e0 g t e r ys p.2
  else none
def Dl(k:Nat)(caps:List Nat)(it:Lj)(g:Ju)(t:FT)(e:BK):Bg:=fun env S=>(it env S).bind fun p=>G4 p.1.2 (Gv k caps env) g t e p.1.1 [] p.2
def Fw:FT:=fun _ S=>some (true,S)
def Bp(a:Bg):BK:=fun env S=>(a env S).bind fun p=>some (.lst true p.1,p.2)
def Jr(a:Bg):BK:=fun env S=>(a env S).bind fun p=>some (.ref p.2.length,p.2++[some p.1])
def Bo(a:Bg):BK:=fun env S=>(a env S).bind fun p=>some (.tup p.1,p.2)
def wpE(K:U0a)(f:BK):TE:=fun σ H Q=>∃Γ μ env S d S',Γ.K=K/\Rep Γ μ σ H env S/\f env S=some (d,S')/\∀v μ' H',Ext μ H μ' H'->Rep Γ μ' σ H' env S'->VR Γ μ' H' v d->Q v H'
def wpA(K:U0a)(f:Bg):TA:=fun σ H Q=>∃Γ μ env S d S',Γ.K=K/\Rep Γ μ σ H env S/\f env S=some (d,S')/\∀v μ' H',Ext μ H μ' H'->Rep Γ μ' σ H' env S'->VRs Γ μ' H' v d->Q v H'
def wpT(K:U0a)(f:FT):TT:=fun σ H Q=>∃Γ μ env S b S',Γ.K=K/\Rep Γ μ σ H env S/\f env S=some (b,S')/\∀μ' H',Ext μ H μ' H'->Rep Γ μ' σ H' env S'->Q b H'
def wpO(K:U0a)(f:RM):TO:=fun σ H Q=>∃Γ μ env S b S',Γ.K=K/\Rep Γ μ σ H env S/\f env S=some (b,S')/\∀μ' H',Ext μ H μ' H'->Rep Γ μ' σ H' env S'->Q b H'
def FlQ(Γ:Fr)(μ:Mu)(E:Ends)(σ:St)(H:Hp):Fl->Prop
 |.nx=>E.nx σ H
 |.brk=>E.bk σ H
 |.cnt=>E.ct σ H
 |.ret d=>∀v,VR Γ μ H v d->E.rt v H
def wpS(K:U0a)(f:Bl):TS:=fun E σ H=>∃Γ μ env S fl env' S',Γ.K=K/\Rep Γ μ σ H env S/\f env S=some (fl,env',S')/\∀μ' σ' H',Ext μ H μ' H'->Rep Γ μ' σ' H' env' S'->FlQ Γ μ' E σ' H' fl
structure Vb(Γ:Fr)(μ:Mu)(H:Hp)(J:It)(ds:List D)(w:List (Nat×List D)):Prop where
 step:∀(i:Nat)(d:D)(μ':Mu)(H':Hp)(σ':St)(env':Env)(S':Store),ds[i]?=some d->Ext μ H μ' H'->Rep Γ μ' σ' H' env' S'->calm w S'->J.go i H'/\∀x H'',J.yld i H' x H''->Same H' H''/\VR Γ μ' H'' x d
 stop:∀(μ':Mu)(H':Hp)(σ':St)(env':Env)(S':Store),Ext μ H μ' H'->Rep Γ μ' σ' H' env' S'->calm w S'->J.stop ds.length H'
def wpI(K:U0a)(f:Lj):TI:=fun σ H R=>∃Γ μ env S ds w S',Γ.K=K/\Rep Γ μ σ H env S/\f env S=some ((ds,w),S')/\∀J μ' H',Ext μ H μ' H'->Rep Γ μ' σ H' env S'->Vb Γ μ' H' J ds w->R J H'
structure JE(X:Cx)(e:Expr)(f:BK):Prop where
 pe:PE X e (wpE X.K f)
structure JA(X:Cx)(es:List Expr)(f:Bg):Prop where
 pa:PA X es (wpA X.K f)
structure JT(X:Cx)(e:Expr)(f:FT):Prop where
 pt:PT X e (wpT X.K f)
structure JW(X:Cx)(e:Expr)(f:FT):Prop where
 pw:PW X e (wpT X.K f)
structure JO(X:Cx)(e:Option Expr)(f:RM):Prop where
 po:PO X e (wpO X.K f)
structure JS(X:Cx)(st:Stmt)(f:Bl):Prop where
 ps:PS X st (wpS X.K f)
structure JSs(X:Cx)(sts:List Stmt)(f:Bl):Prop where
 ps:PSs X sts (wpS X.K f)
structure JI(X:Cx)(tg e:Expr)(f:Lj):Prop where
 pi:PI X tg e (wpI X.K f)
structure JG(X:Cx)(tg:Expr)(p:Pat):Prop where
 pg:PG X tg (p.raw X.K)
structure JGs(X:Cx)(tgs:List Expr)(ps:List Pat):Prop where
 pg:PGs X tgs (Je X.K ps)
structure JTs(X:Cx)(es:List Expr)(f:FT):Prop where
 pt:PTs X es (wpT X.K f)
section
variable{X:Cx}
theorem PE.imp{e:Expr}{t t':TE}(h:PE X e t)(k:∀σ H Q,t' σ H Q->t σ H Q):PE X e t':=fun pins s σ H Q I q=>h pins s σ H Q I (k σ H Q q)
theorem PT.imp{e:Expr}{t t':TT}(h:PT X e t)(k:∀σ H Q,t' σ H Q->t σ H Q):PT X e t':=fun pins s σ H Q I q=>h pins s σ H Q I (k σ H Q q)
theorem PW.imp{e:Expr}{t t':TT}(h:PW X e t)(k:∀σ H Q,t' σ H Q->t σ H Q):PW X e t':=fun w pins s σ H Q I q=>h w pins s σ H Q I (k σ H Q q)
theorem PTs.imp{e:List Expr}{t t':TT}(h:PTs X e t)(k:∀σ H Q,t' σ H Q->t σ H Q):PTs X e t':=fun pins s σ H Q I q=>h pins s σ H Q I (k σ H Q q)
theorem PA.imp{e:List Expr}{t t':TA}(h:PA X e t)(k:∀σ H Q,t' σ H Q->t σ H Q):PA X e t':=fun p pins s σ H Q I q=>h p pins s σ H Q I (k σ H Q q)
theorem PO.imp{e:Option Expr}{t t':TO}(h:PO X e t)(k:∀σ H Q,t' σ H Q->t σ H Q):PO X e t':=fun pins s σ H Q I q=>h pins s σ H Q I (k σ H Q q)
theorem PS.imp{e:Stmt}{t t':TS}(h:PS X e t)(k:∀E σ H,t' E σ H->t E σ H):PS X e t':=fun pins s σ H E I q=>h pins s σ H E I (k E σ H q)
theorem PSs.imp{e:List Stmt}{t t':TS}(h:PSs X e t)(k:∀E σ H,t' E σ H->t E σ H):PSs X e t':=fun pins s σ H E I q=>h pins s σ H E I (k E σ H q)
theorem PI.imp{tg e:Expr}{t t':TI}(h:PI X tg e t)(k:∀σ H R,t' σ H R->t σ H R):PI X tg e t':=fun pins s σ H R I q=>h pins s σ H R I (k σ H R q)
theorem bind_some{α β:Type}{a:Option α}{f:α->Option β}{b:β}(h:a.bind f=some b):∃x,a=some x/\f x=some b:=by
 cases a with
 |none=>cases h
 |some x=>exact⟨x,rfl,h⟩
theorem map_some{α β:Type}{a:Option α}{f:α->β}{b:β}(h:a.map f=some b):∃x,a=some x/\f x=b:=by
 cases a with
 |none=>cases h
 |some x=>exact⟨x,rfl,U0w h⟩
def G7(K:U0a)(r:R2)(g:Store->D->D->Option D):Prop:=∀(Γ:Fr)(μ:Mu)(σ:St)(H:Hp)(env:Env)(S:Store)(x y:V)(dx dy d:D),Γ.K=K->Rep Γ μ σ H env S->VR Γ μ H x dx->VR Γ μ H y dy->g S dx dy=some d ->
 ∀Q:VK,(∀v H',Same H H'->VR Γ μ H' v d->Q v H')->r x y H Q
def mF(K:U0a)(r:V->Hp->VK->Prop)(g:Store->D->Option D):Prop:=∀(Γ:Fr)(μ:Mu)(σ:St)(H:Hp)(env:Env)(S:Store)(x:V)(dx d:D),Γ.K=K->Rep Γ μ σ H env S->VR Γ μ H x dx->g S dx=some d ->
 ∀Q:VK,(∀v H',Same H H'->VR Γ μ H' v d->Q v H')->r x H Q
def Li(K:U0a)(r:List V->Hp->VK->Prop)(g:Store->List D->Option D):Prop:=∀(Γ:Fr)(μ:Mu)(σ:St)(H:Hp)(env:Env)(S:Store)(xs:List V)(ds:List D)(d:D),Γ.K=K->Rep Γ μ σ H env S->VRs Γ μ H xs ds->g S ds=some d ->
 ∀Q:VK,(∀v H',Same H H'->VR Γ μ H' v d->Q v H')->r xs H Q
def gO(K:U0a)(r:V->Option Int->Option Int->Hp->VK->Prop)(g:Store->D->Option Int->Option Int->Option D):Prop:=∀(Γ:Fr)(μ:Mu)(σ:St)(H:Hp)(env:Env)(S:Store)(x:V)(dx d:D)(l h:Option Int),Γ.K=K->Rep Γ μ σ H env S->VR Γ μ H x dx->g S dx l h=some d ->
 ∀Q:VK,(∀v H',Same H H'->VR Γ μ H' v d->Q v H')->r x l h H Q
theorem VD{K:U0a}{r:R2}{g:Store->D->D->Option D}{fa fb:BK}(hs:G7 K r g){σ:St}{H:Hp}{Q:VK}(h:wpE K (eOp g fa fb) σ H Q):tOp r (wpE K fa) (wpE K fb) σ H Q:=by
 obtain⟨Γ,μ,env,S,d,S',hK,R,e,q⟩:=h
 obtain⟨⟨x,S1⟩,e1,e⟩:=bind_some e
 obtain⟨⟨y,S2⟩,e2,e⟩:=bind_some e
 obtain⟨z,e3,e⟩:=map_some e
 cases e
 refine⟨Γ,μ,env,S,x,S1,hK,R,e1,fun v1 μ1 H1 x1 R1 r1=>?_⟩
 refine⟨Γ,μ1,env,S1,y,S2,hK,R1,e2,fun v2 μ2 H2 x2 R2 r2=>?_⟩
 refine hs Γ μ2 σ H2 env S2 v1 v2 x y _ hK R2 (r1.ext x2) r2 e3 Q fun v H' sm rv=>?_
 obtain⟨R3,x3⟩:=R2.grow sm
 exact q v μ2 H' (x1.trans (x2.trans x3)) R3 rv
theorem BW{op:Operator}{r:R2}{g:Store->D->D->Option D}{a b:Expr}{fa fb:BK}{pos:Pos}(ho:OpR X (binaryOp op) r)(hs:G7 X.K r g)(ha:JE X a fa)(hb:JE X b fb):JE X (.BinOp a op b pos) (eOp g fa fb) :=
 ⟨PE.imp (qm ho ha.pe hb.pe) fun _ _ _ h=>VD hs h⟩
theorem K4{op:CmpOp}{r:R2}{g:Store->D->D->Option D}{a b:Expr}{fa fb:BK}{pos:Pos}(ho:OpR X (compareOp op) r)(hs:G7 X.K r g)(ha:JE X a fa)(hb:JE X b fb)(hm:behindInMarks op b=false):JE X (.Compare a [op] [b] pos) (eOp g fa fb) :=
 ⟨PE.imp (Xx ho ha.pe hb.pe hm) fun _ _ _ h=>VD hs h⟩
theorem Bs{r:R2}{g:Store->D->D->Option D}{a b:Expr}{fa fb:BK}{pos:Pos}(ho:IxR X r)(hs:G7 X.K r g)(ha:JE X a fa)(hb:JE X b fb)(hp:Qs b):JE X (.Subscript a b pos) (eOp g fa fb) :=
 ⟨PE.imp (qp ho ha.pe hb.pe hp) fun _ _ _ h=>VD hs h⟩
theorem Kr{op:UnaryOp}{r:V->Hp->VK->Prop}{g:Store->D->Option D}{a:Expr}{fa:BK}{pos:Pos}(ho:UnR X (unaryOp op) r)(hs:mF X.K r g)(ha:JE X a fa):JE X (.UnaryOp op a pos) (eUn g fa) :=
 ⟨PE.imp (qj ho ha.pe) fun σ H Q h=>by
  obtain⟨Γ,μ,env,S,d,S',hK,R,e,q⟩:=h
  obtain⟨⟨x,S1⟩,e1,e⟩:=bind_some e
  obtain⟨z,e3,e⟩:=map_some e
  cases e
  refine⟨Γ,μ,env,S,x,S1,hK,R,e1,fun v1 μ1 H1 x1 R1 r1=>?_⟩
  refine hs Γ μ1 σ H1 env S1 v1 x _ hK R1 r1 e3 Q fun v H' sm rv=>?_
  obtain⟨R3,x3⟩:=R1.grow sm
  exact q v μ1 H' (x1.trans x3) R3 rv⟩
theorem Ad(i:Nat){x:Str}{pos:Pos}(hN:X.N[i]?=some x:=by rfl)(hv:Vis X.env.scope x:=by first|exact U68 rfl|exact U6n (U68 rfl)|exact U6n (U6n rfl))(hd:(x==("__debug__":Str))=false:=by decide)
  (hcd:(x==("__classdict__":Str))=false:=by decide):JE X (.Name x pos) (Ac i) :=
 ⟨PE.imp (ZQ hN hv hd hcd) fun σ H Q h=>by
  obtain⟨Γ,μ,env,S,d,S',hK,R,e,q⟩:=h
  obtain⟨d',e1,e⟩:=map_some e
  cases e
  have e1':env[i]?=some (some d):=by
   cases h:env[i]? with
   |none=>rw[h] at e1;cases e1
   |some o=>rw[h] at e1;exact congrArg some e1
  obtain⟨v,h1,h2⟩:=R.vals i d e1'
  exact⟨v,h1,q v μ H (Ext.refl _ _) R h2⟩⟩
theorem YH{K:U0a}{v:V}{d:D}(h:∀Γ μ H,VR Γ μ H v d){σ:St}{H:Hp}{Q:VK}(w:wpE K (eC d) σ H Q):tC v σ H Q:=by
 obtain⟨Γ,μ,env,S,d',S',hK,R,e,q⟩:=w
 cases e
 exact q v μ H (Ext.refl _ _) R (h Γ μ H)
theorem Ah{i j pos}:JE X (.Constant (.int i) j pos) (eC (.int i)):=⟨PE.imp nT fun _ _ _=>YH fun _ _ _=>.int i⟩
theorem Jx{b j pos}:JE X (.Constant (.bool b) j pos) (eC (.bl b)):=⟨PE.imp qu fun _ _ _=>YH fun _ _ _=>.bl b⟩
theorem oW{j pos}:JE X (.Constant .none j pos) (eC .non):=⟨PE.imp nR fun _ _ _=>YH fun _ _ _=>.non⟩
theorem Hs{n:String}{x:Str}{pos:Pos}(hg:Gl X x)(hm:X.mg x=none)(hv:bootBuiltins x=some (.type n))(hn:x≠"__name__":=by decide)(hd:(x==("__debug__":Str))=false:=by decide):JE X (.Name x pos) (eC (.ty n)) :=
 ⟨PE.imp (jD (v:=.ty n) hg hm hv rfl hn hd) fun _ _ _=>YH fun _ _ _=>.ty n⟩
theorem Ag:JA X [] Af:=⟨PA.imp Q5 fun σ H Q h=>by
 obtain⟨Γ,μ,env,S,d,S',hK,R,e,q⟩:=h
 cases e
 exact q [] μ H (Ext.refl _ _) R .nil⟩
theorem Ab{e:Expr}{es:List Expr}{f:BK}{r:Bg}(ha:JE X e f)(hr:JA X es r)(hs:starEach (e::es) X.env=(false,eval e X.env)::starEach es X.env:=by rfl):JA X (e::es) (Aa f r) :=
 ⟨PA.imp (OJ ha.pe hr.pa hs) fun σ H Q h=>by
  obtain⟨Γ,μ,env,S,d,S',hK,R,e,q⟩:=h
  obtain⟨⟨x,S1⟩,e1,e⟩:=bind_some e
  obtain⟨⟨y,S2⟩,e2,e⟩:=bind_some e
  cases e
  refine⟨Γ,μ,env,S,x,S1,hK,R,e1,fun v1 μ1 H1 x1 R1 r1=>?_⟩
  refine⟨Γ,μ1,env,S1,y,S2,hK,R1,e2,fun v2 μ2 H2 x2 R2 r2=>?_⟩
  exact q _ μ2 H2 (x1.trans x2) R2 (.cons (r1.ext x2) r2)⟩
theorem big{n:Nat}(h:n<=1000000):n<sizeLine:=U5 h (by decide)
theorem mJ{K:U0a}{f:Bg}{σ:St}{H:Hp}{Q:VK}(hl:∀env S p,f env S=some p->p.1.length<=1000000)(h:wpE K (Bo f) σ H Q):lF (wpA K f) σ H Q:=by
 obtain⟨Γ,μ,env,S,d,S',hK,R,e,q⟩:=h
 obtain⟨⟨x,S1⟩,e1,e⟩:=bind_some e
 cases e
 refine⟨Γ,μ,env,S,x,S1,hK,R,e1,fun vs μ1 H1 x1 R1 r1=>⟨by rw[r1.length];exact U19 (big (hl _ _ _ e1)),fun p hp=>?_⟩⟩
 have sm:=Di hp (.tup vs)
 obtain⟨R2,x2⟩:=R1.grow sm
 exact q _ μ1 _ (x1.trans x2) R2 (.tup CZ (r1.ext x2))
def Few(n:Nat)(f:Bg):Prop:=∀env S p,f env S=some p->p.1.length<=n
theorem Ao:Few 0 Af:=fun env S p h=>by cases h;exact U0m _
theorem Aj{n:Nat}{f:BK}{r:Bg}(h:Few n r):Few (n+1) (Aa f r):=fun env S p e=>by
 obtain⟨⟨x,S1⟩,e1,e⟩:=bind_some e
 obtain⟨⟨y,S2⟩,e2,e⟩:=bind_some e
 cases e
 have:=h _ _ _ e2
 show(x::y).length<=n+1
 rw[U0i]
 exact Nat.succ_le_succ this
theorem CG{es:List Expr}{f:Bg}{x1:Nat}{pos:Pos}{n:Nat}(h:JA X es f)(hf:Few n f)(hn:n<=1000000:=by decide):JE X (.Tuple es x1 pos) (Bo f):=⟨PE.imp (nO h.pa) fun _ _ _ w=>mJ (fun env S p e=>U02 (hf env S p e) hn) w⟩
theorem Ds{es:List Expr}{f:Bg}{pos:Pos}{n:Nat}(h:JA X es f)(hf:Few n f)(hn:n<=1000000:=by decide):JE X (.List es pos) (Bp f):=⟨PE.imp (ZR h.pa) fun σ H Q w=>by
 obtain⟨Γ,μ,env,S,d,S',hK,R,e,q⟩:=w
 obtain⟨⟨x,S1⟩,e1,e⟩:=bind_some e
 cases e
 refine⟨Γ,μ,env,S,x,S1,hK,R,e1,fun vs μ1 H1 x1 R1 r1=>⟨by rw[r1.length];exact U19 (big (U02 (hf _ _ _ e1) hn)),fun p hp=>?_⟩⟩
 obtain⟨R2,x2⟩:=R1.grow (Di hp (.lst vs))
 exact q _ μ1 _ (x1.trans x2) R2 (.lst (R1.ok hp true) (R1.dead hp) CZ (r1.ext x2))⟩
theorem MF{es:List Expr}{f:Bg}{pos:Pos}{n:Nat}(h:JA X es f)(hf:Few n f)(hn:n<=1000000:=by decide):JE X (.List es pos) (Jr f):=⟨PE.imp (ZR h.pa) fun σ H Q w=>by
 obtain⟨Γ,μ,env,S,d,S',hK,R,e,q⟩:=w
 obtain⟨⟨x,S1⟩,e1,e⟩:=bind_some e
 cases e
 refine⟨Γ,μ,env,S,x,S1,hK,R,e1,fun vs μ1 H1 x1 R1 r1=>⟨by rw[r1.length];exact U19 (big (U02 (hf _ _ _ e1) hn)),fun p hp=>?_⟩⟩
 obtain⟨R2,x2⟩:=R1.laid hp r1
 exact q _ _ _ (x1.trans x2) R2 (.ref (by rw[U0o,R1.slen];simp) fun a h=>by
  rw[R1.slen] at h
  simp at h
  rw[←h]
  exact⟨rfl,⟨_,CZ⟩⟩)⟩
end
end VS
end
section
namespace VS
open PySem PySem.Spec L2
section
variable{X:Cx}{a b c:Expr}{fa fb fc:BK}{pos:Pos}{rest:List Expr}
theorem SJ{op}(h:JE X a fa):JE X (.BoolOp op [a] pos) fa:=⟨nP h.pe⟩
theorem O8(ha:JE X a fa)(hb:JE X (.BoolOp .And (b::rest) pos) fb):JE X (.BoolOp .And (a::b::rest) pos) (Pr fa fb):=⟨PE.imp (nU ha.pe hb.pe) fun σ H Q h=>by
 obtain⟨Γ,μ,env,S,d,S',hK,R,e,q⟩:=h
 obtain⟨⟨x,S1⟩,e1,e⟩:=bind_some e
 refine⟨Γ,μ,env,S,x,S1,hK,R,e1,fun v1 μ1 H1 x1 R1 r1=>?_⟩
 dsimp only at e
 split at e
 .cases r1
  exact⟨true,rfl,by rw[if_pos rfl];exact⟨Γ,μ1,env,S1,d,S',hK,R1,e,fun v μ' H' x' R' r'=>q v μ' H' (x1.trans x') R' r'⟩⟩
 .cases r1
  cases e
  exact⟨false,rfl,by rw[if_neg U05];exact q _ μ1 H1 x1 R1 (.bl false)⟩
 .cases e⟩
theorem Zb(ha:JE X a fa):JE X (.UnaryOp .Not a pos) (YQ fa):=⟨PE.imp (nQ ha.pe) fun σ H Q h=>by
 obtain⟨Γ,μ,env,S,d,S',hK,R,e,q⟩:=h
 obtain⟨⟨x,S1⟩,e1,e⟩:=bind_some e
 refine⟨Γ,μ,env,S,x,S1,hK,R,e1,fun v1 μ1 H1 x1 R1 r1=>?_⟩
 dsimp only at e
 split at e
 .rename_i c
  cases r1
  cases e
  exact⟨c,rfl,q _ μ1 H1 x1 R1 (.bl _)⟩
 .cases e⟩
theorem HN{e:Expr}(h:JE X e fa)(he:∀whole,isTrue e X.env whole=(do let v ←whole;standAt e.pos;holding [v] (truthy v)):=by intro _;rfl):JT X e (Bt fa):=⟨PT.imp (n6 h.pe he) fun σ H Q h=>by
 obtain⟨Γ,μ,env,S,d,S',hK,R,e,q⟩:=h
 obtain⟨⟨x,S1⟩,e1,e⟩:=bind_some e
 refine⟨Γ,μ,env,S,x,S1,hK,R,e1,fun v1 μ1 H1 x1 R1 r1=>?_⟩
 dsimp only at e
 split at e
 .rename_i c
  cases r1
  cases e
  exact⟨_,rfl,q μ1 H1 x1 R1⟩
 .cases e⟩
theorem Xe{K:U0a}{f:BK}{t:TE}(ht:∀σ H Q,wpE K f σ H Q->t σ H Q){σ:St}{H:Hp}{Q:Bool->Hp->Prop}(h:wpT K (Bt f) σ H Q):Yb t σ H Q:=by
 obtain⟨Γ,μ,env,S,d,S',hK,R,e,q⟩:=h
 obtain⟨⟨x,S1⟩,e1,e⟩:=bind_some e
 refine ht σ H _ ⟨Γ,μ,env,S,x,S1,hK,R,e1,fun v1 μ1 H1 x1 R1 r1=>?_⟩
 dsimp only at e
 split at e
 .cases r1
  cases e
  exact⟨_,rfl,q μ1 H1 x1 R1⟩
 .cases e
theorem Cy{op:CmpOp}{r:R2}{g:Store->D->D->Option D}(ho:OpR X (compareOp op) r)(hs:G7 X.K r g)(ha:JE X a fa)(hb:JE X b fb)(hm:behindInMarks op b=false):JT X (.Compare a [op] [b] pos) (Bt (eOp g fa fb)) :=
 ⟨PT.imp (ig ho ha.pe hb.pe hm) fun σ H Q h=>Xe (fun _ _ _=>VD hs) h⟩
theorem bY{K:U0a}{r r':R2}{g g':Store->D->D->Option D}(hs:G7 K r g)(hs':G7 K r' g'){σ:St}{H:Hp}{Q:VK}(h:wpE K (QB g g' fa fb fc) σ H Q):ZK r r' (wpE K fa) (wpE K fb) (wpE K fc) σ H Q:=by
 obtain⟨Γ,μ,env,S,d,S',hK,R,e,q⟩:=h
 obtain⟨⟨x,S1⟩,e1,e⟩:=bind_some e
 obtain⟨⟨y,S2⟩,e2,e⟩:=bind_some e
 obtain⟨z,e3,e⟩:=bind_some e
 refine⟨Γ,μ,env,S,x,S1,hK,R,e1,fun v1 μ1 H1 x1 R1 r1=>?_⟩
 refine⟨Γ,μ1,env,S1,y,S2,hK,R1,e2,fun v2 μ2 H2 x2 R2 r2=>?_⟩
 refine hs Γ μ2 σ H2 env S2 v1 v2 x y _ hK R2 (r1.ext x2) r2 e3 _ fun v H3 sm rv=>?_
 obtain⟨R3,x3⟩:=R2.grow sm
 dsimp only at e
 split at e
 .cases rv
  refine⟨true,rfl,?_⟩
  rw[if_pos rfl]
  obtain⟨⟨u,S3⟩,e4,e⟩:=bind_some e
  obtain⟨w,e5,e⟩:=map_some e
  cases e
  refine⟨Γ,μ2,env,S2,u,S3,hK,R3,e4,fun v4 μ4 H4 x4 R4 r4=>?_⟩
  refine hs' Γ μ4 σ H4 env S3 v2 v4 y u _ hK R4 (r2.ext (x3.trans x4)) r4 e5 _ fun v5 H5 sm5 rv5=>?_
  obtain⟨R5,x5⟩:=R4.grow sm5
  exact q v5 μ4 H5 (x1.trans (x2.trans (x3.trans (x4.trans x5)))) R5 rv5
 .cases rv
  cases e
  refine⟨false,rfl,?_⟩
  rw[if_neg U05]
  exact q _ μ2 H3 (x1.trans (x2.trans x3)) R3 (.bl false)
 .cases e
theorem W4{op op':CmpOp}{r r':R2}{g g':Store->D->D->Option D}(ho:OpR X (compareOp op) r)(hs:G7 X.K r g)(ho':OpR X (compareOp op') r')(hs':G7 X.K r' g')(ha:JE X a fa)(hb:JE X b fb)(hc:JE X c fc)
  (hm:lastMarks [op,op'] [b,c]=false:=by with_unfolding_all rfl):JT X (.Compare a [op,op'] [b,c] pos) (Bt (QB g g' fa fb fc)):=⟨PT.imp (cY ho ho' ha.pe hb.pe hc.pe hm) fun _ _ _ h=>Xe (fun _ _ _=>bY hs hs') h⟩
variable{ta tb:FT}
theorem Jw(h:JW X a ta):JT X a ta:=⟨h.pw.pt⟩
theorem Tg(ha:JT X a ta):JW X (.BoolOp .And [a] pos) ta:=⟨iW ha.pt⟩
theorem LR(ha:JT X a ta):JW X (.BoolOp .Or [a] pos) ta:=⟨mq ha.pt⟩
theorem Q7(ha:JT X a ta)(hb:JW X (.BoolOp .And (b::rest) pos) tb):JW X (.BoolOp .And (a::b::rest) pos) (Mg ta tb):=⟨PW.imp (mz ha.pt hb.pw) fun σ H Q h=>by
 obtain⟨Γ,μ,env,S,d,S',hK,R,e,q⟩:=h
 obtain⟨⟨x,S1⟩,e1,e⟩:=bind_some e
 refine⟨Γ,μ,env,S,x,S1,hK,R,e1,fun μ1 H1 x1 R1=>?_⟩
 dsimp only at e
 by_cases hx:x=true
 .rw[if_pos hx] at e ⊢
  exact⟨Γ,μ1,env,S1,d,S',hK,R1,e,fun μ' H' x' R'=>q μ' H' (x1.trans x') R'⟩
 .rw[if_neg hx] at e ⊢
  cases e
  exact q μ1 H1 x1 R1⟩
theorem Jv(ha:JT X a ta)(hb:JW X (.BoolOp .Or (b::rest) pos) tb):JW X (.BoolOp .Or (a::b::rest) pos) (tOr ta tb):=⟨PW.imp (qe ha.pt hb.pw) fun σ H Q h=>by
 obtain⟨Γ,μ,env,S,d,S',hK,R,e,q⟩:=h
 obtain⟨⟨x,S1⟩,e1,e⟩:=bind_some e
 refine⟨Γ,μ,env,S,x,S1,hK,R,e1,fun μ1 H1 x1 R1=>?_⟩
 dsimp only at e
 by_cases hx:x=true
 .rw[if_pos hx] at e ⊢
  cases e
  exact q μ1 H1 x1 R1
 .rw[if_neg hx] at e ⊢
  exact⟨Γ,μ1,env,S1,d,S',hK,R1,e,fun μ' H' x' R'=>q μ' H' (x1.trans x') R'⟩⟩
theorem Il(ha:JT X a ta):JT X (.UnaryOp .Not a pos) (Hq ta):=⟨PT.imp (n8 ha.pt) fun σ H Q h=>by
 obtain⟨Γ,μ,env,S,d,S',hK,R,e,q⟩:=h
 obtain⟨⟨x,S1⟩,e1,e⟩:=bind_some e
 cases e
 exact⟨Γ,μ,env,S,x,S1,hK,R,e1,fun μ1 H1 x1 R1=>q μ1 H1 x1 R1⟩⟩
theorem eV(hc:JT X c ta)(ha:JE X a fa)(hb:JE X b fb):JE X (.IfExp c a b pos) (eIf ta fa fb):=⟨PE.imp (dF hc.pt ha.pe hb.pe) fun σ H Q h=>by
 obtain⟨Γ,μ,env,S,d,S',hK,R,e,q⟩:=h
 obtain⟨⟨x,S1⟩,e1,e⟩:=bind_some e
 refine⟨Γ,μ,env,S,x,S1,hK,R,e1,fun μ1 H1 x1 R1=>?_⟩
 dsimp only at e
 by_cases hx:x=true
 .rw[if_pos hx] at e ⊢
  exact⟨Γ,μ1,env,S1,d,S',hK,R1,e,fun v μ' H' x' R' r=>q v μ' H' (x1.trans x') R' r⟩
 .rw[if_neg hx] at e ⊢
  exact⟨Γ,μ1,env,S1,d,S',hK,R1,e,fun v μ' H' x' R' r=>q v μ' H' (x1.trans x') R' r⟩⟩
theorem GJ:JTs X [] Fw:=⟨PTs.imp iZ fun σ H Q h=>by
 obtain⟨Γ,μ,env,S,d,S',hK,R,e,q⟩:=h
 cases e
 exact q μ H (Ext.refl _ _) R⟩
theorem Ti(h:JT X c ta):JTs X [c] ta:=⟨iY h.pt⟩
variable{lo hi:Option Expr}{ol oh:RM}{p2:Pos}
theorem GP:JO X none GC:=⟨PO.imp j6 fun σ H Q h=>by
 obtain⟨Γ,μ,env,S,d,S',hK,R,e,q⟩:=h
 cases e
 exact q μ H (Ext.refl _ _) R⟩
theorem GK(h:JE X a fa):JO X (some a) (G9 fa):=⟨PO.imp (j5 h.pe) fun σ H Q h=>by
 obtain⟨Γ,μ,env,S,d,S',hK,R,e,q⟩:=h
 obtain⟨⟨x,S1⟩,e1,e⟩:=bind_some e
 refine⟨Γ,μ,env,S,x,S1,hK,R,e1,fun v1 μ1 H1 x1 R1 r1=>?_⟩
 dsimp only at e
 split at e
 .cases r1
  cases e
  exact⟨_,rfl,q μ1 H1 x1 R1⟩
 .cases e⟩
theorem Fg{r:V->Option Int->Option Int->Hp->VK->Prop}{g:Store->D->Option Int->Option Int->Option D}(hr:SlR X r)(hs:gO X.K r g)(ha:JE X a fa)(hl:JO X lo ol)(hh:JO X hi oh) :
  JE X (.Subscript a (.Slice lo hi none p2) pos) (eSl g fa ol oh):=⟨PE.imp (dB hr ha.pe hl.po hh.po) fun σ H Q h=>by
 obtain⟨Γ,μ,env,S,d,S',hK,R,e,q⟩:=h
 obtain⟨⟨x,S1⟩,e1,e⟩:=bind_some e
 obtain⟨⟨l,S2⟩,e2,e⟩:=bind_some e
 obtain⟨⟨u,S3⟩,e3,e⟩:=bind_some e
 obtain⟨z,e4,e⟩:=map_some e
 cases e
 refine⟨Γ,μ,env,S,x,S1,hK,R,e1,fun v1 μ1 H1 x1 R1 r1=>?_⟩
 refine⟨Γ,μ1,env,S1,l,S2,hK,R1,e2,fun μ2 H2 x2 R2=>?_⟩
 refine⟨Γ,μ2,env,S2,u,S3,hK,R2,e3,fun μ3 H3 x3 R3=>?_⟩
 refine hs Γ μ3 σ H3 env S3 v1 x _ l u hK R3 (r1.ext (x2.trans x3)) e4 Q fun v H' sm rv=>?_
 obtain⟨R4,x4⟩:=R3.grow sm
 exact q v μ3 H' (x1.trans (x2.trans (x3.trans x4))) R4 rv⟩
theorem fQ{K:U0a}{r:List V->Hp->VK->Prop}{g:Store->List D->Option D}{f:Bg}(hs:Li K r g){σ:St}{H:Hp}{Q:VK}(h:wpE K (eCB g f) σ H Q):tCB r (wpA K f) σ H Q:=by
 obtain⟨Γ,μ,env,S,d,S',hK,R,e,q⟩:=h
 obtain⟨⟨x,S1⟩,e1,e⟩:=bind_some e
 obtain⟨z,e4,e⟩:=map_some e
 cases e
 refine⟨Γ,μ,env,S,x,S1,hK,R,e1,fun v1 μ1 H1 x1 R1 r1=>?_⟩
 refine hs Γ μ1 σ H1 env S1 v1 x _ hK R1 r1 e4 Q fun v H' sm rv=>?_
 obtain⟨R4,x4⟩:=R1.grow sm
 exact q v μ1 H' (x1.trans x4) R4 rv
variable{x:Str}{p:Pos}{e:Expr}{es:List Expr}{id T:String}{f:Bg}
theorem Bv{r:List V->Hp->VK->Prop}{g:Store->List D->Option D}(hc:Dr X (.builtin id) r)(hsm:Li X.K r g)(hg:Gl X x)(hm:X.mg x=none)(hv:bootBuiltins x=some (.builtin id))(ha:JA X (e::es) f)(hn:x≠"__name__":=by decide)(hdb:(x==("__debug__":Str))=false:=by decide)
  (he:starEach (e::es) X.env=(false,eval e X.env)::starEach es X.env:=by rfl) (hpl:(backTo pos (starEach es X.env)).any (·.1)=false:=by rfl):JE X (.Call (.Name x p) (e::es) [] pos) (eCB g f) :=
 ⟨PE.imp (RT hc hg hm hv ha.pa hn hdb he hpl) fun _ _ _ h=>fQ hsm h⟩
theorem Np{r:List V->Hp->VK->Prop}{g:Store->List D->Option D}(hc:Dr X (.type T) r)(hsm:Li X.K r g)(hg:Gl X x)(hm:X.mg x=none)(hv:bootBuiltins x=some (.type T))(ha:JA X (e::es) f)(hn:x≠"__name__":=by decide)(hdb:(x==("__debug__":Str))=false:=by decide)
  (he:starEach (e::es) X.env=(false,eval e X.env)::starEach es X.env:=by rfl) (hpl:(backTo pos (starEach es X.env)).any (·.1)=false:=by rfl):JE X (.Call (.Name x p) (e::es) [] pos) (eCB g f) :=
 ⟨PE.imp (Lf hc hg hm hv ha.pa hn hdb he hpl) fun _ _ _ h=>fQ hsm h⟩
end
section
variable{X:Cx}{st:Stmt}{sts:List Stmt}{f g:Bl}{fa:BK}{a:Expr}{pos:Pos}{K:U0a}
theorem qN{E:Ends}{σ:St}{H:Hp}{fl:Fl}(h:wpS K (fun env S=>some (fl,env,S)) E σ H):∃Γ μ,FlQ Γ μ E σ H fl:=by
 obtain⟨Γ,μ,env,S,fl',env',S',hK,R,e,q⟩:=h
 cases e
 exact⟨Γ,μ,q μ σ H (Ext.refl _ _) R⟩
theorem DW:JSs X [] Ep:=⟨PSs.imp iw fun E σ H h=>let ⟨_,_,q⟩:=qN (fl:=.nx) h;q⟩
theorem eE:JS X st Ve:=⟨PS.imp cg fun E σ H h=>by obtain⟨_,_,_,_,_,_,_,_,_,e,_⟩:=h;cases e⟩
theorem Am(h1:JS X st f)(h2:JSs X sts g):JSs X (st::sts) (Bh f g):=⟨PSs.imp (cZ h1.ps h2.ps) fun E σ H h=>by
 obtain⟨Γ,μ,env,S,fl,env',S',hK,R,e,q⟩:=h
 obtain⟨⟨fl1,env1,S1⟩,e1,e⟩:=bind_some e
 refine⟨Γ,μ,env,S,fl1,env1,S1,hK,R,e1,fun μ1 σ1 H1 x1 R1=>?_⟩
 dsimp only at e
 cases fl1 with
 |nx=>exact⟨Γ,μ1,env1,S1,fl,env',S',hK,R1,e,fun μ' σ' H' x' R'=>q μ' σ' H' (x1.trans x') R'⟩
 |brk=>cases e;exact q μ1 σ1 H1 x1 R1
 |cnt=>cases e;exact q μ1 σ1 H1 x1 R1
 |ret d=>cases e;exact q μ1 σ1 H1 x1 R1⟩
theorem Az(h1:JS X st f):JSs X [st] f:=⟨iu h1.ps⟩
theorem K3(he:JE X a fa)(hs:swapsWith a none pos.line X.env=pure false:=by rfl):JS X (.Expr a pos) (JR fa):=⟨PS.imp (j4 he.pe hs) fun E σ H h=>by
 obtain⟨Γ,μ,env,S,fl,env',S',hK,R,e,q⟩:=h
 obtain⟨⟨x,S1⟩,e1,e⟩:=bind_some e
 cases e
 exact⟨Γ,μ,env,S,x,S1,hK,R,e1,fun v1 μ1 H1 x1 R1 r1=>q μ1 σ H1 x1 R1⟩⟩
theorem CJ(he:JE X a fa):JS X (.Return (some a) pos) (DQ fa):=⟨PS.imp (nF he.pe) fun E σ H h=>by
 obtain⟨Γ,μ,env,S,fl,env',S',hK,R,e,q⟩:=h
 obtain⟨⟨x,S1⟩,e1,e⟩:=bind_some e
 cases e
 exact⟨Γ,μ,env,S,x,S1,hK,R,e1,fun v1 μ1 H1 x1 R1 r1=>q μ1 σ H1 x1 R1 v1 r1⟩⟩
theorem Ef{c:Expr}{A B:List Stmt}{tc:FT}(hc:JT X c tc)(ha:JSs X A f)(hb:JSs X B g):JS X (.If c A B pos) (sIf tc f g):=⟨PS.imp (qg hc.pt ha.ps hb.ps) fun E σ H h=>by
 obtain⟨Γ,μ,env,S,fl,env',S',hK,R,e,q⟩:=h
 obtain⟨⟨x,S1⟩,e1,e⟩:=bind_some e
 refine⟨Γ,μ,env,S,x,S1,hK,R,e1,fun μ1 H1 x1 R1=>?_⟩
 dsimp only at e
 by_cases hx:x=true
 .rw[if_pos hx] at e ⊢
  exact⟨Γ,μ1,env,S1,fl,env',S',hK,R1,e,fun μ' σ' H' x' R'=>q μ' σ' H' (x1.trans x') R'⟩
 .rw[if_neg hx] at e ⊢
  exact⟨Γ,μ1,env,S1,fl,env',S',hK,R1,e,fun μ' σ' H' x' R'=>q μ' σ' H' (x1.trans x') R'⟩⟩
theorem Cz{i:Nat}{x:Str}{pos':Pos}(hN:X.N.Nodup)(he:JE X a fa)(hi:X.N[i]?=some x:=by rfl)(hx:Loc X.env.scope x:=by first|exact U68 rfl|exact U6n rfl)(hs:swapsWith a (some (.Name x pos')) pos.line X.env=pure false:=by rfl)
  (hf:X.fn x=true∨X.env.scope.names.lookup x=some .local:=by first|exact .inl rfl|exact .inr rfl|assumption):JS X (.Assign [.Name x pos'] a pos) (Cd i fa):=⟨PS.imp (nA hN hi hx he.pe hs hf) fun E σ H h=>by
 obtain⟨Γ,μ,env,S,fl,env',S',hK,R,e,q⟩:=h
 obtain⟨⟨y,S1⟩,e1,e⟩:=bind_some e
 cases e
 exact⟨Γ,μ,env,S,y,S1,hK,R,e1,fun v1 μ1 H1 x1 R1 r1=>q μ1 _ H1 x1 (R1.bI i r1)⟩⟩
theorem CQ{i:Nat}{x:Str}(hN:X.N.Nodup)(hi:X.N[i]?=some x:=by rfl)(hx:Loc X.env.scope x:=by first|exact U68 rfl|exact U6n rfl)
  (hf:X.fn x=true∨X.env.scope.names.lookup x=some .local:=by first|exact .inl rfl|exact .inr rfl|assumption):JG X (.Name x pos) (.nm i):=⟨by rw[Pat.raw];exact jA hN hi hx hf⟩
theorem Jl:JGs X [] []:=⟨by rw[Je];exact j9⟩
theorem Eb{e:Expr}{es:List Expr}{t:Pat}{u:List Pat}(h1:JG X e t)(h2:JGs X es u)
  (hs:(assignEach (e::es) X.env).map (·.2)=assign e X.env::(assignEach es X.env).map (·.2):=by rfl):JGs X (e::es) (t::u):=⟨by rw[Je];exact d9 h1.pg h2.pg hs⟩
theorem Lb{es:List Expr}{k:Nat}{gs:List Pat}(hc:X.calm=true)(h:JGs X es gs)(hn:(assignEach es X.env).length=gs.length:=by rfl)(hst:(assignEach es X.env).findIdx? (·.1)=none:=by rfl):JG X (.Tuple es k pos) (.tp gs) :=
 ⟨by rw[Pat.raw];exact nJ hc h.pg hn hst⟩
theorem Za{tg:Expr}{gg:Pat}(he:JE X a fa)(hg:JG X tg gg)(hs:swapsWithSole [tg] a pos.line X.env=pure false:=by rfl)(hw:swappedStores [tg] a X.env=pure none:=by rfl)
  (h1:(assignEach [tg] X.env).map (·.2)=[assign tg X.env]:=by rfl):JS X (.Assign [tg] a pos) (VH fa gg.sem):=⟨PS.imp (ZP he.pe hg.pg hs hw h1) fun E σ H h=>by
 obtain⟨Γ,μ,env,S,fl,env',S',hK,R,e,q⟩:=h
 obtain⟨⟨y,S1⟩,e1,e⟩:=bind_some e
 obtain⟨env1,e2,e⟩:=bind_some e
 cases e
 exact⟨Γ,μ,env,S,y,S1,hK,R,e1,fun v1 μ1 H1 x1 R1 r1=>gg.run X.K R1 r1 e2 fun σ' R'=>q μ1 σ' H1 x1 R'⟩⟩
theorem La{tg iter:Expr}{body:List Stmt}{it:Lj}{gg:Pat}(hc:X.calm=true)(hi:JI X tg iter it)(hg:JG X tg gg)(hb:JSs X body f)(hp:PassesOwn (model X.prog X.w) X.A X.env X.xe)
  (hs:∀x,foldedSetIterable iter X.env x=pure x:=by intro _;rfl):JS X (.For tg iter body [] pos) (Ny it gg.sem f):=⟨PS.imp (nG hp hc hi.pi hg.pg hb.ps hs) fun E σ H h=>by
 obtain⟨Γ,μ,env,S,fl,env',S',hK,R,e,q⟩:=h
 obtain⟨⟨⟨ds,w⟩,S1⟩,e1,e⟩:=bind_some e
 refine⟨Γ,μ,env,S,ds,w,S1,hK,R,e1,fun J μ1 H1 x1 R1 ok=>?_⟩
 refine⟨fun i m σ2 H2=>∃μ2 env2 S2,m=ds.length-i/\i<=ds.length/\Ext μ1 H1 μ2 H2/\Rep Γ μ2 σ2 H2 env2 S2/\loop w gg.sem f (ds.drop i) env2 S2=some (fl,env',S'),⟨ds.length,μ1,env,S1,rfl,U3e _,Ext.refl _ _,R1,by rw[U6z];exact e⟩,?_⟩
 rintro i m σ2 H2 ⟨μ2,env2,S2,rfl,hi,x2,R2,el⟩
 by_cases hlt:i<ds.length
 .rw[U2z hlt] at el
  unfold loop at el
  by_cases hcm:calm w S2
  .rw[if_pos hcm] at el
   obtain⟨env3,e3,el⟩:=bind_some el
   obtain⟨⟨fl4,env4,S4⟩,e4,el⟩:=bind_some el
   obtain⟨go,yl⟩:=ok.step i ds[i] μ2 H2 σ2 env2 S2 (U0y hlt) x2 R2 hcm
   refine .inr ⟨go,fun σ5 H5=>∃μ5 env5 S5,Ext μ1 H1 μ5 H5/\Rep Γ μ5 σ5 H5 env5 S5/\loop w gg.sem f (ds.drop (i+1)) env5 S5=some (fl,env',S'),fun σ5 H5 ⟨μ5,env5,S5,x5,R5,e5⟩=>⟨ds.length-(i+1),by omega,μ5,env5,S5,rfl,hlt,x5,R5,e5⟩,fun x H3 y=>?_⟩
   obtain⟨sm,rx⟩:=yl x H3 y
   obtain⟨R3,x3⟩:=R2.grow sm
   refine gg.run X.K R3 rx e3 fun σ3 R3'=>?_
   refine⟨Γ,μ2,env3,S2,fl4,env4,S4,hK,R3',e4,fun μ4 σ4 H4 x4 R4=>?_⟩
   have x14:=x2.trans (x3.trans x4)
   dsimp only at el
   cases fl4 with
   |nx=>exact⟨μ4,env4,S4,x14,R4,el⟩
   |cnt=>exact⟨μ4,env4,S4,x14,R4,el⟩
   |brk=>cases el;exact q μ4 σ4 H4 (x1.trans x14) R4
   |ret d=>cases el;exact q μ4 σ4 H4 (x1.trans x14) R4
  .rw[if_neg hcm] at el;cases el
 .have hi':i=ds.length:=by omega
  subst hi'
  rw[List.drop_length] at el
  unfold loop at el
  by_cases hcm:calm w S2
  .rw[if_pos hcm] at el
   cases el
   exact .inl ⟨ok.stop μ2 H2 σ2 _ _ x2 R2 hcm,q μ2 σ2 H2 (x1.trans x2) R2⟩
  .rw[if_neg hcm] at el;cases el⟩
end
end VS
end
section
namespace VS
open PySem PySem.Spec L2
theorem Rep.cap{Γ:Fr}{μ:Mu}{σ:St}{H:Hp}{env:Env}{S:Store}(R:Rep Γ μ σ H env S)(k:Nat)(caps:List Nat):Rep Γ μ (JV k caps σ) H (Gv k caps env) S:=by
 refine⟨fun i d h=>?_,?_,R.sto,R.liv,R.inj,R.slen,R.ent,R.new⟩
 .unfold Gv at h
  by_cases hi:i<k
  .rw[U09 (by simpa using hi),U38,if_pos hi] at h
   cases h
  .rw[U1t (by simpa using hi),U1u,U03] at h
   cases e:caps[i-k]? with
   |none=>rw[e] at h;cases h
   |some a =>
    rw[e] at h
    have h':(env[a]?).join=some d:=U0w h
    have h2:env[a]?=some (some d):=by
     cases q:env[a]? with
     |none=>rw[q] at h';cases h'
     |some o=>rw[q] at h';exact congrArg some h'
    obtain⟨v,h3,h4⟩:=R.vals a d h2
    refine⟨v,?_,h4⟩
    unfold JV
    rw[U1t (by simpa using hi),U1u,U03,e]
    show some (σ[a]?).join=some (some v)
    rw[h3];rfl
 .unfold JV Gv
  rw[U0o,U0o,U0g,U0g,U1u,U1u]
section
variable{X:Cx}
theorem Xf{K:U0a}{k:Nat}{caps:List Nat}{it:Lj}{p:Pat}{t:FT}{f:BK}{σ:St}{H:Hp}{Q:VK} (h:∃Γ μ env S ys S',Γ.K=K/\Rep Γ μ σ H env S/\Dl k caps it p.sem t f env S=some (ys,S') /\
  ∀xs μ' H',Ext μ H μ' H'->Rep Γ μ' σ H' env S'->VRs Γ μ' H' xs ys->∀q,H' q=none->Q (.ref q) (upd H' q (.lst xs))):Yc k caps (wpI K it) (p.raw K) (wpT K t) (wpE K f) σ H Q:=by
 obtain⟨Γ,μ,env,S,ys,S',hK,R,e,q⟩:=h
 obtain⟨⟨⟨ds,w⟩,S1⟩,e1,e⟩:=bind_some e
 refine⟨Γ,μ,env,S,ds,w,S1,hK,R,e1,fun J μ1 H1 x1 R1 ok=>?_⟩
 refine⟨fun i m zs H2=>∃μ2 S2 dzs,m=ds.length-i/\i<=ds.length/\Ext μ1 H1 μ2 H2/\Rep Γ μ2 σ H2 env S2/\VRs Γ μ2 H2 zs dzs/\G4 w (Gv k caps env) p.sem t f (ds.drop i) dzs S2=some (ys,S'),
  ⟨ds.length,μ1,S1,[],rfl,U3e _,Ext.refl _ _,R1,.nil,by rw[U6z];exact e⟩,?_⟩
 rintro i m zs H2 ⟨μ2,S2,dzs,rfl,hi,x2,R2,rz,el⟩
 by_cases hlt:i<ds.length
 .rw[U2z hlt] at el
  unfold G4 at el
  by_cases hcm:calm w S2/\dzs.length<=1000000
  .rw[if_pos hcm] at el
   obtain⟨env3,e3,el⟩:=bind_some el
   obtain⟨⟨b,S4⟩,e4,el⟩:=bind_some el
   have R2c:=R2.cap k caps
   obtain⟨go,yl⟩:=ok.step i ds[i] μ2 H2 _ _ S2 (U0y hlt) x2 R2c hcm.1
   refine .inr ⟨go,by rw[rz.length];exact big hcm.2,fun x H3 y=>?_⟩
   obtain⟨sm,rx⟩:=yl x H3 y
   obtain⟨R3,x3⟩:=R2c.grow sm
   obtain⟨R3o,_⟩:=R2.grow sm
   refine p.run K R3 rx e3 fun σ3 R3'=>?_
   refine⟨Γ,μ2,env3,S2,b,S4,hK,R3',e4,fun μ4 H4 x4 R4=>?_⟩
   dsimp only at el
   by_cases hb:b=true
   .rw[if_pos hb] at el ⊢
    obtain⟨⟨d5,S5⟩,e5,el⟩:=bind_some el
    refine⟨Γ,μ4,env3,S4,d5,S5,hK,R4,e5,fun v μ5 H5 x5 R5 r5=>?_⟩
    exact⟨ds.length-(i+1),by omega,μ5,S5,dzs++[d5],rfl,hlt,x2.trans (x3.trans (x4.trans x5)),R3o.back (x4.trans x5) R5,((rz.ext (x3.trans (x4.trans x5)))).append (.cons r5 .nil),el⟩
   .rw[if_neg hb] at el ⊢
    exact⟨ds.length-(i+1),by omega,μ4,S4,dzs,rfl,hlt,x2.trans (x3.trans x4),R3o.back x4 R4,rz.ext (x3.trans x4),el⟩
  .rw[if_neg hcm] at el;cases el
 .have hi':i=ds.length:=by omega
  subst hi'
  rw[List.drop_length] at el
  unfold G4 at el
  by_cases hcm:calm w S2/\dzs.length<=1000000
  .rw[if_pos hcm] at el
   cases el
   exact .inl ⟨ok.stop μ2 H2 σ env _ x2 R2 hcm.1,fun p hp=>q zs μ2 H2 (x1.trans x2) R2 rz p hp⟩
  .rw[if_neg hcm] at el;cases el
structure JC(X:Cx)(N2:List Str)(scope:Scope)(tg:Expr)(ifs:List Expr)(elt:Expr)(p:Pat)(t:FT)(f:BK):Prop where
 all:∀(cl:List (Str×Addr))(C:Addr)(s:Shared)(H:Hp)(ex:List Addr),JG (Dz X N2 scope cl C s H ex) tg p/\JTs (Dz X N2 scope cl C s H ex) ifs t/\JE (Dz X N2 scope cl C s H ex) elt f
theorem Fi{elt tg iter:Expr}{ifs:List Expr}{scope:Scope}{pos:Pos}{N2:List Str}{k:Nat}{caps:List Nat}{it:Lj}{p:Pat}{t:FT}{f:BK}
  (hc:X.calm=true) (hS:El X.env.scope X.N N2 k caps scope) (hlow:p.low k=true) (hi:JI X tg iter it) (hb:JC X N2 scope tg ifs elt p t f)
  (hs:∀x,foldedSetIterable iter X.env x=pure x:=by intro _;rfl):JE X (.ListComp elt [⟨tg,iter,ifs,0⟩] scope pos) (Bp (Dl k caps it p.sem t f)) :=
 ⟨PE.imp (jB hc hS (p.Yi X.K hlow) hi.pi (fun cl C s H ex=>let ⟨a,b,c⟩:=hb.all cl C s H ex;⟨a.pg,b.pt,c.pe⟩) hs) fun σ H Q h=>by
  obtain⟨Γ,μ,env,S,d,S',hK,R,e,q⟩:=h
  obtain⟨⟨ys,S1⟩,e1,e⟩:=bind_some e
  cases e
  refine Xf ⟨Γ,μ,env,S,ys,S1,hK,R,e1,fun xs μ1 H1 x1 R1 r1 z hz=>?_⟩
  obtain⟨R2,x2⟩:=R1.grow (Di hz (.lst xs))
  exact q _ μ1 _ (x1.trans x2) R2 (.lst (R1.ok hz true) (R1.dead hz) CZ (r1.ext x2))⟩
theorem O5{elt tg iter:Expr}{ifs:List Expr}{scope:Scope}{pos py spos:Pos}{N2:List Str}{k i:Nat}{y:Str}{caps:List Nat}{it:Lj}{p:Pat}{t:FT}{f:BK}
  (hc:X.calm=true) (hN:X.N.Nodup) (hS:El X.env.scope X.N N2 k caps scope) (hlow:p.low k=true) (hi:JI X tg iter it) (hb:JC X N2 scope tg ifs elt p t f) (hi':X.N[i]?=some y:=by rfl)
  (hx:X.env.scope.names.lookup y=some .local:=by rfl) (hsw:swapsWith (.ListComp elt [⟨tg,iter,ifs,0⟩] scope pos) (some (.Name y py)) spos.line X.env=pure true:=by rfl)
  (hs:∀x,foldedSetIterable iter X.env x=pure x:=by intro _;rfl):JS X (.Assign [.Name y py] (.ListComp elt [⟨tg,iter,ifs,0⟩] scope pos) spos) (Cd i (Bp (Dl k caps it p.sem t f))) :=
 ⟨PS.imp (iz hc hN hi' hS (p.Yi X.K hlow) hi.pi (fun cl C s H ex=>let ⟨a,b,c⟩:=hb.all cl C s H ex;⟨a.pg,b.pt,c.pe⟩) hx hsw hs) fun E σ H h=>by
  obtain⟨Γ,μ,env,S,fl,env',S',hK,R,e,q⟩:=h
  obtain⟨⟨d,S1⟩,e1,e⟩:=bind_some e
  cases e
  obtain⟨⟨ys,S2⟩,e2,e1⟩:=bind_some e1
  cases e1
  refine Xf ⟨Γ,μ,env,S,ys,_,hK,R,e2,fun xs μ1 H1 x1 R1 r1 z hz=>?_⟩
  obtain⟨R2,x2⟩:=R1.grow (Di hz (.lst xs))
  exact q μ1 _ _ (x1.trans x2) (R2.bI i (.lst (R1.ok hz true) (R1.dead hz) CZ (r1.ext x2)))⟩
end
def listOf(S:Store):D->Option (List D)
 |.lst _ ds=>some ds
 |.lent ds=>some ds
 |.ref i=>(S[i]?).join
 |_=>none
def Bu(S:Store):D->Option (List D)
 |.tup ds=>some ds
 |.scr ns=>some (ns.map .int)
 |d=>listOf S d
def idOf(ds:List D):D->List (Nat×List D)
 |.ref i=>[(i,ds)]
 |_=>[]
section
variable{Γ:Fr}{μ:Mu}{σ:St}{H:Hp}{env:Env}{S:Store}{v:V}{d:D}{ds:List D}
theorem join_some{α:Type}{a:Option (Option α)}{b:α}(h:a.join=some b):a=some (some b):=by
 cases a with
 |none=>cases h
 |some o=>exact congrArg some h
theorem VR.list(R:Rep Γ μ σ H env S)(r:VR Γ μ H v d)(h:listOf S d=some ds):∃a xs,v=.ref a/\H a=some (.lst xs)/\VRs Γ μ H xs ds:=by
 cases r with
 |lst o n hb rs=>cases h;exact⟨_,_,rfl,hb,rs⟩
 |lent n hb rs=>cases h;exact⟨_,_,rfl,hb,rs⟩
 |@ref i v hi f =>
  obtain⟨a,h1,hc⟩:=R.sto i ds (join_some h)
  obtain⟨f1,f2⟩:=f a h1
  obtain⟨xs,h2,h3⟩:=hc.list f2
  exact⟨a,xs,f1,h2,h3⟩
 |_=>cases h
theorem VR.seq(hK:Γ.K=K)(R:Rep Γ μ σ H env S)(r:VR Γ μ H v d)(h:Bu S d=some ds):∃a xs,v=.ref a/\(SqL K H a xs∨SqT K H a xs)/\VRs Γ μ H xs ds:=by
 subst hK
 cases d with
 |tup es=>cases r with|tup hb rs=>cases h;exact⟨_,_,rfl,.inr (SqT.of hb),rs⟩
 |scr ns =>
  cases h
  cases r with
  |scrK hk=>exact⟨_,_,rfl,.inl (hk H),VRs.ints ns⟩
  |scrR n hb=>exact⟨_,_,rfl,.inl (.inl (.inr ⟨_,hb⟩)),VRs.ints ns⟩
 |lst m es=>obtain⟨a,xs,e1,e2,e3⟩:=VR.list R r h;exact⟨a,xs,e1,.inl (SqL.of e2),e3⟩
 |lent es=>obtain⟨a,xs,e1,e2,e3⟩:=VR.list R r h;exact⟨a,xs,e1,.inl (SqL.of e2),e3⟩
 |ref i=>obtain⟨a,xs,e1,e2,e3⟩:=VR.list R r h;exact⟨a,xs,e1,.inl (SqL.of e2),e3⟩
 |_=>cases h
end
def Ei(a:BK):Lj:=fun env S=>(a env S).bind fun p=>(Bu p.2 p.1).map fun ds=>((ds,idOf ds p.1),p.2)
section
variable{X:Cx}{tg:Expr}
def qP(K:U0a)(tl:TE):TI:=fun σ H R=>tl σ H fun x H1=>∃a,x=.ref a/\(((∃xs,SqL K H1 a xs)/\R (Itl K a) H1)∨((∃xs,SqT K H1 a xs)/\R (Itt K a) H1))
theorem nH{l:Expr}{tl:TE}(hl:PE X l tl):PI X tg l (qP X.K tl):=by
 intro pins s σ H R I h
 refine thn (hl pins s σ H _ I h) fun v s1 ⟨x,H1,I1,r1,q1⟩=>?_
 obtain⟨a,e,⟨⟨xs,hq⟩,q⟩|⟨⟨xs,hq⟩,q⟩⟩:=q1
 .subst e
  cases r1
  obtain⟨its,rv,p,hz⟩:=I1.list hq
  refine U4o p.isList ?_
  refine⟨s1.heap.objs.size,[s1.heap.objs.size],_,_,H1,rfl,I1.kept (t':=s1.toks) fun b o e=>U0b _ e,Zm a _,⟨_,U0p _ rfl,rfl,rfl⟩,fun b hb=>?_,q⟩
  have e:b=s1.heap.objs.size:=by simpa using hb
  subst e
  exact I1.YM (U0m _) (I1.hok.fresh (U0m _))
 .subst e
  cases r1
  obtain⟨its,rv,p,hz⟩:=I1.tuple hq
  refine U5b (show s1.heap.IsTuple a its.toArray from p) ?_
  refine⟨s1.heap.objs.size,[s1.heap.objs.size],_,_,H1,rfl,I1.kept (t':=s1.toks) fun b o e=>U0b _ e,Ym a _,⟨_,U0p _ rfl,rfl,rfl⟩,fun b hb=>?_,q⟩
  have e:b=s1.heap.objs.size:=by simpa using hb
  subst e
  exact I1.YM (U0m _) (I1.hok.fresh (U0m _))
theorem Zt{d:D}{ds:List D}{S S':Store}(h:Bu S d=some ds)(c:calm (idOf ds d) S'):Bu S' d=some ds:=by
 cases d with
 |ref i =>
  have c':S'[i]?=some (some ds):=c (i,ds) (U08.mpr rfl)
  show(S'[i]?).join=some ds
  rw[c'];rfl
 |_=>exact h
theorem VR.YJ{K:U0a}{Γ:Fr}{μ:Mu}{σ:St}{H:Hp}{env:Env}{S:Store}{v:V}{d:D}{ds:List D}(hK:Γ.K=K)(R:Rep Γ μ σ H env S)(r:VR Γ μ H v d)(h:Bu S d=some ds):(∃es,d=.tup es)∨∃a xs,v=.ref a/\SqL K H a xs/\VRs Γ μ H xs ds:=by
 subst hK
 cases d with
 |tup es=>exact .inl ⟨es,rfl⟩
 |scr ns =>
  cases h
  cases r with
  |scrK hk=>exact .inr ⟨_,_,rfl,hk H,VRs.ints ns⟩
  |scrR n hb=>exact .inr ⟨_,_,rfl,.inl (.inr ⟨_,hb⟩),VRs.ints ns⟩
 |lst m es=>obtain⟨a,xs,e1,e2,e3⟩:=VR.list R r h;exact .inr ⟨a,xs,e1,SqL.of e2,e3⟩
 |lent es=>obtain⟨a,xs,e1,e2,e3⟩:=VR.list R r h;exact .inr ⟨a,xs,e1,SqL.of e2,e3⟩
 |ref i=>obtain⟨a,xs,e1,e2,e3⟩:=VR.list R r h;exact .inr ⟨a,xs,e1,SqL.of e2,e3⟩
 |_=>cases h
theorem jY{Γ:Fr}{μ:Mu}{H:Hp}{a:Addr}{ds:List D}{K:U0a}{w:List (Nat×List D)}(hr:∀μ' H' σ' env' S',Ext μ H μ' H'->Rep Γ μ' σ' H' env' S'->calm w S'->∃xs,SqL K H' a xs/\VRs Γ μ' H' xs ds):Vb Γ μ H (Itl K a) ds w:=by
 refine⟨fun i d μ' H' σ' env' S' hi x R c=>?_,fun μ' H' σ' env' S' x R c=>?_⟩
 .obtain⟨xs,h1,h2⟩:=hr μ' H' σ' env' S' x R c
  obtain⟨y,e1,e2⟩:=h2.get hi
  refine⟨⟨xs,y,h1,e1⟩,fun z H'' yl=>?_⟩
  obtain⟨e,f⟩:=yl
  subst e
  have:=f xs h1
  rw[e1] at this;cases this
  exact⟨Same.refl _,e2⟩
 .obtain⟨xs,h1,h2⟩:=hr μ' H' σ' env' S' x R c
  exact⟨xs,h1,by rw[h2.length];exact U0m _⟩
theorem Zc{Γ:Fr}{μ:Mu}{H:Hp}{a:Addr}{ds:List D}{K:U0a}{w:List (Nat×List D)}(hr:∀μ' H' σ' env' S',Ext μ H μ' H'->Rep Γ μ' σ' H' env' S'->calm w S'->∃xs,SqT K H' a xs/\VRs Γ μ' H' xs ds):Vb Γ μ H (Itt K a) ds w:=by
 refine⟨fun i d μ' H' σ' env' S' hi x R c=>?_,fun μ' H' σ' env' S' x R c=>?_⟩
 .obtain⟨xs,h1,h2⟩:=hr μ' H' σ' env' S' x R c
  obtain⟨y,e1,e2⟩:=h2.get hi
  refine⟨⟨xs,y,h1,e1⟩,fun z H'' yl=>?_⟩
  obtain⟨e,f⟩:=yl
  subst e
  have:=f xs h1
  rw[e1] at this;cases this
  exact⟨Same.refl _,e2⟩
 .obtain⟨xs,h1,h2⟩:=hr μ' H' σ' env' S' x R c
  exact⟨xs,h1,by rw[h2.length];exact U0m _⟩
theorem Fv{l:Expr}{f:BK}(hl:JE X l f):JI X tg l (Ei f):=⟨PI.imp (nH hl.pe) fun σ H Q h=>by
 obtain⟨Γ,μ,env,S,ds,w,S',hK,R,e,q⟩:=h
 obtain⟨⟨d,S1⟩,e1,e⟩:=bind_some e
 obtain⟨ds',e2,e⟩:=map_some e
 cases e
 refine⟨Γ,μ,env,S,d,S1,hK,R,e1,fun v μ1 H1 x1 R1 r1=>?_⟩
 rcases VR.YJ hK R1 r1 e2 with ⟨es,rfl⟩|⟨a,xs,rfl,hq,rs⟩
 .cases r1 with
  |@tup a xs _ hb rs =>
   refine⟨a,rfl,.inr ⟨⟨xs,SqT.of hb⟩,q _ μ1 H1 x1 R1 (Zc fun μ' H' σ' env' S' x' R' c=>?_)⟩⟩
   have e2':es=ds:=U0w e2
   subst e2'
   exact⟨xs,SqT.of (x'.tups _ _ hb),rs.ext x'⟩
 .by_cases ht:∃es,d=.tup es
  .obtain⟨es,rfl⟩:=ht
   cases r1 with
   |@tup b ys _ hb rs' =>
    refine⟨a,rfl,.inr ⟨⟨ys,SqT.of hb⟩,q _ μ1 H1 x1 R1 (Zc fun μ' H' σ' env' S' x' R' c=>?_)⟩⟩
    have e2':es=ds:=U0w e2
    subst e2'
    exact⟨ys,SqT.of (x'.tups _ _ hb),rs'.ext x'⟩
  .refine⟨a,rfl,.inl ⟨⟨xs,hq⟩,q _ μ1 H1 x1 R1 (jY fun μ' H' σ' env' S' x' R' c=>?_)⟩⟩
   rcases VR.YJ hK R' (r1.ext x') (Zt e2 c) with z|⟨b,ys,e,h1,h2⟩
   .exact absurd z ht
   .cases e
    exact⟨ys,h1,h2⟩⟩
def upD(lo:Int)(n:Nat):List D:=(U12 n).map fun(i:Nat)=>.int (lo+i)
theorem fB{Γ:Fr}{μ:Mu}{H:Hp}(lo:Int)(n:Nat):Vb Γ μ H (Itr lo n) (upD lo n) []:=by
 have len:(upD lo n).length=n:=by unfold upD;rw[U0g,U4p]
 refine⟨fun i d μ' H' σ' env' S' hi x R c=>?_,fun μ' H' σ' env' S' x R c=>?_⟩
 .have hi':i<n:=by rw[←len];exact(U0h.mp hi).1
  refine⟨hi',fun y H'' yl=>?_⟩
  obtain⟨e1,e2⟩:=yl
  subst e1 e2
  unfold upD at hi
  rw[U03,List.getElem?_range hi'] at hi
  cases hi
  exact⟨Same.refl _,.int _⟩
 .show n<=(upD lo n).length
  rw[len];exact U0m _
def r62(j:Int):Prop:=-(2^62)<=j/\j<2^62
instance(j:Int):Decidable (r62 j):=by unfold r62;infer_instance
def Fz(a:Bg):Lj:=fun env S=>(a env S).bind fun p=>match p.1 with|[.int j]=>if r62 j then some ((upD 0 j.toNat,[]),p.2) else none|_=>none
theorem VRs.one{Γ:Fr}{μ:Mu}{H:Hp}{vs:List V}{d:D}(h:VRs Γ μ H vs [d]):∃v,vs=[v]/\VR Γ μ H v d:=by
 cases h with|cons r t=>cases t;exact⟨_,rfl,r⟩
theorem VRs.two{Γ:Fr}{μ:Mu}{H:Hp}{vs:List V}{d e:D}(h:VRs Γ μ H vs [d,e]):∃v u,vs=[v,u]/\VR Γ μ H v d/\VR Γ μ H u e:=by
 cases h with|cons r t=>cases t with|cons r' t=>cases t;exact⟨_,_,rfl,r,r'⟩
theorem Jo{a:Expr}{f:Bg}{p pos:Pos}(hg:Gl X "range")(hm:X.mg "range"=none)(ha:JA X [a] f)(hs:starEach [a] X.env=[(false,eval a X.env)]:=by rfl):JI X tg (.Call (.Name "range" p) [a] [] pos) (Fz f) :=
 ⟨PI.imp (aD hg hm ha.pa hs) fun σ H Q h=>by
  obtain⟨Γ,μ,env,S,ds,w,S',hK,R,e,q⟩:=h
  obtain⟨⟨d,S1⟩,e1,e⟩:=bind_some e
  refine⟨Γ,μ,env,S,d,S1,hK,R,e1,fun v μ1 H1 x1 R1 r1=>?_⟩
  dsimp only at e
  split at e
  .rename_i j
   by_cases hj:r62 j
   .rw[if_pos hj] at e
    cases e
    obtain⟨v,rfl,r⟩:=r1.one
    cases r
    exact⟨j,rfl,hj.1,hj.2,q _ μ1 H1 x1 R1 (fB 0 _)⟩
   .rw[if_neg hj] at e;cases e
  .cases e⟩
end
end VS
end
section
namespace VS
open PySem PySem.Spec L2
section
variable{X:Cx}{tg:Expr}
def Eo:List D->List D->List D
 |x::xs,y::ys=>.tup [x,y]::Eo xs ys
 |_,_=>[]
theorem Vm:∀{xs ys:List D} {i:Nat} {d:D},(Eo xs ys)[i]?=some d->∃x y,xs[i]?=some x/\ys[i]?=some y/\d=.tup [x,y]
 |[],_,_,_,h=>by simp[Eo] at h
 |_::_,[],_,_,h=>by simp[Eo] at h
 |x::xs,y::ys,0,d,h=>by simp[Eo] at h;exact⟨x,y,rfl,rfl,h.symm⟩
 |x::xs,y::ys,i+1,d,h=>by
  simp[Eo] at h
  obtain⟨a,b,h1,h2,h3⟩:=Vm h
  exact⟨a,b,by simpa using h1,by simpa using h2,h3⟩
theorem Vl:∀(xs ys:List D),((Eo xs ys).length=xs.length/\xs.length<=ys.length)∨((Eo xs ys).length<xs.length/\(Eo xs ys).length=ys.length)
 |[],_=>.inl ⟨rfl,U3e _⟩
 |_::_,[]=>.inr ⟨by simp[Eo],rfl⟩
 |x::xs,y::ys=>by
  rcases Vl xs ys with ⟨h1,h2⟩|⟨h1,h2⟩
  .left;simp[Eo];omega
  .right;simp[Eo];omega
def Yj(a:Bg):Lj:=fun env S=>(a env S).bind fun p=>match p.1 with
 |[.tup xs,.tup ys]=>some ((Eo xs ys,[]),p.2)
 |[x,.tup ys]=>(listOf p.2 x).bind fun xs=>some ((Eo xs ys,idOf xs x),p.2)
 |[x,y]=>(listOf p.2 x).bind fun xs=>(listOf p.2 y).bind fun ys=>some ((Eo xs ys,idOf xs x++idOf ys y),p.2)
 |_=>none
theorem Oz{d:D}{ds:List D}{S S':Store}(h:listOf S d=some ds)(c:calm (idOf ds d) S'):listOf S' d=some ds:=by
 cases d with
 |ref i =>
  have c':S'[i]?=some (some ds):=c (i,ds) (U08.mpr rfl)
  show(S'[i]?).join=some ds
  rw[c'];rfl
 |_=>exact h
theorem Vi{Γ:Fr}{μ:Mu}{H:Hp}{L M:Bool}{a b:Addr}{xs ys:List D}{w:List (Nat×List D)}(hr:∀μ' H' σ' env' S',Ext μ H μ' H'->Rep Γ μ' σ' H' env' S'->calm w S'->∃us vs,H' a=some (HB L us)/\VRs Γ μ' H' us xs/\H' b=some (HB M vs)/\VRs Γ μ' H' vs ys) :
  Vb Γ μ H (Itz L M a b) (Eo xs ys) w:=by
 refine⟨fun i d μ' H' σ' env' S' hi x R c=>?_,fun μ' H' σ' env' S' x R c=>?_⟩
 .obtain⟨us,vs,h1,h2,h3,h4⟩:=hr μ' H' σ' env' S' x R c
  obtain⟨p,q,e1,e2,e3⟩:=Vm hi
  obtain⟨u,f1,f2⟩:=h2.get e1
  obtain⟨v,g1,g2⟩:=h4.get e2
  refine⟨⟨us,vs,u,v,h1,h3,f1,g1⟩,fun z H'' yl=>?_⟩
  obtain⟨t,u',v',ht,rfl,rfl,k1,k2⟩:=yl
  have k1':=k1 us h1
  have k2':=k2 vs h3
  rw[f1] at k1';cases k1'
  rw[g1] at k2';cases k2'
  subst e3
  have sm:=Di ht (.tup [u,v])
  obtain⟨_,x2⟩:=R.grow sm
  exact⟨sm,.tup CZ (.cons (f2.ext x2) (.cons (g2.ext x2) .nil))⟩
 .obtain⟨us,vs,h1,h2,h3,h4⟩:=hr μ' H' σ' env' S' x R c
  refine⟨us,vs,h1,h3,?_⟩
  rw[h2.length,h4.length]
  rcases Vl xs ys with z|z
  .exact .inl z.1
  .exact .inr z
theorem PI.or{e:Expr}{t u:TI}(h:PI X tg e t)(k:PI X tg e u):PI X tg e (fun σ H R=>t σ H R∨u σ H R):=fun pins s σ H R I q=>q.elim (fun z=>h pins s σ H R I z) fun z=>k pins s σ H R I z
theorem oV{a b:Expr}{f:Bg}{p pos:Pos}{elts:List Expr}{x1:Nat}{tpos:Pos}(hg:Gl X "zip")(hm:X.mg "zip"=none)(ha:JA X [a,b] f)(hs:starEach [a,b] X.env=[(false,eval a X.env),(false,eval b X.env)]:=by rfl)(hs2:starEach [b] X.env=[(false,eval b X.env)]:=by rfl) :
  JI X (.Tuple elts x1 tpos) (.Call (.Name "zip" p) [a,b] [] pos) (Yj f) :=
 ⟨PI.imp (PI.or (Vg true true (.inl rfl) hg hm ha.pa hs hs2) (PI.or (Vg false false (.inl rfl) hg hm ha.pa hs hs2) (Vg true false (.inr ⟨rfl,rfl⟩) hg hm ha.pa hs hs2))) fun σ H Q h=>by
  obtain⟨Γ,μ,env,S,ds,w,S',hK,R,e,q⟩:=h
  obtain⟨⟨d,S1⟩,e1,e⟩:=bind_some e
  dsimp only at e
  split at e
  .rename_i xs ys
   cases e
   refine .inr (.inl ⟨Γ,μ,env,S,_,_,hK,R,e1,fun v μ1 H1 x1 R1 r1=>?_⟩)
   obtain⟨u,v,rfl,r,r'⟩:=r1.two
   cases r with
   |@tup a us _ ha ra =>
    cases r' with
    |@tup b vs _ hb rb =>
     exact⟨a,b,us,vs,rfl,ha,hb,q _ μ1 H1 x1 R1 (Vi fun μ' H' σ' env' S' x' R' c=>⟨us,vs,x'.tups _ _ ha,ra.ext x',x'.tups _ _ hb,rb.ext x'⟩)⟩
  .rename_i x ys _
   obtain⟨xs,e2,e⟩:=bind_some e
   cases e
   refine .inr (.inr ⟨Γ,μ,env,S,_,_,hK,R,e1,fun v μ1 H1 x1 R1 r1=>?_⟩)
   obtain⟨u,v,rfl,r,r'⟩:=r1.two
   obtain⟨a,us,rfl,ha,ra⟩:=VR.list R1 r e2
   cases r' with
   |@tup b vs _ hb rb =>
    refine⟨a,b,us,vs,rfl,ha,hb,q _ μ1 H1 x1 R1 (Vi fun μ' H' σ' env' S' x' R' c=>?_)⟩
    obtain⟨a',us',e4,ha',ra'⟩:=VR.list R' (r.ext x') (Oz e2 c)
    cases e4
    exact⟨us',vs,ha',ra',x'.tups _ _ hb,rb.ext x'⟩
  .rename_i x y _ _
   obtain⟨xs,e2,e⟩:=bind_some e
   obtain⟨ys,e3,e⟩:=bind_some e
   cases e
   refine .inl ⟨Γ,μ,env,S,_,_,hK,R,e1,fun v μ1 H1 x1 R1 r1=>?_⟩
   obtain⟨u,v,rfl,r,r'⟩:=r1.two
   obtain⟨a,us,rfl,ha,ra⟩:=VR.list R1 r e2
   obtain⟨b,vs,rfl,hb,rb⟩:=VR.list R1 r' e3
   refine⟨a,b,us,vs,rfl,ha,hb,q _ μ1 H1 x1 R1 (Vi fun μ' H' σ' env' S' x' R' c=>?_)⟩
   obtain⟨a',us',e4,ha',ra'⟩:=VR.list R' (r.ext x') (Oz e2 fun p hp=>c p (U3v _ hp))
   obtain⟨b',vs',e5,hb',rb'⟩:=VR.list R' (r'.ext x') (Oz e3 fun p hp=>c p (U1g _ hp))
   cases e4
   cases e5
   exact⟨us',vs',ha',ra',hb',rb'⟩
  .cases e⟩
def VP(K:U0a)(r:V->List V->Hp->VK->Prop)(g:Store->D->List D->Option (D×Store)):Prop:=∀(Γ:Fr)(μ:Mu)(σ:St)(H:Hp)(env:Env)(S:Store)(x:V)(xs:List V)(dx:D)(ds:List D)(d:D)(S':Store),Γ.K=K->Rep Γ μ σ H env S->VR Γ μ H x dx->VRs Γ μ H xs ds->g S dx ds=some (d,S') ->
 ∀Q:VK,(∀v μ' H',Ext μ H μ' H'->Rep Γ μ' σ H' env S'->VR Γ μ' H' v d->Q v H')->r x xs H Q
def Gs(g:Store->D->List D->Option (D×Store))(o:BK)(a:Bg):BK:=fun env S=>(o env S).bind fun p=>if (listOf p.2 p.1).isSome then (a env p.2).bind fun q=>g q.2 p.1 q.1 else none
theorem gZ{K:U0a}{r:V->List V->Hp->VK->Prop}{g:Store->D->List D->Option (D×Store)}{o:BK}{a:Bg}(hs:VP K r g){σ:St}{H:Hp}{Q:VK}(h:wpE K (Gs g o a) σ H Q):tBM K "list" r (wpE K o) (wpA K a) σ H Q:=by
 obtain⟨Γ,μ,env,S,d,S',hK,R,e,q⟩:=h
 obtain⟨⟨x,S1⟩,e1,e⟩:=bind_some e
 refine⟨Γ,μ,env,S,x,S1,hK,R,e1,fun v1 μ1 H1 x1 R1 r1=>?_⟩
 dsimp only at e
 by_cases hl:(listOf S1 x).isSome=true
 .rw[if_pos hl] at e
  obtain⟨⟨ds,S2⟩,e2,e⟩:=bind_some e
  obtain⟨xs,hx⟩:=U46.mp hl
  obtain⟨b,us,rfl,hb,rb⟩:=VR.list R1 r1 hx
  refine⟨.inl ⟨rfl,us,SqL.of hb⟩,Γ,μ1,env,S1,ds,S2,hK,R1,e2,fun vs μ2 H2 x2 R2 r2=>?_⟩
  exact hs Γ μ2 σ H2 env S2 _ vs x ds d S' hK R2 (r1.ext x2) r2 e Q fun v μ' H' x' R' rv=>q v μ' H' (x1.trans (x2.trans x')) R' rv
 .rw[if_neg hl] at e;cases e
variable{o e:Expr}{es:List Expr}{fo:BK}{fa:Bg}{name:Str}{apos cpos:Pos}{id:String}{r:V->List V->Hp->VK->Prop}{g:Store->D->List D->Option (D×Store)}
theorem Jm(pa:PlainAttrs "list")(slot:Slot "list" name id)(hty:typeOf (.builtin id)=pure (.type "method_descriptor"))(hm:MtR X id r)(hsm:VP X.K r g)(ho:JE X o fo)(ha:JA X (e::es) fa)
  (hbase:attributeBase o name X.env (eval o X.env)=eval o X.env:=by rfl)
  (hfew:((backTo cpos (starEach (e::es) X.env)).all (fun x=>!x.1)&&(backToKw cpos (keywordEach [] X.env)).all (fun x=>x.1.isSome)
   && decide ((e::es).length+([]:List Keyword).length+(if ([]:List Keyword).isEmpty then 0 else 1)<30))=true:=by rfl)
  (hline:(apos.endLine==cpos.line)=true:=by rfl) (hs:starEach (e::es) X.env=(false,eval e X.env)::starEach es X.env:=by rfl) (hplain:(backTo cpos (starEach es X.env)).any (·.1)=false:=by rfl) :
  JE X (.Call (.Attribute o name apos) (e::es) [] cpos) (Gs g fo fa) :=
 ⟨PE.imp (qt pa slot hty hm ho.pe ha.pa hbase hfew hline hs hplain) fun _ _ _ h=>gZ hsm h⟩
theorem VR.RD{Γ:Fr}{μ:Mu}{σ:St}{H:Hp}{env:Env}{S:Store}{v:V}{i:Nat}{ds:List D}(R:Rep Γ μ σ H env S)(r:VR Γ μ H v (.ref i))(h:S[i]?=some (some ds)):∃a xs,v=.ref a/\μ[i]?=some (some a)/\H a=some (.lst xs)/\VRs Γ μ H xs ds:=by
 cases r with
 |ref hi f =>
  obtain⟨a,h1,hc⟩:=R.sto i ds h
  obtain⟨f1,f2⟩:=f a h1
  obtain⟨xs,h2,h3⟩:=hc.list f2
  exact⟨a,xs,f1,h1,h2,h3⟩
def Gi(S:Store):D->List D->Option (D×Store)
 |.ref i,[d]=>match S[i]? with
  |some (some ds)=>if ds.length<1000000 then some (.non,S.set i (some (ds++[d]))) else none
  |_=>none
 |_,_=>none
theorem Le{K:U0a}:VP K Xu Gi:=by
 intro Γ μ σ H env S x xs dx ds d S' hK R rx rs e Q q
 unfold Gi at e
 split at e
 .rename_i i d1
  split at e
  .rename_i es he
   by_cases hl:es.length<1000000
   .rw[if_pos hl] at e
    cases e
    obtain⟨a,us,rfl,h1,h2,h3⟩:=VR.RD R rx he
    obtain⟨y,rfl,ry⟩:=rs.one
    obtain⟨R2,x2⟩:=R.put h1 ⟨_,h2⟩ (h3.append (.cons ry .nil))
    exact⟨a,us,y,rfl,rfl,h2,by rw[h3.length];exact big (U19 hl),q _ μ _ x2 R2 .non⟩
   .rw[if_neg hl] at e;cases e
  .cases e
 .cases e
def M9(S:Store):D->List D->Option (D×Store)
 |.ref i,[y]=>match S[i]?,listOf S y with
  |some (some ds),some es=>if ds.length+es.length<=1000000 then some (.non,S.set i (some (ds++es))) else none
  |_,_=>none
 |_,_=>none
theorem Ud{K:U0a}:VP K Xr M9:=by
 intro Γ μ σ H env S x xs dx ds d S' hK R rx rs e Q q
 unfold M9 at e
 split at e
 .rename_i i y
  split at e
  .rename_i es gs he hg
   by_cases hl:es.length+gs.length<=1000000
   .rw[if_pos hl] at e
    cases e
    obtain⟨a,us,rfl,h1,h2,h3⟩:=VR.RD R rx he
    obtain⟨y,rfl,ry⟩:=rs.one
    obtain⟨b,vs,rfl,hb,rb⟩:=VR.list R ry hg
    obtain⟨R2,x2⟩:=R.put h1 ⟨_,h2⟩ (h3.append rb)
    exact⟨a,b,us,vs,rfl,rfl,h2,hb,by rw[h3.length,rb.length];exact U19 (big hl),q _ μ _ x2 R2 .non⟩
   .rw[if_neg hl] at e;cases e
  .cases e
 .cases e
def O7(S:Store):D->List D->Option (D×Store)
 |.ref i,[.int k]=>match S[i]? with
  |some (some ds)=>if -(2^63)<=k/\k<2^63 then (PySem.seqIndex? k ds.length).bind fun j=>(ds[j]?).bind fun d=>some (d,S.set i (some (ds.eraseIdx j))) else none
  |_=>none
 |_,_=>none
theorem cJ{K:U0a}:VP K ZM O7:=by
 intro Γ μ σ H env S x xs dx ds d S' hK R rx rs e Q q
 unfold O7 at e
 split at e
 .rename_i i k
  split at e
  .rename_i es he
   by_cases hl:-(2^63)<=k/\k<2^63
   .rw[if_pos hl] at e
    obtain⟨j,e2,e⟩:=bind_some e
    obtain⟨d',e3,e⟩:=bind_some e
    cases e
    obtain⟨a,us,rfl,h1,h2,h3⟩:=VR.RD R rx he
    obtain⟨y,rfl,ry⟩:=rs.one
    cases ry
    obtain⟨u,f1,f2⟩:=h3.get e3
    obtain⟨R2,x2⟩:=R.put h1 ⟨_,h2⟩ (h3.eraseIdx j)
    exact⟨a,us,k,j,u,rfl,rfl,h2,hl.1,hl.2,by rw[h3.length];exact e2,f1,q _ μ _ x2 R2 (f2.ext x2)⟩
   .rw[if_neg hl] at e;cases e
  .cases e
 .cases e
def Mq(v o i:BK):Bl:=fun env S=>(v env S).bind fun p=>(o env p.2).bind fun q=>(i env q.2).bind fun r=>match q.1,r.1 with
 |.ref j,.int k=>(match r.2[j]? with
  |some (some ds)=>(ixN ds.length k).bind fun n=>some (.nx,env,r.2.set j (some (ds.set n p.1)))
  |_=>none)
 |_,_=>none
theorem Oq{a i:Expr}{fv fi:BK}{pos tpos:Pos}(he:JE X a fv)(ho:JE X o fo)(hi:JE X i fi)
  (ha:∀v,assign (.Subscript o i tpos) X.env v=(do
   let ov ←holding [v] (eval o X.env)
   let iv ←holding [v,ov] (eval i X.env)
   standAt tpos
   holding [v,ov,iv] (setItem ov iv v)
   release [v,ov,iv] []):=by intro _;rfl)
  (hs:swapsWithSole [.Subscript o i tpos] a pos.line X.env=pure false:=by rfl) (hw:swappedStores [.Subscript o i tpos] a X.env=pure none:=by rfl)
  (h1:(assignEach [.Subscript o i tpos] X.env).map (·.2)=[assign (.Subscript o i tpos) X.env]:=by rfl):JS X (.Assign [.Subscript o i tpos] a pos) (Mq fv fo fi) :=
 ⟨PS.imp (ZP he.pe (nM ho.pe hi.pe set_list ha) hs hw h1) fun E σ H h=>by
  obtain⟨Γ,μ,env,S,fl,env',S',hK,R,e,q⟩:=h
  obtain⟨⟨x,S1⟩,e1,e⟩:=bind_some e
  obtain⟨⟨y,S2⟩,e2,e⟩:=bind_some e
  obtain⟨⟨z,S3⟩,e3,e⟩:=bind_some e
  refine⟨Γ,μ,env,S,x,S1,hK,R,e1,fun v1 μ1 H1 x1 R1 r1=>?_⟩
  refine⟨Γ,μ1,env,S1,y,S2,hK,R1,e2,fun v2 μ2 H2 x2 R2 r2=>?_⟩
  refine⟨Γ,μ2,env,S2,z,S3,hK,R2,e3,fun v3 μ3 H3 x3 R3 r3=>?_⟩
  dsimp only at e
  split at e
  .rename_i j k
   split at e
   .rename_i ds hd
    obtain⟨n,e4,e⟩:=bind_some e
    cases e
    obtain⟨b,us,rfl,g1,g2,g3⟩:=VR.RD R3 (r2.ext x3) hd
    cases r3
    have r1':=r1.ext (x2.trans x3)
    obtain⟨R4,x4⟩:=R3.put g1 ⟨_,g2⟩ (g3.set r1' n)
    exact⟨b,us,_,n,rfl,rfl,g2,by rw[g3.length];exact e4,q μ3 σ _ (x1.trans (x2.trans (x3.trans x4))) R4⟩
   .cases e
  .cases e⟩
end
end VS
end
section
namespace VS
open PySem PySem.Spec L2
mutual
def Ax:D->Bool
 |.ref _=>false
 |.dref _=>false
 |.dcm _=>false
 |.lent _=>false
 |.tup ds=>Av ds
 |.lst _ ds=>Av ds
 |_=>true
def Av:List D->Bool
 |[]=>true
 |d::r=>Ax d&&Av r
end
mutual
def Ca:D->Bool
 |.ref _=>false
 |.dref _=>false
 |.dcf _=>false
 |.dcm _=>false
 |.lent _=>false
 |.lst _ _=>false
 |.scr _=>false
 |.emp=>false
 |.tup ds=>Ej ds
 |_=>true
def Ej:List D->Bool
 |[]=>true
 |d::r=>Ca d&&Ej r
end
mutual
def newD:D->Bool
 |.ref _=>false
 |.dref _=>false
 |.dcf _=>false
 |.dcm _=>false
 |.lent _=>false
 |.lst m ds=>m&&newL ds
 |.scr _=>false
 |.emp=>false
 |.tup ds=>newL ds
 |_=>true
def newL:List D->Bool
 |[]=>true
 |d::r=>newD d&&newL r
end
mutual
def den(k:Nat)(S:Store):D->Option D
 |.tup ds=>(CT k S ds).map .tup
 |.lst m ds=>(CT k S ds).map (.lst m)
 |.ref i=>if i<k then none else match S[i]? with|some (some ds)=>if Av ds=true then some (.lst true ds) else none|_=>none
 |.non=>some .non
 |.bl b=>some (.bl b)
 |.int i=>some (.int i)
 |.str x=>some (.str x)
 |.ty n=>some (.ty n)
 |.fn a n=>some (.fn a n)
 |.scr ns=>some (.scr ns)
 |.emp=>some .emp
 |.dref i=>if i<k then none else match S[i]? with|some (some [.dcm kvs])=>some (.dcf kvs)|_=>none
 |.dcf kvs=>some (.dcf kvs)
 |.dcm _=>none
 |.lent _=>none
def CT(k:Nat)(S:Store):List D->Option (List D)
 |[]=>some []
 |d::r=>(den k S d).bind fun x=>(CT k S r).bind fun xs=>some (x::xs)
end
mutual
def age:D->D
 |.tup ds=>.tup (Bb ds)
 |.lst _ ds=>.lst false (Bb ds)
 |.ref i=>.ref i
 |.non=>.non
 |.bl b=>.bl b
 |.int i=>.int i
 |.str x=>.str x
 |.ty n=>.ty n
 |.fn a n=>.fn a n
 |.scr ns=>.scr ns
 |.emp=>.emp
 |.dref i=>.dref i
 |.dcf kvs=>.dcf kvs
 |.dcm kvs=>.dcm kvs
 |.lent ds=>.lent ds
def Bb:List D->List D
 |[]=>[]
 |d::r=>age d::Bb r
end
mutual
theorem Iw:∀{d:D},Ca d=true->Ax d=true
 |.ref _,h=>by simp[Ca] at h
 |.lst _ _,h=>by simp[Ca] at h
 |.scr _,h=>by simp[Ca] at h
 |.emp,h=>by simp[Ca] at h
 |.dref _,h=>by simp[Ca] at h
 |.dcf _,h=>by simp[Ca] at h
 |.dcm _,h=>by simp[Ca] at h
 |.lent _,h=>by simp[Ca] at h
 |.tup ds,h=>by rw[Ca] at h;rw[Ax];exact Bd h
 |.non,_=>rfl
 |.bl _,_=>rfl
 |.int _,_=>rfl
 |.str _,_=>rfl
 |.ty _,_=>rfl
 |.fn _ _,_=>rfl
theorem Bd:∀{ds:List D},Ej ds=true->Av ds=true
 |[],_=>rfl
 |d::r,h=>by
  rw[Ej,U0x] at h
  rw[Av,Iw h.1,Bd h.2];rfl
end
mutual
theorem RZ:∀{d:D},Ca d=true->newD d=true
 |.ref _,h=>by simp[Ca] at h
 |.lst _ _,h=>by simp[Ca] at h
 |.scr _,h=>by simp[Ca] at h
 |.emp,h=>by simp[Ca] at h
 |.dref _,h=>by simp[Ca] at h
 |.dcf _,h=>by simp[Ca] at h
 |.dcm _,h=>by simp[Ca] at h
 |.lent _,h=>by simp[Ca] at h
 |.tup ds,h=>by rw[Ca] at h;rw[newD];exact Nq h
 |.non,_=>rfl
 |.bl _,_=>rfl
 |.int _,_=>rfl
 |.str _,_=>rfl
 |.ty _,_=>rfl
 |.fn _ _,_=>rfl
theorem Nq:∀{ds:List D},Ej ds=true->newL ds=true
 |[],_=>rfl
 |d::r,h=>by
  rw[Ej,U0x] at h
  rw[newL,RZ h.1,Nq h.2];rfl
end
mutual
theorem KZ(k:Nat)(S:Store):∀{d:D},Ax d=true->den k S d=some d
 |.ref _,h=>by simp[Ax] at h
 |.lst m ds,h=>by rw[Ax] at h;rw[den,Cq k S h];rfl
 |.tup ds,h=>by rw[Ax] at h;rw[den,Cq k S h];rfl
 |.non,_=>by rw[den]
 |.bl _,_=>by rw[den]
 |.int _,_=>by rw[den]
 |.str _,_=>by rw[den]
 |.ty _,_=>by rw[den]
 |.fn _ _,_=>by rw[den]
 |.scr _,_=>by rw[den]
 |.emp,_=>by rw[den]
 |.dref _,h=>by simp[Ax] at h
 |.dcf _,_=>by rw[den]
 |.dcm _,h=>by simp[Ax] at h
 |.lent _,h=>by simp[Ax] at h
theorem Cq(k:Nat)(S:Store):∀{ds:List D},Av ds=true->CT k S ds=some ds
 |[],_=>by rw[CT]
 |d::r,h=>by
  rw[Av,U0x] at h
  rw[CT,KZ k S h.1,Cq k S h.2];rfl
end
mutual
theorem Ra:∀{d:D},Ca d=true->age d=d
 |.ref _,h=>by simp[Ca] at h
 |.lst _ _,h=>by simp[Ca] at h
 |.scr _,h=>by simp[Ca] at h
 |.emp,h=>by simp[Ca] at h
 |.dref _,h=>by simp[Ca] at h
 |.dcf _,h=>by simp[Ca] at h
 |.dcm _,h=>by simp[Ca] at h
 |.lent _,h=>by simp[Ca] at h
 |.tup ds,h=>by rw[Ca] at h;rw[age,Es h]
 |.non,_=>by rw[age]
 |.bl _,_=>by rw[age]
 |.int _,_=>by rw[age]
 |.str _,_=>by rw[age]
 |.ty _,_=>by rw[age]
 |.fn _ _,_=>by rw[age]
theorem Es:∀{ds:List D},Ej ds=true->Bb ds=ds
 |[],_=>by rw[Bb]
 |d::r,h=>by
  rw[Ej,U0x] at h
  rw[Bb,Ra h.1,Es h.2]
end
section
variable{Γ Γ':Fr}{μ μ':Mu}{H:Hp}
mutual
theorem VR.age(hK:Γ'.K=Γ.K)(hN:∀a,¬Cm μ a->Γ.N a∨Γ.H0 a=none->Γ'.N a)(hl:∀a o,H a=some o->¬Cm μ a->¬Cm μ' a):∀{v:V} {d:D},Ax d=true->VR Γ μ H v d->VR Γ' μ' H v (VS.age d)
 |_,_,_,.non=>by rw[VS.age];exact .non
 |_,_,_,.bl b=>by rw[VS.age];exact .bl b
 |_,_,_,.int i=>by rw[VS.age];exact .int i
 |_,_,_,.str x=>by rw[VS.age];exact .str x
 |_,_,_,.ty n=>by rw[VS.age];exact .ty n
 |_,_,_,.fn a n=>by rw[VS.age];exact .fn a n
 |_,_,h,.tup hb t=>by rw[Ax] at h;rw[VS.age];exact .tup hb (VRs.age hK hN hl h t)
 |_,_,h,.lst o n hb t=>by rw[Ax] at h;rw[VS.age];exact .lst ⟨fun z=>(by cases z),.inl (hN _ n o.2)⟩ (hl _ _ hb n) hb (VRs.age hK hN hl h t)
 |_,_,h,.ref _ _=>by simp[Ax] at h
 |_,_,_,.scrK k=>by rw[VS.age];exact .scrK (by rw[hK];exact k)
 |_,_,_,.scrR n hb=>by rw[VS.age];exact .scrR (hl _ _ hb n) hb
 |_,_,_,.emp o n hb=>by rw[VS.age];exact .emp ⟨fun z=>(by cases z),.inl (hN _ n o.2)⟩ (hl _ _ hb n) hb
 |_,_,h,.dref _ _=>by simp[Ax] at h
 |_,_,h,.lent _ _ _=>by simp[Ax] at h
 |_,_,_,.dcf o n hb=>by rw[VS.age];exact .dcf ⟨fun z=>(by cases z),.inl (hN _ n o.2)⟩ (hl _ _ hb n) hb
theorem VRs.age(hK:Γ'.K=Γ.K)(hN:∀a,¬Cm μ a->Γ.N a∨Γ.H0 a=none->Γ'.N a)(hl:∀a o,H a=some o->¬Cm μ a->¬Cm μ' a):∀{v:List V} {d:List D},Av d=true->VRs Γ μ H v d->VRs Γ' μ' H v (Bb d)
 |_,_,_,.nil=>by rw[Bb];exact .nil
 |_,_,h,.cons r t=>by
  rw[Av,U0x] at h
  rw[Bb];exact .cons (VR.age hK hN hl h.1 r) (VRs.age hK hN hl h.2 t)
end
mutual
theorem VR.pure(hK:Γ'.K=Γ.K)(hN:∀m a xs,¬Cm μ a->Γ.Ok m a->H a=some xs->Γ'.Ok m a/\¬Cm μ' a)(ho:∀a o,H a=some o->¬Cm μ a->(∀xs,o≠.lst xs)->(∀xs,o≠.dK xs)->¬Cm μ' a):∀{v:V} {d:D},Ax d=true->VR Γ μ H v d->VR Γ' μ' H v d
 |_,_,_,.non=>.non
 |_,_,_,.bl b=>.bl b
 |_,_,_,.int i=>.int i
 |_,_,_,.str x=>.str x
 |_,_,_,.ty n=>.ty n
 |_,_,_,.fn a n=>.fn a n
 |_,_,h,.tup hb t=>by rw[Ax] at h;exact .tup hb (VRs.pure hK hN ho h t)
 |_,_,h,.lst o n hb t=>by rw[Ax] at h;exact .lst (hN _ _ _ n o hb).1 (hN _ _ _ n o hb).2 hb (VRs.pure hK hN ho h t)
 |_,_,h,.ref _ _=>by simp[Ax] at h
 |_,_,_,.scrK k=>.scrK (by rw[hK];exact k)
 |_,_,_,.scrR n hb=>.scrR (ho _ _ hb n (fun _ z=>by cases z) fun _ z=>by cases z) hb
 |_,_,_,.emp o n hb=>.emp (hN _ _ _ n o hb).1 (hN _ _ _ n o hb).2 hb
 |_,_,h,.dref _ _=>by simp[Ax] at h
 |_,_,h,.lent _ _ _=>by simp[Ax] at h
 |_,_,_,.dcf o n hb=>.dcf (hN _ _ _ n o hb).1 (hN _ _ _ n o hb).2 hb
theorem VRs.pure(hK:Γ'.K=Γ.K)(hN:∀m a xs,¬Cm μ a->Γ.Ok m a->H a=some xs->Γ'.Ok m a/\¬Cm μ' a)(ho:∀a o,H a=some o->¬Cm μ a->(∀xs,o≠.lst xs)->(∀xs,o≠.dK xs)->¬Cm μ' a):∀{v:List V} {d:List D},Av d=true->VRs Γ μ H v d->VRs Γ' μ' H v d
 |_,_,_,.nil=>.nil
 |_,_,h,.cons r t=>by
  rw[Av,U0x] at h
  exact .cons (VR.pure hK hN ho h.1 r) (VRs.pure hK hN ho h.2 t)
end
mutual
theorem VR.den{σ:St}{env:Env}{S S0:Store}{k:Nat}(R:Rep Γ μ σ H env S)(hK:Γ'.K=Γ.K)(h0:∀(i:Nat)(ds:List D)(a:Addr),k<=i->S0[i]?=some (some ds)->S[i]?=some (some ds)/\(μ[i]?=some (some a)->¬Cm μ' a/\Γ'.Ok true a))
  (hN:∀m a,¬Cm μ a->Γ.Ok m a->Γ'.Ok m a) (hl:∀a o,H a=some o->¬Cm μ a->¬Cm μ' a):∀{v:V} {d e:D},VR Γ μ H v d->VS.den k S0 d=some e->VR Γ' μ' H v e
 |_,_,_,.non,h=>by rw[VS.den] at h;cases h;exact .non
 |_,_,_,.bl b,h=>by rw[VS.den] at h;cases h;exact .bl b
 |_,_,_,.int i,h=>by rw[VS.den] at h;cases h;exact .int i
 |_,_,_,.str x,h=>by rw[VS.den] at h;cases h;exact .str x
 |_,_,_,.ty n,h=>by rw[VS.den] at h;cases h;exact .ty n
 |_,_,_,.fn a n,h=>by rw[VS.den] at h;cases h;exact .fn a n
 |_,_,_,.tup hb t,h=>by
  rw[VS.den] at h
  obtain⟨es,e1,e2⟩:=map_some h
  subst e2
  exact .tup hb (VRs.den R hK h0 hN hl t e1)
 |_,_,_,.lst o n hb t,h=>by
  rw[VS.den] at h
  obtain⟨es,e1,e2⟩:=map_some h
  subst e2
  exact .lst (hN _ _ n o) (hl _ _ hb n) hb (VRs.den R hK h0 hN hl t e1)
 |_,.ref i,_,.ref hi f,h=>by
  rw[VS.den] at h
  by_cases hk:i<k
  .rw[if_pos hk] at h;cases h
  .rw[if_neg hk] at h
   split at h
   .rename_i ds hd
    by_cases hp:Av ds=true
    .rw[if_pos hp] at h
     cases h
     have hS:=(h0 i ds 0 (by omega) hd).1
     obtain⟨a,h1,hc⟩:=R.sto i ds hS
     obtain⟨hv,f2⟩:=f a h1
     obtain⟨xs,h2,h3⟩:=hc.list f2
     subst hv
     obtain⟨z1,z2⟩:=(h0 i ds a (by omega) hd).2 h1
     exact .lst z2 z1 h2 (VRs.pure hK (fun m b ys n o hb=>⟨hN m b n o,hl b _ hb n⟩) (fun b o hb n _ _=>hl b o hb n) hp h3)
    .rw[if_neg hp] at h;cases h
   .cases h
 |_,_,_,.scrK k,h=>by rw[VS.den] at h;cases h;exact .scrK (by rw[hK];exact k)
 |_,_,_,.scrR n hb,h=>by rw[VS.den] at h;cases h;exact .scrR (hl _ _ hb n) hb
 |_,_,_,.emp o n hb,h=>by rw[VS.den] at h;cases h;exact .emp (hN _ _ n o) (hl _ _ hb n) hb
 |_,_,_,.lent _ _ _,h=>by rw[VS.den] at h;cases h
 |_,.dref i,_,.dref hi f,h=>by
  rw[VS.den] at h
  by_cases hk:i<k
  .rw[if_pos hk] at h;cases h
  .rw[if_neg hk] at h
   split at h
   .rename_i kvs hd
    cases h
    have hS:=(h0 i _ 0 (by omega) hd).1
    obtain⟨a,h1,hc⟩:=R.sto i _ hS
    obtain⟨hv,f2⟩:=f a h1
    obtain⟨kvs',q1,h2⟩:=hc.dict f2
    cases q1
    subst hv
    have z:=(h0 i _ a (by omega) hd).2 h1
    exact .dcf ⟨fun z=>(by cases z),z.2.2⟩ z.1 h2
   .cases h
 |_,_,_,.dcf o n hb,h=>by rw[VS.den] at h;cases h;exact .dcf (hN _ _ n o) (hl _ _ hb n) hb
theorem VRs.den{σ:St}{env:Env}{S S0:Store}{k:Nat}(R:Rep Γ μ σ H env S)(hK:Γ'.K=Γ.K)(h0:∀(i:Nat)(ds:List D)(a:Addr),k<=i->S0[i]?=some (some ds)->S[i]?=some (some ds)/\(μ[i]?=some (some a)->¬Cm μ' a/\Γ'.Ok true a))
  (hN:∀m a,¬Cm μ a->Γ.Ok m a->Γ'.Ok m a) (hl:∀a o,H a=some o->¬Cm μ a->¬Cm μ' a):∀{v:List V} {d e:List D},VRs Γ μ H v d->VS.CT k S0 d=some e->VRs Γ' μ' H v e
 |_,_,_,.nil,h=>by rw[CT] at h;cases h;exact .nil
 |_,_,_,.cons r t,h=>by
  rw[CT] at h
  obtain⟨x,e1,h⟩:=bind_some h
  obtain⟨xs,e2,h⟩:=bind_some h
  cases h
  exact .cons (VR.den R hK h0 hN hl r e1) (VRs.den R hK h0 hN hl t e2)
end
mutual
theorem VR.new(hN:∀a xs,¬Cm μ a->Γ.Ok true a->H a=some (.lst xs)->Γ'.Ok true a/\¬Cm μ' a):∀{v:V} {d:D},newD d=true->VR Γ μ H v d->VR Γ' μ' H v d
 |_,_,_,.non=>.non
 |_,_,_,.bl b=>.bl b
 |_,_,_,.int i=>.int i
 |_,_,_,.str x=>.str x
 |_,_,_,.ty n=>.ty n
 |_,_,_,.fn a n=>.fn a n
 |_,_,h,.tup hb t=>by rw[newD] at h;exact .tup hb (VRs.new hN h t)
 |_,.lst m ds,h,.lst o n hb t=>by
  rw[newD,U0x] at h
  obtain⟨rfl,h⟩:=h
  exact .lst (hN _ _ n o hb).1 (hN _ _ n o hb).2 hb (VRs.new hN h t)
 |_,_,h,.ref _ _=>by simp[newD] at h
 |_,_,h,.scrK _=>by simp[newD] at h
 |_,_,h,.scrR _ _=>by simp[newD] at h
 |_,_,h,.emp _ _ _=>by simp[newD] at h
 |_,_,h,.dref _ _=>by simp[newD] at h
 |_,_,h,.lent _ _ _=>by simp[newD] at h
 |_,_,h,.dcf _ _ _=>by simp[newD] at h
theorem VRs.new(hN:∀a xs,¬Cm μ a->Γ.Ok true a->H a=some (.lst xs)->Γ'.Ok true a/\¬Cm μ' a):∀{v:List V} {d:List D},newL d=true->VRs Γ μ H v d->VRs Γ' μ' H v d
 |_,_,_,.nil=>.nil
 |_,_,h,.cons r t=>by
  rw[newL,U0x] at h
  exact .cons (VR.new hN h.1 r) (VRs.new hN h.2 t)
end
mutual
theorem VR.flat:∀{v:V} {d:D},Ca d=true->VR Γ μ H v d->VR Γ' μ' H v d
 |_,_,_,.non=>.non
 |_,_,_,.bl b=>.bl b
 |_,_,_,.int i=>.int i
 |_,_,_,.str x=>.str x
 |_,_,_,.ty n=>.ty n
 |_,_,_,.fn a n=>.fn a n
 |_,_,h,.tup hb t=>by rw[Ca] at h;exact .tup hb (VRs.flat h t)
 |_,_,h,.lst _ _ _ _=>by simp[Ca] at h
 |_,_,h,.ref _ _=>by simp[Ca] at h
 |_,_,h,.scrK _=>by simp[Ca] at h
 |_,_,h,.scrR _ _=>by simp[Ca] at h
 |_,_,h,.emp _ _ _=>by simp[Ca] at h
 |_,_,h,.dref _ _=>by simp[Ca] at h
 |_,_,h,.lent _ _ _=>by simp[Ca] at h
 |_,_,h,.dcf _ _ _=>by simp[Ca] at h
theorem VRs.flat:∀{v:List V} {d:List D},Ej d=true->VRs Γ μ H v d->VRs Γ' μ' H v d
 |_,_,_,.nil=>.nil
 |_,_,h,.cons r t=>by
  rw[Ej,U0x] at h
  exact .cons (VR.flat h.1 r) (VRs.flat h.2 t)
end
mutual
theorem Rg{k:Nat}{S:Store}:∀{d e:D},den k S d=some e->Ax e=true
 |.tup ds,e,h=>by
  rw[den] at h
  obtain⟨es,e1,e2⟩:=map_some h
  subst e2
  rw[Ax];exact Nr e1
 |.lst m ds,e,h=>by
  rw[den] at h
  obtain⟨es,e1,e2⟩:=map_some h
  subst e2
  rw[Ax];exact Nr e1
 |.ref i,e,h=>by
  rw[den] at h
  by_cases hk:i<k
  .rw[if_pos hk] at h;cases h
  .rw[if_neg hk] at h
   split at h
   .rename_i ds hd
    by_cases hp:Av ds=true
    .rw[if_pos hp] at h;cases h;rw[Ax];exact hp
    .rw[if_neg hp] at h;cases h
   .cases h
 |.non,e,h=>by rw[den] at h;cases h;rfl
 |.bl _,e,h=>by rw[den] at h;cases h;rfl
 |.int _,e,h=>by rw[den] at h;cases h;rfl
 |.str _,e,h=>by rw[den] at h;cases h;rfl
 |.ty _,e,h=>by rw[den] at h;cases h;rfl
 |.fn _ _,e,h=>by rw[den] at h;cases h;rfl
 |.scr _,e,h=>by rw[den] at h;cases h;rfl
 |.emp,e,h=>by rw[den] at h;cases h;rfl
 |.dref i,e,h=>by
  rw[den] at h
  by_cases hk:i<k
  .rw[if_pos hk] at h;cases h
  .rw[if_neg hk] at h
   split at h
   .cases h;rfl
   .cases h
 |.dcf _,e,h=>by rw[den] at h;cases h;rfl
 |.dcm _,e,h=>by rw[den] at h;cases h
 |.lent _,e,h=>by rw[den] at h;cases h
theorem Nr{k:Nat}{S:Store}:∀{d e:List D},CT k S d=some e->Av e=true
 |[],e,h=>by rw[CT] at h;cases h;rfl
 |d::r,e,h=>by
  rw[CT] at h
  obtain⟨x,e1,h⟩:=bind_some h
  obtain⟨xs,e2,h⟩:=bind_some h
  cases h
  rw[Av,Rg e1,Nr e2];rfl
end
end
end VS
end
section
namespace VS
open PySem PySem.Spec L2
abbrev Ci:=List D->Option D
abbrev Ij:=List Int->List D->Option (D×List Int)
def intsOf:List D->Option (List Int)
 |[]=>some []
 |.int i::r=>(intsOf r).map (i::·)
 |_=>none
theorem Ie:∀{ds:List D} {ns:List Int},intsOf ds=some ns->ds=ns.map D.int
 |[],_,h=>by cases h;rfl
 |.int i::r,ns,h=>by
  obtain⟨ms,e1,e2⟩:=map_some h
  subst e2
  rw[U00,Ie e1]
 |.non::_,_,h=>by cases h
 |.bl _::_,_,h=>by cases h
 |.str _::_,_,h=>by cases h
 |.ty _::_,_,h=>by cases h
 |.fn _ _::_,_,h=>by cases h
 |.tup _::_,_,h=>by cases h
 |.lst _ _::_,_,h=>by cases h
 |.ref _::_,_,h=>by cases h
 |.scr _::_,_,h=>by cases h
 |.emp::_,_,h=>by cases h
 |.dref _::_,_,h=>by cases h
 |.dcf _::_,_,h=>by cases h
 |.dcm _::_,_,h=>by cases h
 |.lent _::_,_,h=>by cases h
@[simp] theorem K5(ns:List Int):intsOf (ns.map D.int)=some ns:=by
 induction ns with
 |nil=>rfl
 |cons n r ih=>rw[U00,intsOf,ih];rfl
def G6(np n:Nat)(f:Bl):Ci:=fun ds=>if ds.length=np then (f (ds.map some++U0s (n-ds.length) none) []).bind fun p=>match p.1 with|.ret d=>den 0 p.2.2 d|.nx=>some .non|_=>none else none
def runM(np n:Nat)(f:Bl):Ij:=fun ns ds=>if ds.length+1=np then (f (some (.ref 0)::(ds.map some++U0s (n-1-ds.length) none)) [some (ns.map D.int)]).bind fun p=>match p.2.2[0]? with
 |some (some cs)=>(intsOf cs).bind fun ms=>(match p.1 with|.ret d=>(den 1 p.2.2 d).map fun r=>(r,ms)|.nx=>some (.non,ms)|_=>none)
 |_=>none
 else none
def spP(K:U0a)(sem:Ci)(n:Nat):Sp:=fun vs H Q _=>∃(N:Addr->Prop)(ds:List D)(r:D),vs.length=n/\VRs ⟨K,H,N,[]⟩ [] H vs ds/\sem ds=some r/\∀v H',Same H H'->VR ⟨K,H,N,[]⟩ [] H' v r->Q v H'
def spM(K:U0a)(sem:Ij)(n:Nat):Sp:=fun vs H Q _=>∃(N:Addr->Prop)(a:Addr)(us:List V)(ns:List Int)(ds:List D)(r:D)(ms:List Int),vs=.ref a::us/\vs.length=n/\H a=some (.lst (ns.map V.int))/\VRs ⟨K,H,N,[a]⟩ [some a] H us ds/\sem ns ds=some (r,ms) /\
 ∀v H',(∀b o,b≠a->H b=some o->H' b=some o)->H' a=some (.lst (ms.map V.int))->VR ⟨K,H,N,[a]⟩ [some a] H' v r->Q v H'
section
variable{P:Program}{w:World}{K:U0a}{mg:Str->Option Value}{base:Heap}
theorem Ua{N:List Str}{vs:List V}{ds:List D}{Γ:Fr}{μ:Mu}{H:Hp}(r:VRs Γ μ H vs ds){i:Nat}{d:D}{n:Nat}(h:(ds.map some++U0s n none:Env)[i]?=some (some d)):∃v,(vs.map some++U0s (N.length-vs.length) none:St)[i]?=some (some v)/\VR Γ μ H v d:=by
 have hi:i<ds.length:=by
  by_cases hi:i<ds.length
  .exact hi
  .rw[U1t (by simpa using hi),U38] at h
   split at h<;>cases h
 rw[U09 (by simpa using hi),U03] at h
 have h2:ds[i]?=some d:=by
  cases q:ds[i]? with
  |none=>rw[q] at h;cases h
  |some e=>rw[q] at h;cases h;rfl
 obtain⟨v,e1,e2⟩:=r.get h2
 refine⟨v,?_,e2⟩
 rw[U09 (by rw[U0g,r.length];exact hi),U03,e1]
 rfl
theorem GX{a:Addr}:¬Cm [] a:=fun z=>by simp[Cm] at z
theorem N5{a b:Addr}:Cm [some b] a↔a=b:=by simp[Cm]
theorem fnP{x qual:Str}{st:Stmt}{f:Addr}{fd:FuncData}{N ps:List Str}{k:Nat}{fs:Bl}(F:Fun K x qual st f fd)(Sc:DK N ps (Ak st))
  (hb:∀(cdv:Value)(A:Around)(outer:List PySem.Env)(s:Shared)(H:Hp)(E:XK),FN k (A.deeper (PyProof.Rows.envOfC qual (Ak st) s.heap.objs.size f cdv))->JSs (Pu CX0 P w K mg base N qual (Ak st) f cdv A outer s H E).nox (Cp st) fs) :
  Dp P w K mg base CX0 (k+1) f fd ps (spP K (G6 ps.length N.length fs) ps.length):=by
 refine F.ok Sc (fun vs H Q E h=>?_) (fun cdv A outer s H vs Q E hr h=>?_)
 .obtain⟨_,_,_,hl,_⟩:=h;exact hl
 obtain⟨Nn,ds,r,hl,rs,e,q⟩:=h
 refine⟨_,(hb cdv A outer s H E hr).ps,?_⟩
 have hdl:=rs.length
 unfold G6 at e
 rw[if_pos (by omega)] at e
 obtain⟨⟨fl,env',S'⟩,e1,e⟩:=bind_some e
 have hpl:ps.length<=N.length:=by have:=congrArg U4j Sc.pre;rw[U2c] at this;omega
 refine⟨⟨K,H,Nn,[]⟩,[],_,[],fl,env',S',rfl,⟨fun i d h=>Ua rs h,?_,fun i ds h=>by simp at h,fun i a h=>by simp at h,fun i j a h=>by simp at h,rfl,Ext.refl _ _,fun i a _ h=>by simp at h⟩,e1,fun μ' σ' H' x' R'=>?_⟩
 .unfold L2.start
  rw[U0o,U0g,U1u,U0o,U0g,U1u,hdl]
 have sm:Same H H':=fun b o hb=>(x'.keep b o hb GX).1
 dsimp only at e
 cases fl with
 |nx=>cases e;exact q _ H' sm .non
 |brk=>cases e
 |cnt=>cases e
 |ret d =>
  intro v rv
  refine q v H' sm (VR.den R' rfl (fun i ds a _ hs=>⟨hs,fun hm=>⟨GX,?_⟩⟩) (fun m a _ o=>o) (fun a o _ _=>GX) rv e)
  have hn:=R'.new i a (U3e _) hm
  exact⟨fun _=>hn,.inr hn⟩
theorem fnM{x qual:Str}{st:Stmt}{f:Addr}{fd:FuncData}{N ps:List Str}{k:Nat}{fs:Bl}(F:Fun K x qual st f fd)(Sc:DK N ps (Ak st))
  (hb:∀(cdv:Value)(A:Around)(outer:List PySem.Env)(s:Shared)(H:Hp)(E:XK),FN k (A.deeper (PyProof.Rows.envOfC qual (Ak st) s.heap.objs.size f cdv))->JSs (Pu CX0 P w K mg base N qual (Ak st) f cdv A outer s H E).nox (Cp st) fs) :
  Dp P w K mg base CX0 (k+1) f fd ps (spM K (runM ps.length N.length fs) ps.length):=by
 refine F.ok Sc (fun vs H Q E h=>?_) (fun cdv A outer s H vs Q E hr h=>?_)
 .obtain⟨_,_,_,_,_,_,_,_,hl,_⟩:=h;exact hl
 obtain⟨Nn,a,us,ns,ds,r,ms,rfl,hl,ha,rs,e,q⟩:=h
 refine⟨_,(hb cdv A outer s H E hr).ps,?_⟩
 have hdl:=rs.length
 rw[U0i] at hl
 unfold runM at e
 rw[if_pos (by omega)] at e
 obtain⟨⟨fl,env',S'⟩,e1,e⟩:=bind_some e
 have hpl:ps.length<=N.length:=by have:=congrArg U4j Sc.pre;rw[U2c] at this;omega
 refine⟨⟨K,H,Nn,[a]⟩,[some a],_,[some (ns.map D.int)],fl,env',S',rfl,⟨fun i d h=>?_,?_,fun i es h=>?_,fun i b h=>?_,fun i j b h1 h2=>?_,rfl,Ext.refl _ _,fun i b hi h=>?_⟩,e1,fun μ' σ' H' x' R'=>?_⟩
 .cases i with
  |zero =>
   simp at h
   subst h
   refine⟨.ref a,by simp[L2.start],.ref (by simp) fun b hb=>?_⟩
   simp at hb;rw[←hb];exact⟨rfl,⟨_,ha⟩⟩
  |succ i =>
   rw[List.getElem?_cons_succ] at h
   obtain⟨v,e1,e2⟩:=Ua (N:=U0s (N.length-1) "") rs h
   refine⟨v,?_,e2⟩
   unfold L2.start
   rw[U00,U2n,List.getElem?_cons_succ,U0i]
   rw[U1u] at e1
   rw[show N.length-(us.length+1)=N.length-1-us.length by omega]
   exact e1
 .unfold L2.start
  rw[U0o,U0g,U1u,U0i,U0i,U0o,U0g,U1u,hdl]
  omega
 .cases i with
  |zero=>simp at h;subst h;exact⟨a,by simp,.inl ⟨_,ha,VRs.ints ns⟩⟩
  |succ i=>simp at h
 .cases i with
  |zero=>exact⟨_,rfl⟩
  |succ i=>simp at h
 .cases i with
  |zero=>cases j with
   |zero=>rfl
   |succ j=>simp at h2
  |succ i=>simp at h1
 .cases i with
  |zero=>simp at hi
  |succ i=>simp at h
 have sm:∀b o,b≠a->H b=some o->H' b=some o:=fun b o hb h=>(x'.keep b o h fun z=>hb (N5.mp z)).1
 dsimp only at e
 split at e
 .rename_i cs hc
  obtain⟨ms',e3,e5⟩:=bind_some e
  clear e
  obtain⟨a',g1,gc⟩:=R'.sto 0 cs hc
  obtain⟨xs',g2,g3⟩:∃xs,H' a'=some (.lst xs)/\VRs _ μ' H' xs cs:=by
   rcases gc with z|⟨kvs,q,_⟩
   .exact z
   .rw[q] at e3;cases e3
  have ea:a'=a:=by
   have:=x'.ids 0 a' (by simp) g1
   simp at this;exact this.symm
  subst ea
  have ec:=Ie e3
  subst ec
  have ex:=g3.Oj
  subst ex
  cases fl with
  |nx=>cases e5;exact q _ H' sm g2 .non
  |brk=>cases e5
  |cnt=>cases e5
  |ret d =>
   intro v rv
   dsimp only at e5
   obtain⟨r',e4,e6⟩:=map_some e5
   cases e6
   refine q v H' sm g2 (VR.den R' rfl (fun i es b hi hs=>⟨hs,fun hm=>⟨fun z=>?_,?_⟩⟩) (fun m b _ o=>o) (fun b o _ n z=>n ?_) rv e4)
   .have:b=a':=N5.mp z
    subst this
    have:=R'.inj 0 i b g1 hm
    omega
   .have hn:=R'.new i b hi hm
    exact⟨fun _=>hn,.inr hn⟩
   .have:b=a':=N5.mp z
    subst this
    exact U06 g1
 .cases e
end
theorem Dn{np n:Nat}{f:Bl}{ds:List D}{r:D}(h:G6 np n f ds=some r):ds.length=np/\Ax r=true:=by
 unfold G6 at h
 by_cases hl:ds.length=np
 .rw[if_pos hl] at h
  obtain⟨⟨fl,env',S'⟩,e1,e⟩:=bind_some h
  refine⟨hl,?_⟩
  dsimp only at e
  cases fl with
  |nx=>cases e;rfl
  |brk=>cases e
  |cnt=>cases e
  |ret d=>exact Rg e
 .rw[if_neg hl] at h;cases h
theorem M8{np n:Nat}{f:Bl}{ns:List Int}{ds:List D}{r:D×List Int}(h:runM np n f ns ds=some r):ds.length+1=np/\Ax r.1=true:=by
 unfold runM at h
 by_cases hl:ds.length+1=np
 .rw[if_pos hl] at h
  obtain⟨⟨fl,env',S'⟩,e1,e⟩:=bind_some h
  refine⟨hl,?_⟩
  dsimp only at e
  split at e
  .rename_i cs hc
   obtain⟨ms',e3,e⟩:=bind_some e
   cases fl with
   |nx=>cases e;rfl
   |brk=>cases e
   |cnt=>cases e
   |ret d =>
    dsimp only at e
    obtain⟨r',e4,e⟩:=map_some e
    cases e
    exact Rg e4
  .cases e
 .rw[if_neg hl] at h;cases h
end VS
end
section
namespace VS
open PySem PySem.Spec L2
structure Cv(P:Program)(w:World)(K:U0a)(mg:Str->Option Value)(base:Heap)(x:Str)(k:Nat)(sem:Ci):Prop where
 cal:∃ps,Cal P w K mg base x k ps (spP K sem ps.length)/\∀ds r,sem ds=some r->ds.length=ps.length/\Ax r=true
structure Hh(P:Program)(w:World)(K:U0a)(mg:Str->Option Value)(base:Heap)(x:Str)(k:Nat)(sem:Ij):Prop where
 cal:∃ps,Cal P w K mg base x k ps (spM K sem ps.length)/\∀ns ds r,sem ns ds=some r->ds.length+1=ps.length/\Ax r.1=true
def Bf(sem:Ci)(a:Bg):BK:=fun env S=>(a env S).bind fun p=>(CT 0 p.2 p.1).bind fun ds=>(sem (Bb ds)).bind fun r=>if (Av p.1||newD r)=true then some (r,p.2) else none
def Ck(sem:Ij)(a:Bg):BK:=fun env S=>(a env S).bind fun p=>match p.1 with
 |.ref i::rest=>(match p.2[i]? with
  |some (some cs)=>(intsOf cs).bind fun ns=>(CT 0 (p.2.set i none) rest).bind fun ds=>(sem ns (Bb ds)).bind fun r=>if (Av rest||newD r.1)=true then some (r.1,p.2.set i (some (r.2.map D.int))) else none
  |_=>none)
 |_=>none
def Rq(n:Nat):List D->Option (List D×List D)
 |[]=>none
 |d::r=>if Ca d=true then (Rq n r).map fun p=>(d::p.1,p.2) else match d with
  |.lst true ds=>if (Ej ds&&Ej r)=true then some (.ref n::r,ds) else none
  |_=>none
def KC(n:Nat):D->Option (D×List D)
 |.lst true ds=>if Ej ds=true then some (.ref n,ds) else none
 |.tup es=>(Rq n es).map fun p=>(.tup p.1,p.2)
 |_=>none
def Mt(sem:Ci)(a:Bg):BK:=fun env S=>(Bf sem a env S).bind fun p=>(KC p.2.length p.1).bind fun q=>some (q.1,p.2++[some q.2])
def Q8(sem:Ij)(a:Bg):BK:=fun env S=>(Ck sem a env S).bind fun p=>(KC p.2.length p.1).bind fun q=>some (q.1,p.2++[some q.2])
section
variable{Γ:Fr}{μ:Mu}{σ:St}{H H':Hp}{env:Env}{S:Store}
theorem lend{K:U0a}(hK:Γ.K=K)(R:Rep Γ μ σ H env S){S0:Store}{m0:List Addr}{vs:List V}{ds es:List D}(r:VRs Γ μ H vs ds)(e:CT 0 S0 ds=some es)(h0:∀(i:Nat)(ds:List D)(a:Addr),S0[i]?=some (some ds)->S[i]?=some (some ds)/\(μ[i]?=some (some a)->¬Cm (m0.map some) a))(hm:∀a∈m0,Cm μ a)
  (c:Bool) (hc:(Av ds||c)=true):∃N:Addr->Prop,VRs ⟨K,H,N,m0⟩ (m0.map some) H vs (Bb es)/\(c=true∨∀a,N a->¬Cm μ a/\(Γ.N a∨Γ.H0 a=none)):=by
 subst hK
 have hl:∀a o,H a=some o->¬Cm μ a->¬Cm (m0.map some) a:=fun a o _ n z=>n (hm a (by simpa [Cm] using z))
 by_cases hp:Av ds=true
 .rw[Cq 0 S0 hp] at e
  cases e
  exact⟨fun a=>¬Cm μ a/\(Γ.N a∨Γ.H0 a=none),VRs.age (Γ:=Γ) (Γ':=⟨Γ.K,H,fun a=>¬Cm μ a/\(Γ.N a∨Γ.H0 a=none),m0⟩) rfl (fun a n o=>⟨n,o⟩) hl hp r,.inr fun a z=>z⟩
 .have hc':c=true:=by simpa [hp] using hc
  refine⟨fun _=>True,?_,.inl hc'⟩
  have r1:VRs ⟨Γ.K,fun _=>none,fun _=>True,m0⟩ (m0.map some) H vs es:=VRs.den (Γ':=⟨Γ.K,fun _=>none,fun _=>True,m0⟩) R rfl (fun i ds a _ hs=>⟨(h0 i ds a hs).1,fun z=>⟨(h0 i ds a hs).2 z,⟨fun _=>rfl,.inl trivial⟩⟩⟩) (fun m a _ _=>⟨fun _=>rfl,.inl trivial⟩) hl r e
  exact VRs.age (Γ:=⟨Γ.K,fun _=>none,fun _=>True,m0⟩) (Γ':=⟨Γ.K,H,fun _=>True,m0⟩) (μ:=m0.map some) rfl (fun a _ _=>trivial) (fun a o _ n=>n) (Nr e) r1
theorem home{K:U0a}(hK:Γ.K=K)(R:Rep Γ μ σ H env S){N:Addr->Prop}{m0:List Addr}{v:V}{r:D}(lv:∀a,Cm μ a->IsL H' a∨IsK H' a)(hp:Ax r=true)(c:newD r=true∨∀a,N a->¬Cm μ a/\(Γ.N a∨Γ.H0 a=none))
  (rv:VR ⟨K,H,N,m0⟩ (m0.map some) H' v r):VR Γ μ H' v r:=by
 subst hK
 rcases c with c|c
 .exact VR.new (fun a xs n o hb=>⟨R.ok (o.1 rfl) true,R.dead (o.1 rfl)⟩) c rv
 .refine VR.pure (Γ:=⟨Γ.K,H,N,m0⟩) (Γ':=Γ) rfl (fun m a xs n o hb=>?_) (fun a o hb n hx hy z=>?_) hp rv
  .rcases o.2 with z|z
   .refine⟨⟨fun hm=>R.fresh (o.1 hm),(c a z).2⟩,(c a z).1⟩
   .exact⟨R.ok z m,R.dead z⟩
  .rcases lv a z with ⟨xs,q⟩|⟨xs,q⟩
   .rw[q] at hb
    exact hx xs (U0w hb).symm
   .rw[q] at hb
    exact hy xs (U0w hb).symm
theorem Rep.adopt(R:Rep Γ μ σ H env S)(sm:Same H H'){a:Addr}{xs:List V}{ds:List D}(hn:H a=none)(ha:H' a=some (.lst xs))(hf:Ej ds=true){Γ':Fr}{μ':Mu}(rs:VRs Γ' μ' H' xs ds) :
  Rep Γ (μ++[some a]) σ H' env (S++[some ds])/\Ext μ H (μ++[some a]) H':=by
 have ne:∀b o,H b=some o->b≠a:=fun b o h z=>by rw[z,hn] at h;cases h
 have x:Ext μ H (μ++[some a]) H':=by
  refine⟨fun b o h n=>⟨sm b o h,fun z=>?_⟩,fun b ys h=>sm b _ h,fun b h=>sm.free h,fun i b hi h=>?_,by rw[U0o];omega,fun b _ ⟨ys,h⟩=>⟨ys,sm b _ h⟩,fun b _ ⟨ys,h⟩=>⟨ys,sm b _ h⟩⟩
  .rcases U1k.mp z with z|z
   .exact n z
   .have z':b=a:=by simpa using z
    exact ne b o h z'
  .rw[U09 hi] at h;exact h
 have idx:∀i b,(μ++[some a])[i]?=some (some b)->(i<μ.length/\μ[i]?=some (some b))∨(i=μ.length/\b=a):=fun i b h=>by
  by_cases hi:i<μ.length
  .rw[U09 hi] at h;exact .inl ⟨hi,h⟩
  .rw[U1t (by omega)] at h
   have hl:=(U0h.mp h).1
   have hi':i=μ.length:=by simp at hl;omega
   subst hi'
   simp at h
   exact .inr ⟨rfl,h.symm⟩
 have no:∀i,μ[i]?=some (some a)->False:=fun i h=>R.dead hn (U06 h)
 refine⟨⟨fun i d h=>?_,R.len,fun i es h=>?_,fun i b h=>?_,fun i j b h1 h2=>?_,by rw[U0o,U0o,R.slen];rfl,R.ent.trans x,fun i b hi h=>?_⟩,x⟩
 .obtain⟨v,h1,h2⟩:=R.vals i d h
  exact⟨v,h1,h2.ext x⟩
 .by_cases hi:i<S.length
  .rw[U09 hi] at h
   obtain⟨b,h1,h2⟩:=R.sto i es h
   exact⟨b,by rw[U09 (by rw[←R.slen];exact hi)];exact h1,h2.to x fun o q=>sm _ _ q⟩
  .rw[U1t (by omega)] at h
   have hl:=(U0h.mp h).1
   have hi':i=S.length:=by simp at hl;omega
   subst hi'
   simp at h
   subst h
   exact⟨a,by rw[R.slen];simp,.inl ⟨xs,ha,VRs.flat hf rs⟩⟩
 .rcases idx i b h with ⟨hi,h⟩|⟨rfl,rfl⟩
  .obtain⟨ds',q⟩:=R.liv i b h
   exact⟨ds',by rw[U09 (by rw[R.slen];exact hi)];exact q⟩
  .exact⟨ds,by rw[←R.slen];simp⟩
 .rcases idx i b h1 with ⟨_,g1⟩|⟨e1,e2⟩
  .rcases idx j b h2 with ⟨_,g2⟩|⟨e3,e4⟩
   .exact R.inj i j b g1 g2
   .exact(no i (e4 ▸ g1)).elim
  .rcases idx j b h2 with ⟨_,g2⟩|⟨e3,_⟩
   .exact(no j (e2 ▸ g2)).elim
   .rw[e1,e3]
 .rcases idx i b h with ⟨_,h⟩|⟨rfl,rfl⟩
  .exact R.new i b hi h
  .exact R.fresh hn
end
theorem Vr{Γ:Fr}{μ:Mu}{H:Hp}{n:Nat}:∀{vs:List V} {ds:List D} {p:List D×List D},Rq n ds=some p->VRs Γ μ H vs ds ->
  ∃a xs,Γ.Ok true a/\H a=some (.lst xs)/\VRs Γ μ H xs p.2/\Ej p.2=true/\∀(Γ':Fr)(μ':Mu),μ'[n]?=some (some a)->VRs Γ' μ' H vs p.1
 |_,[],_,h,_=>by cases h
 |_,d::r,p,h,.cons (xs:=vr) rd rr=>by
  unfold Rq at h
  by_cases hf:Ca d=true
  .rw[if_pos hf] at h
   obtain⟨q,e1,e2⟩:=map_some h
   subst e2
   obtain⟨a,xs,h1,h2,h3,h4,h5⟩:=Vr e1 rr
   exact⟨a,xs,h1,h2,h3,h4,fun Γ' μ' z=>.cons (VR.flat hf rd) (h5 Γ' μ' z)⟩
  .rw[if_neg hf] at h
   split at h
   .rename_i ds
    by_cases hg:(Ej ds&&Ej r)=true
    .rw[if_pos hg] at h
     cases h
     rw[U0x] at hg
     cases rd with
     |@lst _ a xs _ o nl hb t =>
      refine⟨a,xs,o,hb,t,hg.1,fun Γ' μ' z=>.cons (.ref (U0h.mp z).1 fun b hb'=>?_) (VRs.flat hg.2 rr)⟩
      rw[z] at hb';cases hb';exact⟨rfl,⟨_,hb⟩⟩
    .rw[if_neg hg] at h;cases h
   .cases h
theorem Xi{Γ:Fr}{μ:Mu}{H:Hp}{n:Nat}{v:V}{d:D}{p:D×List D}(h:KC n d=some p)(r:VR Γ μ H v d) :
  ∃a xs,Γ.Ok true a/\H a=some (.lst xs)/\VRs Γ μ H xs p.2/\Ej p.2=true/\∀(Γ':Fr)(μ':Mu),μ'[n]?=some (some a)->VR Γ' μ' H v p.1:=by
 unfold KC at h
 split at h
 .rename_i ds
  by_cases hg:Ej ds=true
  .rw[if_pos hg] at h
   cases h
   cases r with
   |@lst _ a xs _ o nl hb t =>
    refine⟨a,xs,o,hb,t,hg,fun Γ' μ' z=>.ref (U0h.mp z).1 fun b hb'=>?_⟩
    rw[z] at hb';cases hb';exact⟨rfl,⟨_,hb⟩⟩
  .rw[if_neg hg] at h;cases h
 .rename_i es
  obtain⟨q,e1,e2⟩:=map_some h
  subst e2
  cases r with
  |@tup b xs _ hb t =>
   obtain⟨a,ys,h1,h2,h3,h4,h5⟩:=Vr e1 t
   exact⟨a,ys,h1,h2,h3,h4,fun Γ' μ' z=>.tup hb (h5 Γ' μ' z)⟩
 .cases h
section
variable{X:Cx}{x:Str}{k k':Nat}{e:Expr}{es:List Expr}{f:Bg}{p pos:Pos}
theorem Dc{sem:Ci}(c:Cv X.prog X.w X.K X.mg X.base x k sem)(hr:FN k' X.A)(hk:k<=k')(hg:Gl X x)(ha:JA X (e::es) f)
  (hdb:(x==("__debug__":Str))=false:=by decide) (he:starEach (e::es) X.env=(false,eval e X.env)::starEach es X.env:=by rfl) (hpl:(backTo pos (starEach es X.env)).any (·.1)=false:=by rfl) :
  JE X (.Call (.Name x p) (e::es) [] pos) (Bf sem f):=by
 obtain⟨ps,c,hok⟩:=c.cal
 refine⟨PE.imp (Mx c hr hk hg ha.pa hdb he hpl) fun σ H Q h=>?_⟩
 obtain⟨Γ,μ,env,S,d,S',hK,R,e,q⟩:=h
 obtain⟨⟨as,S1⟩,e1,e⟩:=bind_some e
 obtain⟨ds,e2,e⟩:=bind_some e
 obtain⟨r,e3,e⟩:=bind_some e
 refine⟨Γ,μ,env,S,as,S1,hK,R,e1,fun vs μ1 H1 x1 R1 r1=>?_⟩
 show spP X.K sem ps.length (vs++[]) H1 Q E0
 rw[U2y]
 dsimp only at e e2
 by_cases hc:(Av as||newD r)=true
 .rw[if_pos hc] at e
  cases e
  obtain⟨hl,hp⟩:=hok _ _ e3
  obtain⟨N,rs,cN⟩:=lend hK R1 (m0:=[]) r1 e2 (fun i ds a hs=>⟨hs,fun _=>GX⟩) (fun a z=>by simp at z) (newD d) hc
  refine⟨N,_,d,?_,rs,e3,fun v H' sm rv=>?_⟩
  .rw[rs.length,hl]
  obtain⟨R2,x2⟩:=R1.grow sm
  exact q v μ1 H' (x1.trans x2) R2 (home hK R1 (fun a z=>R2.live z) hp cN rv)
 .rw[if_neg hc] at e;cases e
theorem W6{sem:Ci}(c:Cv X.prog X.w X.K X.mg X.base x k sem)(hr:FN k' X.A)(hk:k<=k')(hg:Gl X x)(ha:JA X (e::es) f)
  (hdb:(x==("__debug__":Str))=false:=by decide) (he:starEach (e::es) X.env=(false,eval e X.env)::starEach es X.env:=by rfl) (hpl:(backTo pos (starEach es X.env)).any (·.1)=false:=by rfl) :
  JE X (.Call (.Name x p) (e::es) [] pos) (Mt sem f):=by
 obtain⟨ps,c,hok⟩:=c.cal
 refine⟨PE.imp (Mx c hr hk hg ha.pa hdb he hpl) fun σ H Q h=>?_⟩
 obtain⟨Γ,μ,env,S,d,S',hK,R,e,q⟩:=h
 obtain⟨⟨d0,S0⟩,e0,e⟩:=bind_some e
 obtain⟨t,et,e⟩:=bind_some e
 cases e
 obtain⟨⟨as,S1⟩,e1,e⟩:=bind_some e0
 obtain⟨ds,e2,e⟩:=bind_some e
 obtain⟨r,e3,e⟩:=bind_some e
 refine⟨Γ,μ,env,S,as,S1,hK,R,e1,fun vs μ1 H1 x1 R1 r1=>?_⟩
 show spP X.K sem ps.length (vs++[]) H1 Q E0
 rw[U2y]
 dsimp only at e e2
 by_cases hc:(Av as||newD r)=true
 .rw[if_pos hc] at e
  cases e
  obtain⟨hl,hp⟩:=hok _ _ e3
  obtain⟨N,rs,cN⟩:=lend hK R1 (m0:=[]) r1 e2 (fun i ds a hs=>⟨hs,fun _=>GX⟩) (fun a z=>by simp at z) (newD d0) hc
  refine⟨N,_,d0,?_,rs,e3,fun v H' sm rv=>?_⟩
  .rw[rs.length,hl]
  obtain⟨a,xs,h1,h2,h3,h4,h5⟩:=Xi et rv
  obtain⟨R2,x2⟩:=R1.adopt sm (h1.1 rfl) h2 h4 h3
  exact q v _ H' (x1.trans x2) R2 (h5 _ _ (by rw[R1.slen];simp))
 .rw[if_neg hc] at e;cases e
theorem Dj{sem:Ij}(c:Hh X.prog X.w X.K X.mg X.base x k sem)(hr:FN k' X.A)(hk:k<=k')(hg:Gl X x)(ha:JA X (e::es) f)
  (hdb:(x==("__debug__":Str))=false:=by decide) (he:starEach (e::es) X.env=(false,eval e X.env)::starEach es X.env:=by rfl) (hpl:(backTo pos (starEach es X.env)).any (·.1)=false:=by rfl) :
  JE X (.Call (.Name x p) (e::es) [] pos) (Ck sem f):=by
 obtain⟨ps,c,hok⟩:=c.cal
 refine⟨PE.imp (Mx c hr hk hg ha.pa hdb he hpl) fun σ H Q h=>?_⟩
 obtain⟨Γ,μ,env,S,d,S',hK,R,e,q⟩:=h
 obtain⟨⟨as,S1⟩,e1,e⟩:=bind_some e
 refine⟨Γ,μ,env,S,as,S1,hK,R,e1,fun vs μ1 H1 x1 R1 r1=>?_⟩
 show spM X.K sem ps.length (vs++[]) H1 Q E0
 rw[U2y]
 dsimp only at e
 split at e
 .rename_i i rest
  split at e
  .rename_i cs hcs
   obtain⟨ns,e4,e⟩:=bind_some e
   obtain⟨ds,e2,e⟩:=bind_some e
   obtain⟨⟨r,ms⟩,e3,e⟩:=bind_some e
   dsimp only at e
   by_cases hc:(Av rest||newD r)=true
   .rw[if_pos hc] at e
    cases e
    obtain⟨hl,hp⟩:=hok _ _ _ e3
    have ecs:=Ie e4
    subst ecs
    cases r1 with
    |@cons v0 _ us _ r0 rr =>
     obtain⟨a,xs,rfl,h1,h2,h3⟩:=VR.RD R1 r0 hcs
     have ex:=h3.Oj
     subst ex
     have hi:i<S1.length:=(U0h.mp hcs).1
     obtain⟨N,rs,cN⟩:=lend hK R1 (S0:=S1.set i none) (m0:=[a]) rr e2 (fun j es b hs=>by
      have hj:i≠j:=fun z=>by
       subst z
       rw[U2m hi] at hs;cases hs
      rw[U2u hj] at hs
      exact⟨hs,fun hm z=>hj (R1.inj i j a h1 (by rw[show a=b from (N5.mp z).symm];exact hm))⟩) (fun b z=>by
       have:b=a:=by simpa using z
       rw[this];exact U06 h1) (newD d) hc
     refine⟨N,a,us,ns,_,d,ms,rfl,?_,h2,rs,e3,fun v H' sm ha' rv=>?_⟩
     .rw[U0i,rs.length,hl]
     obtain⟨R2,x2⟩:=R1.put h1 ⟨_,h2⟩ (VRs.ints ms)
     have sm2:Same (upd H1 a (.lst (ms.map V.int))) H':=fun b o hb=>by
      by_cases z:b=a
      .rw[z,CZ] at hb;cases hb;rw[z];exact ha'
      .rw[Bj z] at hb;exact sm b o z hb
     obtain⟨R3,x3⟩:=R2.grow sm2
     exact q v μ1 H' (x1.trans (x2.trans x3)) R3 (home hK R1 (fun a z=>R3.live z) hp cN rv)
   .rw[if_neg hc] at e;cases e
  .cases e
 .cases e
theorem eH{sem:Ij}(c:Hh X.prog X.w X.K X.mg X.base x k sem)(hr:FN k' X.A)(hk:k<=k')(hg:Gl X x)(ha:JA X (e::es) f)
  (hdb:(x==("__debug__":Str))=false:=by decide) (he:starEach (e::es) X.env=(false,eval e X.env)::starEach es X.env:=by rfl) (hpl:(backTo pos (starEach es X.env)).any (·.1)=false:=by rfl) :
  JE X (.Call (.Name x p) (e::es) [] pos) (Q8 sem f):=by
 obtain⟨ps,c,hok⟩:=c.cal
 refine⟨PE.imp (Mx c hr hk hg ha.pa hdb he hpl) fun σ H Q h=>?_⟩
 obtain⟨Γ,μ,env,S,d,S',hK,R,e,q⟩:=h
 obtain⟨⟨d0,S0⟩,e0,e⟩:=bind_some e
 obtain⟨t,et,e⟩:=bind_some e
 cases e
 obtain⟨⟨as,S1⟩,e1,e⟩:=bind_some e0
 refine⟨Γ,μ,env,S,as,S1,hK,R,e1,fun vs μ1 H1 x1 R1 r1=>?_⟩
 show spM X.K sem ps.length (vs++[]) H1 Q E0
 rw[U2y]
 dsimp only at e
 split at e
 .rename_i i rest
  split at e
  .rename_i cs hcs
   obtain⟨ns,e4,e⟩:=bind_some e
   obtain⟨ds,e2,e⟩:=bind_some e
   obtain⟨⟨r,ms⟩,e3,e⟩:=bind_some e
   dsimp only at e
   by_cases hc:(Av rest||newD r)=true
   .rw[if_pos hc] at e
    cases e
    obtain⟨hl,hp⟩:=hok _ _ _ e3
    have ecs:=Ie e4
    subst ecs
    cases r1 with
    |@cons v0 _ us _ r0 rr =>
     obtain⟨a,xs,rfl,h1,h2,h3⟩:=VR.RD R1 r0 hcs
     have ex:=h3.Oj
     subst ex
     have hi:i<S1.length:=(U0h.mp hcs).1
     obtain⟨N,rs,cN⟩:=lend hK R1 (S0:=S1.set i none) (m0:=[a]) rr e2 (fun j es b hs=>by
      have hj:i≠j:=fun z=>by
       subst z
       rw[U2m hi] at hs;cases hs
      rw[U2u hj] at hs
      exact⟨hs,fun hm z=>hj (R1.inj i j a h1 (by rw[show a=b from (N5.mp z).symm];exact hm))⟩) (fun b z=>by
       have:b=a:=by simpa using z
       rw[this];exact U06 h1) (newD d0) hc
     refine⟨N,a,us,ns,_,d0,ms,rfl,?_,h2,rs,e3,fun v H' sm ha' rv=>?_⟩
     .rw[U0i,rs.length,hl]
     obtain⟨R2,x2⟩:=R1.put h1 ⟨_,h2⟩ (VRs.ints ms)
     have sm2:Same (upd H1 a (.lst (ms.map V.int))) H':=fun b o hb=>by
      by_cases z:b=a
      .rw[z,CZ] at hb;cases hb;rw[z];exact ha'
      .rw[Bj z] at hb;exact sm b o z hb
     obtain⟨b,ys,g1,g2,g3,g4,g5⟩:=Xi et rv
     have hb:upd H1 a (.lst (ms.map V.int)) b=none:=by
      have hn:H1 b=none:=g1.1 rfl
      rw[Bj (fun z=>by rw[z,h2] at hn;cases hn)];exact hn
     obtain⟨R3,x3⟩:=R2.adopt sm2 hb g2 g4 g3
     exact q v _ H' (x1.trans (x2.trans x3)) R3 (g5 _ _ (by rw[U3p,R1.slen];simp))
   .rw[if_neg hc] at e;cases e
  .cases e
 .cases e
end
end VS
end
section
namespace VS
open PySem PySem.Spec L2
theorem OpR.or{X:Cx}{f:Value->Value->Sem Value}{r r':R2}(h:OpR X f r)(h':OpR X f r'):OpR X f (fun x y H Q=>r x y H Q∨r' x y H Q):=fun pins s σ H x y v u Q I rx ry q=>q.elim (fun z=>h pins s σ H x y v u Q I rx ry z) fun z=>h' pins s σ H x y v u Q I rx ry z
theorem Dr.or{X:Cx}{f:Value}{r r':List V->Hp->VK->Prop}(h:Dr X f r)(h':Dr X f r'):Dr X f (fun xs H Q=>r xs H Q∨r' xs H Q):=fun pins s σ H xs us Q I rs q=>q.elim (fun z=>h pins s σ H xs us Q I rs z) fun z=>h' pins s σ H xs us Q I rs z
def oI(c:Int->Int->Bool)(g:Int->Int->D)(_:Store):D->D->Option D
 |.int i,.int j=>if c i j=true then some (g i j) else none
 |_,_=>none
def FJ(_ _:Int):Bool:=true
theorem Yd{K:U0a}{C:Int->Int->Prop}{c:Int->Int->Bool}(g:Int->Int->Int)(hc:∀i j,c i j=true->C i j):G7 K (rI C fun i j=>.int (g i j)) (oI c fun i j=>.int (g i j)):=by
 intro Γ μ σ H env S x y dx dy d hK R rx ry e Q q
 unfold oI at e
 split at e
 .rename_i i j
  by_cases h:c i j=true
  .rw[if_pos h] at e;cases e;cases rx;cases ry
   exact⟨i,j,rfl,rfl,hc i j h,q _ H (Same.refl H) (.int _)⟩
  .rw[if_neg h] at e;cases e
 .cases e
theorem mV{K:U0a}(g:Int->Int->Int):G7 K (rI0 fun i j=>.int (g i j)) (oI FJ fun i j=>.int (g i j)):=by
 intro Γ μ σ H env S x y dx dy d hK R rx ry e Q q
 unfold oI at e
 split at e
 .rename_i i j
  rw[if_pos (show FJ i j=true from rfl)] at e;cases e;cases rx;cases ry
  exact⟨i,j,rfl,rfl,q _ H (Same.refl H) (.int _)⟩
 .cases e
theorem Rz{K:U0a}(g:Int->Int->Bool):G7 K (rI0 fun i j=>.bl (g i j)) (oI FJ fun i j=>.bl (g i j)):=by
 intro Γ μ σ H env S x y dx dy d hK R rx ry e Q q
 unfold oI at e
 split at e
 .rename_i i j
  rw[if_pos (show FJ i j=true from rfl)] at e;cases e;cases rx;cases ry
  exact⟨i,j,rfl,rfl,q _ H (Same.refl H) (.bl _)⟩
 .cases e
def Fe:=oI FJ fun i j=>.int (i-j)
def Mi(i j:Int):Bool:=(decide (-(2^64)<i)&&decide (i<2^64))||(decide (-(2^64)<j)&&decide (j<2^64))
def YS(_ j:Int):Bool:=decide (0<j)&&decide (j<2^64)
def VN(_ j:Int):Bool:=decide (0<j)
def KD(i j:Int):Bool:=decide (0<=j)&&decide (j<=1000000)&&decide (i.natAbs<2^64)
def oDiv:=oI YS fun i j=>.int (i/j)
def oMod:=oI VN fun i j=>.int (i%j)
def Ge:=oI KD fun i j=>.int (i^j.toNat)
def oLt:=oI FJ fun i j=>.bl (decide (i<j))
def oLe:=oI FJ fun i j=>.bl (decide (i<=j))
def oGt:=oI FJ fun i j=>.bl (decide (j<i))
def oGe:=oI FJ fun i j=>.bl (decide (j<=i))
theorem Hi{K:U0a}:G7 K (rI0 fun i j=>.int (i-j)) Fe:=mV _
theorem Xm{K:U0a}:G7 K (rI (fun _ j=>0<j/\j<2^64) fun i j=>.int (i/j)) oDiv:=Yd _ fun i j h=>by simpa [YS] using h
theorem KJ{K:U0a}:G7 K (rI (fun _ j=>0<j) fun i j=>.int (i%j)) oMod:=Yd _ fun i j h=>by simpa [VN] using h
theorem J6{K:U0a}:G7 K (rI bV fun i j=>.int (i^j.toNat)) Ge:=Yd _ fun i j h=>by simpa [KD,bV,and_assoc] using h
theorem Pz{K:U0a}:G7 K (rI0 fun i j=>.bl (decide (i<j))) oLt:=Rz _
theorem Vd{K:U0a}:G7 K (rI0 fun i j=>.bl (decide (i<=j))) oLe:=Rz _
theorem Mp{K:U0a}:G7 K (rI0 fun i j=>.bl (decide (j<i))) oGt:=Rz _
theorem mU{K:U0a}:G7 K (rI0 fun i j=>.bl (decide (j<=i))) oGe:=Rz _
def Fx(_:Store):D->Option D
 |.int i=>some (.int (-i))
 |_=>none
theorem Hz{K:U0a}:mF K (rU fun i=>.int (-i)) Fx:=by
 intro Γ μ σ H env S x dx d hK R rx e Q q
 unfold Fx at e
 split at e
 .cases e;cases rx;exact⟨_,rfl,q _ H (Same.refl H) (.int _)⟩
 .cases e
def Bm(S:Store):D->D->Option D
 |.int i,.int j=>some (.int (i+j))
 |.tup a,.tup b=>if a.length+b.length<=1000000 then some (.tup (a++b)) else none
 |.str x,.str y=>if x.length+y.length<=1000000 then some (.str (x++y)) else none
 |x,y=>(listOf S x).bind fun a=>(listOf S y).bind fun b=>if a.length+b.length<=1000000 then some (.lst true (a++b)) else none
def fu:R2:=fun x y H Q=>∃(a b:Addr)(xs ys:List V),x=.ref a/\y=.ref b/\H a=some (.tup xs)/\H b=some (.tup ys)/\xs.length+ys.length<=sizeLine/\∀p H',Same H H'->H' p=some (.tup (xs++ys))->Q (.ref p) H'
def qd:R2:=fun x y H Q=>∃i j,x=.str i/\y=.str j/\i.length+j.length<=sizeLine/\Q (.str (i++j)) H
def gD:R2:=fun x y H Q=>(rI0 fun i j=>.int (i+j)) x y H Q∨fu x y H Q∨qd x y H Q∨lu x y H Q
theorem CP{X:Cx}:OpR X (binaryOp .Add) gD:=OpR.or o7 (OpR.or jG (OpR.or Yv nu))
theorem CK{K:U0a}:G7 K gD Bm:=by
 intro Γ μ σ H env S x y dx dy d hK R rx ry e Q q
 unfold Bm at e
 split at e
 .cases e;cases rx;cases ry;exact .inl ⟨_,_,rfl,rfl,q _ H (Same.refl H) (.int _)⟩
 .rename_i a b
  by_cases h:a.length+b.length<=1000000
  .rw[if_pos h] at e;cases e
   cases rx with
   |@tup p xs _ hp rp =>
    cases ry with
    |@tup p2 ys _ hp2 rp2 =>
     refine .inr (.inl ⟨p,p2,xs,ys,rfl,rfl,hp,hp2,by rw[rp.length,rp2.length];exact U19 (big h),fun t H' sm ht=>?_⟩)
     obtain⟨R2,x2⟩:=R.grow sm
     exact q _ H' sm (.tup ht ((rp.append rp2).ext x2))
  .rw[if_neg h] at e;cases e
 .rename_i a b
  by_cases h:a.length+b.length<=1000000
  .rw[if_pos h] at e;cases e;cases rx;cases ry
   exact .inr (.inr (.inl ⟨_,_,rfl,rfl,U19 (big h),q _ H (Same.refl H) (.str _)⟩))
  .rw[if_neg h] at e;cases e
 .obtain⟨a,e1,e⟩:=bind_some e
  obtain⟨b,e2,e⟩:=bind_some e
  by_cases h:a.length+b.length<=1000000
  .rw[if_pos h] at e;cases e
   obtain⟨p,xs,rfl,hp,rp⟩:=VR.list R rx e1
   obtain⟨p2,ys,rfl,hp2,rp2⟩:=VR.list R ry e2
   refine .inr (.inr (.inr ⟨p,p2,xs,ys,rfl,rfl,hp,hp2,by rw[rp.length,rp2.length];exact U19 (big h),fun t ht=>?_⟩))
   obtain⟨R2,x2⟩:=R.grow (Di ht (.lst (xs++ys)))
   exact q _ _ (Di ht _) (.lst (R.ok ht true) (R.dead ht) CZ ((rp.append rp2).ext x2))
  .rw[if_neg h] at e;cases e
def Gu(S:Store):D->D->Option D
 |.int i,.int j=>if Mi i j=true then some (.int (i*j)) else none
 |.tup a,.int k=>if a≠[]/\1<=k/\k<2^60/\a.length*k.toNat<=1000000 then some (.tup (U0s k.toNat a).flatten) else none
 |x,.int k=>(listOf S x).bind fun a=>if -(2^63)<=k/\k<2^63/\a.length*k.toNat<=1000000 then some (.lst true (U0s k.toNat a).flatten) else none
 |_,_=>none
def fj:R2:=fun x y H Q=>(rI Vc fun i j=>.int (i*j)) x y H Q∨fZ x y H Q∨lV x y H Q
theorem KR{X:Cx}:OpR X (binaryOp .Mult) fj:=OpR.or nZ (OpR.or jE nW)
theorem KH{K:U0a}:G7 K fj Gu:=by
 intro Γ μ σ H env S x y dx dy d hK R rx ry e Q q
 unfold Gu at e
 split at e
 .rename_i i j
  by_cases h:Mi i j=true
  .rw[if_pos h] at e;cases e;cases rx;cases ry
   exact .inl ⟨_,_,rfl,rfl,by simpa [Mi,Vc] using h,q _ H (Same.refl H) (.int _)⟩
  .rw[if_neg h] at e;cases e
 .rename_i a k
  by_cases h:a≠[]/\1<=k/\k<2^60/\a.length*k.toNat<=1000000
  .rw[if_pos h] at e;cases e
   cases ry
   cases rx with
   |@tup p xs _ hp rp =>
    have hl:=rp.length
    refine .inr (.inl ⟨p,k,xs,rfl,rfl,hp,fun z=>h.1 (U39.mp (by rw[←hl,z];rfl)),h.2.1,h.2.2.1,by rw[hl];exact U19 (big h.2.2.2),fun t H' sm ht=>?_⟩)
    obtain⟨R2,x2⟩:=R.grow sm
    exact q _ H' sm (.tup ht ((rp.rep _).ext x2))
  .rw[if_neg h] at e;cases e
 .rename_i k _ _
  obtain⟨a,e1,e⟩:=bind_some e
  by_cases h:-(2^63)<=k/\k<2^63/\a.length*k.toNat<=1000000
  .rw[if_pos h] at e;cases e
   cases ry
   obtain⟨p,xs,rfl,hp,rp⟩:=VR.list R rx e1
   refine .inr (.inr ⟨p,k,xs,rfl,rfl,hp,h.1,h.2.1,by rw[rp.length];exact U19 (big h.2.2),fun t ht=>?_⟩)
   obtain⟨R2,x2⟩:=R.grow (Di ht (.lst (U0s k.toNat xs).flatten))
   exact q _ _ (Di ht _) (.lst (R.ok ht true) (R.dead ht) CZ ((rp.rep _).ext x2))
  .rw[if_neg h] at e;cases e
 .cases e
def oIx(S:Store):D->D->Option D
 |x,.int i=>(Bu S x).bind fun ds=>atI ds i
 |_,_=>none
theorem jq{Γ:Fr}{μ:Mu}{H:Hp}{xs:List V}{ds:List D}{i:Int}{d:D}(r:VRs Γ μ H xs ds)(h:atI ds i=some d):∃x,atI xs i=some x/\VR Γ μ H x d:=by
 unfold atI at h ⊢
 obtain⟨j,e1,e2⟩:=bind_some h
 obtain⟨x,f1,f2⟩:=r.get e2
 exact⟨x,by rw[r.length,e1];exact f1,f2⟩
theorem BX{K:U0a}:G7 K (rIx K) oIx:=by
 intro Γ μ σ H env S x y dx dy d hK R rx ry e Q q
 unfold oIx at e
 split at e
 .rename_i i
  obtain⟨ds,e1,e⟩:=bind_some e
  cases ry
  obtain⟨a,xs,rfl,hq,rs⟩:=VR.seq hK R rx e1
  obtain⟨v,f1,f2⟩:=jq rs e
  rcases hq with hq|hq
  .exact .inl ⟨a,xs,i,v,rfl,rfl,hq,f1,q _ H (Same.refl H) f2⟩
  .exact .inr (.inl ⟨a,xs,i,v,rfl,rfl,hq,f1,q _ H (Same.refl H) f2⟩)
 .cases e
def cut(xs:List D)(lo hi:Option Int):List D:=(xs.drop (HT.sIx xs.length 0 lo)).take (HT.sIx xs.length xs.length hi-HT.sIx xs.length 0 lo)
def oSl(S:Store)(x:D)(lo hi:Option Int):Option D:=match x with
 |.tup ds=>some (.tup (cut ds lo hi))
 |x=>(Bu S x).map fun ds=>.lst true (cut ds lo hi)
def lR:V->Option Int->Option Int->Hp->VK->Prop:=fun x lo hi H Q=>∃(a:Addr)(xs:List V),x=.ref a/\H a=some (.tup xs)/\∀p H',Same H H'->H' p=some (.tup (Js xs lo hi))->Q (.ref p) H'
def lU(K:U0a):V->Option Int->Option Int->Hp->VK->Prop:=fun x lo hi H Q=>lR x lo hi H Q∨lQ K x lo hi H Q
theorem Gz{X:Cx}:SlR X (lU X.K):=SlR.or iI iJ
theorem HD{K:U0a}:gO K (lU K) oSl:=by
 intro Γ μ σ H env S x dx d l h hK R rx e Q q
 have key:∀{xs:List V} {ds:List D} {H':Hp},VRs Γ μ H' xs ds->VRs Γ μ H' (Js xs l h) (cut ds l h):=fun r=>by
  unfold Js cut
  rw[r.length]
  exact(r.drop _).take _
 unfold oSl at e
 split at e
 .cases e
  cases rx with
  |@tup p xs _ hp rp =>
   refine .inl ⟨p,xs,rfl,hp,fun t H' sm ht=>?_⟩
   obtain⟨R2,x2⟩:=R.grow sm
   exact q _ H' sm (.tup ht (key (rp.ext x2)))
 .rename_i ht
  obtain⟨ds,e1,e2⟩:=map_some e
  subst e2
  rcases VR.YJ hK R rx e1 with ⟨es,z⟩|⟨a,xs,rfl,hq,rs⟩
  .exact absurd z (ht es)
  .refine .inr ⟨a,xs,rfl,hq,fun t htt=>?_⟩
   obtain⟨R2,x2⟩:=R.grow (Di htt (.lst (Js xs l h)))
   exact q _ _ (Di htt _) (.lst (R.ok htt true) (R.dead htt) CZ (key (rs.ext x2)))
def DR(S:Store):List D->Option D
 |[x]=>(Bu S x).map fun ds=>.int ds.length
 |_=>none
theorem Fy{K:U0a}:Li K (tK K) DR:=by
 intro Γ μ σ H env S xs ds d hK R rs e Q q
 unfold DR at e
 split at e
 .obtain⟨es,e1,e2⟩:=map_some e
  subst e2
  obtain⟨v,rfl,r⟩:=rs.one
  obtain⟨a,xs,rfl,hq,rx⟩:=VR.seq hK R r e1
  refine⟨a,xs,rfl,hq,?_⟩
  rw[rx.length]
  exact q _ H (Same.refl H) (.int _)
 .cases e
def Lh(S:Store):List D->Option D
 |[x]=>(Bu S x).map fun ds=>.tup ds
 |_=>none
theorem Ue{K:U0a}:Li K (cW K) Lh:=by
 intro Γ μ σ H env S xs ds d hK R rs e Q q
 unfold Lh at e
 split at e
 .rename_i x
  obtain⟨es,e1,e2⟩:=map_some e
  subst e2
  obtain⟨v,rfl,r⟩:=rs.one
  rcases VR.YJ hK R r e1 with ⟨fs,rfl⟩|⟨a,xs,rfl,hq,rx⟩
  .cases r with
   |@tup p xs _ hp rp=>cases e1;exact⟨p,xs,rfl,.inr ⟨SqT.of hp,q _ H (Same.refl H) (.tup hp rp)⟩⟩
  .refine⟨a,xs,rfl,.inl ⟨hq,fun l hl=>?_⟩⟩
   obtain⟨R2,x2⟩:=R.grow (Di hl (.tup xs))
   exact q _ _ (Di hl _) (.tup CZ (rx.ext x2))
 .cases e
def Mj(S:Store):List D->Option D
 |[x]=>(listOf S x).bind fun ds=>(boolsOf ds).map fun bs=>.bl (bs.all id)
 |_=>none
where boolsOf:List D->Option (List Bool)
 |[]=>some []
 |.bl b::r=>(boolsOf r).map (b::·)
 |_=>none
@[simp] theorem XR(bs:List Bool):Mj.boolsOf (bs.map D.bl)=some bs:=by
 induction bs with
 |nil=>rfl
 |cons b r ih=>rw[U00,Mj.boolsOf,ih];rfl
theorem R6{Γ:Fr}{μ:Mu}{H:Hp}:∀{xs:List V} {ds:List D} {bs:List Bool},VRs Γ μ H xs ds->Mj.boolsOf ds=some bs->xs=bs.map V.bl
 |_,[],_,.nil,h=>by cases h;rfl
 |_,.bl b::r,bs,.cons q t,h=>by
  rw[Mj.boolsOf] at h
  obtain⟨cs,e1,e2⟩:=map_some h
  subst e2
  cases q
  rw[U00,R6 t e1]
 |_,.non::_,_,_,h=>by cases h
 |_,.int _::_,_,_,h=>by cases h
 |_,.str _::_,_,_,h=>by cases h
 |_,.ty _::_,_,_,h=>by cases h
 |_,.fn _ _::_,_,_,h=>by cases h
 |_,.lent _::_,_,_,h=>by cases h
 |_,.tup _::_,_,_,h=>by cases h
 |_,.lst _ _::_,_,_,h=>by cases h
 |_,.ref _::_,_,_,h=>by cases h
 |_,.scr _::_,_,_,h=>by cases h
 |_,.emp::_,_,_,h=>by cases h
def tO(K:U0a):List V->Hp->VK->Prop:=fun xs H Q=>∃(p:Addr)(bs:List Bool),xs=[.ref p]/\SqL K H p (bs.map V.bl)/\Q (.bl (bs.all id)) H
theorem Xn{K:U0a}:Li K (tO K) Mj:=by
 intro Γ μ σ H env S xs ds d hK R rs e Q q
 unfold Mj at e
 split at e
 .obtain⟨es,e1,e⟩:=bind_some e
  obtain⟨bs,e2,e3⟩:=map_some e
  subst e3
  obtain⟨v,rfl,r⟩:=rs.one
  obtain⟨a,xs,rfl,ha,rx⟩:=VR.list R r e1
  have:=R6 rx e2
  subst this
  exact⟨a,bs,rfl,SqL.of ha,q _ H (Same.refl H) (.bl _)⟩
 .cases e
def Rx(_:Store):List D->Option D
 |[.int i,.int j]=>some (.int (if j>i then j else i))
 |_=>none
def Rw(_:Store):List D->Option D
 |[.int i,.int j]=>some (.int (if j<i then j else i))
 |_=>none
def RL(_:Store):List D->Option D
 |[.int i]=>some (.int (if i<0 then -i else i))
 |_=>none
def Px(_:Store):List D->Option D
 |[.int i]=>some (.int i)
 |[.bl k]=>some (.int (if k then 1 else 0))
 |_=>none
theorem cO{K:U0a}:Li K (fun xs H Q=>∃i j,xs=[.int i,.int j]/\Q (.int (if j>i then j else i)) H) Rx:=by
 intro Γ μ σ H env S xs ds d hK R rs e Q q
 unfold Rx at e
 split at e
 .cases e
  obtain⟨v,u,rfl,r1,r2⟩:=rs.two
  cases r1;cases r2
  exact⟨_,_,rfl,q _ H (Same.refl H) (.int _)⟩
 .cases e
theorem cL{K:U0a}:Li K (fun xs H Q=>∃i j,xs=[.int i,.int j]/\Q (.int (if j<i then j else i)) H) Rw:=by
 intro Γ μ σ H env S xs ds d hK R rs e Q q
 unfold Rw at e
 split at e
 .cases e
  obtain⟨v,u,rfl,r1,r2⟩:=rs.two
  cases r1;cases r2
  exact⟨_,_,rfl,q _ H (Same.refl H) (.int _)⟩
 .cases e
theorem Xo{K:U0a}:Li K (fun xs H Q=>∃i,xs=[.int i]/\Q (.int (if i<0 then -i else i)) H) RL:=by
 intro Γ μ σ H env S xs ds d hK R rs e Q q
 unfold RL at e
 split at e
 .cases e
  obtain⟨v,rfl,r1⟩:=rs.one
  cases r1
  exact⟨_,rfl,q _ H (Same.refl H) (.int _)⟩
 .cases e
theorem Xl{K:U0a}:Li K (fun xs H Q=>(∃i,xs=[.int i]/\Q (.int i) H)∨∃k,xs=[.bl k]/\Q (.int (if k then 1 else 0)) H) Px:=by
 intro Γ μ σ H env S xs ds d hK R rs e Q q
 unfold Px at e
 split at e
 .cases e
  obtain⟨v,rfl,r1⟩:=rs.one
  cases r1
  exact .inl ⟨_,rfl,q _ H (Same.refl H) (.int _)⟩
 .cases e
  obtain⟨v,rfl,r1⟩:=rs.one
  cases r1
  exact .inr ⟨_,rfl,q _ H (Same.refl H) (.int _)⟩
 .cases e
def bK:List Int->Option Int
 |[]=>none
 |n::r=>some (r.foldl (fun a b=>if a<b then b else a) n)
theorem ji(r:List Int):∀n:Int,(r.foldl (fun a b=>if a<b then b else a) n=n∨r.foldl (fun a b=>if a<b then b else a) n∈r)/\n<=r.foldl (fun a b=>if a<b then b else a) n/\∀m∈r,m<=r.foldl (fun a b=>if a<b then b else a) n:=by
 induction r with
 |nil=>intro n;exact⟨.inl rfl,Int.le_refl _,fun m h=>by simp at h⟩
 |cons x r ih =>
  intro n
  rw[U4e]
  by_cases h:n<x
  .rw[if_pos h]
   obtain⟨h1,h2,h3⟩:=ih x
   refine⟨.inr (by rcases h1 with z|z;(rw[z];exact U04);exact U0r _ z),by omega,fun m hm=>?_⟩
   rcases U0t.mp hm with z|z
   .rw[z];exact h2
   .exact h3 m z
  .rw[if_neg h]
   obtain⟨h1,h2,h3⟩:=ih n
   refine⟨by rcases h1 with z|z;exact .inl z;exact .inr (U0r _ z),h2,fun m hm=>?_⟩
   rcases U0t.mp hm with z|z
   .rw[z];omega
   .exact h3 m z
theorem Xy{ns:List Int}{m:Int}(h:bK ns=some m):m∈ns/\∀n∈ns,n<=m:=by
 cases ns with
 |nil=>cases h
 |cons x r =>
  cases h
  obtain⟨h1,h2,h3⟩:=ji r x
  refine⟨by rcases h1 with z|z;(rw[z];exact U04);exact U0r _ z,fun n hn=>?_⟩
  rcases U0t.mp hn with z|z
  .rw[z];exact h2
  .exact h3 n z
def Qi(S:Store):List D->Option D
 |[x]=>(listOf S x).bind fun ds=>(intsOf ds).bind fun ns=>(bK ns).map .int
 |_=>none
theorem cM{K:U0a}:Li K (fun xs H Q=>∃(p:Addr)(ns:List Int),xs=[.ref p]/\SqL K H p (ns.map V.int)/\ns≠[]/\∀m,m∈ns->(∀n∈ns,n<=m)->Q (.int m) H) Qi:=by
 intro Γ μ σ H env S xs ds d hK R rs e Q q
 unfold Qi at e
 split at e
 .obtain⟨es,e1,e⟩:=bind_some e
  obtain⟨ns,e2,e⟩:=bind_some e
  obtain⟨m,e3,e4⟩:=map_some e
  subst e4
  obtain⟨v,rfl,r⟩:=rs.one
  obtain⟨a,xs,rfl,ha,rx⟩:=VR.list R r e1
  have:=Ie e2
  subst this
  have:=rx.Oj
  subst this
  refine⟨a,ns,rfl,SqL.of ha,(fun z=>by rw[z] at e3;cases e3),fun m' h1 h2=>?_⟩
  obtain⟨g1,g2⟩:=Xy e3
  have:m'=m:=Int.le_antisymm (g2 _ h1) (h2 _ g1)
  rw[this]
  exact q _ H (Same.refl H) (.int _)
 .cases e
def bR(K:U0a)(r:List V->Hp->VK->Prop)(g:Store->List D->Option (List D)):Prop:=∀(Γ:Fr)(μ:Mu)(σ:St)(H:Hp)(env:Env)(S:Store)(xs:List V)(ds es:List D),Γ.K=K->Rep Γ μ σ H env S->VRs Γ μ H xs ds->g S ds=some es ->
 ∀Q:VK,(∀l ys,H l=none->VRs Γ μ H ys es->Q (.ref l) (upd H l (.lst ys)))->r xs H Q
def Rv(g:Store->List D->Option (List D))(a:Bg):BK:=fun env S=>(a env S).bind fun p=>(g p.2 p.1).map fun es=>(.lst true es,p.2)
theorem gY{K:U0a}{r:List V->Hp->VK->Prop}{g:Store->List D->Option (List D)}{f:Bg}(hs:bR K r g){σ:St}{H:Hp}{Q:VK}(h:wpE K (Rv g f) σ H Q):tCB r (wpA K f) σ H Q:=by
 obtain⟨Γ,μ,env,S,d,S',hK,R,e,q⟩:=h
 obtain⟨⟨x,S1⟩,e1,e⟩:=bind_some e
 obtain⟨z,e4,e⟩:=map_some e
 cases e
 refine⟨Γ,μ,env,S,x,S1,hK,R,e1,fun v1 μ1 H1 x1 R1 r1=>?_⟩
 refine hs Γ μ1 σ H1 env S1 v1 x _ hK R1 r1 e4 Q fun l ys hl ry=>?_
 obtain⟨R4,x4⟩:=R1.grow (Di hl (.lst ys))
 exact q _ μ1 _ (x1.trans x4) R4 (.lst (R1.ok hl true) (R1.dead hl) CZ (ry.ext x4))
section
variable{X:Cx}{x:Str}{p pos:Pos}{e:Expr}{es:List Expr}{T:String}{f:Bg}{r:List V->Hp->VK->Prop}{g:Store->List D->Option (List D)}
theorem jV(hc:Dr X (.type T) r)(hsm:bR X.K r g)(hg:Gl X x)(hm:X.mg x=none)(hv:bootBuiltins x=some (.type T))(ha:JA X (e::es) f)(hn:x≠"__name__":=by decide)(hdb:(x==("__debug__":Str))=false:=by decide)
  (he:starEach (e::es) X.env=(false,eval e X.env)::starEach es X.env:=by rfl) (hpl:(backTo pos (starEach es X.env)).any (·.1)=false:=by rfl):JE X (.Call (.Name x p) (e::es) [] pos) (Rv g f) :=
 ⟨PE.imp (Lf hc hg hm hv ha.pa hn hdb he hpl) fun _ _ _ h=>gY hsm h⟩
end
def nList(S:Store):List D->Option (List D)
 |[x]=>Bu S x
 |_=>none
theorem cP{K:U0a}:bR K (iV K) nList:=by
 intro Γ μ σ H env S xs ds es hK R rs e Q q
 unfold nList at e
 split at e
 .obtain⟨v,rfl,r⟩:=rs.one
  obtain⟨a,ys,rfl,hq,ry⟩:=VR.seq hK R r e
  exact⟨a,ys,rfl,hq,fun l hl=>q l ys hl ry⟩
 .cases e
end VS
end
section
namespace VS
open PySem PySem.Spec L2
mutual
def toP:D->Option PyData
 |.non=>some .none
 |.bl b=>some (.bool b)
 |.int i=>some (.int i)
 |.str x=>some (.str x)
 |.tup ds=>(HY ds).map .tuple
 |.lst _ ds=>(HY ds).map .list
 |.emp=>some (.dict [])
 |.ref _=>none
 |.scr _=>none
 |.ty _=>none
 |.fn _ _=>none
 |.dref _=>none
 |.dcf _=>none
 |.dcm _=>none
 |.lent _=>none
def HY:List D->Option (List PyData)
 |[]=>some []
 |d::r=>(toP d).bind fun x=>(HY r).bind fun xs=>some (x::xs)
end
mutual
theorem VR.tr{Γ:Fr}{μ:Mu}{H:Hp}:∀{v:V} {d:D} {p:PyData},VR Γ μ H v d->toP d=some p->Tr (fun _=>True) H v p
 |_,_,_,.non,h=>by rw[toP] at h;cases h;exact .non
 |_,_,_,.bl b,h=>by rw[toP] at h;cases h;exact .bl b
 |_,_,_,.int i,h=>by rw[toP] at h;cases h;exact .int i
 |_,_,_,.str x,h=>by rw[toP] at h;cases h;exact .str x
 |_,_,_,.ty _,h=>by rw[toP] at h;cases h
 |_,_,_,.fn _ _,h=>by rw[toP] at h;cases h
 |_,_,_,.tup hb t,h=>by
  rw[toP] at h
  obtain⟨ps,e1,e2⟩:=map_some h
  subst e2
  exact .tup trivial hb (VRs.tr t e1)
 |_,_,_,.lst _ _ hb t,h=>by
  rw[toP] at h
  obtain⟨ps,e1,e2⟩:=map_some h
  subst e2
  exact .lst trivial hb (VRs.tr t e1)
 |_,_,_,.ref _ _,h=>by rw[toP] at h;cases h
 |_,_,_,.scrK _,h=>by rw[toP] at h;cases h
 |_,_,_,.scrR _ _,h=>by rw[toP] at h;cases h
 |_,_,_,.emp _ _ hb,h=>by rw[toP] at h;cases h;exact .dct trivial hb
 |_,_,_,.dref _ _,h=>by rw[toP] at h;cases h
 |_,_,_,.lent _ _ _,h=>by rw[toP] at h;cases h
 |_,_,_,.dcf _ _ _,h=>by rw[toP] at h;cases h
theorem VRs.tr{Γ:Fr}{μ:Mu}{H:Hp}:∀{v:List V} {d:List D} {p:List PyData},VRs Γ μ H v d->HY d=some p->Jy (fun _=>True) H v p
 |_,_,_,.nil,h=>by rw[HY] at h;cases h;exact .nil
 |_,_,_,.cons r t,h=>by
  rw[HY] at h
  obtain⟨x,e1,h⟩:=bind_some h
  obtain⟨xs,e2,h⟩:=bind_some h
  cases h
  exact .cons (VR.tr r e1) (VRs.tr t e2)
end
def DX(S:Store)(d:D):Option PyData:=(den 0 S d).bind toP
theorem VR.see{Γ:Fr}{μ:Mu}{σ:St}{H:Hp}{env:Env}{S:Store}{v:V}{d:D}{p:PyData}(R:Rep Γ μ σ H env S)(r:VR Γ μ H v d)(h:DX S d=some p):Tr (fun _=>True) H v p:=by
 obtain⟨e,e1,e2⟩:=bind_some h
 have r1:VR ⟨Γ.K,fun _=>none,fun _=>True,[]⟩ [] H v e:=VR.den (Γ':=⟨Γ.K,fun _=>none,fun _=>True,[]⟩) R rfl (fun i ds a _ hs=>⟨hs,fun z=>⟨GX,⟨fun _=>rfl,.inl trivial⟩⟩⟩) (fun m a _ _=>⟨fun _=>rfl,.inl trivial⟩) (fun a o _ _=>GX) r e1
 exact r1.tr e2
def eqP(neg:Bool)(S:Store)(x y:D):Option D:=(DX S x).bind fun p=>(DX S y).bind fun q=>if (U2d p&&U2d q)=true then some (.bl (neg ^^ U4x p q)) else none
def oEq(neg:Bool)(S:Store):D->D->Option D
 |.int i,.int j=>some (.bl (neg ^^ decide (i=j)))
 |x,y=>eqP neg S x y
def tM:R2:=fun x y H Q=>∃(N N':Addr->Prop)(d e:PyData),Tr N H x d/\Tr N' H y e/\U2d d=true/\U2d e=true/\Q (.bl (U4x d e)) H
def tH:R2:=fun x y H Q=>∃(N N':Addr->Prop)(d e:PyData),Tr N H x d/\Tr N' H y e/\U2d d=true/\U2d e=true/\Q (.bl (!PyData.eqv d e)) H
def lq:R2:=fun x y H Q=>rEq x y H Q∨tM x y H Q
def lW:R2:=fun x y H Q=>rNe x y H Q∨tH x y H Q
theorem Gd{X:Cx}{k:Nat}(hr:FN k X.A):OpR X (compareOp .Eq) lq:=OpR.or qz (nq hr)
theorem HJ{X:Cx}{k:Nat}(hr:FN k X.A):OpR X (compareOp .NotEq) lW:=OpR.or qx (nY hr)
theorem Gb{K:U0a}:G7 K lq (oEq false):=by
 intro Γ μ σ H env S x y dx dy d hK R rx ry e Q q
 unfold oEq at e
 split at e
 .rename_i i j
  cases e;cases rx;cases ry
  refine .inl ⟨rfl,?_⟩
  have:decide (V.int i=V.int j)=decide (i=j):=by simp
  rw[this]
  exact q _ H (Same.refl H) (by simpa using VR.bl (decide (i=j)))
 .unfold eqP at e
  obtain⟨p,e1,e⟩:=bind_some e
  obtain⟨p2,e2,e⟩:=bind_some e
  by_cases h:(U2d p&&U2d p2)=true
  .rw[if_pos h] at e
   cases e
   rw[U0x] at h
   exact .inr ⟨_,_,p,p2,rx.see R e1,ry.see R e2,h.1,h.2,q _ H (Same.refl H) (by simpa using VR.bl (U4x p p2))⟩
  .rw[if_neg h] at e;cases e
theorem HF{K:U0a}:G7 K lW (oEq true):=by
 intro Γ μ σ H env S x y dx dy d hK R rx ry e Q q
 unfold oEq at e
 split at e
 .rename_i i j
  cases e;cases rx;cases ry
  refine .inl ⟨rfl,?_⟩
  have:decide (V.int i=V.int j)=decide (i=j):=by simp
  rw[this]
  exact q _ H (Same.refl H) (by simpa using VR.bl (!decide (i=j)))
 .unfold eqP at e
  obtain⟨p,e1,e⟩:=bind_some e
  obtain⟨p2,e2,e⟩:=bind_some e
  by_cases h:(U2d p&&U2d p2)=true
  .rw[if_pos h] at e
   cases e
   rw[U0x] at h
   exact .inr ⟨_,_,p,p2,rx.see R e1,ry.see R e2,h.1,h.2,q _ H (Same.refl H) (by simpa using VR.bl (!PyData.eqv p p2))⟩
  .rw[if_neg h] at e;cases e
def RG(neg:Bool)(S:Store):D->D->Option D
 |.non,.non=>some (.bl (!neg))
 |.ref i,.non=>((S[i]?).join).map fun _=>.bl neg
 |.bl a,.bl b=>some (.bl (neg ^^ decide (a=b)))
 |.int _,.non=>some (.bl neg)
 |.bl _,.non=>some (.bl neg)
 |.str _,.non=>some (.bl neg)
 |.tup _,.non=>some (.bl neg)
 |.lst _ _,.non=>some (.bl neg)
 |_,_=>none
def lg:R2:=fun x y H Q=>(y=.non/\Q (.bl (decide (x=.non))) H)∨∃(c d:Bool),x=.bl c/\y=.bl d/\Q (.bl (decide (c=d))) H
theorem nj{X:Cx}:OpR X (compareOp .Is) lg:=OpR.or ni dG
theorem mR{K:U0a}:G7 K lg (RG false):=by
 intro Γ μ σ H env S x y dx dy d hK R rx ry e Q q
 unfold RG at e
 split at e
 .cases e;cases rx;cases ry;exact .inl ⟨rfl,by simpa using q _ H (Same.refl H) (.bl true)⟩
 .obtain⟨ds,e1,e2⟩:=map_some e
  subst e2
  obtain⟨a,xs,rfl,_⟩:=VR.RD R rx (join_some e1)
  cases ry;exact .inl ⟨rfl,by simpa using q _ H (Same.refl H) (.bl false)⟩
 .rename_i a b
  cases e;cases rx;cases ry;exact .inr ⟨a,b,rfl,rfl,by simpa using q _ H (Same.refl H) (by simpa using VR.bl (decide (a=b)))⟩
 .cases e;cases rx;cases ry;exact .inl ⟨rfl,by simpa using q _ H (Same.refl H) (.bl false)⟩
 .cases e;cases rx;cases ry;exact .inl ⟨rfl,by simpa using q _ H (Same.refl H) (.bl false)⟩
 .cases e;cases rx;cases ry;exact .inl ⟨rfl,by simpa using q _ H (Same.refl H) (.bl false)⟩
 .cases e;cases rx;cases ry;exact .inl ⟨rfl,by simpa using q _ H (Same.refl H) (.bl false)⟩
 .cases e;cases rx;cases ry;exact .inl ⟨rfl,by simpa using q _ H (Same.refl H) (.bl false)⟩
 .cases e
def VJ(D:List (PyData×PyData))(_:Store):VS.D->Option VS.D
 |.int i=>some (.bl (lookup (.int i) D).isSome)
 |_=>none
def S7(D:List (PyData×PyData))(_:Store):VS.D->Option VS.D
 |.int i=>match lookup (.int i) D with|some (.int j)=>some (.int j)|_=>none
 |_=>none
section
variable{X:Cx}{a:Expr}{fa:BK}{x:Str}{p pos:Pos}{dM:Addr}{D:List (PyData×PyData)}
theorem mK{K:U0a}{σ:St}{H:Hp}{Q:VK}(h:wpE K (eUn (VJ D) fa) σ H Q):tOp (fun x y H Q=>∃(i:Int),x=.int i/\y=.ref dM/\Q (.bl (lookup (.int i) D).isSome) H) (wpE K fa) (tC (.ref dM)) σ H Q:=by
 obtain⟨Γ,μ,env,S,d,S',hK,R,e,q⟩:=h
 obtain⟨⟨y,S1⟩,e1,e⟩:=bind_some e
 obtain⟨z,e3,e⟩:=map_some e
 cases e
 refine⟨Γ,μ,env,S,y,S1,hK,R,e1,fun v1 μ1 H1 x1 R1 r1=>?_⟩
 dsimp only at e3
 unfold VJ at e3
 split at e3
 .cases e3;cases r1;exact⟨_,rfl,rfl,q _ μ1 H1 x1 R1 (.bl _)⟩
 .cases e3
theorem eU(hT:∀h,X.K.In h->U41 X.prog X.w h dM D)(ha:JE X a fa)(hg:Gl X x)(hm:X.mg x=some (.ref dM))(hk:behindInMarks .In (.Name x p)=false:=by with_unfolding_all rfl)(hd:(x==("__debug__":Str))=false:=by decide):JE X (.Compare a [.In] [.Name x p] pos) (eUn (VJ D) fa) :=
 ⟨PE.imp (Xx (dH hT) ha.pe (Xw (v:=.ref dM) hg hm rfl hd) hk) fun _ _ _ h=>mK h⟩
theorem eO(hT:∀h,X.K.In h->U41 X.prog X.w h dM D)(hb:JE X a fa)(hg:Gl X x)(hm:X.mg x=some (.ref dM))(hs:Qs a)(hd:(x==("__debug__":Str))=false:=by decide)
  (hgo:∀r,letTemporaryGo (.Name x p) (.ref dM) r=pure ():=by intro _;with_unfolding_all rfl):JE X (.Subscript (.Name x p) a pos) (eUn (S7 D) fa) :=
 ⟨PE.imp (dD hT (Xw (v:=.ref dM) hg hm rfl hd) hb.pe hs hgo) fun σ H Q h=>by
  obtain⟨Γ,μ,env,S,d,S',hK,R,e,q⟩:=h
  obtain⟨⟨y,S1⟩,e1,e⟩:=bind_some e
  obtain⟨z,e3,e⟩:=map_some e
  cases e
  refine⟨Γ,μ,env,S,y,S1,hK,R,e1,fun v1 μ1 H1 x1 R1 r1=>?_⟩
  dsimp only at e3
  unfold S7 at e3
  split at e3
  .split at e3
   .rename_i hl
    cases e3;cases r1;exact⟨_,_,rfl,rfl,hl,q _ μ1 H1 x1 R1 (.int _)⟩
   .cases e3
  .cases e3⟩
end
def isT(T:String)(d:PyData):Bool:=match T with
 |"str"=>(match d with|.str _=>true|_=>false)
 |T=>VL T d
theorem jT{K:U0a}(d:PyData):U20 K (.type (tyName d)) (.type "str")=some (isT "str" d):=by
 cases d with
 |none=>exact Cw (a:="NoneType") (r:=false) (by decide +kernel)
 |bool _=>exact Cw (a:="bool") (r:=false) (by decide +kernel)
 |int _=>exact Cw (a:="int") (r:=false) (by decide +kernel)
 |str _=>exact Cw (a:="str") (r:=true) (by decide +kernel)
 |list _=>exact Cw (a:="list") (r:=false) (by decide +kernel)
 |tuple _=>exact Cw (a:="tuple") (r:=false) (by decide +kernel)
 |dict _=>exact Cw (a:="dict") (r:=false) (by decide +kernel)
def Gw(S:Store):List D->Option D
 |[x,.ty "int"]=>(DX S x).map fun p=>.bl (isT "int" p)
 |[x,.ty "bool"]=>(DX S x).map fun p=>.bl (isT "bool" p)
 |[x,.ty "tuple"]=>(DX S x).map fun p=>.bl (isT "tuple" p)
 |[x,.ty "list"]=>(DX S x).map fun p=>.bl (isT "list" p)
 |[x,.ty "str"]=>(DX S x).map fun p=>.bl (isT "str" p)
 |[x,.tup [.ty "tuple",.ty "list"]]=>(DX S x).bind fun p=>if noDict p=true then some (.bl (isSeq p)) else none
 |_=>none
def tL(K:U0a):List V->Hp->VK->Prop:=fun xs H Q=>∃(x:V)(T:String)(t:Value)(b:Bool),xs=[x,.ty T]/\Jf K H x t/\U20 K t (.type T)=some b/\Q (.bl b) H
def qZ:List V->Hp->VK->Prop:=fun xs H Q=>∃(N:Addr->Prop)(x:V)(d:PyData)(p:Addr),xs=[x,.ref p]/\H p=some (.tup [.ty "tuple",.ty "list"])/\Tr N H x d/\noDict d=true/\Q (.bl (isSeq d)) H
def Ye(K:U0a):List V->Hp->VK->Prop:=fun xs H Q=>tL K xs H Q∨qZ xs H Q
theorem Fj{X:Cx}:Dr X (.builtin "isinstance") (Ye X.K):=Dr.or XM VB
theorem GF{K:U0a}:Li K (Ye K) Gw:=by
 intro Γ μ σ H env S xs ds d hK R rs e Q q
 have go:∀(T:String)(x:D),(∀p:PyData,U20 K (.type (tyName p)) (.type T)=some (isT T p))->ds=[x,.ty T]->((DX S x).map fun p=>D.bl (isT T p))=some d->Ye K xs H Q:=fun T x hk hd e'=>by
  subst hd
  obtain⟨p,e1,e2⟩:=map_some e'
  subst e2
  obtain⟨v,u,rfl,r1,r2⟩:=rs.two
  cases r2
  exact .inl ⟨v,T,_,_,rfl,(r1.see R e1).ty,hk p,q _ H (Same.refl H) (.bl _)⟩
 unfold Gw at e
 split at e
 .exact go "int" _ jU rfl e
 .exact go "bool" _ dw rfl e
 .exact go "tuple" _ kit_tuple rfl e
 .exact go "list" _ dj rfl e
 .exact go "str" _ jT rfl e
 .obtain⟨p,e1,e⟩:=bind_some e
  by_cases h:noDict p=true
  .rw[if_pos h] at e
   cases e
   obtain⟨v,u,rfl,r1,r2⟩:=rs.two
   cases r2 with
   |@tup a ys _ ha ry =>
    cases ry with
    |cons q1 t1 =>
     cases t1 with
     |cons q2 t2 =>
      cases t2;cases q1;cases q2
      exact .inr ⟨_,v,p,a,rfl,ha,r1.see R e1,h,q _ H (Same.refl H) (.bl _)⟩
  .rw[if_neg h] at e;cases e
 .cases e
def Ea(ns:List Int):List Int:=(SetP.once ns).mergeSort fun a b=>decide (a<=b)
theorem J7{ns ms:List Int}(h:ms.Perm (SetP.once ns))(s:ms.Pairwise (·<=·)):ms=Ea ns:=by
 have h2:(Ea ns).Perm (SetP.once ns):=U3l _ _
 have s2:(Ea ns).Pairwise (·<=·):=by
  have:=U5h (le:=fun a b:Int=>decide (a<=b)) (by intro a b c h1 h2;simp at *;omega) (by intro a b;simp;omega) (SetP.once ns)
  exact this.imp fun h=>by simpa using h
 exact U4f.eq_of_pairwise (fun a b _ _ h1 h2=>Int.le_antisymm h1 h2) s s2 (h.trans h2.symm)
def Jj(a:BK):BK:=fun env S=>(a env S).bind fun p=>(listOf p.2 p.1).bind fun ds=>(intsOf ds).bind fun ns=>if ns.length<1000/\(SetP.once ns).length<64 then some (.lst true ((Ea ns).map .int),p.2) else none
theorem PJ{X:Cx}{a:Expr}{f:BK}{p p2 pos pos2:Pos}(hc:X.calm=true)(ha:JE X a f)(hg:Gl X "sorted")(hm:X.mg "sorted"=none)(hg2:Gl X "set")(hm2:X.mg "set"=none) 
  (he:starEach [a] X.env=[(false,eval a X.env)]:=by rfl) (he2:starEach [.Call (.Name "set" p2) [a] [] pos2] X.env=[(false,eval (.Call (.Name "set" p2) [a] [] pos2) X.env)]:=by rfl):JE X (.Call (.Name "sorted" p) [.Call (.Name "set" p2) [a] [] pos2] [] pos) (Jj f) :=
 ⟨PE.imp (RT (U9 hc) hg hm Uu (OJ (Lf (fL hc) hg2 hm2 pK (OJ ha.pe Q5 he) (he:=he) (hpl:=rfl)) Q5 he2) (he:=he2) (hpl:=rfl)) fun σ H Q h=>by
  obtain⟨Γ,μ,env,S,d,S',hK,R,e,q⟩:=h
  obtain⟨⟨y,S1⟩,e1,e⟩:=bind_some e
  obtain⟨ds,e2,e⟩:=bind_some e
  obtain⟨ns,e3,e⟩:=bind_some e
  by_cases hl:ns.length<1000/\(SetP.once ns).length<64
  .rw[if_pos hl] at e
   cases e
   refine⟨Γ,μ,env,S,y,_,hK,R,e1,fun v1 μ1 H1 x1 R1 r1=>?_⟩
   obtain⟨b,xs,rfl,hb,rb⟩:=VR.list R1 r1 e2
   have:=Ie e3
   subst this
   have:=rb.Oj
   subst this
   refine⟨b,ns,rfl,SqL.of hb,hl.1,fun s hs=>?_⟩
   obtain⟨R2,x2⟩:=R1.grow (Di hs (VG X.prog X.w s (SetP.once ns)))
   refine⟨s,_,rfl,CZ,hl.2,fun l ms hl' hp hsrt=>?_⟩
   have:=J7 hp hsrt
   subst this
   obtain⟨R3,x3⟩:=R2.grow (Di hl' (.lst ((Ea ns).map V.int)))
   exact q _ μ1 _ (x1.trans (x2.trans x3)) R3 (.lst (R2.ok hl' true) (R2.dead hl') CZ (VRs.ints _))
  .rw[if_neg hl] at e;cases e⟩
def K6(a:Bg):BK:=fun env S=>(a env S).bind fun p=>match p.1 with
 |[.int j]=>if r62 j/\j.toNat<=1000 then some (.lst true (upD 0 j.toNat),p.2) else none
 |[.int i,.int j]=>if r62 i/\r62 j/\(j-i).toNat<=1000 then some (.lst true (upD i (j-i).toNat),p.2) else none
 |_=>none
theorem iB{Γ:Fr}{μ:Mu}{H:Hp}(lo:Int)(n:Nat):VRs Γ μ H ((upTo lo n).map V.int) (upD lo n):=by
 have:upD lo n=(upTo lo n).map D.int:=by unfold upD L2.upTo;rw[U0f];rfl
 rw[this];exact VRs.ints _
def Vx:List V->Hp->VK->Prop:=fun xs H Q=>(∃(n:Int),xs=[.int n]/\∀p,H p=none->Q (.ref p) (upd H p (.rng 0 n)))∨∃(a b:Int),xs=[.int a,.int b]/\∀p,H p=none->Q (.ref p) (upd H p (.rng a b))
theorem Wm{X:Cx}:Dr X (.type "range") Vx:=Dr.or XJ XH
theorem WW{K:U0a}{f:Bg}{σ:St}{H:Hp}{Q:VK} (h:∃Γ μ env S ds S',Γ.K=K/\Rep Γ μ σ H env S/\f env S=some (ds,S')/\∃lo n,((∃j,ds=[.int j]/\r62 j/\j.toNat<=1000/\lo=0/\n=j.toNat)∨∃i j,ds=[.int i,.int j]/\r62 i/\r62 j/\(j-i).toNat<=1000/\lo=i/\n=(j-i).toNat) /\
   ∀μ' H',Ext μ H μ' H'->Rep Γ μ' σ H' env S'->∀l,H' l=none->Q (.ref l) (upd H' l (.lst ((upTo lo n).map V.int)))) :
  tCB (fun xs H Q=>∃(r:Addr)(lo hi:Int),xs=[.ref r]/\H r=some (.rng lo hi)/\-(2^62)<=lo/\lo<2^62/\-(2^62)<=hi/\hi<2^62/\(hi-lo).toNat<=1000/\∀l,H l=none->Q (.ref l) (upd H l (.lst ((upTo lo (hi-lo).toNat).map V.int)))) (fX (tCB Vx (wpA K f)) lG) σ H Q:=by
 obtain⟨Γ,μ,env,S,ds,S',hK,R,e1,lo,n,hc,q⟩:=h
 refine⟨Γ,μ,env,S,ds,S',hK,R,e1,fun vs μ1 H1 x1 R1 r1=>?_⟩
 rcases hc with ⟨j,rfl,h1,h2,rfl,rfl⟩|⟨i,j,rfl,h1,h2,h3,rfl,rfl⟩
 .obtain⟨v,rfl,r⟩:=r1.one
  cases r
  refine .inl ⟨j,rfl,fun p hp=>⟨p,0,j,rfl,CZ,by decide,by decide,h1.1,h1.2,by simpa using h2,fun l hl=>?_⟩⟩
  obtain⟨R2,x2⟩:=R1.grow (Di hp (.rng 0 j))
  have:=q μ1 _ (x1.trans x2) R2 l hl
  simpa using this
 .obtain⟨v,u,rfl,r,r'⟩:=r1.two
  cases r
  cases r'
  refine .inr ⟨lo,j,rfl,fun p hp=>⟨p,lo,j,rfl,CZ,h1.1,h1.2,h2.1,h2.2,h3,fun l hl=>?_⟩⟩
  obtain⟨R2,x2⟩:=R1.grow (Di hp (.rng lo j))
  exact q μ1 _ (x1.trans x2) R2 l hl
section
variable{X:Cx}{a:Expr}{as:List Expr}{f:Bg}{p p2 pos pos2:Pos}
theorem NK(hc:X.calm=true)(ha:JA X (a::as) f)(hg:Gl X "list")(hm:X.mg "list"=none)(hg2:Gl X "range")(hm2:X.mg "range"=none)
  (he:starEach (a::as) X.env=(false,eval a X.env)::starEach as X.env:=by rfl) (hpl:(backTo pos2 (starEach as X.env)).any (·.1)=false:=by rfl) (he2:starEach [.Call (.Name "range" p2) (a::as) [] pos2] X.env=[(false,eval (.Call (.Name "range" p2) (a::as) [] pos2) X.env)]:=by rfl) :
  JE X (.Call (.Name "list" p) [.Call (.Name "range" p2) (a::as) [] pos2] [] pos) (K6 f) :=
 ⟨PE.imp (Lf (UG hc) hg hm MN (OJ (Lf Wm hg2 hm2 fO ha.pa (he:=he) (hpl:=hpl)) Q5 he2) (he:=he2) (hpl:=rfl)) fun σ H Q h=>by
  obtain⟨Γ,μ,env,S,d,S',hK,R,e,q⟩:=h
  obtain⟨⟨ds,S1⟩,e1,e⟩:=bind_some e
  refine WW ⟨Γ,μ,env,S,ds,S1,hK,R,e1,?_⟩
  have fin:∀lo n,d=.lst true (upD lo n)->S1=S'->∀μ' H',Ext μ H μ' H'->Rep Γ μ' σ H' env S1->∀l,H' l=none->Q (.ref l) (upd H' l (.lst ((upTo lo n).map V.int))):=fun lo n hd hs μ' H' x' R' l hl=>by
   subst hd hs
   obtain⟨R2,x2⟩:=R'.grow (Di hl (.lst ((upTo lo n).map V.int)))
   exact q _ μ' _ (x'.trans x2) R2 (.lst (R'.ok hl true) (R'.dead hl) CZ (iB lo n))
  dsimp only at e
  split at e
  .rename_i j
   by_cases hj:r62 j/\j.toNat<=1000
   .rw[if_pos hj] at e;cases e
    exact⟨0,_,.inl ⟨j,rfl,hj.1,hj.2,rfl,rfl⟩,fin _ _ rfl rfl⟩
   .rw[if_neg hj] at e;cases e
  .rename_i i j
   by_cases hj:r62 i/\r62 j/\(j-i).toNat<=1000
   .rw[if_pos hj] at e;cases e
    exact⟨i,_,.inr ⟨i,j,rfl,hj.1,hj.2.1,hj.2.2,rfl,rfl⟩,fin _ _ rfl rfl⟩
   .rw[if_neg hj] at e;cases e
  .cases e⟩
end
end VS
end
section
namespace VS
open PySem PySem.Spec L2
def Ry(K:U0a):Sp:=fun vs H Q _=>∃(l:Addr)(ns:List Int),vs=[.ref l]/\Only H/\ns.length<=63/\SqL K H l (ns.map V.int)/\∀H',Q (.bl true) H'
theorem oM{K:U0a}{sem:Ci}(h:∀ns:List Int,ns.length<=63->sem [.scr ns]=some (.bl true)):∀vs H Q E,Ry K vs H Q E->spP K sem 1 vs H Q E:=by
 intro vs H Q E ⟨l,ns,e,hO,hl,hq,q⟩
 subst e
 refine⟨fun _=>False,[.scr ns],.bl true,rfl,.cons ?_ .nil,h ns hl,fun v H' sm rv=>?_⟩
 .rcases hq with hq|hq
  .rcases hq with hq|⟨o,hq⟩
   .rcases hO l with z|⟨o,xs,z⟩
    .rw[z] at hq;cases hq
    .rw[z] at hq;cases hq
   .exact .scrR GX hq
  .exact .scrK fun H'=>.inr hq
 .cases rv;exact q H'
theorem Tp{P:Program}{w:World}{K:U0a}{mg:Str->Option Value}{base:Heap}{k:Nat}{f:Addr}{fd:FuncData}{ps:List Str}{n:Nat}(hn:n=ps.length):Dp P w K mg base CX0 k f fd ps (spP K (fun _=>none) n) :=
 ⟨fun vs H Q E ⟨_,_,_,hl,_⟩=>hl.trans hn,fun A outer s H args us vs Q E hr e0 hb hv ⟨_,_,_,_,_,e,_⟩=>by cases e⟩
end VS
end
section
namespace VS
open PySem L2
theorem Df(a b:Bl)(env:VS.Env)(S:Store):VS.Bh a b env S=(a env S).bind fun p=>match p.1 with|.nx=>b p.2.1 p.2.2|f=>some (f,p.2.1,p.2.2):=rfl
theorem CN(i:Nat)(a:BK)(env:VS.Env)(S:Store):VS.Cd i a env S=(a env S).bind fun p=>some (.nx,env.set i (some p.1),p.2):=rfl
theorem Cg(a:BK)(env:VS.Env)(S:Store):VS.DQ a env S=(a env S).bind fun p=>some (.ret p.1,env,p.2):=rfl
theorem Dt(c:FT)(a b:Bl)(env:VS.Env)(S:Store):VS.sIf c a b env S=(c env S).bind fun p=>if p.1=true then a env p.2 else b env p.2:=rfl
theorem KQ(a:BK)(g:Ju)(env:VS.Env)(S:Store):VS.VH a g env S=(a env S).bind fun p=>(g p.1 env).bind fun e=>some (.nx,e,p.2):=rfl
theorem KN(a:BK)(env:VS.Env)(S:Store):VS.JR a env S=(a env S).bind fun p=>some (.nx,env,p.2):=rfl
theorem Dm(env:VS.Env)(S:Store):VS.Ep  env S=some (.nx,env,S):=rfl
theorem Zy(env:VS.Env)(S:Store):VS.Ve  env S=none:=rfl
theorem Jk(it:Lj)(g:Ju)(b:Bl)(env:VS.Env)(S:Store):VS.Ny it g b env S=(it env S).bind fun p=>loop p.1.2 g b p.1.1 env p.2:=rfl
theorem QJ(v o i:BK)(env:VS.Env)(S:Store):VS.Mq v o i env S=(v env S).bind fun p=>(o env p.2).bind fun q=>(i env q.2).bind fun r=>match q.1,r.1 with
 |.ref j,.int k=>(match r.2[j]? with
  |some (some ds)=>(ixN ds.length k).bind fun n=>some (.nx,env,r.2.set j (some (ds.set n p.1)))
  |_=>none)
 |_,_=>none:=rfl
theorem Aq(i:Nat)(env:VS.Env)(S:Store):VS.Ac i env S=(env[i]?.join).map fun d=>(d,S):=rfl
theorem Cj(d:D)(env:VS.Env)(S:Store):VS.eC d env S=some (d,S):=rfl
theorem BL(g:Store->D->D->Option D)(a b:BK)(env:VS.Env)(S:Store):VS.eOp g a b env S=(a env S).bind fun p=>(b env p.2).bind fun q=>(g q.2 p.1 q.1).map fun d=>(d,q.2):=rfl
theorem O9(g:Store->D->Option D)(a:BK)(env:VS.Env)(S:Store):VS.eUn g a env S=(a env S).bind fun p=>(g p.2 p.1).map fun d=>(d,p.2):=rfl
theorem Aw(env:VS.Env)(S:Store):VS.Af  env S=some ([],S):=rfl
theorem Al(a:BK)(r:Bg)(env:VS.Env)(S:Store):VS.Aa a r env S=(a env S).bind fun p=>(r env p.2).bind fun q=>some (p.1::q.1,q.2):=rfl
theorem Dy(g:Store->List D->Option D)(a:Bg)(env:VS.Env)(S:Store):VS.eCB g a env S=(a env S).bind fun p=>(g p.2 p.1).map fun d=>(d,p.2):=rfl
theorem KY(a b:BK)(env:VS.Env)(S:Store):VS.Pr a b env S=(a env S).bind fun p=>match p.1 with|.bl true=>b env p.2|.bl false=>some (.bl false,p.2)|_=>none:=rfl
theorem Oa(a:BK)(env:VS.Env)(S:Store):VS.YQ a env S=(a env S).bind fun p=>match p.1 with|.bl c=>some (.bl (!c),p.2)|_=>none:=rfl
theorem pF(c:FT)(a b:BK)(env:VS.Env)(S:Store):VS.eIf c a b env S=(c env S).bind fun p=>if p.1=true then a env p.2 else b env p.2:=rfl
theorem Ur(g g':Store->D->D->Option D)(a b c:BK)(env:VS.Env)(S:Store):VS.QB g g' a b c env S=(a env S).bind fun p=>(b env p.2).bind fun q=>(g q.2 p.1 q.1).bind fun z=>match z with
 |.bl true=>(c env q.2).bind fun r=>(g' r.2 q.1 r.1).map fun d=>(d,r.2)
 |.bl false=>some (.bl false,q.2)
 |_=>none:=rfl
theorem Bq(a:BK)(env:VS.Env)(S:Store):VS.Bt a env S=(a env S).bind fun p=>match p.1 with|.bl c=>some (c,p.2)|_=>none:=rfl
theorem J5(a b:FT)(env:VS.Env)(S:Store):VS.Mg a b env S=(a env S).bind fun p=>if p.1=true then b env p.2 else some (false,p.2):=rfl
theorem Jz(a b:FT)(env:VS.Env)(S:Store):VS.tOr a b env S=(a env S).bind fun p=>if p.1=true then some (true,p.2) else b env p.2:=rfl
theorem M7(a:FT)(env:VS.Env)(S:Store):VS.Hq a env S=(a env S).bind fun p=>some (!p.1,p.2):=rfl
theorem Io(env:VS.Env)(S:Store):VS.GC  env S=some (none,S):=rfl
theorem Im(a:BK)(env:VS.Env)(S:Store):VS.G9 a env S=(a env S).bind fun p=>match p.1 with|.int i=>some (some i,p.2)|_=>none:=rfl
theorem Ld(g:Store->D->Option Int->Option Int->Option D)(a:BK)(l h:RM)(env:VS.Env)(S:Store):VS.eSl g a l h env S=(a env S).bind fun p=>(l env p.2).bind fun q=>(h env q.2).bind fun r=>(g r.2 p.1 q.1 r.1).map fun d=>(d,r.2):=rfl
theorem Br(a:Bg)(env:VS.Env)(S:Store):VS.Bp a env S=(a env S).bind fun p=>some (.lst true p.1,p.2):=rfl
theorem jj(a:Bg)(env:VS.Env)(S:Store):VS.Jr a env S=(a env S).bind fun p=>some (.ref p.2.length,p.2++[some p.1]):=rfl
theorem En(a:Bg)(env:VS.Env)(S:Store):VS.Bo a env S=(a env S).bind fun p=>some (.tup p.1,p.2):=rfl
theorem HW(sem:Ci)(a:Bg)(env:VS.Env)(S:Store):VS.Bf sem a env S=(a env S).bind fun p=>(CT 0 p.2 p.1).bind fun ds=>(sem (Bb ds)).bind fun r=>if (Av p.1||newD r)=true then some (r,p.2) else none:=rfl
theorem Cr(sem:Ij)(a:Bg)(env:VS.Env)(S:Store):VS.Ck sem a env S=(a env S).bind fun p=>match p.1 with
 |.ref i::rest=>(match p.2[i]? with
  |some (some cs)=>(intsOf cs).bind fun ns=>(CT 0 (p.2.set i none) rest).bind fun ds=>(sem ns (Bb ds)).bind fun r=>if (Av rest||newD r.1)=true then some (r.1,p.2.set i (some (r.2.map D.int))) else none
  |_=>none)
 |_=>none:=rfl
theorem aZ(sem:Ci)(a:Bg)(env:VS.Env)(S:Store):VS.Mt sem a env S=(Bf sem a env S).bind fun p=>(KC p.2.length p.1).bind fun q=>some (q.1,p.2++[some q.2]):=rfl
theorem aj(sem:Ij)(a:Bg)(env:VS.Env)(S:Store):VS.Q8 sem a env S=(Ck sem a env S).bind fun p=>(KC p.2.length p.1).bind fun q=>some (q.1,p.2++[some q.2]):=rfl
theorem Rc(g:Store->D->List D->Option (D×Store))(o:BK)(a:Bg)(env:VS.Env)(S:Store):VS.Gs g o a env S=(o env S).bind fun p=>if (listOf p.2 p.1).isSome then (a env p.2).bind fun q=>g q.2 p.1 q.1 else none:=rfl
theorem fJ(g:Store->List D->Option (List D))(a:Bg)(env:VS.Env)(S:Store):VS.Rv g a env S=(a env S).bind fun p=>(g p.2 p.1).map fun es=>(.lst true es,p.2):=rfl
theorem Hx(a:Bg)(env:VS.Env)(S:Store):VS.K6 a env S=(a env S).bind fun p=>match p.1 with
 |[.int j]=>if r62 j/\j.toNat<=1000 then some (.lst true (upD 0 j.toNat),p.2) else none
 |[.int i,.int j]=>if r62 i/\r62 j/\(j-i).toNat<=1000 then some (.lst true (upD i (j-i).toNat),p.2) else none
 |_=>none:=rfl
theorem Hg(a:BK)(env:VS.Env)(S:Store):VS.Jj a env S=(a env S).bind fun p=>(listOf p.2 p.1).bind fun ds=>(intsOf ds).bind fun ns=>if ns.length<1000/\(SetP.once ns).length<64 then some (.lst true ((Ea ns).map .int),p.2) else none:=rfl
theorem IK(a:BK)(env:VS.Env)(S:Store):VS.Ei a env S=(a env S).bind fun p=>(Bu p.2 p.1).map fun ds=>((ds,idOf ds p.1),p.2):=rfl
theorem EY(np n:Nat)(f:Bl)(ds:List D):VS.G6 np n f ds=if ds.length=np then (f (ds.map some++U0s (n-ds.length) none) []).bind fun p=>match p.1 with|.ret d=>den 0 p.2.2 d|.nx=>some .non|_=>none else none:=rfl
theorem FP(np n:Nat)(f:Bl)(ns:List Int)(ds:List D):VS.runM np n f ns ds=if ds.length+1=np then (f (some (.ref 0)::(ds.map some++U0s (n-1-ds.length) none)) [some (ns.map D.int)]).bind fun p=>match p.2.2[0]? with
 |some (some cs)=>(intsOf cs).bind fun ms=>(match p.1 with|.ret d=>(den 1 p.2.2 d).map fun r=>(r,ms)|.nx=>some (.non,ms)|_=>none)
 |_=>none
 else none:=rfl
theorem Fd(i:Nat)(d:D)(env:VS.Env):Pat.sem (.nm i) d env=some (env.set i (some d)):=by rw[Pat.sem]
theorem Hw(ps:List Pat)(ds:List D)(env:VS.Env):Pat.sem (.tp ps) (.tup ds) env=Hr ps ds env:=by rw[Pat.sem]
theorem GR(env:VS.Env):Hr [] [] env=some env:=by rw[Hr]
theorem Ft(p:Pat)(ps:List Pat)(d:D)(ds:List D)(env:VS.Env):Hr (p::ps) (d::ds) env=(Pat.sem p d env).bind fun e=>Hr ps ds e:=by rw[Hr]
@[simp] theorem uJ(S:Store):calm [] S=True:=by simp[calm]
@[simp] theorem uI(i:Nat)(ds:List D)(S:Store):calm [(i,ds)] S=(S[i]?=some (some ds)):=by simp[calm]
@[simp] theorem uT{α:Type}(S:List α)(a:α):(S++[a])[S.length]?=some a:=by simp
@[simp] theorem uQ{α:Type}(S:List α)(a b:α):(S++[a]).set S.length b=S++[b]:=by simp
theorem Qp{n k:Nat}(h:k<n):ixN n (k:Int)=some k:=by
 unfold ixN
 rw[if_pos (by omega),if_pos (by omega)];simp
@[simp] theorem rJ{n:Nat}:ixN (n+1) 0=some 0:=Qp (k:=0) (by omega)
@[simp] theorem rH{n:Nat}:ixN (n+2) 1=some 1:=Qp (k:=1) (by omega)
@[simp] theorem rG{n:Nat}:ixN (n+3) 2=some 2:=Qp (k:=2) (by omega)
@[simp] theorem rF{n:Nat}:ixN (n+4) 3=some 3:=Qp (k:=3) (by omega)
@[simp] theorem uZ{α:Type}(a:α)(l:List α):atI (a::l) 0=some a:=by unfold atI;rw[U0i,rJ];rfl
@[simp] theorem uY{α:Type}(a b:α)(l:List α):atI (a::b::l) 1=some b:=by unfold atI;rw[U0i,U0i,rH];rfl
@[simp] theorem uX{α:Type}(a b c:α)(l:List α):atI (a::b::c::l) 2=some c:=by unfold atI;rw[U0i,U0i,U0i,rG];rfl
@[simp] theorem uW{α:Type}(a b c d:α)(l:List α):atI (a::b::c::d::l) 3=some d:=by unfold atI;rw[U0i,U0i,U0i,U0i,rF];rfl
theorem jP{w:List (Nat×List D)}{g:Ju}{b:Bl}(I:Nat->Env->Store->Prop)(R:D->Store->Prop){ds:List D}{env:Env}{S:Store}(h0:I 0 env S)(hc:∀i env S,I i env S->calm w S)
  (step:∀i d env S,ds[i]?=some d->I i env S->∃env1,g d env=some env1/\((∃env2 S2,(b env1 S=some (.nx,env2,S2)∨b env1 S=some (.cnt,env2,S2))/\I (i+1) env2 S2)∨∃r env2 S2,b env1 S=some (.ret r,env2,S2)/\R r S2)) :
  (∃env' S',loop w g b ds env S=some (.nx,env',S')/\I ds.length env' S')∨∃r env' S',loop w g b ds env S=some (.ret r,env',S')/\R r S':=by
 have key:∀(l:List D)(i:Nat)(env:Env)(S:Store),ds.drop i=l->i<=ds.length->I i env S->(∃env' S',loop w g b l env S=some (.nx,env',S')/\I ds.length env' S')∨∃r env' S',loop w g b l env S=some (.ret r,env',S')/\R r S':=by
  intro l
  induction l with
  |nil =>
   intro i env S hd hi h
   have:i=ds.length:=by
    have:=congrArg U4j hd
    simp at this;omega
   subst this
   exact .inl ⟨env,S,by unfold loop;rw[if_pos (hc _ _ _ h)],h⟩
  |cons d r ih =>
   intro i env S hd hi h
   have hlt:i<ds.length:=by
    have:=congrArg U4j hd
    simp at this;omega
   have e:ds[i]?=some d:=by
    rw[U2z hlt] at hd
    rw[U0y hlt,(U6b hd).1]
   have hr:ds.drop (i+1)=r:=by
    rw[U2z hlt] at hd
    exact(U6b hd).2
   obtain⟨env1,e1,q⟩:=step i d env S e h
   rcases q with ⟨env2,S2,e2,q⟩|⟨v,env2,S2,e2,q⟩
   .have e3:loop w g b (d::r) env S=loop w g b r env2 S2:=by
     rcases e2 with e2|e2<;>(rw[loop,if_pos (hc _ _ _ h),e1];show(b env1 S).bind _=_;rw[e2];rfl)
    rw[e3]
    exact ih (i+1) env2 S2 hr hlt q
   .refine .inr ⟨v,env2,S2,?_,q⟩
    rw[loop,if_pos (hc _ _ _ h),e1]
    show(b env1 S).bind _=_
    rw[e2];rfl
 exact key ds 0 env S (by simp) (U3e _) h0
theorem Ip{w:List (Nat×List D)}{g:Ju}{b:Bl}(I:Nat->Env->Store->Prop){ds:List D}{env:Env}{S:Store}(h0:I 0 env S)(hc:∀i env S,I i env S->calm w S)
  (step:∀i d env S,ds[i]?=some d->I i env S->∃env1,g d env=some env1/\∃env2 S2,b env1 S=some (.nx,env2,S2)/\I (i+1) env2 S2) :
  ∃env' S',loop w g b ds env S=some (.nx,env',S')/\I ds.length env' S':=by
 rcases jP I (fun _ _=>False) h0 hc (fun i d env S e h=>by
  obtain⟨env1,e1,env2,S2,e2,q⟩:=step i d env S e h
  exact⟨env1,e1,.inl ⟨env2,S2,.inl e2,q⟩⟩) with h|⟨_,_,_,_,h⟩
 .exact h
 .exact h.elim
theorem comp_map{w:List (Nat×List D)}{e0:Env}{g:Ju}{t:FT}{f:BK}{S:Store}(hc:calm w S)(p:D->Bool)(F:D->D):∀(ds ys:List D),ys.length+ds.length<=1000000 ->
  (∀d∈ds,∃e1,g d e0=some e1/\t e1 S=some (p d,S)/\(p d=true->f e1 S=some (F d,S)))->G4 w e0 g t f ds ys S=some (ys++(ds.filter p).map F,S)
 |[],ys,hl,_=>by unfold G4;rw[if_pos ⟨hc,by simpa using hl⟩];simp
 |d::r,ys,hl,h=>by
  rw[U0i] at hl
  obtain⟨e1,h1,h2,h3⟩:=h d U04
  unfold G4
  rw[if_pos ⟨hc,by omega⟩,h1]
  show(t e1 S).bind _=_
  rw[h2]
  show(if p d=true then _ else _)=_
  have hr:∀x∈r,_:=fun x hx=>h x (U0r _ hx)
  by_cases hp:p d=true
  .rw[if_pos hp,h3 hp]
   show G4 w e0 g t f r (ys++[F d]) S=_
   rw[comp_map hc p F r (ys++[F d]) (by rw[U0o];simp;omega) hr,List.filter_cons_of_pos hp]
   simp
  .rw[if_neg hp,List.filter_cons_of_neg hp]
   exact comp_map hc p F r ys (by omega) hr
theorem Ow{w:List (Nat×List D)}{e0:Env}{g:Ju}{f:BK}{S:Store}(hc:calm w S)(F:D->D)(ds:List D)(hl:ds.length<=1000000)(h:∀d∈ds,∃e1,g d e0=some e1/\f e1 S=some (F d,S)):G4 w e0 g Fw f ds [] S=some (ds.map F,S):=by
 have:=comp_map (t:=Fw) hc (fun _=>true) F ds [] (by simpa using hl) (fun d hd=>let ⟨e1,h1,h2⟩:=h d hd;⟨e1,h1,rfl,fun _=>h2⟩)
 rw[this,U13,List.filter_eq_self.mpr (by simp)]
theorem Ri{w:List (Nat×List D)}{e0:Env}{g:Ju}{f:BK}(I:Nat->List D->Store->Prop){ds:List D}{S:Store}(h0:I 0 [] S)(hc:∀i ys S,I i ys S->calm w S/\ys.length<=1000000)
  (step:∀i d ys S,ds[i]?=some d->I i ys S->∃e1 y S2,g d e0=some e1/\f e1 S=some (y,S2)/\I (i+1) (ys++[y]) S2):∃ys S',G4 w e0 g Fw f ds [] S=some (ys,S')/\I ds.length ys S':=by
 have key:∀(l:List D)(i:Nat)(ys:List D)(S:Store),ds.drop i=l->i<=ds.length->I i ys S->∃ys' S',G4 w e0 g Fw f l ys S=some (ys',S')/\I ds.length ys' S':=by
  intro l
  induction l with
  |nil =>
   intro i ys S hd hi h
   have:i=ds.length:=by
    have:=congrArg U4j hd
    simp at this;omega
   subst this
   exact⟨ys,S,by unfold G4;rw[if_pos (hc _ _ _ h)],h⟩
  |cons d r ih =>
   intro i ys S hd hi h
   have hlt:i<ds.length:=by
    have:=congrArg U4j hd
    simp at this;omega
   have e:ds[i]?=some d:=by
    rw[U2z hlt] at hd
    rw[U0y hlt,(U6b hd).1]
   have hr:ds.drop (i+1)=r:=by
    rw[U2z hlt] at hd
    exact(U6b hd).2
   obtain⟨e1,y,S2,h1,h2,h3⟩:=step i d ys S e h
   obtain⟨ys',S',h4,h5⟩:=ih (i+1) (ys++[y]) S2 hr hlt h3
   refine⟨ys',S',?_,h5⟩
   unfold G4
   rw[if_pos (hc _ _ _ h),h1]
   simp only[U0d,Fw,if_true,h2]
   exact h4
 exact key ds 0 [] S (by simp) (U3e _) h0
theorem MK{α:Type}{w:List (Nat×List D)}{e0:VS.Env}{g:Ju}{t:FT}{f:BK}{S:Store}(hc:calm w S)(enc:α->D)(p:α->Bool)(F:α->D):∀(l:List α)(ys:List D),ys.length+l.length<=1000000 ->
  (∀a∈l,∃e1,g (enc a) e0=some e1/\t e1 S=some (p a,S)/\(p a=true->f e1 S=some (F a,S)))->G4 w e0 g t f (l.map enc) ys S=some (ys++(l.filter p).map F,S)
 |[],ys,hl,_=>by rw[U1p,G4,if_pos ⟨hc,by simpa using hl⟩];simp
 |d::r,ys,hl,h=>by
  rw[U0i] at hl
  obtain⟨e1,h1,h2,h3⟩:=h d U04
  have hr:∀x∈r,_:=fun x hx=>h x (U0r _ hx)
  rw[U00,G4,if_pos ⟨hc,by omega⟩,h1]
  simp only[U0d,h2]
  by_cases hp:p d=true
  .simp only[hp,if_true,h3 hp,U0d]
   rw[MK hc enc p F r (ys++[F d]) (by rw[U0o];simp;omega) hr,List.filter_cons_of_pos hp]
   simp
  .rw[if_neg hp,List.filter_cons_of_neg hp]
   exact MK hc enc p F r ys (by omega) hr
theorem MJ{α:Type}{w:List (Nat×List D)}{e0:VS.Env}{g:Ju}{f:BK}{S:Store}(hc:calm w S)(enc F:α->D)(l:List α)(hl:l.length<=1000000)(h:∀a∈l,∃e1,g (enc a) e0=some e1/\f e1 S=some (F a,S)):G4 w e0 g VS.Fw f (l.map enc) [] S=some (l.map F,S):=by
 have:=MK (t:=VS.Fw) hc enc (fun _=>true) F l [] (by simpa using hl) (fun d hd=>let ⟨e1,h1,h2⟩:=h d hd;⟨e1,h1,rfl,fun _=>h2⟩)
 rw[this,U13,List.filter_eq_self.mpr (by simp)]
theorem Qj(lo:Int)(n:Nat):(upD lo n).length=n:=by unfold upD;rw[U0g,U4p]
theorem Qk{lo:Int}{n i:Nat}{d:D}(h:(upD lo n)[i]?=some d):i<n/\d=.int (lo+i):=by
 have hi:i<n:=by rw[←Qj lo n];exact(U0h.mp h).1
 unfold upD at h
 rw[U03,List.getElem?_range hi] at h
 cases h
 exact⟨hi,rfl⟩
theorem aA{j:Int}(h0:-1000000<=j)(h1:j<=1000000):r62 j:=⟨Int.le_trans (by decide) h0,Int.lt_of_le_of_lt h1 (by decide)⟩
theorem O6{f:Bg}{env:VS.Env}{S S':Store}{j:Int}(n:Nat)(hf:f env S=some ([.int j],S'))(hn:j.toNat=n)(h0:-1000000<=j)(h1:j<=1000000):Fz f env S=some ((upD 0 n,[]),S'):=by
 unfold Fz
 rw[hf,U0d]
 show(if r62 j then some ((upD 0 j.toNat,([]:List (Nat×List D))),S') else none)=_
 rw[if_pos (aA h0 h1),hn]
theorem QV{S:Store}{ds:List D}(h:Ej ds=true):CT 0 S ds=some ds:=Cq 0 S (Bd h)
theorem Jq{α:Type}{F:α->D}(l:List α)(h:∀a∈l,Ca (F a)=true):Ej (l.map F)=true:=by
 induction l with
 |nil=>rfl
 |cons a r ih=>rw[U00,Ej,h a U04,ih fun b hb=>h b (U0r _ hb)];rfl
theorem RP{α:Type}{F:α->D}{G:α->PyData}(l:List α)(h:∀a∈l,toP (F a)=some (G a)):HY (l.map F)=some (l.map G):=by
 induction l with
 |nil=>rw[U1p,HY];rfl
 |cons a r ih=>rw[U00,HY,h a U04,ih fun b hb=>h b (U0r _ hb)];rfl
abbrev St2:=Int×Int
def BJ(p:St2):D:=.tup [.int p.1,.int p.2]
def Ae(b:List St2):D:=.tup (b.map BJ)
def Ba(m:Bool)(n:Nat)(bs:List (List St2)):D:=.tup [.int n,.lst m (bs.map Ae)]
@[simp] theorem HS(p:St2):Ca (BJ p)=true:=rfl
@[simp] theorem Jp(b:List St2):Ca (Ae b)=true:=by rw[Ae,Ca];exact Jq b fun p _=>HS p
theorem BP(bs:List (List St2)):Ej (bs.map Ae)=true:=Jq bs fun b _=>Jp b
def pS(p:St2):PyData:=.tuple [.int p.1,.int p.2]
def pB(b:List St2):PyData:=.tuple (b.map pS)
theorem Vo(p:St2):toP (BJ p)=some (pS p):=by simp[BJ,toP,HY,pS]
theorem Vp(b:List St2):toP (Ae b)=some (pB b):=by rw[Ae,toP,RP b fun p _=>Vo p];rfl
theorem SQ(bs:List (List St2)):HY (bs.map Ae)=some (bs.map pB):=RP bs fun b _=>Vp b
@[simp] theorem uM(S:Store)(x:D):Gw S [x,.ty "int"]=(DX S x).map fun p=>.bl (isT "int" p):=rfl
@[simp] theorem pY:isT "int" (.none)=false:=rfl
@[simp] theorem qC(b:Bool):isT "int" (.bool b)=true:=rfl
@[simp] theorem qK(i:Int):isT "int" (.int i)=true:=rfl
@[simp] theorem qJ(s:Str):isT "int" (.str s)=false:=rfl
@[simp] theorem pZ(l:List PyData):isT "int" (.list l)=false:=rfl
@[simp] theorem kj(l:List PyData):isT "int" (.tuple l)=false:=rfl
@[simp] theorem pq(l:List (PyData×PyData)):isT "int" (.dict l)=false:=rfl
@[simp] theorem sJ(S:Store)(x:D):Gw S [x,.ty "bool"]=(DX S x).map fun p=>.bl (isT "bool" p):=rfl
@[simp] theorem lA:isT "bool" (.none)=false:=rfl
@[simp] theorem lD(b:Bool):isT "bool" (.bool b)=true:=rfl
@[simp] theorem qG(i:Int):isT "bool" (.int i)=false:=rfl
@[simp] theorem qF(s:Str):isT "bool" (.str s)=false:=rfl
@[simp] theorem lB(l:List PyData):isT "bool" (.list l)=false:=rfl
@[simp] theorem kE(l:List PyData):isT "bool" (.tuple l)=false:=rfl
@[simp] theorem lC(l:List (PyData×PyData)):isT "bool" (.dict l)=false:=rfl
@[simp] theorem rW(S:Store)(x:D):Gw S [x,.ty "tuple"]=(DX S x).map fun p=>.bl (isT "tuple" p):=rfl
@[simp] theorem ju:isT "tuple" (.none)=false:=rfl
@[simp] theorem jy(b:Bool):isT "tuple" (.bool b)=false:=rfl
@[simp] theorem kJ(i:Int):isT "tuple" (.int i)=false:=rfl
@[simp] theorem kI(s:Str):isT "tuple" (.str s)=false:=rfl
@[simp] theorem jw(l:List PyData):isT "tuple" (.list l)=false:=rfl
@[simp] theorem gP(l:List PyData):isT "tuple" (.tuple l)=true:=rfl
@[simp] theorem jx(l:List (PyData×PyData)):isT "tuple" (.dict l)=false:=rfl
@[simp] theorem sI(S:Store)(x:D):Gw S [x,.ty "list"]=(DX S x).map fun p=>.bl (isT "list" p):=rfl
@[simp] theorem kW:isT "list" (.none)=false:=rfl
@[simp] theorem kh(b:Bool):isT "list" (.bool b)=false:=rfl
@[simp] theorem pX(i:Int):isT "list" (.int i)=false:=rfl
@[simp] theorem pW(s:Str):isT "list" (.str s)=false:=rfl
@[simp] theorem kY(l:List PyData):isT "list" (.list l)=true:=rfl
@[simp] theorem jz(l:List PyData):isT "list" (.tuple l)=false:=rfl
@[simp] theorem kZ(l:List (PyData×PyData)):isT "list" (.dict l)=false:=rfl
@[simp] theorem uK(S:Store)(x:D):Gw S [x,.ty "str"]=(DX S x).map fun p=>.bl (isT "str" p):=rfl
@[simp] theorem pP:isT "str" (.none)=false:=rfl
@[simp] theorem pU(b:Bool):isT "str" (.bool b)=false:=rfl
@[simp] theorem qI(i:Int):isT "str" (.int i)=false:=rfl
@[simp] theorem qH(s:Str):isT "str" (.str s)=true:=rfl
@[simp] theorem pQ(l:List PyData):isT "str" (.list l)=false:=rfl
@[simp] theorem kO(l:List PyData):isT "str" (.tuple l)=false:=rfl
@[simp] theorem pR(l:List (PyData×PyData)):isT "str" (.dict l)=false:=rfl
@[simp] theorem uL(S:Store)(x:D):Gw S [x,.tup [.ty "tuple",.ty "list"]]=(DX S x).bind fun p=>if noDict p=true then some (.bl (isSeq p)) else none:=rfl
@[simp] theorem u6(S:Store)(i:Int):DX S (.int i)=some (.int i):=by simp[DX,den,toP]
@[simp] theorem Xq(S:Store)(b:Bool):DX S (.bl b)=some (.bool b):=by simp[DX,den,toP]
@[simp] theorem Om(S:Store):DX S .non=some .none:=by simp[DX,den,toP]
@[simp] theorem u5(S:Store)(x:Str):DX S (.str x)=some (.str x):=by simp[DX,den,toP]
@[simp] theorem Zu(S:Store)(p:St2):DX S (BJ p)=some (pS p):=by rw[DX,KZ 0 S (Iw (HS p))];exact Vo p
@[simp] theorem Zv(S:Store)(b:List St2):DX S (Ae b)=some (pB b):=by rw[DX,KZ 0 S (Iw (Jp b))];exact Vp b
theorem J9(S:Store)(m:Bool)(bs:List (List St2)):DX S (.lst m (bs.map Ae))=some (.list (bs.map pB)):=by
 rw[DX,den,QV (BP bs)]
 show toP (.lst m (bs.map Ae))=_
 rw[toP,SQ];rfl
theorem QH(S:Store)(m:Bool)(n:Nat)(bs:List (List St2)):DX S (Ba m n bs)=some (.tuple [.int n,.list (bs.map pB)]):=by
 have h:=J9 S m bs
 rw[DX,den,QV (BP bs)] at h
 have h':toP (.lst m (bs.map Ae))=some (.list (bs.map pB)):=h
 simp[DX,Ba,den,CT,QV (BP bs),toP,HY]
 rw[toP] at h'
 obtain⟨ps,e1,e2⟩:=map_some h'
 rw[e1]
 cases e2
 rfl
@[simp] theorem M6(ns:List Int):Ej (ns.map D.int)=true:=Jq ns fun _ _=>rfl
@[simp] theorem aq(k:Nat)(S:Store)(ns:List Int):CT k S (ns.map D.int)=some (ns.map D.int):=Cq k S (Bd (M6 ns))
@[simp] theorem bF(ns:List Int):Bb (ns.map D.int)=ns.map D.int:=Es (M6 ns)
@[simp] theorem Sq(ns:List Int):Av (ns.map D.int)=true:=Bd (M6 ns)
@[simp] theorem sH(ns:List Int):newL (ns.map D.int)=true:=Nq (M6 ns)
theorem Mw(lo:Int)(n:Nat):upD lo n=((U12 n).map fun(i:Nat)=>lo+(i:Int)).map D.int:=by unfold upD;rw[U0f];rfl
@[simp] theorem uH(k:Nat)(S:Store)(lo:Int)(n:Nat):CT k S (upD lo n)=some (upD lo n):=by rw[Mw];exact aq ..
@[simp] theorem sG(lo:Int)(n:Nat):Av (upD lo n)=true:=by rw[Mw];exact Sq _
@[simp] theorem Z9(k:Nat)(S:Store)(bs:List (List St2)):CT k S (bs.map Ae)=some (bs.map Ae):=Cq k S (Bd (BP bs))
@[simp] theorem rY(bs:List (List St2)):Bb (bs.map Ae)=bs.map Ae:=Es (BP bs)
@[simp] theorem Wz(bs:List (List St2)):Av (bs.map Ae)=true:=Bd (BP bs)
@[simp] theorem rT(bs:List (List St2)):newL (bs.map Ae)=true:=Nq (BP bs)
@[simp] theorem qL(bs:List (List St2)):Ej (bs.map Ae)=true:=BP bs
@[simp] theorem uE(k:Nat)(S:Store)(p:St2):den k S (BJ p)=some (BJ p):=KZ k S (Iw (HS p))
@[simp] theorem uG(k:Nat)(S:Store)(b:List St2):den k S (Ae b)=some (Ae b):=KZ k S (Iw (Jp b))
@[simp] theorem uN(p:St2):age (BJ p)=BJ p:=Ra (HS p)
@[simp] theorem uP(b:List St2):age (Ae b)=Ae b:=Ra (Jp b)
@[simp] theorem rZ(p:St2):Ax (BJ p)=true:=Iw (HS p)
@[simp] theorem sE(b:List St2):Ax (Ae b)=true:=Iw (Jp b)
@[simp] theorem u9(p:St2):newD (BJ p)=true:=RZ (HS p)
@[simp] theorem uD(b:List St2):newD (Ae b)=true:=RZ (Jp b)
@[simp] theorem uF(k:Nat)(S:Store)(m:Bool)(n:Nat)(bs:List (List St2)):den k S (Ba m n bs)=some (Ba m n bs):=by simp[Ba,den,CT,Cq k S (Bd (BP bs))]
@[simp] theorem uO(m:Bool)(n:Nat)(bs:List (List St2)):age (Ba m n bs)=Ba false n bs:=by simp[Ba,age,Bb,Es (BP bs)]
@[simp] theorem rm(m:Bool)(n:Nat)(bs:List (List St2)):Ax (Ba m n bs)=true:=by simp[Ba,Ax,Av,Bd (BP bs)]
structure Good(n:Nat)(bs:List (List St2)):Prop where
 ways:n=1∨n=2∨n=3
 most:bs.length<=[0,20,10,6].getD n 0
 box:∀b∈bs,b.length=n/\∀p∈b,p.1<p.2/\-1000000000<=p.1/\p.2<=1000000000
theorem Good.n3{n:Nat}{bs:List (List St2)}(g:Good n bs):1<=n/\n<=3:=by have:=g.ways;omega
theorem Good.few{n:Nat}{bs:List (List St2)}(g:Good n bs):bs.length<=20:=by
 have:=g.most
 rcases g.ways with h|h|h<;>subst h<;>simp at this<;>omega
theorem Good.erase{n:Nat}{bs:List (List St2)}(g:Good n bs)(i:Nat):Good n (bs.eraseIdx i) :=
 ⟨g.ways,U02 (List.length_eraseIdx_le ..) g.most,fun b hb=>g.box b (List.mem_of_mem_eraseIdx hb)⟩
theorem pO{α:Type}{l:List α}{i:Int}{j:Nat}(e:i=(j:Int))(h:j<l.length):atI l i=some l[j]:=by
 subst e
 exact MP (U0y h)
theorem Ma{α β:Type}{F:α->β}{l:List α}{i:Int}(h0:0<=i)(h1:i<l.length):∃a,atI (l.map F) i=some (F a)/\l[i.toNat]?=some a:=by
 have hj:i.toNat<l.length:=by omega
 refine⟨l[i.toNat],?_,U0y hj⟩
 rw[pO (j:=i.toNat) (by omega) (by simpa using hj)];simp
theorem Vu{n d:Nat}{a:Int}(h0:0<=a)(h1:a<=n):HT.sIx n d (some a)=a.toNat:=by
 show(if a<0 then (a+(n:Int)).toNat else min a.toNat n)=a.toNat
 rw[if_neg (by omega)]
 omega
theorem Zf{xs:List D}{a:Int}(h0:0<=a)(h1:a<=xs.length):cut xs none (some a)=xs.take a.toNat:=by
 unfold cut
 rw[Vu h0 h1]
 simp[HT.sIx]
theorem Ov{xs:List D}{a:Int}(h0:0<=a)(h1:a<=xs.length):cut xs (some a) none=xs.drop a.toNat:=by
 unfold cut
 rw[Vu h0 h1]
 simp only[HT.sIx]
 rw[U5o]
 simp
def lev:Nat->PyData->Bool
 |_,.none=>true
 |_,.bool _=>true
 |_,.int _=>true
 |k+1,.list xs=>xs.all (lev k)
 |k+1,.tuple xs=>xs.all (lev k)
 |_,_=>false
theorem Te{k:Nat}(ih:∀d,lev k d=true->U31 d=true/\d.depth<=k):∀xs:List PyData,xs.all (lev k)=true->U5k xs=true/\U50 xs<=k
 |[],_=>⟨by rw[U5k],by rw[U50];omega⟩
 |x::xs,h=>by
  rw[U4a,U0x] at h
  obtain⟨h1,h2⟩:=ih x h.1
  obtain⟨h3,h4⟩:=Te ih xs h.2
  exact⟨by rw[U5k,h1,h3];rfl,by rw[U50];omega⟩
theorem S8:∀(k:Nat)(d:PyData),lev k d=true->U31 d=true/\d.depth<=k
 |k,.none,_=>⟨by rw[U31],by rw[U52];omega⟩
 |k,.bool _,_=>⟨by rw[U31],by rw[U52];omega⟩
 |k,.int _,_=>⟨by rw[U31],by rw[U52];omega⟩
 |0,.list _,h=>by simp[lev] at h
 |0,.tuple _,h=>by simp[lev] at h
 |k,.str _,h=>by cases k<;>simp[lev] at h
 |k,.dict _,h=>by cases k<;>simp[lev] at h
 |k+1,.list xs,h=>by
  rw[lev] at h
  obtain⟨h1,h2⟩:=Te (S8 k) xs h
  exact⟨by rw[U31];exact h1,by rw[U52];omega⟩
 |k+1,.tuple xs,h=>by
  rw[lev] at h
  obtain⟨h1,h2⟩:=Te (S8 k) xs h
  exact⟨by rw[U31];exact h1,by rw[U52];omega⟩
theorem M5{k:Nat}{d:PyData}(h:lev k d=true)(hk:k<=60):U2d d=true:=by
 obtain⟨h1,h2⟩:=S8 k d h
 unfold U2d
 rw[h1,Bool.true_and]
 exact decide_eq_true (by omega)
theorem N6{neg:Bool}{S:Store}{x y:D}{p:PyData}(k:Nat)(hx:DX S x=some p)(hy:DX S y=some p)(h:lev k p=true)(hk:k<=60):eqP neg S x y=some (.bl (neg ^^ true)):=by
 unfold eqP
 rw[hx,hy]
 simp only[U0d]
 rw[M5 h hk,SeqAt.eqv_refl _ (S8 k p h).1];rfl
theorem Qq{neg:Bool}{S:Store}{x:D}{m:Bool}{l:List PyData}(k:Nat)(hx:DX S x=some (.list l))(h:lev k (.list l)=true)(hk:k<=60):eqP neg S x (.lst m [])=some (.bl (neg ^^ l.isEmpty)):=by
 unfold eqP
 have hy:DX S (.lst m [])=some (.list []):=by simp[DX,den,CT,toP,HY]
 rw[hx,hy]
 simp only[U0d]
 rw[M5 h hk]
 cases l with
 |nil=>rfl
 |cons a r=>rfl
theorem oJ(k:Nat)(p:St2):lev (k+1) (pS p)=true:=by simp[pS,lev]
theorem oK(k:Nat)(b:List St2):lev (k+2) (pB b)=true:=by
 rw[pB,lev,U53,U14]
 exact fun p _=>oJ k p
theorem Iv(k:Nat)(bs:List (List St2)):lev (k+3) (.list (bs.map pB))=true:=by
 rw[lev,U53,U14]
 exact fun p _=>oK k p
theorem dZ(k:Nat)(n:Nat)(bs:List (List St2)):lev (k+4) (.tuple [.int n,.list (bs.map pB)])=true:=by
 rw[lev,U4a,U4a,Iv k bs]
 rfl
theorem RQ{S:Store}{i:Nat}{bs:List (List St2)}(h:S[i]?=some (some (bs.map Ae))):DX S (.ref i)=some (.list (bs.map pB)):=by
 have:=J9 S true bs
 rw[DX,den,Z9] at this
 rw[DX,den,if_neg (by omega),h]
 simp only[Wz,if_true]
 exact this
theorem Ce{a b:Bl}{env env1:VS.Env}{S S1:Store}(h:a env S=some (.nx,env1,S1)):Bh a b env S=b env1 S1:=by rw[Df,h];rfl
theorem iQ{a b:Bl}{env env1:VS.Env}{S S1:Store}{d:D}(h:a env S=some (.ret d,env1,S1)):Bh a b env S=some (.ret d,env1,S1):=by rw[Df,h];rfl
theorem SM{c:FT}{a b:Bl}{env:VS.Env}{S S1:Store}(h:c env S=some (true,S1)):sIf c a b env S=a env S1:=by rw[Dt,h];rfl
theorem Lx{c:FT}{a b:Bl}{env:VS.Env}{S S1:Store}(h:c env S=some (false,S1)):sIf c a b env S=b env S1:=by rw[Dt,h];rfl
end VS
end
section
namespace VS
open PySem PySem.Spec L2
end VS
namespace HT
open PySem PySem.Spec PyProof PyProof.Rows
end HT
namespace L2
open PySem PySem.Spec PyProof PyProof.Rows
end L2
namespace VS
open PySem PySem.Spec L2
end VS
end
section
set_option maxRecDepth 100000
namespace HT
open PySem PySem.Spec PyProof.Rows
section
variable{prog:Program}{w:World}{A:Around}{E:Value->Shared->Prop}{s:Shared}
theorem Wo{a:Addr}{o:Obj}{Q:Option Obj->Shared->Prop}(e:s.heap.get? a=some o)(q:Q (some o) s):wpAny (model prog w) A (loadIfAlive a) Q E s:=by
 intro Γ p _
 unfold loadIfAlive
 rw[Sem.wp_loadIfAlive,e]
 exact(Sem.wp_pure ..).mpr q
abbrev Mv(h:Heap)(z TI TO T:Addr)(c:Bool):Prop:=h.get? z=some { cls:=.type "zip",dict:=none,data:=.fields #[rawInt T,.bool c,.bool false,.ref TI,.ref TO],slots:=#[] }
variable{z TI TO i1 i2 T:Addr}{fp1 fp2:List Addr}{n1 n2 k:Nat}{P1 P2:Nat->Value->Prop}{S1 S2:Nat->Heap->Prop}{c:Bool}
theorem Xd{Q:Bool->Shared->Prop}(hZ:Mv s.heap z TI TO T c)(hT:∃o,s.heap.get? T=some o)(q:∀h',Mv h' z TI TO T true->U0z z s.heap h'->Q false { s with heap:=h' }) :
  wpAny (model prog w) A (U1n (.ref z)) Q E s:=by
 obtain⟨o,hT⟩:=hT
 unfold U1n
 refine U0 (U10 hZ rfl (x:=rawInt T) rfl ?_)
 show wpAny _ _ (loadIfAlive (Int.toNat (T:Int)) >>= _) _ _ _
 rw[U2x]
 refine U0 (Wo hT ?_)
 simp only[Option.isNone_some,U1s,if_false]
 refine U0 (U10 hZ rfl (x:=.bool c) rfl ?_)
 cases c with
 |false =>
  rw[if_pos (by decide)]
  refine U0 (U3d hZ (by simp) fun g z' m=>?_)
  exact U0c (q g z' m)
 |true =>
  rw[if_neg (by decide)]
  exact U0c (q s.heap hZ (U0z.refl ..))
theorem sO{Q:Value->Shared->Prop}(D1:Draws prog w A i1 fp1 n1 P1 S1)(D2:Draws prog w A i2 fp2 n2 P2 S2)(D:Apart z TI TO i1 i2 fp1 fp2)(hZ:Mv s.heap z TI TO T c)(hI:IsPair s.heap TI (.ref i1) (.ref i2))(hT:∃o,s.heap.get? T=some o)
  (s1:S1 k s.heap) (s2:S2 k s.heap) (k1:k<n1) (k2:k<n2)
  (q:∀x y h' tk,P1 k x->P2 k y->Mv h' z TI TO T true->S1 (k+1) h'->S2 (k+1) h'->IsPair h' s.heap.objs.size x y->h'.objs.size=s.heap.objs.size+1 ->
   (∀c o,c≠z->c≠i1->c≠i2->s.heap.get? c=some o->h'.get? c=some o)->Q (.ref s.heap.objs.size) { s with heap:=h',toks:=tk }) :
  wpAny (model prog w) A (Builtin.«zip.__next__» ⟨[.ref z],[]⟩) (fun fin s'=>∃v,fin=.done (.ret v)/\Q v s') E s:=by
 obtain⟨hp,g,d,tk0,os⟩:=s
 refine(show wpAny _ _ (field (.ref z) 2 >>= _) _ _ _ from U0 (U10 hZ rfl (x:=.bool false) rfl ?_))
 refine(show wpAny _ _ (field (.ref z) 3 >>= _) _ _ _ from U0 (U10 hZ rfl (x:=.ref TI) rfl (U0 (U2j hI rfl ?_))))
 refine(show wpAny _ _ (U1n (.ref z) >>= _) _ _ _ from U0 (Xd hZ hT fun g1 z1 m1=>?_))
 replace m1:U0z z hp g1:=m1
 simp only[U1s,if_false]
 have t1:S1 k g1:=D1.frame _ _ _ s1 fun c hc o e=>m1.extBut _ _ (D.b1 c hc).1 e
 have u1:S2 k g1:=D2.frame _ _ _ s2 fun c hc o e=>m1.extBut _ _ (D.b2 c hc).1 e
 refine U0 ?_
 simp only[List.forIn_toArray,U3r,U5d]
 refine U0 (U0 (U1z (show wpAny _ _ (U1d (.ref i1) >>= _) _ _ _ from U0 (D1.item k ⟨g1,g,d,tk0,os⟩ _ _ k1 t1 fun x g2 tk1 px t2 m2=>U0c ?_))))
 replace m2:U0z i1 g1 g2:=m2
 have u2:S2 k g2:=D2.frame _ _ _ u1 fun c hc o e=>m2.extBut _ _ (D.b2 c hc).2.2 e
 refine U0c ?_
 refine U0 (U0 (U1z (show wpAny _ _ (U1d (.ref i2) >>= _) _ _ _ from U0 (D2.item k ⟨g2,g,d,tk1,os⟩ _ _ k2 u2 fun y g3 tk2 py u3 m3=>U0c ?_))))
 replace m3:U0z i2 g2 g3:=m3
 refine U0c (U0c ?_)
 refine U0 (U60 ?_ (by simp[sizeLine]))
 have sz:g3.objs.size=hp.objs.size:=by rw[m3.1,m2.1,m1.1]
 refine U0c ⟨_,rfl,?_⟩
 show Q (.ref g3.objs.size) _
 have z3:Mv g3 z TI TO T true:=m3.extBut _ _ (U1j D.c2.1) (m2.extBut _ _ (U1j D.c1.1) z1)
 have q3:=q x y (g3.push { cls:=.type "tuple",data:=.seq #[x,y] }) tk2 px py (U0b _ z3)
  (D1.frame _ _ _ t2 fun c hc o e=>U0b _ (m3.extBut _ _ (D.b1 c hc).2.2 e)) (D2.frame _ _ _ u3 fun c hc o e=>U0b _ e)
  (by show IsPair _ hp.objs.size x y;rw[←sz];exact U0p _ rfl) (by rw[U1y,sz])
  fun c o n1 n3 n4 e=>U0b _ (m3.extBut _ _ n4 (m2.extBut _ _ n3 (m1.extBut _ _ n1 e)))
 rw[sz]
 exact q3
theorem qM{Q:PySem.Fin->Shared->Prop}(D1:Draws prog w A i1 fp1 n1 P1 S1)(D2:Draws prog w A i2 fp2 n2 P2 S2)(D:Apart z TI TO i1 i2 fp1 fp2)(hZ:Mv s.heap z TI TO T c)(hI:IsPair s.heap TI (.ref i1) (.ref i2))(hT:∃o,s.heap.get? T=some o)
  (s1:S1 k s.heap) (s2:S2 k s.heap) (ke:k=n1∨(k<n1/\k=n2))
  (q:∀h' e tk,(∀c o,c≠z->c≠i1->c≠i2->s.heap.get? c=some o->h'.get? c=some o)->(∃o,h'.get? e=some o/\o.cls=.type "StopIteration")->E (.ref e) { s with heap:=h',toks:=tk }) :
  wpAny (model prog w) A (Builtin.«zip.__next__» ⟨[.ref z],[]⟩) Q E s:=by
 obtain⟨hp,g,d,tk0,os⟩:=s
 refine(show wpAny _ _ (field (.ref z) 2 >>= _) _ _ _ from U0 (U10 hZ rfl (x:=.bool false) rfl ?_))
 refine(show wpAny _ _ (field (.ref z) 3 >>= _) _ _ _ from U0 (U10 hZ rfl (x:=.ref TI) rfl (U0 (U2j hI rfl ?_))))
 refine(show wpAny _ _ (U1n (.ref z) >>= _) _ _ _ from U0 (Xd hZ hT fun g1 z1 m1=>?_))
 replace m1:U0z z hp g1:=m1
 simp only[U1s,if_false]
 have t1:S1 k g1:=D1.frame _ _ _ s1 fun c hc o e=>m1.extBut _ _ (D.b1 c hc).1 e
 have u1:S2 k g1:=D2.frame _ _ _ s2 fun c hc o e=>m1.extBut _ _ (D.b2 c hc).1 e
 refine U0 ?_
 simp only[List.forIn_toArray,U3r,U5d]
 rcases ke with ke|⟨k1,ke⟩
 .subst ke
  refine U0 (U0 (U1z (show wpAny _ _ (U1d (.ref i1) >>= _) _ _ _ from U0 (D1.done ⟨g1,g,d,tk0,os⟩ _ _ t1 fun g2 e m2 he=>?_))))
  replace m2:U4y i1 g1 g2:=m2
  exact q g2 e tk0 (fun c o n1 n3 _ x=>m2 _ _ n3 (m1.extBut _ _ n1 x)) he
 .refine U0 (U0 (U1z (show wpAny _ _ (U1d (.ref i1) >>= _) _ _ _ from U0 (D1.item k ⟨g1,g,d,tk0,os⟩ _ _ k1 t1 fun x g2 tk1 px t2 m2=>U0c ?_))))
  replace m2:U0z i1 g1 g2:=m2
  have u2:S2 k g2:=D2.frame _ _ _ u1 fun c hc o e=>m2.extBut _ _ (D.b2 c hc).2.2 e
  rw[ke] at u2
  refine U0c ?_
  refine U0 (U0 (U1z (show wpAny _ _ (U1d (.ref i2) >>= _) _ _ _ from U0 (D2.done ⟨g2,g,d,tk1,os⟩ _ _ u2 fun g3 e m3 he=>?_))))
  replace m3:U4y i2 g2 g3:=m3
  exact q g3 e tk1 (fun c o n1 n3 n4 x=>m3 _ _ n4 (m2.extBut _ _ n3 (m1.extBut _ _ n1 x))) he
def ZS(z TI TO i1 i2:Addr)(S1 S2:Nat->Heap->Prop)(k:Nat)(h:Heap):Prop :=
 IsPair h TI (.ref i1) (.ref i2)/\S1 k h/\S2 k h/\((∃a b,IsZip h z TI TO .none/\IsPair h TO a b)∨∃T c o,Mv h z TI TO T c/\h.get? T=some o/\T≠z/\T≠i1/\T≠i2)
theorem ZS.type(st:ZS z TI TO i1 i2 S1 S2 k s.heap):s.TypeIs (.ref z) "zip":=by
 obtain⟨_,_,_,⟨_,_,h,_⟩|⟨_,_,_,h,_⟩⟩:=st
 .exact⟨_,h,rfl⟩
 .exact⟨_,h,rfl⟩
theorem ZS.lt{h:Heap}(st:ZS z TI TO i1 i2 S1 S2 k h):z<h.objs.size:=by
 obtain⟨_,_,_,⟨_,_,h,_⟩|⟨_,_,_,h,_⟩⟩:=st
 .exact U0k h
 .exact U0k h
theorem ZS.frame{h h':Heap}(D1:Draws prog w A i1 fp1 n1 P1 S1)(D2:Draws prog w A i2 fp2 n2 P2 S2)(st:ZS z TI TO i1 i2 S1 S2 k h){S:Addr}(f1:S ∉ fp1)(f2:S ∉ fp2)(n1:S≠z)(n2:S≠TI)(n3:S≠TO)(lv:∃o,h'.get? S=some o)(m:∀c o,c≠S->h.get? c=some o->h'.get? c=some o):ZS z TI TO i1 i2 S1 S2 k h':=by
 obtain⟨a1,a2,a3,a4⟩:=st
 refine⟨m _ _ (U1j n2) a1,D1.frame _ _ _ a2 fun c hc o e=>m c o (fun q=>f1 (q ▸ hc)) e,D2.frame _ _ _ a3 fun c hc o e=>m c o (fun q=>f2 (q ▸ hc)) e,?_⟩
 rcases a4 with ⟨a,b,b1,b2⟩|⟨T,c,o,b1,b2,b3⟩
 .exact .inl ⟨a,b,m _ _ (U1j n1) b1,m _ _ (U1j n3) b2⟩
 .by_cases q:T=S
  .obtain⟨o',e⟩:=lv
   exact .inr ⟨T,c,o',m _ _ (U1j n1) b1,q ▸ e,b3⟩
  .exact .inr ⟨T,c,o,m _ _ (U1j n1) b1,m _ _ q b2,b3⟩
theorem mH{Q:Option Value->Shared->Prop}(D1:Draws prog w A.in1 i1 fp1 n1 P1 S1)(D2:Draws prog w A.in1 i2 fp2 n2 P2 S2)(D:Apart z TI TO i1 i2 fp1 fp2)(st:ZS z TI TO i1 i2 S1 S2 k s.heap)(k1:k<n1)(k2:k<n2)
  (q:∀x y h' tk,P1 k x->P2 k y->ZS z TI TO i1 i2 S1 S2 (k+1) h'->IsPair h' s.heap.objs.size x y->h'.objs.size=s.heap.objs.size+1->(∀c o,c≠z->c≠TO->c≠i1->c≠i2->s.heap.get? c=some o->h'.get? c=some o)->Q (some (.ref s.heap.objs.size)) { s with heap:=h',toks:=tk }) :
  wpAny (model prog w) A (pyNext (.ref z)) Q E s:=by
 have T:=st.type
 have lz:=st.lt
 obtain⟨a1,a2,a3,a4⟩:=st
 obtain⟨_,l1⟩:=D1.live _ _ a2
 obtain⟨_,l2⟩:=D2.live _ _ a3
 rcases a4 with ⟨a,b,b1,b2⟩|⟨T',c,o,b1,b2,b3,b4,b5⟩
 .refine Xc D1 D2 D b1 a1 b2 a2 a3 k1 k2 fun x y h' tk p1 p2 c1 c2 c3 c4 c5 c6 c7=>q x y h' tk p1 p2 ⟨c7 _ _ D.a1 D.a3 (U1j D.c1.2.2) (U1j D.c2.2.2) a1,c3,c4,.inr ⟨_,false,_,c1,c5,U1o lz,U1o (U0k l1),U1o (U0k l2)⟩⟩ c5 c6 c7
 .unfold pyNext
  refine U0 (U3t (wpAny_callSpecial?_slot (name:=U25 "__next__") T U2g (U1w U2g T U4m (sO D1 D2 D b1 a1 ⟨o,b2⟩ a2 a3 k1 k2 fun x y h' tk p1 p2 c1 c3 c4 c5 c6 c7=>U0c (q x y h' tk p1 p2 ?_ c5 c6 fun c o n1 _ n3 n4 e=>c7 c o n1 n3 n4 e)) (U4 _))))
  exact⟨c7 _ _ D.a1 (U1j D.c1.2.2) (U1j D.c2.2.2) a1,c3,c4,.inr ⟨T',true,o,c1,c7 _ _ b3 b4 b5 b2,b3,b4,b5⟩⟩
theorem gQ{Q:Option Value->Shared->Prop}(D1:Draws prog w A.in1 i1 fp1 n1 P1 S1)(D2:Draws prog w A.in1 i2 fp2 n2 P2 S2)(D:Apart z TI TO i1 i2 fp1 fp2)(st:ZS z TI TO i1 i2 S1 S2 k s.heap)(ke:k=n1∨(k<n1/\k=n2))
  (q:∀h' tk,(∀c o,c≠z->c≠TO->c≠i1->c≠i2->s.heap.get? c=some o->h'.get? c=some o)->Q none { s with heap:=h',toks:=tk }):wpAny (model prog w) A (pyNext (.ref z)) Q E s:=by
 have T:=st.type
 obtain⟨a1,a2,a3,a4⟩:=st
 rcases a4 with ⟨a,b,b1,b2⟩|⟨T',c,o,b1,b2,b3,b4,b5⟩
 .exact Xb D1 D2 D b1 a1 b2 a2 a3 ke q
 .unfold pyNext
  refine U0 (U3t (wpAny_callSpecial?_slot (name:=U25 "__next__") T U2g (U1w U2g T U4m (qM D1 D2 D b1 a1 ⟨o,b2⟩ a2 a3 ke fun h' e tk kk he=>?_) (U4 _))))
  obtain⟨o,e1,e2⟩:=he
  exact U0 (U4w (T:="StopIteration") (b:=true) ⟨o,e1,e2⟩ isSubtype_stop (U0c (q h' tk fun c o n1 _ n3 n4 e=>kk c o n1 n3 n4 e)))
def Laid(P1 P2:Nat->Value->Prop)(t0 k:Nat)(h:Heap):Prop:=∀j,j<k->∃x y,P1 j x/\P2 j y/\IsPair h (t0+j) x y
theorem gW{R:Result->Shared->Prop}(D1:Draws prog w A.in1.in1 i1 fp1 n1 P1 S1)(D2:Draws prog w A.in1.in1 i2 fp2 n2 P2 S2)(D:Apart z TI TO i1 i2 fp1 fp2){m t0:Nat}(hm:∀k,k<m->k<n1/\k<n2)(he:m=n1∨(m<n1/\m=n2))(hs:m<=1000000)(S:Addr)(f1:S ∉ fp1)(f2:S ∉ fp2)(e1:S≠z)(e2:S≠TI)(e3:S≠TO)(e4:S≠i1)(e5:S≠i2)(e6:S<t0)
  (far:z<t0/\TO<t0/\i1<t0/\i2<t0) (res:Value) :
  ∀(j k:Nat)(s:Shared)(acc:Array Value)(c:Nat),m-k=j->k<=m->ZS z TI TO i1 i2 S1 S2 k s.heap->s.heap.get? S=some { cls:=.type "list",dict:=none,data:=.seq acc c,slots:=#[] }->acc=((U12 k).map fun j=>U17 (t0+j)).toArray->s.heap.objs.size=t0+k->Laid P1 P2 t0 k s.heap ->
  (∀h' tk c',(∀b o,b≠z->b≠TO->b≠i1->b≠i2->b≠S->s.heap.get? b=some o->h'.get? b=some o)->h'.get? S=some { cls:=.type "list",dict:=none,data:=.seq ((U12 m).map fun j=>U17 (t0+j)).toArray c',slots:=#[] }->Laid P1 P2 t0 m h'->R (.ok (.ret res)) { s with heap:=h',toks:=tk }) ->
  codeAny (model prog w) A (.builtin "list.extend.loop" ⟨[.ref S,.ref z,res],[]⟩) R s:=by
 have aw:∀j:Nat,t0+j≠z/\t0+j≠TO/\t0+j≠i1/\t0+j≠i2/\t0+j≠S:=fun j=>⟨U1o (U0n far.1 (U1f _ _)),U1o (U0n far.2.1 (U1f _ _)),U1o (U0n far.2.2.1 (U1f _ _)),U1o (U0n far.2.2.2 (U1f _ _)),U1o (U0n e6 (U1f _ _))⟩
 have hs2:m<=sizeLine:=U02 hs (by decide)
 intro j
 induction j with
 |zero =>
  intro k s acc c hj hk st hS ha hz hl q
  have hkm:k=m:=by omega
  subst hkm
  refine codeAny_builtin PySem.F.entry_extend_loop ?_
  rw[U21 U3z _]
  show wpAny _ A.in1 (pyNext (.ref z) >>= _) _ _ s
  refine U0 (gQ D1 D2 D st he fun h' tk kk=>U0c (q h' tk c (fun b o n1 n2 n3 n4 _ e=>kk b o n1 n2 n3 n4 e) ?_ ?_))
  .rw[←ha];exact kk _ _ e1 e3 e4 e5 hS
  .intro j hj
   obtain⟨x,y,p1,p2,t⟩:=hl j hj
   exact⟨x,y,p1,p2,kk _ _ (aw j).1 (aw j).2.1 (aw j).2.2.1 (aw j).2.2.2.1 t⟩
 |succ j ih =>
  intro k s acc c hj hk st hS ha hz hl q
  have hlt:k<m:=by omega
  refine codeAny_builtin PySem.F.entry_extend_loop ?_
  rw[U21 U3z _]
  show wpAny _ A.in1 (pyNext (.ref z) >>= _) _ _ s
  refine U0 (mH D1 D2 D st (hm k hlt).1 (hm k hlt).2 fun x y h' tk p1 p2 st' tp sz kk=>?_)
  have hS':=kk _ _ e1 e3 e4 e5 hS
  have hlen:acc.size=k:=by rw[ha];simp
  show wpAny _ A.in1 (updateSeq S (·.push (.ref s.heap.objs.size)) >>= _) _ _ _
  refine U0 ?_
  have oth:∀b o,b≠S->h'.get? b=some o->(h'.update S (U1e (·.push (U17 s.heap.objs.size)))).get? b=some o:=fun b o n e=>(U1a _ _ (U1j n)).trans e
  have hS2:=U11 (U1e (·.push (U17 s.heap.objs.size))) hS' rfl
  have szu:(h'.update S (U1e (·.push (U17 s.heap.objs.size)))).objs.size=h'.objs.size:=(U1m ..).1
  refine U4g hS' rfl (U0c ⟨plainId_quiet U3z _,ih (k+1) _ (acc.push (.ref s.heap.objs.size)) _ (by omega) hlt (ZS.frame D1 D2 st' f1 f2 e1 e2 e3 ⟨_,hS2⟩ oth) hS2 ?_ ?_ ?_ fun h'' tk'' c'' kk2 hS3 hl3=>?_⟩)
   (by rw[hlen];omega) (by show(acc.push _).size<=sizeLine+1;rw[Array.size_push,hlen];omega)
  .rw[ha,hz,List.range_succ];simp
  .rw[show(U6 _).objs.size=_ from szu,sz,hz];omega
  .intro j hj
   by_cases q':j=k
   .subst q'
    refine⟨x,y,p1,p2,oth _ _ (aw _).2.2.2.2 ?_⟩
    rw[←hz];exact tp
   .obtain⟨x',y',r1,r2,t⟩:=hl j (by omega)
    exact⟨x',y',r1,r2,oth _ _ (aw j).2.2.2.2 (kk _ _ (aw j).1 (aw j).2.1 (aw j).2.2.1 (aw j).2.2.2.1 t)⟩
  .exact q h'' tk'' c'' (fun b o n1 n2 n3 n4 n5 e=>kk2 b o n1 n2 n3 n4 n5 (oth b o n5 (kk b o n1 n2 n3 n4 e))) hS3 hl3
theorem bW:typeLookup (.type "zip") "__len__"=pure none:=by rw[typeLookup_type,builtinLookup_eq_fast];kernel_rfl
theorem Zk:typeLookup (.type "zip") "__length_hint__"=pure none:=by rw[typeLookup_type,builtinLookup_eq_fast];kernel_rfl
theorem ZS.push{h:Heap}(D1:Draws prog w A i1 fp1 n1 P1 S1)(D2:Draws prog w A i2 fp2 n2 P2 S2)(st:ZS z TI TO i1 i2 S1 S2 k h)(o:Obj):ZS z TI TO i1 i2 S1 S2 k (h.push o):=by
 obtain⟨a1,a2,a3,a4⟩:=st
 refine⟨U0b _ a1,D1.frame _ _ _ a2 fun c hc o e=>U0b _ e,D2.frame _ _ _ a3 fun c hc o e=>U0b _ e,?_⟩
 rcases a4 with ⟨a,b,b1,b2⟩|⟨T,c,o,b1,b2,b3⟩
 .exact .inl ⟨a,b,U0b _ b1,U0b _ b2⟩
 .exact .inr ⟨T,c,o,U0b _ b1,U0b _ b2,b3⟩
theorem jX{Q:Value->Shared->Prop}(T:s.TypeIs (.ref z) "zip")(q:Q (.ref z) s):wpAny (model prog w) A (pyIter (.ref z)) Q E s :=
 U6h T PySem.F.slot_zip_iter (U1w PySem.F.slot_zip_iter T PySem.F.entry_zip_iter (show wpAny _ _ (ret (.ref z)) _ _ s from U0c ⟨_,rfl,"zip",_,T,U2g.lookup,q⟩) (PySem.F.args_zip_iter_1 _))
theorem jQ{Q:Value->Shared->Prop}(D1:Draws prog w A.in1.in1.in1 i1 fp1 n1 P1 S1)(D2:Draws prog w A.in1.in1.in1 i2 fp2 n2 P2 S2)(D:Apart z TI TO i1 i2 fp1 fp2){m:Nat}(hm:∀k,k<m->k<n1/\k<n2)(he:m=n1∨(m<n1/\m=n2))(hs:m<=1000000)(st:ZS z TI TO i1 i2 S1 S2 0 s.heap)
  (l1:∀b∈fp1,b<s.heap.objs.size) (l2:∀b∈fp2,b<s.heap.objs.size) (l3:z<s.heap.objs.size/\TI<s.heap.objs.size/\TO<s.heap.objs.size/\i1<s.heap.objs.size/\i2<s.heap.objs.size)
  (q:∀h' tk c',(∀b o,b≠z->b≠TO->b≠i1->b≠i2->s.heap.get? b=some o->h'.get? b=some o)->h'.get? s.heap.objs.size=some { cls:=.type "list",dict:=none,data:=.seq ((U12 m).map fun j=>U17 (s.heap.objs.size+1+j)).toArray c',slots:=#[] } ->
   Laid P1 P2 (s.heap.objs.size+1) m h'->Q (.ref s.heap.objs.size) { s with heap:=h',toks:=tk }):wpAny (model prog w) A (call (.type "list") [.ref z]) Q E s:=by
 refine callType_codes (Q₁:=fun obj s₁=>obj=.ref s.heap.objs.size/\s₁={ s with heap:=s.heap.push { cls:=.type "list",data:=.seq #[] } }) PySem.F.called_list (PySem.F.typeCall_list_1 _) PySem.F.entry_list_init (code_list_new _ ⟨rfl,rfl⟩) fun obj s₁ h₁=>?_
 obtain⟨rfl,rfl⟩:=h₁
 have g0:(s.heap.push { cls:=.type "list",data:=.seq #[] }).get? s.heap.objs.size=some { cls:=.type "list",data:=.seq #[] }:=U0p _ rfl
 refine⟨⟨_,g0,rfl⟩,PySem.F.args_list_init_2 _ _,?_⟩
 generalize hS:s.heap.objs.size=S at *
 have st0:=ZS.push D1 D2 st { cls:=.type "list",data:=.seq #[] }
 have sz0:(s.heap.push { cls:=.type "list",data:=.seq #[] }).objs.size=S+1:=by rw[U1y,hS]
 have k0:∀b o,s.heap.get? b=some o->(s.heap.push { cls:=.type "list",data:=.seq #[] }).get? b=some o:=fun b o e=>U0b _ e
 generalize s.heap.push { cls:=.type "list",data:=.seq #[] }=h0 at *
 have ne1:S≠z:=U1o l3.1
 have ne2:S≠TI:=U1o l3.2.1
 have ne3:S≠TO:=U1o l3.2.2.1
 have ne4:S≠i1:=U1o l3.2.2.2.1
 have ne5:S≠i2:=U1o l3.2.2.2.2
 have nf1:S ∉ fp1:=fun z=>U28 _ (l1 _ z)
 have nf2:S ∉ fp2:=fun z=>U28 _ (l2 _ z)
 -- one write of the new list after the other
 have wr:∀(h:Heap)(f:Array Value->Array Value)(xs:Array Value)(c:Nat),h.get? S=some { cls:=.type "list",data:=.seq xs c }->(∀b o,b≠S->h.get? b=some o->(h.update S (U1e f)).get? b=some o)/\(h.update S (U1e f)).objs.size=h.objs.size:=fun h f xs c e=>⟨fun b o n e=>(U1a _ _ (U1j n)).trans e,(U1m ..).1⟩
 refine(show wpAny _ _ (do let old ←Builtin.List.listItems (.ref S);Builtin.List.listUpdate (.ref S) (fun _=>#[]);letGo old.toList.reverse;U24 (.ref S) (.ref z) .none) _ _ _ from U0 ?_)
 unfold Builtin.List.listItems
 refine U0 (U2j g0 rfl (U0c (show wpAny _ _ (updateSeq S (fun _=>#[]) >>= fun _=>letGo (#[]:Array Value).toList.reverse >>= fun _=>U24 (.ref S) (.ref z) .none) _ _ _ from U0 (U4g g0 rfl (U0 (U6v ?_))))))
 have g1:=U11 (U1e (fun _=>(#[]:Array Value))) g0 rfl
 obtain⟨o1,z1⟩:=wr h0 (fun _=>#[]) _ _ g0
 have st1:=ZS.frame D1 D2 st0 nf1 nf2 ne1 ne2 ne3 ⟨_,g1⟩ o1
 unfold U24
 refine U0 (U49 (st1.type (s:={ s with heap:=_ })) ?_)
 have b1:U36 (.ref S) (.ref z)=false:=by simp[U36,ne1]
 rw[if_neg (by rw[b1];decide)]
 have ty1:U5q { s with heap:=h0.update S (U1e (fun _=>(#[]:Array Value))) } (.ref z) "zip":=st1.type (s:={ s with heap:=_ })
 refine U0 (jX ty1 ?_)
 refine U0 (U1z ?_)
 unfold U4s
 refine U0 (U6r ty1 bW ?_)
 refine(show wpAny _ _ (specialOf (U17 z) (U25 "__length_hint__") >>= _) _ _ _ from U0 (U6r ty1 Zk (U0c ?_)))
 refine(show wpAny _ _ (rule "list.extend.makes-room" >>= fun _=>Builtin.List.listTouch (.ref S) >>= fun _=>again (.builtin "list.extend.loop" ⟨[.ref S,.ref z,.none],[]⟩)) _ _ _ from U0 (U4v (U0 ?_)))
 refine(show wpAny _ _ (updateSeq S (·.push .none) >>= fun _=>updateSeq S (·.pop)) _ _ _ from U0 (U4g g1 rfl ?_))
 have g2:=U11 (U1e (·.push U2e)) g1 rfl
 obtain⟨o2,z2⟩:=wr _ (·.push U2e) _ _ g1
 have g3:=U11 (U1e (·.pop)) g2 rfl
 obtain⟨o3,z3⟩:=wr _ (·.pop) _ _ g2
 refine U4g (hz:=by seq_fits) g2 rfl ?_
 have st3:=ZS.frame D1 D2 (ZS.frame D1 D2 st1 nf1 nf2 ne1 ne2 ne3 ⟨_,g2⟩ o2) nf1 nf2 ne1 ne2 ne3 ⟨_,g3⟩ o3
 refine U0c ⟨plainId_quiet U3z _,gW D1 D2 D (t0:=S+1) hm he hs S nf1 nf2 ne1 ne2 ne3 ne4 ne5 (U4u _) ⟨U2a l3.1,U2a l3.2.2.1,U2a l3.2.2.2.1,U2a l3.2.2.2.2⟩ _ m 0 _ _ _ rfl (U3e _) st3 g3 ?_ ?_ (fun j hj=>absurd hj (U5y _)) fun h' tk c' kk hS' hl=>⟨rfl,q h' tk c' (fun b o n1 n2 n3 n4 e=>?_) hS' hl⟩⟩
 .simp
 .show(Heap.update _ _ _).objs.size=_
  rw[z3,z2,z1,sz0]
 .have nb:b≠S:=U0q (hS ▸ U0k e)
  exact kk b o n1 n2 n3 n4 nb (o3 b o nb (o2 b o nb (o1 b o nb (k0 b o e))))
end
end HT
end
section
namespace L2
open PySem PySem.Spec PyProof.Rows
section
variable{X:Cx}{pins:List (Addr×Obj)}{σ:St}{H:Hp}{s:Shared}
theorem Inv.rE{H':Hp}{h':Heap}{d':Drawn}{t':Nat}(I:Inv X pins σ H s)(k:∀b u,s.heap.get? b=some u->h'.get? b=some u)(old:∀b,b<s.heap.objs.size->H' b=H b)(ext:∀b o,H b=some o->H' b=some o)
  (new:∀b o,H' b=some o->H b=none->Eh X.prog X.w H' h' b o):Inv X pins σ H' { s with heap:=h',drawn:=d',toks:=t' }:=by
 refine I.step (g':=s.gens) (ch:=[]) (fun _ z=>nomatch z) (fun b u _ _ _ e _=>k b u e) (fun b u _ _ _ e _=>⟨u.slots,k b u e⟩) (fun b u _ e n=>by rw[old b (U0k e)];exact n) (fun b u _ e=>⟨u,k b u e⟩)
  (fun b xs e=>ext _ _ e) (fun b u xs e=>ext _ _ e) (fun b ps e=>⟨#[],by rw[ext _ _ e];simp⟩) (fun m hm=>?_) (fun b u e=>?_) I.bare (fun n=>by rw[old _ I.YW];exact n)
 .obtain⟨ob,es,ep,e,r⟩:=hm
  exact⟨ob,es,ep,k _ _ e,r⟩
 .cases q:H b with
  |none=>exact new b u e q
  |some o =>
   have:=ext b o q
   rw[this] at e
   cases e
   exact(I.hok b _ q).stay (fun c v _ q=>k c v q) (fun c q=>ext _ _ q) fun c xs q=>ext _ _ q
end
def cG(L:Bool)(ta:TA):TE:=fun σ H Q=>ta σ H fun vs H1=>∃a b xs ys,vs=[.ref a,.ref b]/\H1 a=some (HB L xs)/\H1 b=some (HB L ys)/\(xs.zip ys).length<=1000000 /\
 ∀l t0 H2,H1 l=none->(∀c o,H1 c=some o->H2 c=some o)->H2 l=some (.lst ((U12 (xs.zip ys).length).map fun j=>V.ref (t0+j)))->(∀j p,(xs.zip ys)[j]?=some p->H2 (t0+j)=some (.tup [p.1,p.2]))->Q (.ref l) H2
section
variable{X:Cx}
theorem Yu(L:Bool){a b:Expr}{ta:TA}{p p2 pos pos2:Pos}(hc:X.calm=true)(hg:Gl X "list")(hm:X.mg "list"=none)(hg2:Gl X "zip")(hm2:X.mg "zip"=none)(ha:PA X [a,b] ta)(hs:starEach [a,b] X.env=[(false,eval a X.env),(false,eval b X.env)]:=by rfl)(hs2:starEach [b] X.env=[(false,eval b X.env)]:=by rfl)
  (he2:starEach [.Call (.Name "zip" p2) [a,b] [] pos2] X.env=[(false,eval (.Call (.Name "zip" p2) [a,b] [] pos2) X.env)]:=by rfl):PE X (.Call (.Name "list" p) [.Call (.Name "zip" p2) [a,b] [] pos2] [] pos) (cG L ta):=by
 intro pins s σ H Q I h
 refine U4d (Ms I hg hm (by decide +kernel:bootBuiltins "list"=some (.type "list")) (U23 ?_ he2 rfl))
 rw[he2]
 refine(show wpAny _ _ (spliced ((false,eval (.Call (.Name "zip" p2) [a,b] [] pos2) X.env)::backTo pos (starEach [] X.env))) _ _ s from Calls.spliced_cons ?_)
 refine Call_ (Ms I hg2 hm2 (by decide +kernel:bootBuiltins "zip"=some (.type "zip")) (U23 (thn (ha pos2 pins s σ H _ I h) fun us s1 ⟨vs,H1,I1,r1,q1⟩=>?_) (by rw[hs,hs2]) (by rw[hs2];rfl)))
 obtain⟨l,m,xs,ys,e,e1,e2,hl,q⟩:=q1
 subst e
 obtain⟨us1,us2⟩:us=[.ref l,.ref m]/\True:=by
  cases r1 with
  |cons r rr =>
   cases rr with
   |cons r' rr =>
    cases rr
    cases r
    cases r'
    exact⟨rfl,trivial⟩
 subst us1
 obtain⟨its1,rv1,p1⟩:=I1.Pq e1
 obtain⟨its2,rv2,p2⟩:=I1.Pq e2
 have fin:∀h',IsZip h' (s1.heap.objs.size+4) (s1.heap.objs.size+2) (s1.heap.objs.size+3) .none->IsPair h' (s1.heap.objs.size+2) (.ref s1.heap.objs.size) (.ref (s1.heap.objs.size+1))->IsPair h' (s1.heap.objs.size+3) .none .none ->
   Jd L h' s1.heap.objs.size l 0->Jd L h' (s1.heap.objs.size+1) m 0->(∀c o,s1.heap.get? c=some o->h'.get? c=some o)->wpAny (model X.prog X.w) X.A (spliced (backTo pos (starEach [] X.env))) (fun us s2=>wpAny (model X.prog X.w) X.A (call (.type "list") (.ref (s1.heap.objs.size+4)::us)) (fun v s3=>∃x H',Inv X pins σ H' s3/\RelV x v/\Q x H') X.xe s2) X.xe { s1 with heap:=h' }:=fun h' c1 c2 c3 c4 c5 k=>by
  refine Calls.spliced_nil ?_
  generalize hn:s1.heap.objs.size=n at *
  have seqAt:∀(t:Addr)(ws:Array Value),YX L s1.heap t ws->YX L h' t ws/\t<n:=fun t ws x=>by
   cases L with
   |true =>
    refine⟨Heap.IsList.at x fun o e=>k _ _ e,?_⟩
    obtain⟨o,e,_⟩:=(show s1.heap.IsList t ws from x)
    exact hn ▸ U0k e
   |false =>
    refine⟨U5a.at x fun o e=>k _ _ e,?_⟩
    obtain⟨o,e,_⟩:=(show s1.heap.IsTuple t ws from x)
    exact hn ▸ U0k e
  obtain⟨q1,ll⟩:=seqAt _ _ p1
  obtain⟨q2,lm⟩:=seqAt _ _ p2
  have lz:n+4<h'.objs.size:=U0k c1
  have lz0:n<h'.objs.size:=U2v (Nat.lt_add_of_pos_right (by decide)) lz
  have lz1:n+1<h'.objs.size:=U2v (U55 (by decide) n) lz
  have lz2:n+2<h'.objs.size:=U2v (U55 (by decide) n) lz
  have lz3:n+3<h'.objs.size:=U2v (U55 (by decide) n) lz
  have hh:X.A.in1.in1.in1.handled=none:=I1.ok.hd hc
  have sl1:=rv1.length
  have sl2:=rv2.length
  have hlen:(xs.zip ys).length=min its1.length its2.length:=by rw[U6t,sl1,sl2]
  refine HT.jQ (z:=n+4) (TI:=n+2) (TO:=n+3) (i1:=n) (i2:=n+1) (m:=(xs.zip ys).length) (OD L hh n l (U0q ll) its1.toArray) (OD L hh (n+1) m (U0q (U2a lm)) its2.toArray)
   (Rk (by simp) (by simp) (by simp) ⟨by simp,by simp,by simp⟩ ⟨by simp,by simp,by simp⟩ (by simp) (by simp only[U0t,U1x,or_false,not_or];exact⟨U0q (U0n ll (U1f _ _)),U0q (U0n ll (U1f _ _)),U0q (U0n ll (U1f _ _)),U0q ll,U0q (U0n ll (U1f _ _))⟩)
    (by simp only[U0t,U1x,or_false,not_or];exact⟨U0q (U0n lm (U1f _ _)),U0q (U0n lm (U1f _ _)),U0q (U0n lm (U1f _ _)),U0q lm,U0q (U0n lm (U1f _ _))⟩))
   (fun j hj=>by rw[hlen] at hj;simp;omega) (by rw[hlen];simp;omega) hl ⟨c2,⟨c4,q1⟩,⟨c5,q2⟩,.inl ⟨_,_,c1,c3⟩⟩ ?_ ?_ ⟨lz,lz2,lz3,lz0,lz1⟩ fun h2 tk c' kk hS hL=>?_
  .intro b hb
   simp only[U0t,U1x,or_false] at hb
   show b<h'.objs.size
   rcases hb with rfl|rfl
   .exact lz0
   .exact U2v ll lz0
  .intro b hb
   simp only[U0t,U1x,or_false] at hb
   show b<h'.objs.size
   rcases hb with rfl|rfl
   .exact lz1
   .exact U2v lm lz0
  .generalize hS':h'.objs.size=S at *
   have up:∀b u,s1.heap.get? b=some u->b<n:=fun b u e=>hn ▸ U0k e
   have k2:∀b u,s1.heap.get? b=some u->h2.get? b=some u:=fun b u e=>by
    have:=up b u e
    exact kk b u (U0q (U0n this (U1f _ _))) (U0q (U0n this (U1f _ _))) (U0q this) (U0q (U0n this (U1f _ _))) (k b u e)
   let refs:List V:=(U12 (xs.zip ys).length).map fun j=>V.ref (S+1+j)
   let H2:Hp:=fun b=>if b=S then some (.lst refs) else match (if S+1<=b then (xs.zip ys)[b-(S+1)]? else none) with|some p=>some (.tup [p.1,p.2])|none=>H1 b
   have old:∀b,b<n->H2 b=H1 b:=fun b hb=>by
    have h1:b≠S:=U0q (U2v hb lz0)
    have h2:¬S+1<=b:=Nat.not_le_of_lt (U2v hb (U2a lz0))
    show(if b=S then _ else _)=_
    rw[if_neg h1,if_neg h2]
   have ext:∀b o,H1 b=some o->H2 b=some o:=fun b o e=>by
    obtain⟨ob,e'⟩:=(I1.hok b o e).obj
    rw[old b (up b ob e')];exact e
   have hpair:∀j p,(xs.zip ys)[j]?=some p->H2 (S+1+j)=some (.tup [p.1,p.2]):=fun j p e=>by
    show(if S+1+j=S then _ else _)=_
    rw[if_neg (by omega),if_pos (by omega),show S+1+j-(S+1)=j by omega,e]
   have hlst:H2 S=some (.lst refs):=by show(if S=S then _ else _)=_;rw[if_pos rfl]
   have fresh:∀b,n<=b->H1 b=none:=fun b hb=>I1.hok.fresh (hn ▸ hb)
   refine⟨.ref S,H2,I1.rE (h':=h2) (d':=s1.drawn) (t':=tk) k2 (hn ▸ old) ext fun b o e e'=>?_,rfl,q S (S+1) H2 (fresh S (U19 lz0)) ext hlst hpair⟩
   by_cases hb:b=S
   .subst hb
    rw[hlst] at e
    cases e
    refine⟨?_,(U12 (xs.zip ys).length).map (fun j=>U17 (b+1+j)),c',?_,hS⟩
    .show((U12 (xs.zip ys).length).map _).length<=_
     rw[U0g,U4p];exact U02 hl (by decide)
    .show Vals ((U12 (xs.zip ys).length).map _) _
     generalize U12 (xs.zip ys).length=r
     induction r with
     |nil=>exact .nil
     |cons j r ih=>exact .cons rfl ih
   .by_cases hb2:S+1<=b
    .obtain⟨j,rfl⟩:∃j,b=S+1+j:=⟨b-(S+1),(Nat.add_sub_cancel' hb2).symm⟩
     cases hz:(xs.zip ys)[j]? with
     |none =>
      have:H2 (S+1+j)=H1 (S+1+j):=by
       show(if S+1+j=S then _ else _)=_
       rw[if_neg hb,if_pos hb2,show S+1+j-(S+1)=j by omega,hz]
      rw[this,e'] at e;cases e
     |some p =>
      rw[hpair j p hz] at e
      cases e
      obtain⟨hj,_⟩:=U0h.mp hz
      obtain⟨x,y,r1,r2,t⟩:=hL j hj
      have z1:=List.getElem?_zip_eq_some.mp hz
      obtain⟨u,hu,ru⟩:=rv1.get z1.1
      obtain⟨v,hv,rv⟩:=rv2.get z1.2
      have g1:its1[j]?=some x:=by simpa using r1
      have g2:its2[j]?=some y:=by simpa using r2
      rw[hu] at g1
      rw[hv] at g2
      have g1':=U0w g1
      have g2':=U0w g2
      rw[g1'] at ru
      rw[g2'] at rv
      exact⟨(by decide:2<=sizeLine),[x,y],.cons ru (.cons rv .nil),⟨_,t,rfl,_,rfl⟩⟩
    .have:H2 b=H1 b:=by
      show(if b=S then _ else _)=_
      rw[if_neg hb,if_neg hb2]
     rw[this,e'] at e;cases e
 cases L with
 |true=>exact call_zip_2 p1 p2 fun h' c1 c2 c3 c4 c5 _ k=>fin h' c1 c2 c3 c4 c5 k
 |false=>exact HT.WL p1 p2 fun h' c1 c2 c3 c4 c5 k=>fin h' c1 c2 c3 c4 c5 k
end
end L2
end
section
namespace VS
open PySem PySem.Spec L2 PyProof.Rows
theorem Uh{Γ:Fr}{μ:Mu}{H:Hp}:∀{as bs:List V} {xs ys:List D} (t0:Nat),VRs Γ μ H as xs->VRs Γ μ H bs ys->(∀j p,(as.zip bs)[j]?=some p->H (t0+j)=some (.tup [p.1,p.2]))->VRs Γ μ H ((U7 t0 (as.zip bs).length).map V.ref) (Eo xs ys)
 |[],_,_,_,_,.nil,_,_=>by simp[Eo];exact .nil
 |_::_,[],_,_,_,.cons _ _,.nil,_=>by simp[Eo];exact .nil
 |a::as,b::bs,_,_,t0,.cons ra rs,.cons rb rt,h=>by
  rw[U47,U0i,List.range'_succ,U00,Eo]
  refine .cons (.tup (h 0 (a,b) rfl) (.cons ra (.cons rb .nil))) (Uh (t0+1) rs rt fun j p hp=>?_)
  have:=h (j+1) p (by simpa using hp)
  rw[show t0+1+j=t0+(j+1) by omega]
  exact this
theorem UJ:∀(xs ys:List D),(Eo xs ys).length=(xs.zip ys).length
 |[],_=>by simp[Eo]
 |_::_,[]=>by simp[Eo]
 |_::xs,_::ys=>by simp[Eo,UJ xs ys]
def Rf(a:Bg):BK:=fun env S=>(a env S).bind fun p=>match p.1 with
 |[x,y]=>(listOf p.2 x).bind fun xs=>(listOf p.2 y).bind fun ys=>if (Eo xs ys).length<=1000000 then some (.lst true (Eo xs ys),p.2) else none
 |_=>none
theorem Z5{X:Cx}{a b:Expr}{f:Bg}{p p2 pos pos2:Pos}(hc:X.calm=true)(ha:JA X [a,b] f)(hg:Gl X "list")(hm:X.mg "list"=none)(hg2:Gl X "zip")(hm2:X.mg "zip"=none)(hs:starEach [a,b] X.env=[(false,eval a X.env),(false,eval b X.env)]:=by rfl)(hs2:starEach [b] X.env=[(false,eval b X.env)]:=by rfl)
  (he2:starEach [.Call (.Name "zip" p2) [a,b] [] pos2] X.env=[(false,eval (.Call (.Name "zip" p2) [a,b] [] pos2) X.env)]:=by rfl):JE X (.Call (.Name "list" p) [.Call (.Name "zip" p2) [a,b] [] pos2] [] pos) (Rf f) :=
 ⟨PE.imp (Yu true hc hg hm hg2 hm2 ha.pa hs hs2 he2) fun σ H Q h=>by
  obtain⟨Γ,μ,env,S,d,S',hK,R,e,q⟩:=h
  obtain⟨⟨ds,S1⟩,e1,e⟩:=bind_some e
  dsimp only at e
  split at e
  .rename_i x y
   obtain⟨xs,e2,e⟩:=bind_some e
   obtain⟨ys,e3,e⟩:=bind_some e
   by_cases hl:(Eo xs ys).length<=1000000
   .rw[if_pos hl] at e;cases e
    refine⟨Γ,μ,env,S,[x,y],_,hK,R,e1,fun vs μ1 H1 x1 R1 r1=>?_⟩
    obtain⟨v,u,rfl,ra,rb⟩:=r1.two
    obtain⟨pa,as,rfl,ha',rx⟩:=VR.list R1 ra e2
    obtain⟨pb,bs,rfl,hb',ry⟩:=VR.list R1 rb e3
    refine⟨pa,pb,as,bs,rfl,ha',hb',?_,fun l t0 H2 hn hx hl2 hp=>?_⟩
    .rw[UJ,U6t,←rx.length,←ry.length] at hl
     rw[U6t];exact hl
    .obtain⟨R2,x2⟩:=R1.grow (show Same H1 H2 from hx)
     have hr:(U12 (as.zip bs).length).map (fun j=>V.ref (t0+j))=(U7 t0 (as.zip bs).length).map V.ref:=by
      rw[List.range'_eq_map_range,U0f];rfl
     exact q _ μ1 H2 (x1.trans x2) R2 (.lst (R1.ok hn true) (R1.dead hn) hl2 (by rw[hr];exact Uh t0 (rx.ext x2) (ry.ext x2) hp))
   .rw[if_neg hl] at e;cases e
  .cases e⟩
theorem XF(a:Bg)(env:VS.Env)(S:Store):VS.Rf a env S=(a env S).bind fun p=>match p.1 with
 |[x,y]=>(listOf p.2 x).bind fun xs=>(listOf p.2 y).bind fun ys=>if (Eo xs ys).length<=1000000 then some (.lst true (Eo xs ys),p.2) else none
 |_=>none:=rfl
end VS
end
section
namespace VS
open PySem PySem.Spec L2
end VS
end
section
namespace HT
open PySem PySem.Spec PyProof PyProof.Rows
end HT
namespace L2
open PySem PySem.Spec PyProof PyProof.Rows
end L2
end
section
namespace VS
open PySem PySem.Spec L2
end VS
end
section
namespace L2
open PySem PySem.Spec PyProof PyProof.Rows
section
variable{X:Cx}
end
end L2
end
section
namespace HT
open PySem PySem.Spec PyProof PyProof.Rows
section
variable{P0:Program}{wd:World}{Ar:Around}{Er:Value->Shared->Prop}{sh:Shared}
variable{J:Addr}{fp wr:List Addr}{n:Nat}{P:Nat->Value->Prop}{St:Nat->Heap->Prop}{Rr:Result->Shared->Prop}{dv:Value}
end
end HT
namespace L2
open PySem PySem.Spec PyProof PyProof.Rows
section
variable{X:Cx}
end
end L2
end
section
namespace VS
open PySem PySem.Spec L2
end VS
end
section
namespace VS
open PySem PySem.Spec L2
end VS
end
section
set_option maxRecDepth 100000
namespace HT
open PySem PySem.Spec PyProof.Rows
section
variable{prog:Program}{w:World}{A:Around}{E:Value->Shared->Prop}{s:Shared}
structure uV(z TI TO i1 i2 i3:Addr)(fp1 fp2 fp3:List Addr):Prop where
 a1:TI≠z
 a2:TO≠z
 a3:TI≠TO
 b1:∀b∈fp1,b≠z/\b≠TO/\b≠i2/\b≠i3
 b2:∀b∈fp2,b≠z/\b≠TO/\b≠i1/\b≠i3
 b3:∀b∈fp3,b≠z/\b≠TO/\b≠i1/\b≠i2
 c1:i1≠z/\i1≠TO/\i1≠TI
 c2:i2≠z/\i2≠TO/\i2≠TI
 c3:i3≠z/\i3≠TO/\i3≠TI
section
variable{z TI TO i1 i2 i3:Addr}{fp1 fp2 fp3:List Addr}{n1 n2 n3 k:Nat}{P1 P2 P3:Nat->Value->Prop}{S1 S2 S3:Nat->Heap->Prop}{a b c:Value}
end
set_option maxHeartbeats 4000000 in
end
end HT
end
section
namespace HT
open PySem PySem.Spec PyProof.Rows
section
variable{prog:Program}{w:World}{A:Around}{E:Value->Shared->Prop}{s:Shared}
end
end HT
namespace L2
open PySem PySem.Spec PyProof.Rows
end L2
end
section
namespace L2
open PySem PySem.Spec PyProof.Rows
section
variable{X:Cx}
end
end L2
end
section
namespace VS
open PySem PySem.Spec L2
section
variable{X:Cx}
end
end VS
end
section
set_option maxRecDepth 100000
namespace L2
open PySem PySem.Spec PyProof.Rows
section
variable{κ:Type}[DecidableEq κ]
end
section
variable{P:Program}{w:World}{H:Hp}{h:Heap}{a:Addr}
end
section
variable{X:Cx}{pins:List (Addr×Obj)}{σ:St}{H:Hp}{s:Shared}{a:Addr}{y v:V}{u r:Value}{o:Option V}{A:Around}{E:Value->Shared->Prop}
end
section
variable{X:Cx}{pins:List (Addr×Obj)}{σ:St}{H:Hp}{s:Shared}{a:Addr}{kvs:List (Key×V)}{k:Key}{u:Value}{A:Around}{E:Value->Shared->Prop}
end
section
variable{X:Cx}{o i e value:Expr}{pos pos' tpos:Pos}{td ty tv:TE}
end
section
variable{X:Cx}{pos:Pos}
end
structure M1(X:Cx)(o:Expr)(m:Str)(apos:Pos)(e:Expr)(cpos:Pos):Prop where
 base:attributeBase o m X.env (eval o X.env)=eval o X.env
 few:((backTo cpos (starEach [e] X.env)).all (fun x=>!x.1)&&(backToKw cpos (keywordEach [] X.env)).all (fun x=>x.1.isSome)
  && decide (([e]:List Expr).length+([]:List Keyword).length+(if ([]:List Keyword).isEmpty then 0 else 1)<30))=true
 line:(apos.endLine==cpos.line)=true
 trees:backTo cpos (starEach [e] X.env)=[(false,eval e X.env)]
structure M2(X:Cx)(o:Expr)(m:Str)(apos:Pos)(e f:Expr)(cpos:Pos):Prop where
 base:attributeBase o m X.env (eval o X.env)=eval o X.env
 few:((backTo cpos (starEach [e,f] X.env)).all (fun x=>!x.1)&&(backToKw cpos (keywordEach [] X.env)).all (fun x=>x.1.isSome)
  && decide (([e,f]:List Expr).length+([]:List Keyword).length+(if ([]:List Keyword).isEmpty then 0 else 1)<30))=true
 line:(apos.endLine==cpos.line)=true
 trees:backTo cpos (starEach [e,f] X.env)=[(false,eval e X.env),(false,eval f X.env)]
section
variable{X:Cx}{pins:List (Addr×Obj)}{σ:St}{H:Hp}{s:Shared}{a:Addr}{y d:V}{u r:Value}{o:Option V}{A:Around}{E:Value->Shared->Prop}
end
section
variable{X:Cx}{o e f:Expr}{apos cpos:Pos}{td ty tx:TE}
end
section
variable{X:Cx}{pins:List (Addr×Obj)}{σ:St}{H:Hp}{s:Shared}{a:Addr}{kvs:List (Key×V)}{A:Around}{E:Value->Shared->Prop}
end
section
variable{X:Cx}{pins:List (Addr×Obj)}{σ:St}{H:Hp}{s:Shared}{a:Addr}{y:V}{u:Value}{A:Around}{E:Value->Shared->Prop}
end
section
variable{X:Cx}
end
section
variable{κ:Type}[DecidableEq κ]
end
end L2
end
section
namespace VS
open PySem PySem.Spec L2
section
variable{Γ:Fr}{μ:Mu}{σ:St}{H:Hp}{env:Env}{S:Store}{v:V}{d:D}
end
section
variable{X:Cx}{o i e f value:Expr}{pos pos' apos cpos:Pos}{fo fi fe fv ft:BK}
end
end VS
end
section
namespace SetP
open PySem PySem.Spec PyProof.Rows
section
variable{prog:Program}{w:World}{K:Type}[DecidableEq K]{knd:KeyKind prog w K}{A:Around}{E:Value->Shared->Prop}{s:Shared}
end
end SetP
namespace L2
open PySem PySem.Spec PyProof.Rows
variable{X:Cx}
end L2
end
section
namespace VS
open PySem PySem.Spec L2
end VS
end
section
set_option maxRecDepth 100000
namespace HT
open PySem PySem.Spec PyProof.Rows
section
variable{prog:Program}{w:World}{K:Type}[DecidableEq K]{knd:KeyKind prog w K}{A:Around}{E:Value->Shared->Prop}{s:Shared}
end
end HT
namespace L2
open PySem PySem.Spec PyProof.Rows
section
variable{X:Cx}{o:Expr}{td:TE}{p pos apos cpos:Pos}
end
end L2
end
section
namespace VS
open PySem PySem.Spec L2
end VS
end
section
namespace Tm
open PySem PyProof.Rows
def kv(p:Keyed):Int:=numOf p.1
def IsI(p:Keyed):Prop:=∃n t q,p=(.int n t,q)
def u0(xs:Array Keyed):Prop:=∀p∈xs.toList,IsI p
section
variable{prog:Program}{w:World}{A:Around}{E:Value->Shared->Prop}{s:Shared}
theorem ZJ{st:SortSt}{x y:Keyed}{Q:Option Bool->SortSt->Prop}(hx:IsI x)(hy:IsI y)(hk:kindOf st=oneType')(h:Q (some (decide (kv x<kv y))) st) :
  wpS (model prog w) A E s (lt' x y) Q st:=by
 obtain⟨a,t,p,rfl⟩:=hx
 obtain⟨b,u,q,rfl⟩:=hy
 rw[lt'_eq]
 refine wpS_bind (wpS_get ?_)
 rw[hk,keyLt'_oneType]
 refine wpS_bind (wpS_lift (U3t (oneLt_int ⟨rfl,?_⟩)))
 exact wpS_pure h
end
end Tm
end
section
namespace Tm
open PySem PyProof.Rows
def srt(l:List Keyed):Prop:=l.Pairwise fun p q=>kv p<=kv q
structure ML(a b out:Array Keyed)(ia ib:Nat):Prop where
 perm:out.toList.Perm (a.toList.take ia++b.toList.take ib)
 sa:srt (out.toList++a.toList.drop ia)
 sb:srt (out.toList++b.toList.drop ib)
structure EqG(st st':SortSt):Prop where
 kind:kindOf st'=kindOf st
 arr:arrOf st'=arrOf st
 pend:pendingOf st'=pendingOf st
 failed:failedOf st'=failedOf st
section
variable{prog:Program}{w:World}{A:Around}{E:Value->Shared->Prop}{s:Shared}
end
end Tm
end
section
namespace Tm
open PySem PyProof.Rows
structure MH(a b out:Array Keyed)(na nb:Nat):Prop where
 perm:out.toList.Perm (a.toList.drop na++b.toList.drop nb)
 sa:srt (a.toList.take na++out.toList.reverse)
 sb:srt (b.toList.take nb++out.toList.reverse)
section
variable{prog:Program}{w:World}{A:Around}{E:Value->Shared->Prop}{s:Shared}
end
end Tm
end
section
namespace Tm
open PySem PyProof.Rows
structure RB(a₀:Array Keyed)(st0:SortSt)(lo:Nat)(st:SortSt):Prop where
 perm:(arrOf st).Perm a₀
 pre:∀i,i<lo->(arrOf st)[i]?=(arrOf st0)[i]?
 kind:kindOf st=oneType'
 failed:failedOf st=none
 pend:pendingOf st=pendingOf st0
structure Keys(a₀:Array Keyed):Prop where
 allI:u0 a₀
 uniq:(a₀.toList.map kv).Nodup
variable{a₀:Array Keyed}{st0:SortSt}{lo:Nat}
section
variable{prog:Program}{w:World}{A:Around}{E:Value->Shared->Prop}{s:Shared}
end
end Tm
end
section
namespace Tm
open PySem PyProof.Rows
theorem laid(s:Nat):∀(l:List Keyed)(n:Nat)(arr:Array Keyed),s+n+l.length<=arr.size->((l.zipIdx n).foldl (fun a q=>a.setIfInBounds (s+q.2) q.1) arr).toList=arr.toList.take (s+n)++l++arr.toList.drop (s+n+l.length)
 |[],n,arr,h=>by simp
 |p::l,n,arr,h=>by
  rw[U0i] at h
  rw[U6m,U4e,laid s l (n+1) _ (by rw[Array.size_setIfInBounds];omega),Array.toList_setIfInBounds]
  have hl:s+n<arr.toList.length:=by rw[U1l];omega
  have e1:(arr.toList.set (s+n) p).take (s+(n+1))=arr.toList.take (s+n)++[p]:=by
   rw[List.set_eq_take_append_cons_drop,if_pos hl,List.append_cons]
   rw[List.take_append_of_le_length (by simp;omega),U5o (by simp;omega)]
  have e2:(arr.toList.set (s+n) p).drop (s+(n+1)+l.length)=arr.toList.drop (s+n+(l.length+1)):=by
   rw[List.drop_set_of_lt (by omega)]
   congr 1
   omega
  rw[e1,e2,U0i]
  simp
section
variable{prog:Program}{w:World}{A:Around}{E:Value->Shared->Prop}{s:Shared}
end
end Tm
end
section
namespace Tm
open PySem PyProof.Rows
def offs:Nat->List (List Keyed)->List (Nat×Nat)
 |_,[]=>[]
 |s,x::xs=>(s,x.length)::offs (s+x.length) xs
structure RI(a₀:Array Keyed)(rest:List Keyed)(lo m:Nat)(st:SortSt):Prop where
 perm:(arrOf st).Perm a₀
 kind:kindOf st=oneType'
 failed:failedOf st=none
 many:(pendingOf st).size=m
 runs:∃xs:List (List Keyed),(arrOf st).toList=xs.flatten++rest/\xs.flatten.length=lo/\(pendingOf st).toList.map (fun e=>(e.1,e.2.1))=offs 0 xs/\∀x∈xs,x≠[]/\srt x
theorem Ou:∀xs:List (List Keyed),(∀x∈xs,x≠[]/\srt x)->xs.length<=xs.flatten.length
 |[],_=>by simp
 |x::xs,h=>by
  have:=Ou xs fun y hy=>h y (U0r _ hy)
  have:=U40.mpr (h x U04).1
  rw[U3j,U0o,U0i]
  omega
section
variable{prog:Program}{w:World}{A:Around}{E:Value->Shared->Prop}{s:Shared}{a₀:Array Keyed}
end
end Tm
end
section
namespace Tm
open PySem PyProof.Rows
section
variable{prog:Program}{w:World}{A:Around}{E:Value->Shared->Prop}{s:Shared}{a₀:Array Keyed}
end
end Tm
end
section
set_option maxRecDepth 100000
namespace SetP
open PySem PyProof.Rows Tm
section
variable{prog:Program}{w:World}{A:Around}{E:Value->Shared->Prop}{s:Shared}
end
end SetP
end
section
namespace L2
open PySem PySem.Spec PyProof.Rows
variable{X:Cx}
end L2
end
section
namespace VS
open PySem PySem.Spec L2
end VS
end
section
namespace L2
open PySem PySem.Spec PyProof.Rows
open PySem.SeqAt PySem.MeetsSeq
open PySem.AutoSeq1 (wpAny_loadPart')
end L2
end
section
namespace VS
open PySem PySem.Spec L2
end VS
end
section
namespace VS
open PySem PySem.Spec L2
structure Oh(P:Program)(w:World)(K:U0a)(mg:Str->Option Value)(base:Heap)(a:Addr)(k:Nat)(sem:Ci):Prop where
 cal:∃ps fd,Dp P w K mg base CX0 k a fd ps (spP K sem ps.length)/\Binds K fd ps []/\U01 K (.ref a)=true/\∀ds r,sem ds=some r->ds.length=ps.length/\Ax r=true
theorem Oh.of{P:Program}{w:World}{K:U0a}{mg:Str->Option Value}{base:Heap}{x:Str}{a:Addr}{k:Nat}{sem:Ci}(c:Cv P w K mg base x k sem)(hm:mg x=some (.ref a)):Oh P w K mg base a k sem:=by
 obtain⟨ps,⟨f,fd,F,b,kp,m⟩,hok⟩:=c.cal
 rw[hm] at m
 cases m
 exact⟨ps,fd,F,b,kp,hok⟩
theorem Oh.mono{P:Program}{w:World}{K:U0a}{mg:Str->Option Value}{base:Heap}{a:Addr}{j k:Nat}{sem:Ci}(c:Oh P w K mg base a j sem)(h:j<=k):Oh P w K mg base a k sem:=by
 obtain⟨ps,fd,F,b,kp,hok⟩:=c.cal
 exact⟨ps,fd,F.mono h,b,kp,hok⟩
abbrev Tab:=Nat->Option (Addr×Ci)
def QC(i:Nat)(tab:Tab)(f:Bg):BK:=fun env S=>match (env[i]?).join with
 |some (.fn a n)=>(match tab n with
  |some t=>if a=t.1 then Bf t.2 f env S else none
  |none=>none)
 |_=>none
section
variable{X:Cx}
theorem oX{a:Addr}{n:Nat}{x:Str}{pos:Pos}(hg:Gl X x)(hm:X.mg x=some (.ref a))(hd:(x==("__debug__":Str))=false:=by decide):JE X (.Name x pos) (eC (.fn a n)) :=
 ⟨fun pins s σ H Q I h=>by
  obtain⟨Γ,μ,env,S,d,S',hK,R,e,q⟩:=h
  cases e
  exact Tf I hg hm ⟨.ref a,H,I,rfl,q _ μ H (Ext.refl _ _) R (.fn a n)⟩ hd⟩
theorem eX{i k k':Nat}{tab:Tab}{x:Str}{e:Expr}{es:List Expr}{f:Bg}{p pos:Pos}(ht:∀n t,tab n=some t->Oh X.prog X.w X.K X.mg X.base t.1 k t.2)(hr:FN k' X.A)(hk:k<=k')(ha:JA X (e::es) f)
  (hN:X.N[i]?=some x:=by rfl) (hv:Vis X.env.scope x:=by first|exact U68 rfl|exact U6n (U68 rfl)|exact U6n (U6n rfl)) (hd:(x==("__debug__":Str))=false:=by decide) (hcd:(x==("__classdict__":Str))=false:=by decide)
  (he:starEach (e::es) X.env=(false,eval e X.env)::starEach es X.env:=by rfl) (hpl:(backTo pos (starEach es X.env)).any (·.1)=false:=by rfl) :
  JE X (.Call (.Name x p) (e::es) [] pos) (QC i tab f):=⟨fun pins s σ H Q I h=>by
 obtain⟨Γ,μ,env,S,d,S',hK,R,e,q⟩:=h
 unfold QC at e
 split at e
 .rename_i a n hj
  split at e
  .rename_i t hT
   by_cases hat:a=t.1
   .rw[if_pos hat] at e
    subst hat
    obtain⟨ps,fd,F,b,kp,hok⟩:=(ht n t hT).cal
    have e1':env[i]?=some (some (.fn t.1 n)):=by
     cases h:env[i]? with
     |none=>rw[h] at hj;cases hj
     |some o=>rw[h] at hj;exact congrArg some hj
    obtain⟨v,h1,h2⟩:=R.vals i _ e1'
    cases h2
    refine U4d (thn ((ZQ hN hv hd hcd) pins s σ H (fun v' H'=>v'=.ref t.1/\H'=H) I ⟨.ref t.1,h1,rfl,rfl⟩) fun u s1 ⟨v',H',I1,r,hv',hH⟩=>?_)
    subst hv' hH
    cases r
    obtain⟨⟨as,S1⟩,e1,e⟩:=bind_some e
    obtain⟨ds,e2,e⟩:=bind_some e
    obtain⟨r,e3,e⟩:=bind_some e
    dsimp only at e e2
    by_cases hc:(Av as||newD r)=true
    .rw[if_pos hc] at e
     cases e
     obtain⟨hl,hp⟩:=hok _ _ e3
     have hA:wpA X.K f σ H' fun vs H1=>spP X.K t.2 ps.length (vs++[]) H1 Q E0:=by
      refine⟨Γ,μ,env,S,as,_,hK,R,e1,fun vs μ1 H1 x1 R1 r1=>?_⟩
      show spP X.K t.2 ps.length (vs++[]) H1 Q E0
      rw[U2y]
      obtain⟨N,rs,cN⟩:=lend hK R1 (m0:=[]) r1 e2 (fun i ds a hs=>⟨hs,fun _=>GX⟩) (fun a z=>by simp at z) (newD d) hc
      refine⟨N,_,d,?_,rs,e3,fun v H' sm rv=>?_⟩
      .rw[rs.length,hl]
      obtain⟨R2,x2⟩:=R1.grow sm
      exact q v μ1 H' (x1.trans x2) R2 (home hK R1 (fun a z=>R2.live z) hp cN rv)
     refine PySem.W.callWith_K (h₀:=X.base) I1.ok.mod.kin kp (thn (ha.pa pos pins s1 σ H' _ I1 hA) fun us s2 ⟨vs,H1,I2,r,q⟩=>⟨I2.kIn,?_⟩) he hpl
     exact ZL (F.mono hk) hr b .nil gF I2 r q
    .rw[if_neg hc] at e;cases e
   .rw[if_neg hat] at e;cases e
  .cases e
 .cases e⟩
end
def gG(S:Store):D->Option D
 |.ref i=>(match S[i]? with|some (some cs)=>if Av cs=true then some (D.lent (Bb cs)) else none|_=>none)
 |_=>none
def Ng(S:Store):List D->Option (List D)
 |[]=>some []
 |d::r=>(if Ax d=true then some (age d) else gG S d).bind fun x=>(Ng S r).map (x::·)
def QD(sem:Ci)(a:Bg):BK:=fun env S=>(a env S).bind fun p=>(Ng p.2 p.1).bind fun ds=>(sem ds).map fun r=>(r,p.2)
theorem gH{Γ:Fr}{μ:Mu}{σ:St}{H:Hp}{env:Env}{S:Store}(R:Rep Γ μ σ H env S):∀{as:List D} {vs:List V} {ds:List D},VRs Γ μ H vs as->Ng S as=some ds->VRs ⟨Γ.K,H,fun a=>¬Cm μ a/\(Γ.N a∨Γ.H0 a=none),[]⟩ [] H vs ds
 |[],_,_,.nil,e=>by rw[Ng] at e;cases e;exact .nil
 |d::as,_,_,.cons r t,e=>by
  rw[Ng] at e
  obtain⟨x,e1,e⟩:=bind_some e
  obtain⟨xs,e2,e⟩:=map_some e
  subst e
  refine .cons ?_ (gH R t e2)
  by_cases hp:Ax d=true
  .rw[if_pos hp] at e1
   cases e1
   exact VR.age (Γ:=Γ) (Γ':=⟨Γ.K,H,fun a=>¬Cm μ a/\(Γ.N a∨Γ.H0 a=none),[]⟩) rfl (fun a n o=>⟨n,o⟩) (fun _ _ _ _=>GX) hp r
  .rw[if_neg hp] at e1
   cases r with
   |@ref i v hi f =>
    unfold gG at e1
    dsimp only at e1
    split at e1
    .rename_i cs hs
     by_cases hc:Av cs=true
     .rw[if_pos hc] at e1
      cases e1
      obtain⟨a,h1,c⟩:=R.sto i cs hs
      obtain⟨f1,f2⟩:=f a h1
      subst f1
      obtain⟨ys,h2,h3⟩:=c.list f2
      exact .lent GX h2 (VRs.age (Γ:=Γ) (Γ':=⟨Γ.K,H,fun a=>¬Cm μ a/\(Γ.N a∨Γ.H0 a=none),[]⟩) rfl (fun a n o=>⟨n,o⟩) (fun _ _ _ _=>GX) hc h3)
     .rw[if_neg hc] at e1;cases e1
    .cases e1
   |_=>cases e1
theorem eY{X:Cx}{x:Str}{k k':Nat}{e:Expr}{es:List Expr}{f:Bg}{p pos:Pos}{sem:Ci}(c:Cv X.prog X.w X.K X.mg X.base x k sem)(hr:FN k' X.A)(hk:k<=k')(hg:Gl X x)(ha:JA X (e::es) f)
  (hdb:(x==("__debug__":Str))=false:=by decide) (he:starEach (e::es) X.env=(false,eval e X.env)::starEach es X.env:=by rfl) (hpl:(backTo pos (starEach es X.env)).any (·.1)=false:=by rfl) :
  JE X (.Call (.Name x p) (e::es) [] pos) (QD sem f):=by
 obtain⟨ps,c,hok⟩:=c.cal
 refine⟨PE.imp (Mx c hr hk hg ha.pa hdb he hpl) fun σ H Q h=>?_⟩
 obtain⟨Γ,μ,env,S,d,S',hK,R,e,q⟩:=h
 obtain⟨⟨as,S1⟩,e1,e⟩:=bind_some e
 obtain⟨ds,e2,e⟩:=bind_some e
 obtain⟨r,e3,e⟩:=map_some e
 cases e
 refine⟨Γ,μ,env,S,as,_,hK,R,e1,fun vs μ1 H1 x1 R1 r1=>?_⟩
 show spP X.K sem ps.length (vs++[]) H1 Q E0
 rw[U2y]
 obtain⟨hl,hp⟩:=hok _ _ e3
 have rs:=gH R1 r1 e2
 rw[hK] at rs
 refine⟨_,_,_,?_,rs,e3,fun v H' sm rv=>?_⟩
 .rw[rs.length,hl]
 obtain⟨R2,x2⟩:=R1.grow sm
 exact q v μ1 H' (x1.trans x2) R2 (home hK R1 (fun a z=>R2.live z) hp (.inr fun a z=>z) rv)
theorem ao(sem:Ci)(a:Bg)(env:VS.Env)(S:Store):QD sem a env S=(a env S).bind fun p=>(Ng p.2 p.1).bind fun ds=>(sem ds).map fun r=>(r,p.2):=rfl
end VS
end
section
namespace VS
def ltS(p q:Int×Int):Bool:=if p.1=q.1 then decide (p.2<q.2) else decide (p.1<q.1)
def ltB:List (Int×Int)->List (Int×Int)->Bool
 |p::r,q::t=>if p=q then ltB r t else ltS p q
 |[],_::_=>true
 |_,[]=>false
def Ml:List (List (Int×Int))->Bool
 |a::b::r=>!ltB b a&&Ml (b::r)
 |_=>true
end VS
namespace Asc
open PySem PySem.W PySem.Calls PyProof.Rows VS
inductive Jt (h:Heap):List Value->List (Int×Int)->Prop
 |nil:Jt h [] []
 |cons {a:Addr} {its:Array Value} {p:Int×Int} {us:List Value} {ps:List (Int×Int)}:IsTup h a its->IntsAre its.toList [p.1,p.2]->Jt h us ps->Jt h (.ref a::us) (p::ps)
inductive JX (h:Heap):List Value->List (List (Int×Int))->Prop
 |nil:JX h [] []
 |cons {a:Addr} {its:Array Value} {b:List (Int×Int)} {us:List Value} {bs:List (List (Int×Int))}:IsTup h a its->Jt h its.toList b->JX h us bs->JX h (.ref a::us) (b::bs)
theorem Vn{h h':Heap}(k:∀b o,o.cls=.type "tuple"->h.get? b=some o->h'.get? b=some o){a:Addr}{its:Array Value}(t:IsTup h a its):IsTup h' a its:=by
 obtain⟨o,e,c,d⟩:=t
 exact⟨o,k a o c e,c,d⟩
theorem Jt.keep{h h':Heap}(k:∀b o,o.cls=.type "tuple"->h.get? b=some o->h'.get? b=some o):∀{us:List Value} {ps:List (Int×Int)},Jt h us ps->Jt h' us ps
 |_,_,.nil=>.nil
 |_,_,.cons t i r=>.cons (Vn k t) i (r.keep k)
theorem JX.keep{h h':Heap}(k:∀b o,o.cls=.type "tuple"->h.get? b=some o->h'.get? b=some o):∀{us:List Value} {bs:List (List (Int×Int))},JX h us bs->JX h' us bs
 |_,_,.nil=>.nil
 |_,_,.cons t i r=>.cons (Vn k t) (i.keep k) (r.keep k)
theorem RX{prog:Program}{w:World}:∀{vs:List Value} {ns:List Int},IntsAre vs ns->ItemsAre (intKind prog w) ns vs
 |_,_,.nil=>.nil
 |_,_,.cons n t r=>.cons (by simp[intKind,Value.isInt]) (RX r)
theorem tU(p q:Int×Int):HT.lexLt [p.1,p.2] [q.1,q.2]=ltS p q:=by
 unfold ltS
 rw[HT.PB,HT.PB,HT.Pg]
 by_cases h:p.1=q.1
 .rw[if_pos h,if_pos h]
  by_cases h2:p.2=q.2
  .rw[if_pos h2,h2];simp
  .rw[if_neg h2]
 .rw[if_neg h,if_neg h]
section
variable{prog:Program}{w:World}{A:Around}{E:Value->Shared->Prop}{s:Shared}
theorem ZX{fin:Bool}{Q:Bool->Shared->Prop}(hu:A.units<cLine):∀{us vs:List Value} {a b:List (Int×Int)} (i:Nat),Jt s.heap us a->Jt s.heap vs b->fin=decide (us.length<vs.length)->Q (ltB a b) s->KatLex prog w A false fin Q (us.zip vs) i s
 |_,_,_,_,i,.nil,.nil,hf,h=>by
  subst hf
  exact h
 |_,_,_,_,i,.nil,.cons _ _ _,hf,h=>by
  subst hf
  exact kat_nil (by
   rw[show decide (([]:List Value).length<(_::_:List Value).length)=true from decide_eq_true (by simp)]
   exact h)
 |_,_,_,_,i,.cons _ _ _,.nil,hf,h=>by
  subst hf
  exact kat_nil h
 |_,_,p::ra,q::rb,i,@Jt.cons _ x ix _ us _ t1 i1 r1,@Jt.cons _ y iy _ vs _ t2 i2 r2,hf,h=>by
  rw[U47]
  refine kat_cons ?_
  obtain⟨o1,e1,c1,n1,d1⟩:=id t1
  obtain⟨o2,e2,c2,n2,d2⟩:=id t2
  refine wpAny_eqBool_tuple (knd:=intKind prog w) hu ⟨o1,ix,n1,e1,c1,d1,RX i1⟩ ⟨o2,iy,n2,e2,c2,d2,RX i2⟩ ?_
  rw[ltB] at h
  by_cases he:p=q
  .subst he
   rw[if_pos rfl] at h
   rw[decide_eq_true rfl]
   exact kat_yes (ZX hu (i+1) r1 r2 (by rw[hf];simp) h)
  .rw[if_neg he] at h
   rw[decide_eq_false (fun z=>he (by
    injection z with z1 z2
    injection z2 with z2 _
    exact Prod.ext z1 z2))]
   refine kat_no ?_
   rw[U6w]
   refine kat_one _ _ (HT.Yz t1 t2 i1 i2 hu ?_)
   rw[tU]
   exact h
theorem oG{x y:Addr}{xs ys:Array Value}{a b:List (Int×Int)}{Q:Bool->Shared->Prop}(hu:A.units<cLine)(tx:IsTup s.heap x xs)(ty:IsTup s.heap y ys)(hx:Jt s.heap xs.toList a)(hy:Jt s.heap ys.toList b)(h:Q (ltB a b) s):wpAny (model prog w) A (keyLt' (tuples' false) (.ref x) (.ref y)) Q E s:=by
 obtain⟨o1,e1,c1,n1,d1⟩:=tx
 obtain⟨o2,e2,c2,n2,d2⟩:=ty
 exact kat_lt e1 d1 e2 d2 (ZX hu 0 hx hy (by simp) h)
theorem Xh{h:Heap}:∀{vs:List Value} {bs:List (List (Int×Int))},JX h vs bs->(∀b∈bs,b≠[])->∃fs,KatTups h vs fs/\fs.length=vs.length/\∀f∈fs,∃a its,f=.ref a/\IsTup h a its
 |_,_,.nil,_=>⟨[],trivial,rfl,fun _ z=>nomatch z⟩
 |_,b::bs,@JX.cons _ a its _ us _ t sg r,hn=>by
  obtain⟨fs,k,hl,hf⟩:=Xh r fun c hc=>hn c (U0r _ hc)
  obtain⟨o,e,c,n,d⟩:=t
  have hb:=hn b U04
  match b,sg,hb with
  |p::ps,sg,_ =>
   generalize hi:its.toList=is at sg
   cases sg with
   |@cons a2 its2 _ us2 _ t2 i2 r2 =>
    refine⟨.ref a2::fs,KatTups.cons e c d ?_ k,by simp[hl],fun f hf'=>?_⟩
    .rw[←U2q,hi];rfl
    .rcases U0t.mp hf' with z|z
     .exact⟨a2,its2,z,t2⟩
     .exact hf f z
theorem dz{vs:List Value}{bs:List (List (Int×Int))}{Q:SortKind->Shared->Prop}(hB:JX s.heap vs bs)(hn:∀b∈bs,b≠[])(h2:0<vs.length)(h:Q (tuples' false) s):wpAny (model prog w) A (keyKind' vs.toArray) Q E s:=by
 obtain⟨fs,k,hl,hf⟩:=Xh hB hn
 refine kat_kind (T:=.type "tuple") k (by omega) (fun v hv=>?_) (by decide) (by
  have:(U2p "tuple" != U2p "tuple")=false:=by decide
  rw[this];exact h)
 obtain⟨a,its,rfl,o,e,c,_⟩:=hf v hv
 have:=(show Looks (model prog w) s.heap (typeOf (.ref a)) o.cls from (Looks.ld e).andThen .now)
 rw[c] at this
 exact this
def Asks(prog:Program)(w:World)(A:Around)(s:Shared)(κ:SortKind)(arr:Array Keyed):Prop :=
 ∀i x y,arr[i+1]?=some x->arr[i]?=some y->∀(Q:Bool->Shared->Prop)(E:Value->Shared->Prop),Q false s->wpAny (model prog w) A (keyLt' κ x.1 y.1) Q E s
theorem WR:∀{vs:List Value} {bs:List (List (Int×Int))} (hu:A.units<cLine),JX s.heap vs bs->Ml bs=true->∀i x y,vs[i+1]?=some x->vs[i]?=some y->∀(Q:Bool->Shared->Prop)(E:Value->Shared->Prop),Q false s->wpAny (model prog w) A (keyLt' (tuples' false) x y) Q E s
 |_,_,hu,.nil,_,i,x,y,hx,hy,Q,E,h=>by simp at hx
 |_,_,hu,.cons _ _ .nil,_,i,x,y,hx,hy,Q,E,h=>by simp at hx
 |_,_::b2::bs,hu,@JX.cons _ a its _ _ _ t sg (@JX.cons _ a2 its2 _ us _ t2 sg2 r),hc,i,x,y,hx,hy,Q,E,h=>by
  rw[Ml,U0x] at hc
  cases i with
  |zero =>
   cases hx
   cases hy
   refine oG hu t2 t sg2 sg ?_
   have:=hc.1
   rw[Bool.not_eq_true'] at this
   rw[this];exact h
  |succ i=>exact WR hu (.cons t2 sg2 r) hc.2 i x y (by simpa using hx) (by simpa using hy) Q E h
variable{κ:SortKind}{arr:Array Keyed}
theorem ZJ{st:SortSt}{i:Nat}{Q:Option Bool->SortSt->Prop}(hk:kindOf st=κ)(ha:arrOf st=arr)(hA:Asks prog w A s κ arr)(hi:i+1<arr.size)(h:Q (some false) st):wpS (model prog w) A E s (ltAt' (i+1) i) Q st:=by
 subst hk ha
 rw[ltAt'_eq]
 refine wpS_bind (wpS_get ?_)
 show wpS _ _ _ _ (do let x ←elem' (arrOf st) (i+1);let y ←elem' (arrOf st) i;lt' x y) Q st
 have e1:(arrOf st)[i+1]?=some (arrOf st)[i+1]:=getElem?_pos ..
 have e2:(arrOf st)[i]?=some (arrOf st)[i]:=getElem?_pos ..
 rw[elem'_eq,elem'_eq,e1,e2]
 refine wpS_bind (wpS_pure (wpS_bind (wpS_pure ?_)))
 rw[lt'_eq]
 refine wpS_bind (wpS_get ?_)
 refine wpS_bind (wpS_lift (U3t (hA i _ _ e1 e2 _ _ ⟨rfl,?_⟩)))
 exact wpS_pure h
theorem gj{st:SortSt}{Q:AscSt->SortSt->Prop}(hk:kindOf st=κ)(ha:arrOf st=arr)(hA:Asks prog w A s κ arr)(h1:1<=arr.size)(h:Q (none,arr.size) st):wpS (model prog w) A E s (ascLoop 1 arr.size) Q st:=by
 unfold ascLoop
 refine wpS_forRange (I:=fun x c st'=>st'=st/\c=(none,x)) ?step ?fin ⟨rfl,rfl⟩
 case fin =>
  rintro c st' ⟨rfl,rfl⟩
  rw[show max 1 arr.size=arr.size by omega]
  exact h
 case step =>
  rintro x c st' hax hxn ⟨rfl,rfl⟩
  dsimp only
  obtain⟨y,rfl⟩:∃y,x=y+1:=⟨x-1,by omega⟩
  refine wpS_bind (ZJ hk ha hA (i:=y) (by omega) ?_)
  simp only[U1s,if_false]
  exact wpS_pure ⟨rfl,rfl⟩
theorem gb{st:SortSt}{Q:Option Nat->SortSt->Prop}(hk:kindOf st=κ)(ha:arrOf st=arr)(hA:Asks prog w A s κ arr)(h1:1<=arr.size)(h:Q (some arr.size) st):wpS (model prog w) A E s (countRun' 0 arr.size) Q st:=by
 rw[countRun0_eq]
 refine wpS_bind (gj hk ha hA h1 ?_)
 dsimp only
 rw[if_pos (by simp)]
 exact wpS_pure h
theorem Uk:∀(f n r:Nat),minRun' f n r<=n+r
 |0,n,r=>U0m _
 |f+1,n,r=>by
  rw[minRun'_succ]
  split
  .exact U0m _
  .have:=Uk f (n/2) (max r (n%2))
   omega
theorem gk{st:SortSt}{Q:Unit->SortSt->Prop}(hk:kindOf st=κ)(ha:arrOf st=arr)(hp:pendingOf st=#[])(hf:failedOf st=none)(hA:Asks prog w A s κ arr)(h2:2<=arr.size)
  (h:∀st',arrOf st'=arr->failedOf st'=none->Q () st'):wpS (model prog w) A E s sortRuns' Q st:=by
 rw[sortRuns'_eq]
 refine wpS_bind (wpS_get ?_)
 dsimp only
 rw[ha]
 have hmr:=Uk arr.size arr.size 0
 generalize minRun' arr.size arr.size 0=mr at hmr
 refine wpS_bind (wpS_mono (wpS_forRange
  (I:=fun x c st'=>(x=0/\c=(none,0)/\st'=st)∨(1<=x/\c=(none,arr.size)/\arrOf st'=arr/\failedOf st'=none/\pendingOf st'=#[(0,arr.size,0)]))
  (Q:=fun c st'=>c=(none,arr.size)/\arrOf st'=arr/\failedOf st'=none/\pendingOf st'=#[(0,arr.size,0)]) ?step ?fin (.inl ⟨rfl,rfl,rfl⟩)) ?post)
 case fin =>
  rintro c st' (⟨hx,_,_⟩|⟨_,hc,hD⟩)
  .omega
  .exact⟨hc,hD⟩
 case step =>
  rintro x c st' _ hx (⟨rfl,rfl,rfl⟩|⟨hx1,rfl,hD⟩)
  .dsimp only
   rw[if_neg (by omega)]
   simp only[Nat.sub_zero,Nat.min_self,Nat.zero_add]
   refine wpS_bind (gb hk ha hA (by omega) ?_)
   dsimp only
   rw[if_neg (by omega)]
   refine wpS_bind (wpS_get ?_)
   have hb:(pendingOf st').back?=none:=by rw[hp];rfl
   rw[hb]
   dsimp only
   exact wpS_bind (wpS_modify (wpS_pure (.inr ⟨by omega,rfl,ha,hf,by show(pendingOf st').push _=_;rw[hp];rfl⟩)))
  .dsimp only
   rw[if_pos (U0m _)]
   exact wpS_pure ⟨rfl,hD⟩
 case post =>
  rintro c st' ⟨rfl,hD⟩
  dsimp only
  refine wpS_bind (wpS_mono (wpS_forRange (I:=fun _ c st''=>st''=st'/\c=(none,())) (Q:=fun c st''=>st''=st'/\c=(none,())) ?_ (fun _ _ hh=>hh) ⟨rfl,rfl⟩) ?_)
  .rintro x c st'' _ _ ⟨rfl,rfl⟩
   refine wpS_bind (wpS_get ?_)
   rw[if_pos (by rw[hD.2.2];exact U0m 1)]
   exact wpS_pure ⟨rfl,rfl⟩
  .rintro c st'' ⟨rfl,rfl⟩
   exact wpS_pure (h _ hD.1 hD.2.1)
theorem lJ(vs:List Value):(pairsOf vs).map (·.2)=vs.toArray:=by
 apply Array.toList_inj.mp
 rw[Array.toList_map,pairsOf_toList,List.map_snd_zip (U0m _)]
theorem ZF{vs:List Value}(h:∀i x y,vs[i+1]?=some x->vs[i]?=some y->∀(Q:Bool->Shared->Prop)(E:Value->Shared->Prop),Q false s->wpAny (model prog w) A (keyLt' κ x y) Q E s):Asks prog w A s κ (pairsOf vs):=by
 intro i x y hx hy Q E q
 have g:∀{j:Nat} {z:Keyed},(pairsOf vs)[j]?=some z->vs[j]?=some z.1:=fun {j z} e=>by
  rw[←U2q,pairsOf_toList,List.getElem?_zip_eq_some] at e
  exact e.1
 exact h i x.1 y.1 (g hx) (g hy) Q E q
theorem V8{a:Addr}{vs:List Value}{bs:List (List (Int×Int))}{n:Nat}{P:Fin->Shared->Prop}(ho:s.heap.get? a=some (seqObj "list" vs.toArray n))(hB:JX s.heap vs bs)(hn:∀b∈bs,b≠[])(hc:Ml bs=true)(hu:A.units<cLine)(hl:vs.length<=sizeLine)
  (h:P (.done (.ret .none)) { s with heap:=sortedHeap s.heap a vs vs.toArray }) :
  wpAny (model prog w) A (Builtin.«list.sort» ⟨[.ref a],[]⟩) P E s:=by
 have lt:=U0k ho
 rw[list_sort_plain]
 refine U0 (listItems_at ho rfl (U0 (listUpdate_at ho rfl ?_ (hsz:=by rw[U0j];omega))))
 obtain⟨e1,o1⟩:∃e1,(s.heap.update a (U1e fun _=>#[])).get? a=some (seqObj "list" #[] e1):=⟨_,get?_update_seq ho (fun _=>#[])⟩
 refine U0 (seqEpoch_at o1 rfl (U0 (U60 (U0 (wpAny_newList (U1z ?_))) (by simpa using hl))))
 have o2:(((s.heap.update a (U1e fun _=>#[])).push (seqObj "tuple" vs.toArray 0)).push (seqObj "list" #[] 0)).get? a=some (seqObj "list" #[] e1) :=
  U0b _ (U0b _ o1)
 have B2:JX (((s.heap.update a (U1e fun _=>#[])).push (seqObj "tuple" vs.toArray 0)).push (seqObj "list" #[] 0)) vs bs:=hB.keep fun b o c e=>by
  have hne:b≠a:=fun z=>by
   rw[z,ho] at e
   cases e
   exact absurd (show U2p "list"=U2p "tuple" from c) (by decide)
  exact U0b _ (U0b _ ((U1a _ _ (U1j hne)).trans e))
 show wpAny (model prog w) A _ P E { s with heap:=((s.heap.update a (U1e fun _=>#[])).push (seqObj "tuple" vs.toArray 0)).push (seqObj "list" #[] 0) }
 dsimp only
 by_cases h2:vs.toArray.size<2
 .rw[if_pos h2,if_pos h2]
  refine U0 (U0c ?_)
  rw[StateT.run_pure]
  refine U0 (U0c ?_)
  dsimp only
  have hout:(arrOf (SortSt.mk' general' (vs.toArray.zip vs.toArray) #[] 7 none)).map (·.2)=vs.toArray:=lJ vs
  rw[hout]
  refine U0 (seqEpoch_at o2 rfl ?_)
  refine U0 (listUpdate_at o2 rfl ?_ (hsz2:=by rw[U0j];omega))
  simp only[bne_self_eq_false,U1s,if_false]
  exact U0c h
 .rw[if_neg h2,if_neg h2]
  have h2':2<=vs.length:=by rw[U0j] at h2;omega
  refine U0 (dz (s:={ s with heap:=((s.heap.update a (U1e fun _=>#[])).push (seqObj "tuple" vs.toArray 0)).push (seqObj "list" #[] 0) }) B2 hn (by omega) ?_)
  refine U0 (U4t (gk (s:={ s with heap:=((s.heap.update a (U1e fun _=>#[])).push (seqObj "tuple" vs.toArray 0)).push (seqObj "list" #[] 0) }) (κ:=tuples' false) (arr:=pairsOf vs) (st:=SortSt.mk' (tuples' false) (vs.toArray.zip vs.toArray) #[] 7 none)
   (Q:=fun _ st'=>arrOf st'=pairsOf vs/\failedOf st'=none) rfl rfl rfl rfl (ZF (WR hu B2 hc)) (by rw[pairsOf_size];exact h2') fun st' a1 a2=>⟨a1,a2⟩) ?_ fun _ _ e=>e)
  rintro⟨⟨⟩,st'⟩ s' ⟨rfl,hp,hf⟩
  dsimp only
  rw[hp,lJ]
  refine U0 (seqEpoch_at o2 rfl (U0 (listUpdate_at o2 rfl ?_ (hsz2:=by rw[U0j];omega))))
  rw[hf]
  simp only[bne_self_eq_false,U1s,if_false]
  exact U0c h
theorem Yp{l:Addr}{vs:List Value}{bs:List (List (Int×Int))}{Q:Value->Shared->Prop}(hl:s.heap.IsList l vs.toArray)(hB:JX s.heap vs bs)(hn:∀b∈bs,b≠[])(hc:Ml bs=true)(hu:A.units+8<cLine)(hz:vs.length<=sizeLine)
  (h:∀h' l' n,(∀b o,s.heap.get? b=some o->h'.get? b=some o)->(∀b o,s.heap.get? b=some o->b<l')->h'.get? l'=some (seqObj "list" vs.toArray n)->Q (.ref l') { s with heap:=h' }) :
  wpAny (model prog w) A (call (.builtin "sorted") [.ref l]) Q E s:=by
 refine Calls.call_function_entry kind_sorted plain_sorted entry_sorted (args_sorted1 _) ?_
 unfold Builtin.«sorted»
 refine U0 (m:=checkCount "sorted" 1 1 _) (U0c ?_)
 refine U0 (collect_list hl ?_ hz)
 refine U0 (wpAny_newList ?_ (by simpa using hz))
 have hsz:((s.heap.push (seqObj "list" #[] 0)).update s.heap.objs.size (U1e (·++vs.toArray))).objs.size=s.heap.objs.size+1:=by
  rw[Heap.size_update,size_push']
 have hoL:(((s.heap.push (seqObj "list" #[] 0)).update s.heap.objs.size (U1e (·++vs.toArray))).push (seqObj "list" vs.toArray 0)).get? (s.heap.objs.size+1)=some (seqObj "list" vs.toArray 0):=by
  rw[←hsz];exact U0p _ rfl
 have keep:∀b o,s.heap.get? b=some o->(((s.heap.push (seqObj "list" #[] 0)).update s.heap.objs.size (U1e (·++vs.toArray))).push (seqObj "list" vs.toArray 0)).get? b=some o:=fun b o q=>by
  have hlt:b<s.heap.objs.size:=U0k q
  rw[Heap.get?_push_ne _ _ _ (by rw[hsz];exact U0q (U2a hlt)),Heap.get?_update_ne _ _ _ _ (U0q hlt),Heap.get?_push_ne _ _ _ (U0q hlt)]
  exact q
 show wpAny _ _ _ _ _ { s with heap:=((s.heap.push (seqObj "list" #[] 0)).update s.heap.objs.size (U1e (·++vs.toArray))).push (seqObj "list" vs.toArray 0) }
 rw[hsz]
 refine U0 (U1z (U1w slot_list_sort ⟨_,hoL,rfl⟩ entry_list_sort (V8 (s:={ s with heap:=((s.heap.push (seqObj "list" #[] 0)).update s.heap.objs.size (U1e (·++vs.toArray))).push (seqObj "list" vs.toArray 0) }) hoL (hB.keep fun b o _ e=>keep b o e) hn hc (by show A.units+1+1<cLine;omega) hz ⟨_,rfl,?_⟩) (args_list_sort _)))
 refine U0c ⟨_,rfl,?_⟩
 have old:∀b o,s.heap.get? b=some o->b<s.heap.objs.size+1:=fun b o e=>U2a (U0k e)
 obtain⟨n',e'⟩:=SetP.Nt (out:=vs.toArray) hoL
 exact h _ _ n' (fun b o e=>SetP.NQ (U0q (old b o e)) (keep b o e)) old e'
end
end Asc
namespace L2
open PySem PySem.Spec PyProof.Rows VS
inductive Ni (K:U0a) (H:Hp):List V->List (Int×Int)->Prop
 |nil:Ni K H [] []
 |cons {a:Addr} {p:Int×Int} {us:List V} {ps:List (Int×Int)}:SqT K H a [.int p.1,.int p.2]->Ni K H us ps->Ni K H (.ref a::us) (p::ps)
inductive Nj (K:U0a) (H:Hp):List V->List (List (Int×Int))->Prop
 |nil:Nj K H [] []
 |cons {a:Addr} {xs:List V} {b:List (Int×Int)} {us:List V} {bs:List (List (Int×Int))}:SqT K H a xs->Ni K H xs b->Nj K H us bs->Nj K H (.ref a::us) (b::bs)
variable{X:Cx}
theorem Ni.heap{pins:List (Addr×Obj)}{σ:St}{H:Hp}{s:Shared}(I:Inv X pins σ H s):∀{us:List V} {ps:List (Int×Int)} {vs:List Value},Ni X.K H us ps->Vals us vs->Asc.Jt s.heap vs ps
 |_,_,_,.nil,.nil=>.nil
 |_,_,_,@Ni.cons _ _ a p _ _ t r,.cons rv rvs=>by
  cases rv
  obtain⟨its,r1,p1,_⟩:=I.tuple t
  have i1:IntsAre its.toArray.toList [p.1,p.2]:=intsAre_of (ns:=[p.1,p.2]) r1
  exact .cons p1 i1 (r.heap I rvs)
theorem Nj.heap{pins:List (Addr×Obj)}{σ:St}{H:Hp}{s:Shared}(I:Inv X pins σ H s):∀{us:List V} {bs:List (List (Int×Int))} {vs:List Value},Nj X.K H us bs->Vals us vs->Asc.JX s.heap vs bs
 |_,_,_,.nil,.nil=>.nil
 |_,_,_,@Nj.cons _ _ a xs _ _ _ t sg r,.cons rv rvs=>by
  cases rv
  obtain⟨its,r1,p1,_⟩:=I.tuple t
  exact .cons p1 (sg.heap I r1) (r.heap I rvs)
theorem Wk{k:Nat}(hr:FN k X.A):Dr X (.builtin "sorted") (fun xs H Q=>∃(a:Addr)(us:List V)(bs:List (List (Int×Int))),xs=[.ref a]/\SqL X.K H a us/\Nj X.K H us bs/\(∀b∈bs,b≠[])/\Ml bs=true /\
  ∀(l:Addr),H l=none->Q (.ref l) (upd H l (.lst us))):=by
 intro pins s σ H xs us0 Q I r h
 obtain⟨a,us,bs,rfl,ha,hB,hn,hc,q⟩:=h
 obtain⟨u,rfl,rx⟩:=vals1 r
 cases rx
 obtain⟨its,rv,ht,hz⟩:=I.list ha
 have hlen:=rv.length
 refine Asc.Yp ht.isList (hB.heap I rv) hn hc (by have:=hr.un;omega) (by rw[←hlen];exact hz) fun h' l n k hb e=>?_
 have hn':s.heap.get? l=none:=by
  cases q:s.heap.get? l with
  |none=>rfl
  |some o=>exact absurd (hb l o q) (U28 _)
 have hsy:sysModules≠l:=by
  obtain⟨o,_,_,e,_⟩:=I.ok.mod.glob
  exact U0q (U2v (by decide:(1:Nat)<3) (hb _ _ (I.bk _ _ e)))
 exact⟨.ref l,_,I.laidN (d':=s.drawn) (t':=s.toks) (o:=.lst us) k hn' hsy ⟨hz,its,n,rv,e⟩,rfl,q l (I.Tc hn')⟩
end L2
end
section
namespace VS
open PySem PySem.Spec L2
def unS:D->Option (Int×Int)
 |.tup [.int a,.int b]=>some (a,b)
 |_=>none
def R8:List D->Option (List (Int×Int))
 |[]=>some []
 |d::r=>(unS d).bind fun p=>(R8 r).map (p::·)
def unB:D->Option (List (Int×Int))
 |.tup ds=>R8 ds
 |_=>none
def R9:List D->Option (List (List (Int×Int)))
 |[]=>some []
 |d::r=>(unB d).bind fun p=>(R9 r).map (p::·)
def Q9(a:BK):BK:=fun env S=>(a env S).bind fun p=>(listOf p.2 p.1).bind fun ds=>(R9 ds).bind fun bs=>if (bs.all (fun b=>!b.isEmpty)&&Ml bs&&decide (ds.length<1000000))=true then some (.lst true ds,p.2) else none
theorem Xp{K:U0a}{Γ:Fr}{μ:Mu}{H:Hp}:∀{ds:List D} {vs:List V} {ps:List (Int×Int)},VRs Γ μ H vs ds->R8 ds=some ps->Ni K H vs ps
 |[],_,_,.nil,e=>by
  cases e
  exact .nil
 |d::ds,_,_,.cons r rs,e=>by
  rw[R8] at e
  obtain⟨p,e1,e⟩:=bind_some e
  obtain⟨qs,e2,rfl⟩:=map_some e
  unfold unS at e1
  split at e1
  .rename_i a b
   cases e1
   cases r with
   |@tup x xs _ hp rp =>
    have:=VRs.Oj (ns:=[a,b]) rp
    subst this
    exact .cons (SqT.of hp) (Xp rs e2)
  .cases e1
theorem YG{K:U0a}{Γ:Fr}{μ:Mu}{H:Hp}:∀{ds:List D} {vs:List V} {bs:List (List (Int×Int))},VRs Γ μ H vs ds->R9 ds=some bs->Nj K H vs bs
 |[],_,_,.nil,e=>by
  cases e
  exact .nil
 |d::ds,_,_,.cons r rs,e=>by
  rw[R9] at e
  obtain⟨p,e1,e⟩:=bind_some e
  obtain⟨qs,e2,rfl⟩:=map_some e
  unfold unB at e1
  split at e1
  .cases r with
   |@tup x xs _ hp rp=>exact .cons (SqT.of hp) (Xp rp e1) (YG rs e2)
  .cases e1
theorem eN{X:Cx}{a:Expr}{f:BK}{k:Nat}{p pos:Pos}(hc:X.calm=true)(hr:FN k X.A)(hg:Gl X "sorted")(hm:X.mg "sorted"=none)(ha:JE X a f)(he:starEach [a] X.env=[(false,eval a X.env)]:=by rfl):JE X (.Call (.Name "sorted" p) [a] [] pos) (Q9 f):=
 ⟨PE.imp (RT (Wk hr) hg hm Uu (OJ ha.pe Q5 he) (he:=he) (hpl:=rfl)) fun σ H Q h=>by
  obtain⟨Γ,μ,env,S,d,S',hK,R,e,q⟩:=h
  obtain⟨⟨y,S1⟩,e1,e⟩:=bind_some e
  obtain⟨ds,e2,e⟩:=bind_some e
  obtain⟨bs,e3,e⟩:=bind_some e
  by_cases hl:(bs.all (fun b=>!b.isEmpty)&&Ml bs&&decide (ds.length<1000000))=true
  .rw[if_pos hl] at e
   cases e
   rw[U0x,U0x] at hl
   refine⟨Γ,μ,env,S,y,_,hK,R,e1,fun v1 μ1 H1 x1 R1 r1=>?_⟩
   obtain⟨b,xs,rfl,hb,rb⟩:=VR.list R1 r1 e2
   refine⟨b,xs,bs,rfl,SqL.of hb,YG rb e3,fun c hc=>?_,hl.1.2,fun l hl'=>?_⟩
   .have:=U14.mp hl.1.1 c hc
    intro z
    rw[z] at this
    cases this
   .obtain⟨R3,x3⟩:=R1.grow (Di hl' (.lst xs))
    exact q _ μ1 _ (x1.trans x3) R3 (.lst (R1.ok hl' true) (R1.dead hl') CZ (rb.ext x3))
  .rw[if_neg hl] at e;cases e⟩
theorem ak(a:BK)(env:VS.Env)(S:Store):Q9 a env S=(a env S).bind fun p=>(listOf p.2 p.1).bind fun ds=>(R9 ds).bind fun bs=>if (bs.all (fun b=>!b.isEmpty)&&Ml bs&&decide (ds.length<1000000))=true then some (.lst true ds,p.2) else none:=rfl
end VS
end
section
namespace VS
def inS(p:St2)(x:Int):Bool:=decide (p.1<=x)&&decide (x<p.2)
def steps(E:List Int):List St2:=E.zip E.tail
theorem Yo(a b:Int)(r:List Int):steps (a::b::r)=(a,b)::steps (b::r):=rfl
theorem QG:∀{E:List Int},E.Pairwise (·<·)->∀p∈steps E,p.1<p.2/\p.1∈E/\p.2∈E/\∀e∈E,e<=p.1∨p.2<=e
 |[],_,p,h=>by simp[steps] at h
 |[a],_,p,h=>by simp[steps] at h
 |a::b::r,hp,p,h=>by
  have hab:=(U2k.mp hp).1
  have ht:=(U2k.mp hp).2
  rw[Yo] at h
  rcases U0t.mp h with z|z
  .subst z
   refine⟨hab b U04,by simp,by simp,fun e he=>?_⟩
   rcases U0t.mp he with q|q
   .left;show e<=a;omega
   .right
    show b<=e
    rcases U0t.mp q with q|q
    .omega
    .exact U67 ((U2k.mp ht).1 e q)
  .obtain⟨h1,h2,h3,h4⟩:=QG ht p z
   refine⟨h1,U0r _ h2,U0r _ h3,fun e he=>?_⟩
   rcases U0t.mp he with q|q
   .left;rw[q];exact U67 (hab _ h2)
   .exact h4 e q
theorem Ub{ns:List Int}{x:Int}:x∈Ea ns↔x∈ns:=(U3l _ _).mem_iff.trans ((SetP.Ji ns).2.2 x)
theorem Yr(ns:List Int):(Ea ns).Pairwise (·<·):=by
 obtain⟨o1,o2,o3⟩:=SetP.Ji ns
 have hp:(Ea ns).Perm (SetP.once ns):=U3l _ _
 have hs:(Ea ns).Pairwise (·<=·):=by
  have:=U5h (le:=fun a b:Int=>decide (a<=b)) (by intro a b c h1 h2;simp at *;omega) (by intro a b;simp;omega) (SetP.once ns)
  exact this.imp fun h=>by simpa using h
 exact(hs.and (hp.nodup_iff.mpr o1)).imp fun⟨h,n⟩=>by omega
theorem Zr(ns:List Int):(Ea ns).length<=ns.length:=by
 obtain⟨o1,o2,o3⟩:=SetP.Ji ns
 have hp:(Ea ns).Perm (SetP.once ns):=U3l _ _
 rw[hp.length_eq];omega
end VS
end
section
namespace VS
end VS
end
section
namespace VS
def S1(vs:List St2):Int:=((steps (Ea (vs.map (fun p=>p.1)++vs.map fun p=>p.2))).map fun p=>(p.2-p.1)*(if vs.any (fun v=>inS v p.1) then 1 else 0)).sum
end VS
end
section
namespace VS
structure Norm(l:List St2):Prop where
 pos:∀p∈l,p.1<p.2
 far:l.Pairwise fun p q=>p.2<q.1
structure Asc(l:List St2):Prop where
 pos:∀p∈l,p.1<p.2
 up:l.Pairwise fun p q=>p.2<=q.1
end VS
end
section
namespace VS
open PySem L2
def cnt(ps:List St2)(x:Int):Int:=(ps.map fun p=>if inS p x=true then (1:Int) else 0).sum
end VS
end
section
namespace W38
open PySem L2 VS
def Sw:Bl :=
 (DQ (Pr (eCB Gw (Aa (Ac 0) (Aa (eC (.ty "int")) Af))) (YQ (eCB Gw (Aa (Ac 0) (Aa (eC (.ty "bool")) Af))))))
def Fp:Ci:=G6 1 1 Sw
def Sx:Bl :=
 (DQ (Pr (Bf Fp (Aa (Ac 0) Af)) (eUn (VJ Bc.D3) (Ac 0))))
def FW:Ci:=G6 1 1 Sx
def Qg:Bl :=
 (Bh (sIf (tOr (Hq (Bt (eCB Gw (Aa (Ac 0) (Aa (eC (.ty "tuple")) Af))))) (Bt (eOp (oEq true) (eCB DR (Aa (Ac 0) Af)) (eC (.int 2)))))
  (DQ (eC (.bl false)))
  Ep)
  (DQ (Pr (Bf Fp (Aa (eOp oIx (Ac 0) (eC (.int 0))) Af)) (Pr (Bf Fp (Aa (eOp oIx (Ac 0) (eC (.int 1))) Af)) (eOp oLt (eOp oIx (Ac 0) (eC (.int 0))) (eOp oIx (Ac 0) (eC (.int 1))))))))
def Gj:Ci:=G6 1 1 Qg
def QM:Bg :=
 Dl 1 [] (Ei (Ac 1)) (Pat.sem (.nm 0)) Fw (Bf Gj (Aa (Ac 0) Af))
def W7:Bl :=
 (Bh (sIf (tOr (Hq (Bt (Bf FW (Aa (Ac 0) Af)))) (tOr (Hq (Bt (eCB Gw (Aa (Ac 1) (Aa (eC (.ty "tuple")) Af))))) (Bt (eOp (oEq true) (eCB DR (Aa (Ac 1) Af)) (Ac 0)))))
  (DQ (eC (.bl false)))
  Ep)
  (DQ (eCB Mj (Aa (Bp QM) Af))))
def J8:Ci:=G6 2 2 W7
def PK:Bg :=
 Dl 1 [1] (Ei (Ac 2)) (Pat.sem (.nm 0)) Fw (Bf J8 (Aa (Ac 1) (Aa (Ac 0) Af)))
def Uo:Bl :=
 (Bh (sIf (tOr (Hq (Bt (eCB Gw (Aa (Ac 0) (Aa (eC (.ty "tuple")) Af))))) (Bt (eOp (oEq true) (eCB DR (Aa (Ac 0) Af)) (eC (.int 2)))))
  (DQ (eC (.bl false)))
  Ep)
  (Bh (Cd 1 (eOp oIx (Ac 0) (eC (.int 0))))
  (Bh (Cd 2 (eOp oIx (Ac 0) (eC (.int 1))))
  (Bh (sIf (tOr (Hq (Bt (Bf FW (Aa (Ac 1) Af)))) (tOr (Hq (Bt (eCB Gw (Aa (Ac 2) (Aa (eC (.ty "list")) Af))))) (Bt (eOp oGt (eCB DR (Aa (Ac 2) Af)) (eUn (S7 Bc.D3) (Ac 1))))))
  (DQ (eC (.bl false)))
  Ep)
  (DQ (eCB Mj (Aa (Bp PK) Af)))))))
def IV:Ci:=G6 1 3 Uo
def Qx:Bl :=
 (sIf (Hq (Bt (Bf IV (Aa (Ac 0) Af))))
  Ve
  Ep)
def GZ:Ci:=G6 1 1 Qx
def Lr:Bg :=
 Dl 1 [1] (Ei (Ac 0)) (Pat.sem (.nm 0)) Fw (eOp oIx (eOp oIx (Ac 0) (Ac 1)) (eC (.int 0)))
def Lq:Bg :=
 Dl 1 [1] (Ei (Ac 0)) (Pat.sem (.nm 0)) Fw (eOp oIx (eOp oIx (Ac 0) (Ac 1)) (eC (.int 1)))
def Qh:Bl :=
 (DQ (Jj (eOp Bm (Bp Lr) (Bp Lq))))
def G3:Ci:=G6 2 2 Qh
def Lk:Bl :=
 (Bh (Cd 2 (Bf G3 (Aa (Ac 0) (Aa (Ac 1) Af))))
  (DQ (Rf (Aa (Ac 2) (Aa (eSl oSl (Ac 2) (G9 (eC (.int 1))) GC) Af)))))
def Dq:Ci:=G6 2 3 Lk
def K8:Bg :=
 Dl 1 [1,2] (Ei (Ac 0)) (Pat.sem (.nm 0)) (Bt (QB oLe oLt (eOp oIx (eOp oIx (Ac 0) (Ac 1)) (eC (.int 0))) (Ac 2) (eOp oIx (eOp oIx (Ac 0) (Ac 1)) (eC (.int 1))))) (Ac 0)
def NP:Bg :=
 Dl 1 [1] (Ei (Ac 3)) (Pat.sem (.nm 0)) Fw (eOp Bm (eSl oSl (Ac 0) GC (G9 (Ac 1))) (eSl oSl (Ac 0) (G9 (eOp Bm (Ac 1) (eC (.int 1)))) GC))
def Qz:Bl :=
 (Bh (Cd 3 (Bp K8))
  (DQ (Bp NP)))
def Ed:Ci:=G6 3 4 Qz
def Ih:Bl :=
 (sIf (Mg (Bt (eOp oGt (eCB DR (Aa (Ac 1) Af)) (eC (.int 0)))) (Mg (Bt (eOp (oEq false) (eOp oIx (eOp oIx (Ac 1) (eUn Fx (eC (.int 1)))) (eC (.int 1))) (Ac 2))) (Bt (eOp (oEq false) (eOp oIx (eOp oIx (Ac 1) (eUn Fx (eC (.int 1)))) (eC (.int 2))) (Ac 4)))))
  (Mq (Bo (Aa (eOp oIx (eOp oIx (Ac 1) (eUn Fx (eC (.int 1)))) (eC (.int 0))) (Aa (Ac 3) (Aa (Ac 4) Af)))) (Ac 1) (eUn Fx (eC (.int 1))))
  (JR (Gs Gi (Ac 1) (Aa (Bo (Aa (Ac 2) (Aa (Ac 3) (Aa (Ac 4) Af)))) Af))))
def K9:Bl :=
 Ny (Ei (Ac 0)) (Pat.sem (.tp [(.nm 2),(.nm 3),(.nm 4)]))
  Ih
def Od:Bl :=
 (Bh (Cd 1 (Jr Af))
  (Bh K9
  (DQ (Ac 1))))
def Eu:Ci:=G6 1 5 Od
def Z8:Bl :=
 (DQ (Ac 0))
def Hj:Ci:=G6 2 2 Z8
def Ru(fa:Nat->Addr):Tab
 |0=>some (fa 0,Hj)
 |_=>none
def Kh(fa:Nat->Addr)(rec:Ci):Bl :=
 (Bh (Cd 7 (Bf rec (Aa (Ac 0) (Aa (Bf Ed (Aa (Ac 1) (Aa (eC (.int 0)) (Aa (Ac 5) Af)))) (Aa (Bf Ed (Aa (Ac 2) (Aa (eC (.int 0)) (Aa (Ac 5) Af)))) (Aa (eOp Fe (Ac 3) (eC (.int 1))) Af))))))
  (JR (Gs Gi (Ac 4) (Aa (Bo (Aa (Ac 5) (Aa (Ac 6) (Aa (Ac 7) Af)))) Af))))
def Ke(fa:Nat->Addr)(rec:Ci):Bl :=
 Ny (Ei (Bf Dq (Aa (eOp Bm (Ac 1) (Ac 2)) (Aa (eC (.int 0)) Af)))) (Pat.sem (.tp [(.nm 5),(.nm 6)]))
  (Kh fa rec)
def Kf(fa:Nat->Addr)(rec:Ci):Bg :=
 Dl 1 [5,6] (Ei (Ac 7)) (Pat.sem (.nm 0)) Fw (eOp Bm (Bo (Aa (Bo (Aa (Ac 1) (Aa (Ac 2) Af))) Af)) (Ac 0))
def Kg(fa:Nat->Addr)(rec:Ci):Bl :=
 (JR (Gs M9 (Ac 8) (Aa (Bp (Kf fa rec)) Af)))
def Kd(fa:Nat->Addr)(rec:Ci):Bl :=
 Ny (Ei (QD Eu (Aa (Ac 4) Af))) (Pat.sem (.tp [(.nm 5),(.nm 6),(.nm 7)]))
  (Kg fa rec)
def Ln(fa:Nat->Addr)(rec:Ci):Bl :=
 (Bh (sIf (Bt (eOp (oEq false) (Ac 3) (eC (.int 0))))
  (DQ (eIf (Bt (QC 0 (Ru fa) (Aa (eOp oGt (eCB DR (Aa (Ac 1) Af)) (eC (.int 0))) (Aa (eOp oGt (eCB DR (Aa (Ac 2) Af)) (eC (.int 0))) Af)))) (Bp (Aa (Bo Af) Af)) (Bp Af)))
  Ep)
  (Bh (Cd 4 (Jr Af))
  (Bh (Ke fa rec)
  (Bh (Cd 8 (Jr Af))
  (Bh (Kd fa rec)
  (DQ (Ac 8)))))))
def Bk(fa:Nat->Addr):Nat->Ci
 |0=>fun _=>none
 |n+1=>G6 4 9 (Ln fa (Bk fa n))
def Qf(fa:Nat->Addr):Bl :=
 (Bh (JR (Bf GZ (Aa (Ac 0) Af)))
  (DQ (Bf (Bk fa 4) (Aa (eC (.fn (fa 0) 0)) (Aa (eOp oIx (Ac 0) (eC (.int 1))) (Aa (Bp Af) (Aa (eOp oIx (Ac 0) (eC (.int 0))) Af)))))))
def DN(fa:Nat->Addr):Ci:=G6 1 1 (Qf fa)
def Sv:Bl :=
 (Bh (sIf (Bt (eOp oGe (Ac 0) (eOp Ge (eC (.int 10)) (eC (.int 18)))))
  (DQ (Bp (Aa (Ac 0) (Aa (eOp oMod (Ac 0) (eC (.int 2147483629))) Af))))
  Ep)
  (DQ (Bp (Aa (eC (.int 0)) (Aa (eOp oMod (Ac 0) (eC (.int 2147483629))) Af)))))
def Gq:Ci:=G6 1 1 Sv
def PN:Bl :=
 (Bh (sIf (Bt (eOp oGt (eOp oIx (Ac 0) (eC (.int 0))) (eC (.int 0))))
  (Bh (Cd 2 (eOp oMod (eOp oIx (Ac 0) (eC (.int 0))) (Ac 1)))
  (Bh (Mq (eOp oDiv (eOp oIx (Ac 0) (eC (.int 0))) (Ac 1)) (Ac 0) (eC (.int 0)))
  (DQ (Ac 2))))
  Ep)
  (Bh (Cd 3 (eOp oMod (eOp Bm (eOp Gu (eOp oIx (Ac 0) (eC (.int 1))) (eC (.int 48271))) (eC (.int 11))) (eC (.int 2147483647))))
  (Bh (Cd 3 (eOp oMod (eOp Gu (Ac 3) (Ac 3)) (eC (.int 2147483587))))
  (Bh (Mq (eOp oMod (eOp Bm (eOp Gu (Ac 3) (eC (.int 69621))) (eC (.int 40692))) (eC (.int 2147483629))) (Ac 0) (eC (.int 1)))
  (DQ (eOp oMod (eOp Gu (eOp oDiv (eOp oIx (Ac 0) (eC (.int 1))) (eC (.int 8))) (eOp oIx (Bp (Aa (eC (.int 1)) (Aa (eC (.int 8191)) Af))) (eCB Px (Aa (eOp oGt (Ac 1) (eOp Ge (eC (.int 10)) (eC (.int 6)))) Af)))) (Ac 1)))))))
def Ay:Ij:=runM 2 4 PN
def N8:Bg :=
 Dl 1 [0] (Fz (Aa (eOp Bm (eC (.int 2)) (Ac 1)) Af)) (Pat.sem (.nm 0)) Fw (eOp Fe (Ck Ay (Aa (Ac 1) (Aa (eOp Bm (eOp Gu (eC (.int 2)) (eOp Ge (eC (.int 10)) (eC (.int 9)))) (eC (.int 1))) Af))) (eOp Ge (eC (.int 10)) (eC (.int 9))))
def Ig:Bl :=
 (Bh (Cd 2 (eOp Bm (eOp Fe (Ck Ay (Aa (Ac 0) (Aa (eOp Fe (eOp Gu (eC (.int 2)) (eOp Ge (eC (.int 10)) (eC (.int 9)))) (eC (.int 20))) Af))) (eOp Ge (eC (.int 10)) (eC (.int 9)))) (eC (.int 10))))
  (Bh (Cd 3 (Ck Ay (Aa (Ac 0) (Aa (eC (.int 5)) Af))))
  (Bh (sIf (Bt (eOp oLt (Ac 3) (eC (.int 2))))
  (DQ (eOp oIx (Bp (Aa (K6 (Aa (eC (.int 7)) Af)) (Aa (K6 (Aa (eUn Fx (eC (.int 3))) (Aa (eC (.int 4)) Af))) Af))) (Ac 3)))
  Ep)
  (Bh (sIf (Bt (eOp (oEq false) (Ac 3) (eC (.int 2))))
  (DQ (K6 (Aa (Ac 2) (Aa (eOp Bm (Ac 2) (eC (.int 6))) Af))))
  Ep)
  (Bh (Cd 4 (Bp N8))
  (Bh (sIf (Bt (eOp (oEq false) (Ac 3) (eC (.int 3))))
  (Cd 4 (eOp Bm (Ac 4) (Bp (Aa (eUn Fx (eOp Ge (eC (.int 10)) (eC (.int 9)))) (Aa (eOp Ge (eC (.int 10)) (eC (.int 9))) Af)))))
  Ep)
  (DQ (Jj (eOp Bm (Ac 4) (Bp (Aa (Ac 2) (Aa (eOp Bm (Ac 2) (eC (.int 1))) Af))))))))))))
def Ec:Ij:=runM 2 5 Ig
def Ph:Bl :=
 (Bh (Cd 2 (Ck Ay (Aa (Ac 0) (Aa (eOp Fe (eCB DR (Aa (Ac 1) Af)) (eC (.int 1))) Af))))
  (DQ (Bo (Aa (eOp oIx (Ac 1) (Ac 2)) (Aa (eOp oIx (Ac 1) (eOp Bm (eOp Bm (Ac 2) (eC (.int 1))) (Ck Ay (Aa (Ac 0) (Aa (eOp Fe (eOp Fe (eCB DR (Aa (Ac 1) Af)) (eC (.int 1))) (Ac 2)) Af))))) Af)))))
def Em:Ij:=runM 2 3 Ph
def O2:Bg :=
 Dl 1 [] (Ei (Ac 1)) (Pat.sem (.nm 0)) Fw (Bo (Aa (eOp oIx (Ac 0) (eC (.int 1))) (Aa (eOp Bm (eOp oIx (Ac 0) (eC (.int 1))) (eC (.int 1))) Af)))
def Hv:Bl :=
 (Bh (Cd 3 (Ck Ay (Aa (Ac 0) (Aa (eC (.int 6)) Af))))
  (Bh (Cd 4 (Ck Ay (Aa (Ac 0) (Aa (eCB DR (Aa (Ac 1) Af)) Af))))
  (Bh (VH (eOp oIx (Ac 1) (Ac 4)) (Pat.sem (.tp [(.nm 5),(.nm 6)])))
  (Bh (sIf (Bt (eOp (oEq false) (Ac 3) (eC (.int 1))))
  (DQ (eOp Bm (eOp Bm (eSl oSl (Ac 1) GC (G9 (Ac 4))) (Bo (Aa (Bo (Aa (Ac 6) (Aa (eOp Bm (eOp Bm (Ac 6) (eC (.int 1))) (Ck Ay (Aa (Ac 0) (Aa (eC (.int 3)) Af)))) Af))) Af))) (eSl oSl (Ac 1) (G9 (eOp Bm (Ac 4) (eC (.int 1)))) GC)))
  Ep)
  (Bh (sIf (Bt (eOp (oEq false) (Ac 3) (eC (.int 2))))
  (Bh (Cd 7 (eOp Bm (Ac 5) (Ck Ay (Aa (Ac 0) (Aa (eOp Fe (Ac 6) (Ac 5)) Af)))))
  (DQ (eOp Bm (eOp Bm (eSl oSl (Ac 1) GC (G9 (Ac 4))) (Bo (Aa (Bo (Aa (Ac 7) (Aa (Ac 6) Af))) Af))) (eSl oSl (Ac 1) (G9 (eOp Bm (Ac 4) (eC (.int 1)))) GC))))
  Ep)
  (Bh (sIf (Bt (eOp (oEq false) (Ac 3) (eC (.int 3))))
  (DQ (eOp Bm (eOp Bm (eSl oSl (Ac 1) GC (G9 (Ac 4))) (Bo (Aa (Ck Em (Aa (Ac 0) (Aa (eOp oIx (Ac 2) (Ac 4)) Af))) Af))) (eSl oSl (Ac 1) (G9 (eOp Bm (Ac 4) (eC (.int 1)))) GC)))
  Ep)
  (Bh (sIf (Bt (eOp (oEq false) (Ac 3) (eC (.int 4))))
  (DQ (eOp Bm (eOp Bm (eSl oSl (Ac 1) GC (G9 (Ac 4))) (Bo (Aa (Bo (Aa (eOp Fe (eOp Fe (Ac 5) (eC (.int 1))) (Ck Ay (Aa (Ac 0) (Aa (eC (.int 3)) Af)))) (Aa (Ac 5) Af))) Af))) (eSl oSl (Ac 1) (G9 (eOp Bm (Ac 4) (eC (.int 1)))) GC)))
  Ep)
  (Bh (sIf (Bt (eOp (oEq false) (Ac 3) (eC (.int 5))))
  (DQ (eCB Lh (Aa (Bp O2) Af)))
  Ep)
  (DQ (Ac 1))))))))))
def Et:Ij:=runM 3 8 Hv
def Ky:Bg :=
 Dl 1 [0,3] (Fz (Aa (Ac 1) Af)) (Pat.sem (.nm 0)) Fw (Ck Ec (Aa (Ac 1) (Aa (Ac 2) Af)))
def Kw:Bg :=
 Dl 1 [0,4] (Fz (Aa (Ac 1) Af)) (Pat.sem (.nm 0)) Fw (Ck Em (Aa (Ac 1) (Aa (eOp oIx (Ac 2) (Ac 0)) Af)))
def Kv:Bg :=
 Dl 2 [] (Ei (Ac 8)) (Pat.sem (.tp [(.nm 0),(.nm 1)])) Fw (eCB Rx (Aa (eCB RL (Aa (Ac 0) Af)) (Aa (eCB RL (Aa (Ac 1) Af)) Af)))
def Kz:Bl :=
 (Bh (Cd 8 (eCB Lh (Aa (Bp Kw) Af)))
  (Bh (sIf (Mg (Bt (eOp (oEq true) (Ac 5) (Bp Af))) (Bt (eOp oLt (Ck Ay (Aa (Ac 0) (Aa (eC (.int 3)) Af))) (Ac 6))))
  (Cd 8 (Ck Et (Aa (Ac 0) (Aa (eOp oIx (Ac 5) (Ck Ay (Aa (Ac 0) (Aa (eCB DR (Aa (Ac 5) Af)) Af)))) (Aa (Ac 4) Af)))))
  Ep)
  (sIf (Bt (eOp oLe (eCB Qi (Aa (Bp Kv) Af)) (eOp Ge (eC (.int 10)) (eC (.int 9)))))
  (JR (Gs Gi (Ac 5) (Aa (Ac 8) Af)))
  Ep)))
def O4:Bl :=
 Ny (Fz (Aa (Ac 3) Af)) (Pat.sem (.nm 7))
  Kz
def PL:Bl :=
 (Bh (Cd 3 (eOp oIx (Bp (Aa (Ck Ay (Aa (Ac 0) (Aa (eOp Bm (eCB Rw (Aa (Ac 2) (Aa (eC (.int 4)) Af))) (eC (.int 1))) Af))) (Aa (Ck Ay (Aa (Ac 0) (Aa (eOp Bm (Ac 2) (eC (.int 1))) Af))) (Aa (Ac 2) Af)))) (Ck Ay (Aa (Ac 0) (Aa (eC (.int 3)) Af)))))
  (Bh (Cd 4 (Bp Ky))
  (Bh (Cd 5 (Jr Af))
  (Bh (Cd 6 (Ck Ay (Aa (Ac 0) (Aa (eC (.int 3)) Af))))
  (Bh O4
  (DQ (Bo (Aa (Ac 1) (Aa (Ac 5) Af)))))))))
def Fo:Ij:=runM 3 9 PL
def Ii:Bl :=
 (Bh (Cd 1 (eOp Bm (eC (.int 1)) (Ck Ay (Aa (Ac 0) (Aa (eC (.int 3)) Af)))))
  (DQ (Ck Fo (Aa (Ac 0) (Aa (Ac 1) (Aa (eOp oIx (Bp (Aa (eC (.int 0)) (Aa (eC (.int 20)) (Aa (eC (.int 10)) (Aa (eC (.int 6)) Af))))) (Ac 1)) Af))))))
def Dw:Ij:=runM 1 2 Ii
def Gn(rec:Ci):Bg :=
 Dl 1 [] (Ei (Ac 2)) (Pat.sem (.nm 0)) Fw (eOp oIx (eOp oIx (Ac 0) (eC (.int 0))) (eC (.int 0)))
def Gm(rec:Ci):Bg :=
 Dl 1 [] (Ei (Ac 2)) (Pat.sem (.nm 0)) Fw (eOp oIx (eOp oIx (Ac 0) (eC (.int 0))) (eC (.int 1)))
def JN(rec:Ci):Bg :=
 Dl 1 [5] (Ei (Ac 2)) (Pat.sem (.nm 0)) (Bt (QB oLe oLt (eOp oIx (eOp oIx (Ac 0) (eC (.int 0))) (eC (.int 0))) (Ac 1) (eOp oIx (eOp oIx (Ac 0) (eC (.int 0))) (eC (.int 1))))) (eSl oSl (Ac 0) (G9 (eC (.int 1))) GC)
def JQ(rec:Ci):Bl :=
 (Bh (Cd 7 (Bp (JN rec)))
  (Bh (Cd 8 (eOp Gu (Bp (Aa (Bo Af) Af)) (eCB Px (Aa (eOp (oEq true) (Ac 7) (Bp Af)) Af))))
  (Bh (sIf (Bt (eOp oGt (Ac 1) (eC (.int 1))))
  (Cd 8 (Bf rec (Aa (Bo (Aa (eOp Fe (Ac 1) (eC (.int 1))) (Aa (Ac 7) Af))) Af)))
  Ep)
  (sIf (Mg (Bt (eOp (oEq true) (Ac 4) (Bp Af))) (Mg (Bt (eOp (oEq false) (eOp oIx (eOp oIx (Ac 4) (eUn Fx (eC (.int 1)))) (eC (.int 1))) (Ac 5))) (Bt (eOp (oEq false) (eOp oIx (eOp oIx (Ac 4) (eUn Fx (eC (.int 1)))) (eC (.int 2))) (Ac 8)))))
  (Mq (Bo (Aa (eOp oIx (eOp oIx (Ac 4) (eUn Fx (eC (.int 1)))) (eC (.int 0))) (Aa (Ac 6) (Aa (Ac 8) Af)))) (Ac 4) (eUn Fx (eC (.int 1))))
  (JR (Gs Gi (Ac 4) (Aa (Bo (Aa (Ac 5) (Aa (Ac 6) (Aa (Ac 8) Af)))) Af)))))))
def Ko(rec:Ci):Bl :=
 Ny (Yj (Aa (Ac 3) (Aa (eSl oSl (Ac 3) (G9 (eC (.int 1))) GC) Af))) (Pat.sem (.tp [(.nm 5),(.nm 6)]))
  (JQ rec)
def Kp(rec:Ci):Bg :=
 Dl 1 [5,6] (Ei (Ac 8)) (Pat.sem (.nm 0)) Fw (eOp Bm (Bo (Aa (Bo (Aa (Ac 1) (Aa (Ac 2) Af))) Af)) (Ac 0))
def Kq(rec:Ci):Bl :=
 (JR (Gs M9 (Ac 9) (Aa (Bp (Kp rec)) Af)))
def Km(rec:Ci):Bl :=
 Ny (Ei (Ac 4)) (Pat.sem (.tp [(.nm 5),(.nm 6),(.nm 8)]))
  (Kq rec)
def Lp(rec:Ci):Bl :=
 (Bh (VH (Ac 0) (Pat.sem (.tp [(.nm 1),(.nm 2)])))
  (Bh (Cd 3 (Jj (eOp Bm (Bp (Gn rec)) (Bp (Gm rec)))))
  (Bh (Cd 4 (Jr Af))
  (Bh (Ko rec)
  (Bh (Cd 9 (Jr Af))
  (Bh (Km rec)
  (DQ (Ac 9))))))))
def Cu:Nat->Ci
 |0=>fun _=>none
 |n+1=>G6 1 10 (Lp (Cu n))
def O1(rec:Ci):Bg :=
 Dl 1 [0,1] (Fz (Aa (eCB DR (Aa (Ac 1) Af)) Af)) (Pat.sem (.nm 0)) (Hq (Bt (Bf rec (Aa (eOp oIx (Ac 1) (Ac 0)) (Aa (eOp oIx (Ac 2) (Ac 0)) Af))))) (Ac 0)
def JL(rec:Ci):Bl :=
 (Bh (sIf (Bt (eCB Gw (Aa (Ac 1) (Aa (Bo (Aa (eC (.ty "tuple")) (Aa (eC (.ty "list")) Af))) Af))))
  (Bh (sIf (tOr (Bt (eOp (oEq true) (eCB Gw (Aa (Ac 0) (Aa (eC (.ty "tuple")) Af))) (eCB Gw (Aa (Ac 1) (Aa (eC (.ty "tuple")) Af))))) (Bt (eOp (oEq true) (eCB Gw (Aa (Ac 0) (Aa (eC (.ty "list")) Af))) (eCB Gw (Aa (Ac 1) (Aa (eC (.ty "list")) Af))))))
  (DQ (eC (.bl false)))
  Ep)
  (Bh (sIf (Bt (eOp (oEq true) (eCB DR (Aa (Ac 0) Af)) (eCB DR (Aa (Ac 1) Af))))
  (DQ (eC (.bl false)))
  Ep)
  (DQ (eOp (oEq false) (Bp (O1 rec)) (Bp Af)))))
  Ep)
  (Bh (sIf (tOr (Bt (eOp (RG false) (Ac 1) (eC .non))) (Bt (eCB Gw (Aa (Ac 1) (Aa (eC (.ty "str")) Af)))))
  (DQ (eOp (oEq false) (Ac 0) (Ac 1)))
  Ep)
  (DQ (Pr (eCB Gw (Aa (Ac 0) (Aa (eC (.ty "int")) Af))) (Pr (YQ (eCB Gw (Aa (Ac 0) (Aa (eC (.ty "bool")) Af)))) (eOp (oEq false) (Ac 0) (Ac 1)))))))
def Bw:Nat->Ci
 |0=>fun _=>none
 |n+1=>G6 2 2 (JL (Bw n))
def K7(fa:Nat->Addr):Bl :=
 (Bh (Cd 4 (Mt (DN fa) (Aa (Ac 2) Af)))
  (Bh (sIf (tOr (Hq (Bt (Bf (Bw 5) (Aa (Ac 4) (Aa (Ac 1) Af))))) (tOr (Bt (eOp (oEq true) (Ac 4) (Q9 (Ac 4)))) (Bt (eOp (oEq true) (Ac 2) (Ac 0)))))
  (DQ (eC (.bl false)))
  Ep)
  (JR (Gs Gi (Ac 4) (Aa (eC (.int 0)) Af)))))
def N7(fa:Nat->Addr):Bl :=
 Ny (Fz (Aa (eC (.int 2)) Af)) (Pat.sem (.nm 3))
  (K7 fa)
def Qy(fa:Nat->Addr):Bl :=
 (Bh (Cd 1 (Bf (Cu 3) (Aa (Ac 0) Af)))
  (Bh (Cd 2 (Bo (Aa (eOp oIx (Ac 0) (eC (.int 0))) (Aa (Rv nList (Aa (eOp oIx (Ac 0) (eC (.int 1))) Af)) Af))))
  (Bh (N7 fa)
  (DQ (eC (.bl true))))))
def FZ(fa:Nat->Addr):Ci:=G6 1 5 (Qy fa)
def S9(fa:Nat->Addr):Bl :=
 (Bh (Cd 2 (Mt Gq (Aa (Ac 1) Af)))
  (Bh (Cd 3 (Q8 Dw (Aa (Ac 2) Af)))
  (Bh (sIf (Hq (Bt (Bf (FZ fa) (Aa (Ac 3) Af))))
  (DQ (eC (.bl false)))
  Ep)
  (sIf (Bt (eOp (oEq true) (eOp oIx (Ac 3) (eC (.int 1))) (Bp Af)))
  (Bh (JR (Gs O7 (eOp oIx (Ac 3) (eC (.int 1))) (Aa (Ck Ay (Aa (Ac 2) (Aa (eCB DR (Aa (eOp oIx (Ac 3) (eC (.int 1))) Af)) Af))) Af)))
  (sIf (Hq (Bt (Bf (FZ fa) (Aa (Ac 3) Af))))
  (DQ (eC (.bl false)))
  Ep))
  Ep))))
def Vh(fa:Nat->Addr):Bl :=
 Ny (Ei (eOp Bm (Bp (Aa (eC (.int 0)) (Aa (eC (.int 5)) Af))) (eSl oSl (Ac 0) GC (G9 (eC (.int 8)))))) (Pat.sem (.nm 1))
  (S9 fa)
def gK(fa:Nat->Addr):Bl :=
 (Bh (Vh fa)
  (Bh (sIf (tOr (Bt (eOp (oEq true) (Bf (DN fa) (Aa (Bo (Aa (eC (.int 1)) (Aa (Bp (Aa (Bo (Aa (Bo (Aa (eC (.int 0)) (Aa (eC (.int 3)) Af))) Af)) (Aa (Bo (Aa (Bo (Aa (eC (.int 3)) (Aa (eC (.int 5)) Af))) Af)) (Aa (Bo (Aa (Bo (Aa (eC (.int 7)) (Aa (eC (.int 8)) Af))) Af)) Af)))) Af))) Af)) (Bp (Aa (Bo (Aa (Bo (Aa (eC (.int 0)) (Aa (eC (.int 5)) Af))) Af)) (Aa (Bo (Aa (Bo (Aa (eC (.int 7)) (Aa (eC (.int 8)) Af))) Af)) Af))))) (Bt (eOp (oEq true) (Bf (DN fa) (Aa (Bo (Aa (eC (.int 2)) (Aa (Bp Af) Af))) Af)) (Bp Af))))
  (DQ (eC (.bl false)))
  Ep)
  (DQ (eOp (oEq false) (Bf (DN fa) (Aa (Bo (Aa (eC (.int 2)) (Aa (Bp (Aa (Bo (Aa (Bo (Aa (eC (.int 0)) (Aa (eC (.int 2)) Af))) (Aa (Bo (Aa (eC (.int 0)) (Aa (eC (.int 2)) Af))) Af))) (Aa (Bo (Aa (Bo (Aa (eC (.int 1)) (Aa (eC (.int 3)) Af))) (Aa (Bo (Aa (eC (.int 0)) (Aa (eC (.int 2)) Af))) Af))) Af))) Af))) Af)) (Bp (Aa (Bo (Aa (Bo (Aa (eC (.int 0)) (Aa (eC (.int 3)) Af))) (Aa (Bo (Aa (eC (.int 0)) (Aa (eC (.int 2)) Af))) Af))) Af))))))
def TY(fa:Nat->Addr):Ci:=G6 1 4 (gK fa)
end W38
end
section
namespace W38
open PySem PySem.Spec L2 VS
def top (i : Nat) : Stmt := PySem.Challenge.pw_boxcover_k38_partings_told.main.body.getD i (.Pass ⟨0, 0, 0, 0⟩)
abbrev JF:Stmt:=top 5
abbrev JK:Stmt:=top 6
abbrev Ho:Stmt:=top 7
abbrev Jh:Stmt:=top 8
abbrev Iu:Stmt:=top 9
abbrev Ia:Stmt:=top 10
abbrev G8:Stmt:=top 12
abbrev Gx:Stmt:=top 13
abbrev Gh:Stmt:=top 15
abbrev Gk:Stmt:=top 16
abbrev JH:Stmt:=top 18
abbrev Ga:Stmt:=top 19
abbrev Hl:Stmt:=top 20
abbrev JB:Stmt:=top 22
abbrev JD:Stmt:=top 23
abbrev Hf:Stmt:=top 24
abbrev Gy:Stmt:=top 25
abbrev Hu:Stmt:=top 26
abbrev Gf:Stmt:=top 27
abbrev GQ:Stmt:=top 28
abbrev Ew:Stmt:=top 29
abbrev Ht:Stmt:=top 30
abbrev Ib:Stmt:=top 31
abbrev Lw:Stmt:=top 32
theorem Wv:DK ["thing"] ["thing"] (Ak JF):=⟨rfl,rfl,rfl,by decide +kernel,rfl,by decide +kernel,by decide +kernel⟩
theorem Wx:DK ["thing"] ["thing"] (Ak JK):=⟨rfl,rfl,rfl,by decide +kernel,rfl,by decide +kernel,by decide +kernel⟩
theorem V3:DK ["thing"] ["thing"] (Ak Ho):=⟨rfl,rfl,rfl,by decide +kernel,rfl,by decide +kernel,by decide +kernel⟩
theorem Zx:DK ["ways","thing"] ["ways","thing"] (Ak Jh):=⟨rfl,rfl,rfl,by decide +kernel,rfl,by decide +kernel,by decide +kernel⟩
theorem Ox:DK ["thing","ways","boxes"] ["thing"] (Ak Iu):=⟨rfl,rfl,rfl,by decide +kernel,rfl,by decide +kernel,by decide +kernel⟩
theorem Wa:DK ["heap"] ["heap"] (Ak Ia):=⟨rfl,rfl,rfl,by decide +kernel,rfl,by decide +kernel,by decide +kernel⟩
theorem V4:DK ["boxes","way"] ["boxes","way"] (Ak G8):=⟨rfl,rfl,rfl,by decide +kernel,rfl,by decide +kernel,by decide +kernel⟩
theorem Ob:DK ["boxes","way","ends"] ["boxes","way"] (Ak Gx):=⟨rfl,rfl,rfl,by decide +kernel,rfl,by decide +kernel,by decide +kernel⟩
theorem QX:DK ["boxes","way","number","there"] ["boxes","way","number"] (Ak Gh):=⟨rfl,rfl,rfl,by decide +kernel,rfl,by decide +kernel,by decide +kernel⟩
theorem HX:DK ["steps","longest","low","high","what"] ["steps"] (Ak Gk):=⟨rfl,rfl,rfl,by decide +kernel,rfl,by decide +kernel,by decide +kernel⟩
theorem Ww:DK ["first","second"] ["first","second"] (Ak JH):=⟨rfl,rfl,rfl,by decide +kernel,rfl,by decide +kernel,by decide +kernel⟩
theorem Ez:DK ["wanted","first","second","ways","steps","low","high","rest","parts"] ["wanted","first","second","ways"] (Ak Ga):=⟨rfl,rfl,rfl,by decide +kernel,rfl,by decide +kernel,by decide +kernel⟩
theorem V2:DK ["heap"] ["heap"] (Ak Hl):=⟨rfl,rfl,rfl,by decide +kernel,rfl,by decide +kernel,by decide +kernel⟩
theorem Wt:DK ["cell"] ["cell"] (Ak JB):=⟨rfl,rfl,rfl,by decide +kernel,rfl,by decide +kernel,by decide +kernel⟩
theorem Ku:DK ["well","many","got","stirred"] ["well","many"] (Ak JD):=⟨rfl,rfl,rfl,by decide +kernel,rfl,by decide +kernel,by decide +kernel⟩
theorem J4:DK ["well","many","far","way","some"] ["well","many"] (Ak Hf):=⟨rfl,rfl,rfl,by decide +kernel,rfl,by decide +kernel,by decide +kernel⟩
theorem Oc:DK ["well","marks","at"] ["well","marks"] (Ak Gy):=⟨rfl,rfl,rfl,by decide +kernel,rfl,by decide +kernel,by decide +kernel⟩
theorem IW:DK ["well","box","marks","way","at","low","high","inner"] ["well","box","marks"] (Ak Hu):=⟨rfl,rfl,rfl,by decide +kernel,rfl,by decide +kernel,by decide +kernel⟩
theorem Gg:DK ["well","ways","most","many","marks","boxes","alike","k","box"] ["well","ways","most"] (Ak Gf):=⟨rfl,rfl,rfl,by decide +kernel,rfl,by decide +kernel,by decide +kernel⟩
theorem NZ:DK ["well","ways"] ["well"] (Ak GQ):=⟨rfl,rfl,rfl,by decide +kernel,rfl,by decide +kernel,by decide +kernel⟩
theorem DP:DK ["heap","ways","boxes","marks","rows","low","high","there","part","found"] ["heap"] (Ak Ew):=⟨rfl,rfl,rfl,by decide +kernel,rfl,by decide +kernel,by decide +kernel⟩
theorem Wu:DK ["found","due"] ["found","due"] (Ak Ht):=⟨rfl,rfl,rfl,by decide +kernel,rfl,by decide +kernel,by decide +kernel⟩
theorem J3:DK ["heap","due","handed","turn","found"] ["heap"] (Ak Ib):=⟨rfl,rfl,rfl,by decide +kernel,rfl,by decide +kernel,by decide +kernel⟩
theorem S6:DK ["script","cell","well","heap"] ["script"] (Ak Lw):=⟨rfl,rfl,rfl,by decide +kernel,rfl,by decide +kernel,by decide +kernel⟩
section
variable{P:Program}{w:World}{K:U0a}{mg:Str->Option Value}{base:Heap}
set_option maxHeartbeats 4000000 in
theorem X7{f:Addr}{fd:FuncData}(F:Fun K "is_whole" "is_whole" JF f fd)(B:Blt mg):Dp P w K mg base CX0 1 f fd ["thing"] (spP K Fp 1) :=
 fnP F Wv fun cdv A outer s H E hr =>
  (Az (CJ (O8 (Bv Fj GF rfl (B.is "isinstance") Dg (Ab (Ad 0) (Ab (Hs (n:="int") rfl (B.is "int") SN) Ag))) (SJ (Zb (Bv Fj GF rfl (B.is "isinstance") Dg (Ab (Ad 0) (Ab (Hs (n:="bool") rfl (B.is "bool") YF) Ag))))))))
set_option maxHeartbeats 4000000 in
theorem XC{f:Addr}{fd:FuncData}(F:Fun K "are_ways" "are_ways" JK f fd)(B:Blt mg){d_MOST_BOXES:Addr}(M_MOST_BOXES:mg "MOST_BOXES"=some (.ref d_MOST_BOXES))(T_MOST_BOXES:∀h,K.In h->U41 P w h d_MOST_BOXES Bc.D3)(c_is_whole:Cv P w K mg base "is_whole" 1 Fp):Dp P w K mg base CX0 2 f fd ["thing"] (spP K FW 1) :=
 fnP F Wx fun cdv A outer s H E hr =>
  (Az (CJ (O8 (Dc c_is_whole hr (by omega) rfl (Ab (Ad 0) Ag)) (SJ (eU T_MOST_BOXES (Ad 0) rfl M_MOST_BOXES)))))
set_option maxHeartbeats 4000000 in
theorem V6{f:Addr}{fd:FuncData}(F:Fun K "is_stretch" "is_stretch" Ho f fd)(B:Blt mg)(c_is_whole:Cv P w K mg base "is_whole" 1 Fp):Dp P w K mg base CX0 2 f fd ["thing"] (spP K Gj 1) :=
 fnP F V3 fun cdv A outer s H E hr =>
  (Am (Ef (Jw (Jv (Il (HN (Bv Fj GF rfl (B.is "isinstance") Dg (Ab (Ad 0) (Ab (Hs (n:="tuple") rfl (B.is "tuple") Ir) Ag))))) (LR (Cy (HJ hr) HF (Bv Dk Fy rfl (B.is "len") Gp (Ab (Ad 0) Ag)) Ah (CV _)))))
   (Az (CJ Jx))
   DW)
   (Az (CJ (O8 (Dc c_is_whole hr (by omega) rfl (Ab (Bs BZ BX (Ad 0) Ah (fun _ _=>rfl)) Ag)) (O8 (Dc c_is_whole hr (by omega) rfl (Ab (Bs BZ BX (Ad 0) Ah (fun _ _=>rfl)) Ag)) (SJ (K4 Rt Pz (Bs BZ BX (Ad 0) Ah (fun _ _=>rfl)) (Bs BZ BX (Ad 0) Ah (fun _ _=>rfl)) (CV _))))))))
set_option maxHeartbeats 4000000 in
theorem aG{f:Addr}{fd:FuncData}(F:Fun K "is_box" "is_box" Jh f fd)(B:Blt mg)(c_are_ways:Cv P w K mg base "are_ways" 2 FW)(c_is_stretch:Cv P w K mg base "is_stretch" 2 Gj):Dp P w K mg base CX0 3 f fd ["ways","thing"] (spP K J8 2) :=
 fnP F Zx fun cdv A outer s H E hr =>
  (Am (Ef (Jw (Jv (Il (HN (Dc c_are_ways hr (by omega) rfl (Ab (Ad 0) Ag)))) (Jv (Il (HN (Bv Fj GF rfl (B.is "isinstance") Dg (Ab (Ad 1) (Ab (Hs (n:="tuple") rfl (B.is "tuple") Ir) Ag))))) (LR (Cy (HJ hr) HF (Bv Dk Fy rfl (B.is "len") Gp (Ab (Ad 1) Ag)) (Ad 0) (CV _))))))
   (Az (CJ Jx))
   DW)
   (Az (CJ (Bv (WD rfl) Xn rfl (B.is "all") Zh (Ab (Fi rfl (El.of (sc:=Ak Jh) (N:=["ways","thing"]) (N2:=["part"]) (k:=1) (caps:=[]) (by decide +kernel)) rfl (Fv (Ad 1)) ⟨fun _ _ _ _ _=>⟨(CQ (i:=0) (show U2l (["part"]:List Str) by decide +kernel)),GJ,(Dc c_is_stretch hr (by omega) rfl (Ab (Ad 0) Ag))⟩⟩) Ag)))))
set_option maxHeartbeats 4000000 in
theorem Yw{f:Addr}{fd:FuncData}(F:Fun K "is_heap" "is_heap" Iu f fd)(B:Blt mg){d_MOST_BOXES:Addr}(M_MOST_BOXES:mg "MOST_BOXES"=some (.ref d_MOST_BOXES))(T_MOST_BOXES:∀h,K.In h->U41 P w h d_MOST_BOXES Bc.D3)(c_are_ways:Cv P w K mg base "are_ways" 2 FW)(c_is_box:Cv P w K mg base "is_box" 3 J8):Dp P w K mg base CX0 4 f fd ["thing"] (spP K IV 1) :=
 fnP F Ox fun cdv A outer s H E hr =>
  (Am (Ef (Jw (Jv (Il (HN (Bv Fj GF rfl (B.is "isinstance") Dg (Ab (Ad 0) (Ab (Hs (n:="tuple") rfl (B.is "tuple") Ir) Ag))))) (LR (Cy (HJ hr) HF (Bv Dk Fy rfl (B.is "len") Gp (Ab (Ad 0) Ag)) Ah (CV _)))))
   (Az (CJ Jx))
   DW)
   (Am (Cz (i:=1) Ox.nd (Bs BZ BX (Ad 0) Ah (fun _ _=>rfl)))
   (Am (Cz (i:=2) Ox.nd (Bs BZ BX (Ad 0) Ah (fun _ _=>rfl)))
   (Am (Ef (Jw (Jv (Il (HN (Dc c_are_ways hr (by omega) rfl (Ab (Ad 1) Ag)))) (Jv (Il (HN (Bv Fj GF rfl (B.is "isinstance") Dg (Ab (Ad 2) (Ab (Hs (n:="list") rfl (B.is "list") MN) Ag))))) (LR (Cy Oi Mp (Bv Dk Fy rfl (B.is "len") Gp (Ab (Ad 2) Ag)) (eO T_MOST_BOXES (Ad 1) rfl M_MOST_BOXES (fun _ _=>rfl)) (CV _))))))
   (Az (CJ Jx))
   DW)
   (Az (CJ (Bv (WD rfl) Xn rfl (B.is "all") Zh (Ab (Fi rfl (El.of (sc:=Ak Iu) (N:=["thing","ways","boxes"]) (N2:=["box","ways"]) (k:=1) (caps:=[1]) (by decide +kernel)) rfl (Fv (Ad 2)) ⟨fun _ _ _ _ _=>⟨(CQ (i:=0) (show U2l (["box","ways"]:List Str) by decide +kernel)),GJ,(Dc c_is_box hr (by omega) rfl (Ab (Ad 1) (Ab (Ad 0) Ag)))⟩⟩) Ag))))))))
set_option maxHeartbeats 4000000 in
theorem Wc{f:Addr}{fd:FuncData}(F:Fun K "need_heap" "need_heap" Ia f fd)(B:Blt mg)(c_is_heap:Cv P w K mg base "is_heap" 4 IV):Dp P w K mg base CX0 5 f fd ["heap"] (spP K GZ 1) :=
 fnP F Wa fun cdv A outer s H E hr =>
  (Az (Ef (Il (HN (Dc c_is_heap hr (by omega) rfl (Ab (Ad 0) Ag))))
   (Az eE)
   DW))
set_option maxHeartbeats 4000000 in
theorem V7{f:Addr}{fd:FuncData}(F:Fun K "ends_along" "ends_along" G8 f fd)(B:Blt mg):Dp P w K mg base CX0 1 f fd ["boxes","way"] (spP K G3 2) :=
 fnP F V4 fun cdv A outer s H E hr =>
  (Az (CJ (PJ rfl (BW CP CK (Fi rfl (El.of (sc:=Ak G8) (N:=["boxes","way"]) (N2:=["box","way"]) (k:=1) (caps:=[1]) (by decide +kernel)) rfl (Fv (Ad 0)) ⟨fun _ _ _ _ _=>⟨(CQ (i:=0) (show U2l (["box","way"]:List Str) by decide +kernel)),GJ,(Bs BZ BX (Bs BZ BX (Ad 0) (Ad 1) (fun _ _=>rfl)) Ah (fun _ _=>rfl))⟩⟩) (Fi rfl (El.of (sc:=Ak G8) (N:=["boxes","way"]) (N2:=["box","way"]) (k:=1) (caps:=[1]) (by decide +kernel)) rfl (Fv (Ad 0)) ⟨fun _ _ _ _ _=>⟨(CQ (i:=0) (show U2l (["box","way"]:List Str) by decide +kernel)),GJ,(Bs BZ BX (Bs BZ BX (Ad 0) (Ad 1) (fun _ _=>rfl)) Ah (fun _ _=>rfl))⟩⟩)) rfl (B.is "sorted") rfl (B.is "set"))))
set_option maxHeartbeats 4000000 in
theorem Tt{f:Addr}{fd:FuncData}(F:Fun K "steps_along" "steps_along" Gx f fd)(B:Blt mg)(Bz:mg "zip"=none)(c_ends_along:Cv P w K mg base "ends_along" 1 G3):Dp P w K mg base CX0 2 f fd ["boxes","way"] (spP K Dq 2) :=
 fnP F Ob fun cdv A outer s H E hr =>
  (Am (Cz (i:=2) Ob.nd (Dc c_ends_along hr (by omega) rfl (Ab (Ad 0) (Ab (Ad 1) Ag))))
   (Az (CJ (Z5 rfl (Ab (Ad 2) (Ab (Fg Gz HD (Ad 2) (GK Ah) GP) Ag)) rfl (B.is "list") rfl Bz))))
set_option maxHeartbeats 4000000 in
theorem Wg{f:Addr}{fd:FuncData}(F:Fun K "cut_boxes" "cut_boxes" Gh f fd)(B:Blt mg):Dp P w K mg base CX0 1 f fd ["boxes","way","number"] (spP K Ed 3) :=
 fnP F QX fun cdv A outer s H E hr =>
  (Am (O5 (i:=3) rfl QX.nd (El.of (sc:=Ak Gh) (N:=["boxes","way","number","there"]) (N2:=["box","way","number"]) (k:=1) (caps:=[1,2]) (by decide +kernel)) rfl (Fv (Ad 0)) ⟨fun _ _ _ _ _=>⟨(CQ (i:=0) (show U2l (["box","way","number"]:List Str) by decide +kernel)),(Ti (W4 Yg Vd Rt Pz (Bs BZ BX (Bs BZ BX (Ad 0) (Ad 1) (fun _ _=>rfl)) Ah (fun _ _=>rfl)) (Ad 2) (Bs BZ BX (Bs BZ BX (Ad 0) (Ad 1) (fun _ _=>rfl)) Ah (fun _ _=>rfl)))),(Ad 0)⟩⟩)
   (Az (CJ (Fi rfl (El.of (sc:=Ak Gh) (N:=["boxes","way","number","there"]) (N2:=["box","way"]) (k:=1) (caps:=[1]) (by decide +kernel)) rfl (Fv (Ad 3)) ⟨fun _ _ _ _ _=>⟨(CQ (i:=0) (show U2l (["box","way"]:List Str) by decide +kernel)),GJ,(BW CP CK (Fg Gz HD (Ad 0) GP (GK (Ad 1))) (Fg Gz HD (Ad 0) (GK (BW CP CK (Ad 1) Ah)) GP))⟩⟩))))
set_option maxHeartbeats 4000000 in
theorem T8{f:Addr}{fd:FuncData}(F:Fun K "joined_alike" "joined_alike" Gk f fd)(B:Blt mg):Dp P w K mg base CX0 1 f fd ["steps"] (spP K Eu 1) :=
 fnP F HX fun cdv A outer s H E hr =>
  (Am (Cz (i:=1) HX.nd (MF Ag Ao))
   (Am (La rfl (Fv (Ad 0)) (Lb rfl (Eb (CQ (i:=2) HX.nd) (Eb (CQ (i:=3) HX.nd) (Eb (CQ (i:=4) HX.nd) Jl))))
   (Az (Ef (Jw (Q7 (Cy Oi Mp (Bv Dk Fy rfl (B.is "len") Gp (Ab (Ad 1) Ag)) Ah (CV _)) (Q7 (Cy (Gd hr) Gb (Bs BZ BX (Bs BZ BX (Ad 1) (Kr JZ Hz Ah) (fun _ _=>rfl)) Ah (fun _ _=>rfl)) (Ad 2) (CV _)) (Tg (Cy (Gd hr) Gb (Bs BZ BX (Bs BZ BX (Ad 1) (Kr JZ Hz Ah) (fun _ _=>rfl)) Ah (fun _ _=>rfl)) (Ad 4) (CV _))))))
   (Az (Oq (CG (Ab (Bs BZ BX (Bs BZ BX (Ad 1) (Kr JZ Hz Ah) (fun _ _=>rfl)) Ah (fun _ _=>rfl)) (Ab (Ad 3) (Ab (Ad 4) Ag))) (Aj (Aj (Aj Ao)))) (Ad 1) (Kr JZ Hz Ah)))
   (Az (K3 (Jm U2i U3f U3g Lg Le (Ad 1) (Ab (CG (Ab (Ad 2) (Ab (Ad 3) (Ab (Ad 4) Ag))) (Aj (Aj (Aj Ao)))) Ag)))))) U3h)
   (Az (CJ (Ad 1)))))
set_option maxHeartbeats 4000000 in
theorem X8{f:Addr}{fd:FuncData}(F:Fun K "by_first" "by_first" JH f fd)(B:Blt mg):Dp P w K mg base CX0 1 f fd ["first","second"] (spP K Hj 2) :=
 fnP F Ww fun cdv A outer s H E hr =>
  (Az (CJ (Ad 0)))
set_option maxHeartbeats 4000000 in
theorem JM{f:Addr}{fd:FuncData}(F:Fun K "parts_where" "parts_where" Ga f fd){fa:Nat->Addr}(B:Blt mg)(c_steps_along:Cv P w K mg base "steps_along" 2 Dq){n k:Nat}(hk:2<=k)(c_parts_where:Cv P w K mg base "parts_where" k (Bk fa n))(c_cut_boxes:Cv P w K mg base "cut_boxes" 1 Ed)(c_joined_alike:Cv P w K mg base "joined_alike" 1 Eu)(tb:∀n t,Ru fa n=some t->Oh P w K mg base t.1 1 t.2):Dp P w K mg base CX0 (k+1) f fd ["wanted","first","second","ways"] (spP K (Bk fa (n+1)) 4) :=
 fnP F Ez fun cdv A outer s H E hr =>
  (Am (Ef (Cy (Gd hr) Gb (Ad 3) Ah (CV _))
   (Az (CJ (eV (HN (eX tb hr (by omega) (i:=0) (Ab (K4 Oi Mp (Bv Dk Fy rfl (B.is "len") Gp (Ab (Ad 1) Ag)) Ah (CV _)) (Ab (K4 Oi Mp (Bv Dk Fy rfl (B.is "len") Gp (Ab (Ad 2) Ag)) Ah (CV _)) Ag)))) (Ds (Ab (CG Ag Ao) Ag) (Aj Ao)) (Ds Ag Ao))))
   DW)
   (Am (Cz (i:=4) Ez.nd (MF Ag Ao))
   (Am (La rfl (Fv (Dc c_steps_along hr (by omega) rfl (Ab (BW CP CK (Ad 1) (Ad 2)) (Ab Ah Ag)))) (Lb rfl (Eb (CQ (i:=5) Ez.nd) (Eb (CQ (i:=6) Ez.nd) Jl)))
   (Am (Cz (i:=7) Ez.nd (Dc c_parts_where hr (by omega) rfl (Ab (Ad 0) (Ab (Dc c_cut_boxes hr (by omega) rfl (Ab (Ad 1) (Ab Ah (Ab (Ad 5) Ag)))) (Ab (Dc c_cut_boxes hr (by omega) rfl (Ab (Ad 2) (Ab Ah (Ab (Ad 5) Ag)))) (Ab (BW Ik Hi (Ad 3) Ah) Ag))))))
   (Az (K3 (Jm U2i U3f U3g Lg Le (Ad 4) (Ab (CG (Ab (Ad 5) (Ab (Ad 6) (Ab (Ad 7) Ag))) (Aj (Aj (Aj Ao)))) Ag))))) U3h)
   (Am (Cz (i:=8) Ez.nd (MF Ag Ao))
   (Am (La rfl (Fv (eY c_joined_alike hr (by omega) rfl (Ab (Ad 4) Ag))) (Lb rfl (Eb (CQ (i:=5) Ez.nd) (Eb (CQ (i:=6) Ez.nd) (Eb (CQ (i:=7) Ez.nd) Jl))))
   (Az (K3 (Jm U2i PySem.F.slot_list_extend PySem.F.type_list_extend Uj Ud (Ad 8) (Ab (Fi rfl (El.of (sc:=Ak Ga) (N:=["wanted","first","second","ways","steps","low","high","rest","parts"]) (N2:=["box","low","high"]) (k:=1) (caps:=[5,6]) (by decide +kernel)) rfl (Fv (Ad 7)) ⟨fun _ _ _ _ _=>⟨(CQ (i:=0) (show U2l (["box","low","high"]:List Str) by decide +kernel)),GJ,(BW CP CK (CG (Ab (CG (Ab (Ad 1) (Ab (Ad 2) Ag)) (Aj (Aj Ao))) Ag) (Aj Ao)) (Ad 0))⟩⟩) Ag)))) U3h)
   (Az (CJ (Ad 8))))))))
set_option maxHeartbeats 4000000 in
theorem V5{f:Addr}{fd:FuncData}(F:Fun K "parting_of" "parting_of" Hl f fd){fa:Nat->Addr}(B:Blt mg)(c_need_heap:Cv P w K mg base "need_heap" 5 GZ)(c_parts_where:Cv P w K mg base "parts_where" 6 (Bk fa 4))(fv_by_first:mg "by_first"=some (.ref (fa 0))):Dp P w K mg base CX0 7 f fd ["heap"] (spP K (DN fa) 1) :=
 fnP F V2 fun cdv A outer s H E hr =>
  (Am (K3 (Dc c_need_heap hr (by omega) rfl (Ab (Ad 0) Ag)))
   (Az (CJ (Dc c_parts_where hr (by omega) rfl (Ab (oX (n:=0) rfl fv_by_first) (Ab (Bs BZ BX (Ad 0) Ah (fun _ _=>rfl)) (Ab (Ds Ag Ao) (Ab (Bs BZ BX (Ad 0) Ah (fun _ _=>rfl)) Ag))))))))
set_option maxHeartbeats 4000000 in
theorem X3{f:Addr}{fd:FuncData}(F:Fun K "_law_well" "_law_well" JB f fd)(B:Blt mg):Dp P w K mg base CX0 1 f fd ["cell"] (spP K Gq 1) :=
 fnP F Wt fun cdv A outer s H E hr =>
  (Am (Ef (Cy qy mU (Ad 0) (BW K1 J6 Ah Ah) (CV _))
   (Az (CJ (Ds (Ab (Ad 0) (Ab (BW Mr KJ (Ad 0) Ah) Ag)) (Aj (Aj Ao)))))
   DW)
   (Az (CJ (Ds (Ab Ah (Ab (BW Mr KJ (Ad 0) Ah) Ag)) (Aj (Aj Ao))))))
set_option maxHeartbeats 4000000 in
theorem X6{f:Addr}{fd:FuncData}(F:Fun K "_law_draw" "_law_draw" JD f fd)(B:Blt mg):Dp P w K mg base CX0 1 f fd ["well","many"] (spM K Ay 2) :=
 fnM F Ku fun cdv A outer s H E hr =>
  (Am (Ef (Cy Oi Mp (Bs BZ BX (Ad 0) Ah (fun _ _=>rfl)) Ah (CV _))
   (Am (Cz (i:=2) Ku.nd (BW Mr KJ (Bs BZ BX (Ad 0) Ah (fun _ _=>rfl)) (Ad 1)))
   (Am (Oq (BW Vz Xm (Bs BZ BX (Ad 0) Ah (fun _ _=>rfl)) (Ad 1)) (Ad 0) Ah)
   (Az (CJ (Ad 2)))))
   DW)
   (Am (Cz (i:=3) Ku.nd (BW Mr KJ (BW CP CK (BW KR KH (Bs BZ BX (Ad 0) Ah (fun _ _=>rfl)) Ah) Ah) Ah))
   (Am (Cz (i:=3) Ku.nd (BW Mr KJ (BW KR KH (Ad 3) (Ad 3)) Ah))
   (Am (Oq (BW Mr KJ (BW CP CK (BW KR KH (Ad 3) Ah) Ah) Ah) (Ad 0) Ah)
   (Az (CJ (BW Mr KJ (BW KR KH (BW Vz Xm (Bs BZ BX (Ad 0) Ah (fun _ _=>rfl)) Ah) (Bs BZ BX (Ds (Ab Ah (Ab Ah Ag)) (Aj (Aj Ao))) (Np Us Xl rfl (B.is "int") SN (Ab (K4 Oi Mp (Ad 1) (BW K1 J6 Ah Ah) (CV _)) Ag)) (fun _ _=>rfl))) (Ad 1))))))))
set_option maxHeartbeats 4000000 in
theorem Wf{f:Addr}{fd:FuncData}(F:Fun K "_law_marks" "_law_marks" Hf f fd)(B:Blt mg)(c_law_draw:Hh P w K mg base "_law_draw" 1 Ay):Dp P w K mg base CX0 2 f fd ["well","many"] (spM K Ec 2) :=
 fnM F J4 fun cdv A outer s H E hr =>
  (Am (Cz (i:=2) J4.nd (BW CP CK (BW Ik Hi (Dj c_law_draw hr (by omega) rfl (Ab (Ad 0) (Ab (BW Ik Hi (BW KR KH Ah (BW K1 J6 Ah Ah)) Ah) Ag))) (BW K1 J6 Ah Ah)) Ah))
   (Am (Cz (i:=3) J4.nd (Dj c_law_draw hr (by omega) rfl (Ab (Ad 0) (Ab Ah Ag))))
   (Am (Ef (Cy Rt Pz (Ad 3) Ah (CV _))
   (Az (CJ (Bs BZ BX (Ds (Ab (NK rfl (Ab Ah Ag) rfl (B.is "list") rfl (B.is "range")) (Ab (NK rfl (Ab (Kr JZ Hz Ah) (Ab Ah Ag)) rfl (B.is "list") rfl (B.is "range")) Ag)) (Aj (Aj Ao))) (Ad 3) (fun _ _=>rfl))))
   DW)
   (Am (Ef (Cy (Gd hr) Gb (Ad 3) Ah (CV _))
   (Az (CJ (NK rfl (Ab (Ad 2) (Ab (BW CP CK (Ad 2) Ah) Ag)) rfl (B.is "list") rfl (B.is "range"))))
   DW)
   (Am (O5 (i:=4) rfl J4.nd (El.of (sc:=Ak Hf) (N:=["well","many","far","way","some"]) (N2:=["k","well"]) (k:=1) (caps:=[0]) (by decide +kernel)) rfl (Jo rfl (B.is "range") (Ab (BW CP CK Ah (Ad 1)) Ag)) ⟨fun _ _ _ _ _=>⟨(CQ (i:=0) (show U2l (["k","well"]:List Str) by decide +kernel)),GJ,(BW Ik Hi (Dj c_law_draw hr (by omega) rfl (Ab (Ad 1) (Ab (BW CP CK (BW KR KH Ah (BW K1 J6 Ah Ah)) Ah) Ag))) (BW K1 J6 Ah Ah))⟩⟩)
   (Am (Ef (Cy (Gd hr) Gb (Ad 3) Ah (CV _))
   (Az (Cz (i:=4) J4.nd (BW CP CK (Ad 4) (Ds (Ab (Kr JZ Hz (BW K1 J6 Ah Ah)) (Ab (BW K1 J6 Ah Ah) Ag)) (Aj (Aj Ao))))))
   DW)
   (Az (CJ (PJ rfl (BW CP CK (Ad 4) (Ds (Ab (Ad 2) (Ab (BW CP CK (Ad 2) Ah) Ag)) (Aj (Aj Ao)))) rfl (B.is "sorted") rfl (B.is "set"))))))))))
set_option maxHeartbeats 4000000 in
theorem Tv{f:Addr}{fd:FuncData}(F:Fun K "_law_stretch" "_law_stretch" Gy f fd)(B:Blt mg)(c_law_draw:Hh P w K mg base "_law_draw" 1 Ay):Dp P w K mg base CX0 2 f fd ["well","marks"] (spM K Em 2) :=
 fnM F Oc fun cdv A outer s H E hr =>
  (Am (Cz (i:=2) Oc.nd (Dj c_law_draw hr (by omega) rfl (Ab (Ad 0) (Ab (BW Ik Hi (Bv Dk Fy rfl (B.is "len") Gp (Ab (Ad 1) Ag)) Ah) Ag))))
   (Az (CJ (CG (Ab (Bs BZ BX (Ad 1) (Ad 2) (fun _ _=>rfl)) (Ab (Bs BZ BX (Ad 1) (BW CP CK (BW CP CK (Ad 2) Ah) (Dj c_law_draw hr (by omega) rfl (Ab (Ad 0) (Ab (BW Ik Hi (BW Ik Hi (Bv Dk Fy rfl (B.is "len") Gp (Ab (Ad 1) Ag)) Ah) (Ad 2)) Ag)))) (fun _ _=>rfl)) Ag)) (Aj (Aj Ao))))))
set_option maxHeartbeats 4000000 in
theorem X4{f:Addr}{fd:FuncData}(F:Fun K "_law_near" "_law_near" Hu f fd)(B:Blt mg)(c_law_draw:Hh P w K mg base "_law_draw" 1 Ay)(c_law_stretch:Hh P w K mg base "_law_stretch" 2 Em):Dp P w K mg base CX0 3 f fd ["well","box","marks"] (spM K Et 3) :=
 fnM F IW fun cdv A outer s H E hr =>
  (Am (Cz (i:=3) IW.nd (Dj c_law_draw hr (by omega) rfl (Ab (Ad 0) (Ab Ah Ag))))
   (Am (Cz (i:=4) IW.nd (Dj c_law_draw hr (by omega) rfl (Ab (Ad 0) (Ab (Bv Dk Fy rfl (B.is "len") Gp (Ab (Ad 1) Ag)) Ag))))
   (Am (Za (Bs BZ BX (Ad 1) (Ad 4) (fun _ _=>rfl)) (Lb rfl (Eb (CQ (i:=5) IW.nd) (Eb (CQ (i:=6) IW.nd) Jl))))
   (Am (Ef (Cy (Gd hr) Gb (Ad 3) Ah (CV _))
   (Az (CJ (BW CP CK (BW CP CK (Fg Gz HD (Ad 1) GP (GK (Ad 4))) (CG (Ab (CG (Ab (Ad 6) (Ab (BW CP CK (BW CP CK (Ad 6) Ah) (Dj c_law_draw hr (by omega) rfl (Ab (Ad 0) (Ab Ah Ag)))) Ag)) (Aj (Aj Ao))) Ag) (Aj Ao))) (Fg Gz HD (Ad 1) (GK (BW CP CK (Ad 4) Ah)) GP))))
   DW)
   (Am (Ef (Cy (Gd hr) Gb (Ad 3) Ah (CV _))
   (Am (Cz (i:=7) IW.nd (BW CP CK (Ad 5) (Dj c_law_draw hr (by omega) rfl (Ab (Ad 0) (Ab (BW Ik Hi (Ad 6) (Ad 5)) Ag)))))
   (Az (CJ (BW CP CK (BW CP CK (Fg Gz HD (Ad 1) GP (GK (Ad 4))) (CG (Ab (CG (Ab (Ad 7) (Ab (Ad 6) Ag)) (Aj (Aj Ao))) Ag) (Aj Ao))) (Fg Gz HD (Ad 1) (GK (BW CP CK (Ad 4) Ah)) GP)))))
   DW)
   (Am (Ef (Cy (Gd hr) Gb (Ad 3) Ah (CV _))
   (Az (CJ (BW CP CK (BW CP CK (Fg Gz HD (Ad 1) GP (GK (Ad 4))) (CG (Ab (Dj c_law_stretch hr (by omega) rfl (Ab (Ad 0) (Ab (Bs BZ BX (Ad 2) (Ad 4) (fun _ _=>rfl)) Ag))) Ag) (Aj Ao))) (Fg Gz HD (Ad 1) (GK (BW CP CK (Ad 4) Ah)) GP))))
   DW)
   (Am (Ef (Cy (Gd hr) Gb (Ad 3) Ah (CV _))
   (Az (CJ (BW CP CK (BW CP CK (Fg Gz HD (Ad 1) GP (GK (Ad 4))) (CG (Ab (CG (Ab (BW Ik Hi (BW Ik Hi (Ad 5) Ah) (Dj c_law_draw hr (by omega) rfl (Ab (Ad 0) (Ab Ah Ag)))) (Ab (Ad 5) Ag)) (Aj (Aj Ao))) Ag) (Aj Ao))) (Fg Gz HD (Ad 1) (GK (BW CP CK (Ad 4) Ah)) GP))))
   DW)
   (Am (Ef (Cy (Gd hr) Gb (Ad 3) Ah (CV _))
   (Az (CJ (Np Pk Ue rfl (B.is "tuple") Ir (Ab (Fi rfl (El.of (sc:=Ak Hu) (N:=["well","box","marks","way","at","low","high","inner"]) (N2:=["one"]) (k:=1) (caps:=[]) (by decide +kernel)) rfl (Fv (Ad 1)) ⟨fun _ _ _ _ _=>⟨(CQ (i:=0) (show U2l (["one"]:List Str) by decide +kernel)),GJ,(CG (Ab (Bs BZ BX (Ad 0) Ah (fun _ _=>rfl)) (Ab (BW CP CK (Bs BZ BX (Ad 0) Ah (fun _ _=>rfl)) Ah) Ag)) (Aj (Aj Ao)))⟩⟩) Ag))))
   DW)
   (Az (CJ (Ad 1)))))))))))
set_option maxHeartbeats 4000000 in
theorem X5{f:Addr}{fd:FuncData}(F:Fun K "_law_heap" "_law_heap" Gf f fd)(B:Blt mg)(c_law_draw:Hh P w K mg base "_law_draw" 1 Ay)(c_law_marks:Hh P w K mg base "_law_marks" 2 Ec)(c_law_stretch:Hh P w K mg base "_law_stretch" 2 Em)(c_law_near:Hh P w K mg base "_law_near" 3 Et):Dp P w K mg base CX0 4 f fd ["well","ways","most"] (spM K Fo 3) :=
 fnM F Gg fun cdv A outer s H E hr =>
  (Am (Cz (i:=3) Gg.nd (Bs BZ BX (Ds (Ab (Dj c_law_draw hr (by omega) rfl (Ab (Ad 0) (Ab (BW CP CK (Bv (bB rfl) cL rfl (B.is "min") pL (Ab (Ad 2) (Ab Ah Ag))) Ah) Ag))) (Ab (Dj c_law_draw hr (by omega) rfl (Ab (Ad 0) (Ab (BW CP CK (Ad 2) Ah) Ag))) (Ab (Ad 2) Ag))) (Aj (Aj (Aj Ao)))) (Dj c_law_draw hr (by omega) rfl (Ab (Ad 0) (Ab Ah Ag))) (fun _ _=>rfl)))
   (Am (Cz (i:=4) Gg.nd (Fi rfl (El.of (sc:=Ak Gf) (N:=["well","ways","most","many","marks","boxes","alike","k","box"]) (N2:=["way","well","many"]) (k:=1) (caps:=[0,3]) (by decide +kernel)) rfl (Jo rfl (B.is "range") (Ab (Ad 1) Ag)) ⟨fun _ _ _ _ _=>⟨(CQ (i:=0) (show U2l (["way","well","many"]:List Str) by decide +kernel)),GJ,(Dj c_law_marks hr (by omega) rfl (Ab (Ad 1) (Ab (Ad 2) Ag)))⟩⟩))
   (Am (Cz (i:=5) Gg.nd (MF Ag Ao))
   (Am (Cz (i:=6) Gg.nd (Dj c_law_draw hr (by omega) rfl (Ab (Ad 0) (Ab Ah Ag))))
   (Am (La rfl (Jo rfl (B.is "range") (Ab (Ad 3) Ag)) (CQ (i:=7) Gg.nd)
   (Am (Cz (i:=8) Gg.nd (Np Pk Ue rfl (B.is "tuple") Ir (Ab (Fi rfl (El.of (sc:=Ak Gf) (N:=["well","ways","most","many","marks","boxes","alike","k","box"]) (N2:=["way","well","marks"]) (k:=1) (caps:=[0,4]) (by decide +kernel)) rfl (Jo rfl (B.is "range") (Ab (Ad 1) Ag)) ⟨fun _ _ _ _ _=>⟨(CQ (i:=0) (show U2l (["way","well","marks"]:List Str) by decide +kernel)),GJ,(Dj c_law_stretch hr (by omega) rfl (Ab (Ad 1) (Ab (Bs BZ BX (Ad 2) (Ad 0) (fun _ _=>rfl)) Ag)))⟩⟩) Ag)))
   (Am (Ef (Jw (Q7 (Cy (HJ hr) HF (Ad 5) (Ds Ag Ao) (CV _)) (Tg (Cy Rt Pz (Dj c_law_draw hr (by omega) rfl (Ab (Ad 0) (Ab Ah Ag))) (Ad 6) (CV _)))))
   (Az (Cz (i:=8) Gg.nd (Dj c_law_near hr (by omega) rfl (Ab (Ad 0) (Ab (Bs BZ BX (Ad 5) (Dj c_law_draw hr (by omega) rfl (Ab (Ad 0) (Ab (Bv Dk Fy rfl (B.is "len") Gp (Ab (Ad 5) Ag)) Ag))) (fun _ _=>rfl)) (Ab (Ad 4) Ag))))))
   DW)
   (Az (Ef (Cy Yg Vd (Bv (bC rfl rfl) cM rfl (B.is "max") Zg (Ab (Fi rfl (El.of (sc:=Ak Gf) (N:=["well","ways","most","many","marks","boxes","alike","k","box"]) (N2:=["low","high"]) (k:=2) (caps:=[]) (by decide +kernel)) rfl (Fv (Ad 8)) ⟨fun _ _ _ _ _=>⟨(Lb rfl (Eb (CQ (i:=0) (show U2l (["low","high"]:List Str) by decide +kernel)) (Eb (CQ (i:=1) (show U2l (["low","high"]:List Str) by decide +kernel)) Jl))),GJ,(Bv (bD rfl) cO rfl (B.is "max") Zg (Ab (Bv WK Xo rfl (B.is "abs") Zi (Ab (Ad 0) Ag)) (Ab (Bv WK Xo rfl (B.is "abs") Zi (Ab (Ad 1) Ag)) Ag)))⟩⟩) Ag)) (BW K1 J6 Ah Ah) (CV _))
   (Az (K3 (Jm U2i U3f U3g Lg Le (Ad 5) (Ab (Ad 8) Ag))))
   DW)))) U3h)
   (Az (CJ (CG (Ab (Ad 1) (Ab (Ad 5) Ag)) (Aj (Aj Ao))))))))))
set_option maxHeartbeats 4000000 in
theorem Rn{f:Addr}{fd:FuncData}(F:Fun K "_law_some_heap" "_law_some_heap" GQ f fd)(B:Blt mg)(c_law_draw:Hh P w K mg base "_law_draw" 1 Ay)(c_law_heap:Hh P w K mg base "_law_heap" 4 Fo):Dp P w K mg base CX0 5 f fd ["well"] (spM K Dw 1) :=
 fnM F NZ fun cdv A outer s H E hr =>
  (Am (Cz (i:=1) NZ.nd (BW CP CK Ah (Dj c_law_draw hr (by omega) rfl (Ab (Ad 0) (Ab Ah Ag)))))
   (Az (CJ (Dj c_law_heap hr (by omega) rfl (Ab (Ad 0) (Ab (Ad 1) (Ab (Bs BZ BX (Ds (Ab Ah (Ab Ah (Ab Ah (Ab Ah Ag)))) (Aj (Aj (Aj (Aj Ao))))) (Ad 1) (fun _ _=>rfl)) Ag)))))))
set_option maxHeartbeats 4000000 in
theorem Kl{f:Addr}{fd:FuncData}(F:Fun K "_law_parting" "_law_parting" Ew f fd)(B:Blt mg)(Bz:mg "zip"=none){n k:Nat}(hk:0<=k)(c_law_parting:Cv P w K mg base "_law_parting" k (Cu n)):Dp P w K mg base CX0 (k+1) f fd ["heap"] (spP K (Cu (n+1)) 1) :=
 fnP F DP fun cdv A outer s H E hr =>
  (Am (Za (Ad 0) (Lb rfl (Eb (CQ (i:=1) DP.nd) (Eb (CQ (i:=2) DP.nd) Jl))))
   (Am (Cz (i:=3) DP.nd (PJ rfl (BW CP CK (Fi rfl (El.of (sc:=Ak Ew) (N:=["heap","ways","boxes","marks","rows","low","high","there","part","found"]) (N2:=["box"]) (k:=1) (caps:=[]) (by decide +kernel)) rfl (Fv (Ad 2)) ⟨fun _ _ _ _ _=>⟨(CQ (i:=0) (show U2l (["box"]:List Str) by decide +kernel)),GJ,(Bs BZ BX (Bs BZ BX (Ad 0) Ah (fun _ _=>rfl)) Ah (fun _ _=>rfl))⟩⟩) (Fi rfl (El.of (sc:=Ak Ew) (N:=["heap","ways","boxes","marks","rows","low","high","there","part","found"]) (N2:=["box"]) (k:=1) (caps:=[]) (by decide +kernel)) rfl (Fv (Ad 2)) ⟨fun _ _ _ _ _=>⟨(CQ (i:=0) (show U2l (["box"]:List Str) by decide +kernel)),GJ,(Bs BZ BX (Bs BZ BX (Ad 0) Ah (fun _ _=>rfl)) Ah (fun _ _=>rfl))⟩⟩)) rfl (B.is "sorted") rfl (B.is "set")))
   (Am (Cz (i:=4) DP.nd (MF Ag Ao))
   (Am (La rfl (oV rfl Bz (Ab (Ad 3) (Ab (Fg Gz HD (Ad 3) (GK Ah) GP) Ag))) (Lb rfl (Eb (CQ (i:=5) DP.nd) (Eb (CQ (i:=6) DP.nd) Jl)))
   (Am (O5 (i:=7) rfl DP.nd (El.of (sc:=Ak Ew) (N:=["heap","ways","boxes","marks","rows","low","high","there","part","found"]) (N2:=["box","low"]) (k:=1) (caps:=[5]) (by decide +kernel)) rfl (Fv (Ad 2)) ⟨fun _ _ _ _ _=>⟨(CQ (i:=0) (show U2l (["box","low"]:List Str) by decide +kernel)),(Ti (W4 Yg Vd Rt Pz (Bs BZ BX (Bs BZ BX (Ad 0) Ah (fun _ _=>rfl)) Ah (fun _ _=>rfl)) (Ad 1) (Bs BZ BX (Bs BZ BX (Ad 0) Ah (fun _ _=>rfl)) Ah (fun _ _=>rfl)))),(Fg Gz HD (Ad 0) (GK Ah) GP)⟩⟩)
   (Am (Cz (i:=8) DP.nd (BW KR KH (Ds (Ab (CG Ag Ao) Ag) (Aj Ao)) (Np Us Xl rfl (B.is "int") SN (Ab (K4 (HJ hr) HF (Ad 7) (Ds Ag Ao) (CV _)) Ag))))
   (Am (Ef (Cy Oi Mp (Ad 1) Ah (CV _))
   (Az (Cz (i:=8) DP.nd (Dc c_law_parting hr (by omega) rfl (Ab (CG (Ab (BW Ik Hi (Ad 1) Ah) (Ab (Ad 7) Ag)) (Aj (Aj Ao))) Ag))))
   DW)
   (Az (Ef (Jw (Q7 (Cy (HJ hr) HF (Ad 4) (Ds Ag Ao) (CV _)) (Q7 (Cy (Gd hr) Gb (Bs BZ BX (Bs BZ BX (Ad 4) (Kr JZ Hz Ah) (fun _ _=>rfl)) Ah (fun _ _=>rfl)) (Ad 5) (CV _)) (Tg (Cy (Gd hr) Gb (Bs BZ BX (Bs BZ BX (Ad 4) (Kr JZ Hz Ah) (fun _ _=>rfl)) Ah (fun _ _=>rfl)) (Ad 8) (CV _))))))
   (Az (Oq (CG (Ab (Bs BZ BX (Bs BZ BX (Ad 4) (Kr JZ Hz Ah) (fun _ _=>rfl)) Ah (fun _ _=>rfl)) (Ab (Ad 6) (Ab (Ad 8) Ag))) (Aj (Aj (Aj Ao)))) (Ad 4) (Kr JZ Hz Ah)))
   (Az (K3 (Jm U2i U3f U3g Lg Le (Ad 4) (Ab (CG (Ab (Ad 5) (Ab (Ad 6) (Ab (Ad 8) Ag))) (Aj (Aj (Aj Ao)))) Ag))))))))) U3h)
   (Am (Cz (i:=9) DP.nd (MF Ag Ao))
   (Am (La rfl (Fv (Ad 4)) (Lb rfl (Eb (CQ (i:=5) DP.nd) (Eb (CQ (i:=6) DP.nd) (Eb (CQ (i:=8) DP.nd) Jl))))
   (Az (K3 (Jm U2i PySem.F.slot_list_extend PySem.F.type_list_extend Uj Ud (Ad 9) (Ab (Fi rfl (El.of (sc:=Ak Ew) (N:=["heap","ways","boxes","marks","rows","low","high","there","part","found"]) (N2:=["box","low","high"]) (k:=1) (caps:=[5,6]) (by decide +kernel)) rfl (Fv (Ad 8)) ⟨fun _ _ _ _ _=>⟨(CQ (i:=0) (show U2l (["box","low","high"]:List Str) by decide +kernel)),GJ,(BW CP CK (CG (Ab (CG (Ab (Ad 1) (Ab (Ad 2) Ag)) (Aj (Aj Ao))) Ag) (Aj Ao)) (Ad 0))⟩⟩) Ag)))) U3h)
   (Az (CJ (Ad 9)))))))))
set_option maxHeartbeats 4000000 in
theorem Jb{f:Addr}{fd:FuncData}(F:Fun K "_law_same" "_law_same" Ht f fd)(B:Blt mg){n k:Nat}(hk:0<=k)(c_law_same:Cv P w K mg base "_law_same" k (Bw n)):Dp P w K mg base CX0 (k+1) f fd ["found","due"] (spP K (Bw (n+1)) 2) :=
 fnP F Wu fun cdv A outer s H E hr =>
  (Am (Ef (HN (Bv Fj GF rfl (B.is "isinstance") Dg (Ab (Ad 1) (Ab (CG (Ab (Hs (n:="tuple") rfl (B.is "tuple") Ir) (Ab (Hs (n:="list") rfl (B.is "list") MN) Ag)) (Aj (Aj Ao))) Ag))))
   (Am (Ef (Jw (Jv (Cy (HJ hr) HF (Bv Fj GF rfl (B.is "isinstance") Dg (Ab (Ad 0) (Ab (Hs (n:="tuple") rfl (B.is "tuple") Ir) Ag))) (Bv Fj GF rfl (B.is "isinstance") Dg (Ab (Ad 1) (Ab (Hs (n:="tuple") rfl (B.is "tuple") Ir) Ag))) (CV _)) (LR (Cy (HJ hr) HF (Bv Fj GF rfl (B.is "isinstance") Dg (Ab (Ad 0) (Ab (Hs (n:="list") rfl (B.is "list") MN) Ag))) (Bv Fj GF rfl (B.is "isinstance") Dg (Ab (Ad 1) (Ab (Hs (n:="list") rfl (B.is "list") MN) Ag))) (CV _)))))
   (Az (CJ Jx))
   DW)
   (Am (Ef (Cy (HJ hr) HF (Bv Dk Fy rfl (B.is "len") Gp (Ab (Ad 0) Ag)) (Bv Dk Fy rfl (B.is "len") Gp (Ab (Ad 1) Ag)) (CV _))
   (Az (CJ Jx))
   DW)
   (Az (CJ (K4 (Gd hr) Gb (Fi rfl (El.of (sc:=Ak Ht) (N:=["found","due"]) (N2:=["k","found","due"]) (k:=1) (caps:=[0,1]) (by decide +kernel)) rfl (Jo rfl (B.is "range") (Ab (Bv Dk Fy rfl (B.is "len") Gp (Ab (Ad 1) Ag)) Ag)) ⟨fun _ _ _ _ _=>⟨(CQ (i:=0) (show U2l (["k","found","due"]:List Str) by decide +kernel)),(Ti (Il (HN (Dc c_law_same hr (by omega) rfl (Ab (Bs BZ BX (Ad 1) (Ad 0) (fun _ _=>rfl)) (Ab (Bs BZ BX (Ad 2) (Ad 0) (fun _ _=>rfl)) Ag)))))),(Ad 0)⟩⟩) (Ds Ag Ao) (CV _))))))
   DW)
   (Am (Ef (Jw (Jv (Cy nj mR (Ad 1) oW (CV _)) (LR (HN (Bv Fj GF rfl (B.is "isinstance") Dg (Ab (Ad 1) (Ab (Hs (n:="str") rfl (B.is "str") pJ) Ag)))))))
   (Az (CJ (K4 (Gd hr) Gb (Ad 0) (Ad 1) (CV _))))
   DW)
   (Az (CJ (O8 (Bv Fj GF rfl (B.is "isinstance") Dg (Ab (Ad 0) (Ab (Hs (n:="int") rfl (B.is "int") SN) Ag))) (O8 (Zb (Bv Fj GF rfl (B.is "isinstance") Dg (Ab (Ad 0) (Ab (Hs (n:="bool") rfl (B.is "bool") YF) Ag)))) (SJ (K4 (Gd hr) Gb (Ad 0) (Ad 1) (CV _)))))))))
set_option maxHeartbeats 4000000 in
theorem Wd{f:Addr}{fd:FuncData}(F:Fun K "_law_right" "_law_right" Ib f fd){fa:Nat->Addr}(B:Blt mg)(c_law_parting:Cv P w K mg base "_law_parting" 3 (Cu 3))(c_parting_of:Cv P w K mg base "parting_of" 7 (DN fa))(c_law_same:Cv P w K mg base "_law_same" 5 (Bw 5)):Dp P w K mg base CX0 8 f fd ["heap"] (spP K (FZ fa) 1) :=
 fnP F J3 fun cdv A outer s H E hr =>
  (Am (Cz (i:=1) J3.nd (Dc c_law_parting hr (by omega) rfl (Ab (Ad 0) Ag)))
   (Am (Cz (i:=2) J3.nd (CG (Ab (Bs BZ BX (Ad 0) Ah (fun _ _=>rfl)) (Ab (jV Wn cP rfl (B.is "list") MN (Ab (Bs BZ BX (Ad 0) Ah (fun _ _=>rfl)) Ag)) Ag)) (Aj (Aj Ao))))
   (Am (La rfl (Jo rfl (B.is "range") (Ab Ah Ag)) (CQ (i:=3) J3.nd)
   (Am (Cz (i:=4) J3.nd (W6 c_parting_of hr (by omega) rfl (Ab (Ad 2) Ag)))
   (Am (Ef (Jw (Jv (Il (HN (Dc c_law_same hr (by omega) rfl (Ab (Ad 4) (Ab (Ad 1) Ag))))) (Jv (Cy (HJ hr) HF (Ad 4) (eN rfl hr rfl (B.is "sorted") (Ad 4)) (CV _)) (LR (Cy (HJ hr) HF (Ad 2) (Ad 0) (CV _))))))
   (Az (CJ Jx))
   DW)
   (Az (K3 (Jm U2i U3f U3g Lg Le (Ad 4) (Ab Ah Ag)))))) U3h)
   (Az (CJ Jx)))))
set_option maxHeartbeats 4000000 in
theorem o8{f:Addr}{fd:FuncData}(F:Fun K "law" "law" Lw f fd){fa:Nat->Addr}(B:Blt mg)(c_law_well:Cv P w K mg base "_law_well" 1 Gq)(c_law_some_heap:Hh P w K mg base "_law_some_heap" 5 Dw)(c_law_right:Cv P w K mg base "_law_right" 8 (FZ fa))(c_law_draw:Hh P w K mg base "_law_draw" 1 Ay)(c_parting_of:Cv P w K mg base "parting_of" 7 (DN fa)):Dp P w K mg base CX0 9 f fd ["script"] (spP K (TY fa) 1) :=
 fnP F S6 fun cdv A outer s H E hr =>
  (Am (La rfl (Fv (BW CP CK (Ds (Ab Ah (Ab Ah Ag)) (Aj (Aj Ao))) (Fg Gz HD (Ad 0) GP (GK Ah)))) (CQ (i:=1) S6.nd)
   (Am (Cz (i:=2) S6.nd (W6 c_law_well hr (by omega) rfl (Ab (Ad 1) Ag)))
   (Am (Cz (i:=3) S6.nd (eH c_law_some_heap hr (by omega) rfl (Ab (Ad 2) Ag)))
   (Am (Ef (Il (HN (Dc c_law_right hr (by omega) rfl (Ab (Ad 3) Ag))))
   (Az (CJ Jx))
   DW)
   (Az (Ef (Cy (HJ hr) HF (Bs BZ BX (Ad 3) Ah (fun _ _=>rfl)) (Ds Ag Ao) (CV _))
   (Am (K3 (Jm U2i PySem.F.slot_list_pop PySem.F.type_list_pop dJ cJ (Bs BZ BX (Ad 3) Ah (fun _ _=>rfl)) (Ab (Dj c_law_draw hr (by omega) rfl (Ab (Ad 2) (Ab (Bv Dk Fy rfl (B.is "len") Gp (Ab (Bs BZ BX (Ad 3) Ah (fun _ _=>rfl)) Ag)) Ag))) Ag)))
   (Az (Ef (Il (HN (Dc c_law_right hr (by omega) rfl (Ab (Ad 3) Ag))))
   (Az (CJ Jx))
   DW)))
   DW))))) U3h)
   (Am (Ef (Jw (Jv (Cy (HJ hr) HF (Dc c_parting_of hr (by omega) rfl (Ab (CG (Ab Ah (Ab (Ds (Ab (CG (Ab (CG (Ab Ah (Ab Ah Ag)) (Aj (Aj Ao))) Ag) (Aj Ao)) (Ab (CG (Ab (CG (Ab Ah (Ab Ah Ag)) (Aj (Aj Ao))) Ag) (Aj Ao)) (Ab (CG (Ab (CG (Ab Ah (Ab Ah Ag)) (Aj (Aj Ao))) Ag) (Aj Ao)) Ag))) (Aj (Aj (Aj Ao)))) Ag)) (Aj (Aj Ao))) Ag)) (Ds (Ab (CG (Ab (CG (Ab Ah (Ab Ah Ag)) (Aj (Aj Ao))) Ag) (Aj Ao)) (Ab (CG (Ab (CG (Ab Ah (Ab Ah Ag)) (Aj (Aj Ao))) Ag) (Aj Ao)) Ag)) (Aj (Aj Ao))) (CV _)) (LR (Cy (HJ hr) HF (Dc c_parting_of hr (by omega) rfl (Ab (CG (Ab Ah (Ab (Ds Ag Ao) Ag)) (Aj (Aj Ao))) Ag)) (Ds Ag Ao) (CV _)))))
   (Az (CJ Jx))
   DW)
   (Az (CJ (K4 (Gd hr) Gb (Dc c_parting_of hr (by omega) rfl (Ab (CG (Ab Ah (Ab (Ds (Ab (CG (Ab (CG (Ab Ah (Ab Ah Ag)) (Aj (Aj Ao))) (Ab (CG (Ab Ah (Ab Ah Ag)) (Aj (Aj Ao))) Ag)) (Aj (Aj Ao))) (Ab (CG (Ab (CG (Ab Ah (Ab Ah Ag)) (Aj (Aj Ao))) (Ab (CG (Ab Ah (Ab Ah Ag)) (Aj (Aj Ao))) Ag)) (Aj (Aj Ao))) Ag)) (Aj (Aj Ao))) Ag)) (Aj (Aj Ao))) Ag)) (Ds (Ab (CG (Ab (CG (Ab Ah (Ab Ah Ag)) (Aj (Aj Ao))) (Ab (CG (Ab Ah (Ab Ah Ag)) (Aj (Aj Ao))) Ag)) (Aj (Aj Ao))) Ag) (Aj Ao)) (CV _))))))
end
end W38
end
section
namespace W38
open PySem L2 VS
theorem Qd(i:Int):Fp [.int i]=some (.bl true):=by
 simp[Fp,Sw,Cg,Aq,Cj,Aw,Al,Dy,KY,Oa,EY,den,-U0f,-U0e]
theorem R7{n:Int}(h:n=1∨n=2∨n=3):FW [.int n]=some (.bl true):=by
 have e:(Spec.lookup (.int n) Bc.D3).isSome=true:=by rw[Bc.rK];exact decide_eq_true h
 simp[FW,Sx,Cg,Aq,O9,Aw,Al,KY,HW,EY,den,CT,age,Bb,Ax,Av,-U0f,-U0e,Qd,VJ,e]
theorem V9(p:St2):Gj [BJ p]=some (.bl (decide (p.1<p.2))):=by
 have h:DX [] (BJ p)=some (pS p):=Zu [] p
 simp only[BJ] at h ⊢
 simp[Gj,Qg,Df,Cg,Dt,Dm,Aq,Cj,BL,Aw,Al,Dy,KY,Bq,Jz,M7,HW,oI,FJ,oLt,oEq,oIx,DR,VS.listOf,Bu,EY,den,CT,age,Bb,Ax,Av,-U0f,-U0e,Qd,h,pS]
theorem fC(n:Nat)(b:List St2)(hb:∀p∈b,p.1<p.2)(hl:b.length<=1000):QM [some (.int n),some (Ae b)] []=some (b.map (fun _=>D.bl true),[]):=by
 unfold QM Dl
 have e:Ei (Ac 1) [some (.int n),some (Ae b)] []=some ((b.map BJ,[]),[]):=by simp[Aq,VS.listOf,Bu,VS.idOf,IK,-U0f,-U0e,Ae]
 rw[e]
 simp only[U0d]
 rw[Ow (by simp) (fun _=>.bl true) _ (by simp;omega)]
 .simp[U4q]
 .intro d hd
  obtain⟨p,hp,rfl⟩:=U2b.mp hd
  refine⟨_,rfl,?_⟩
  have h1:=V9 p
  rw[decide_eq_true (hb p hp)] at h1
  simp[Aq,Aw,Al,Gv,HW,CT,Bb,Av,U0l,-U0f,-U0e,h1]
theorem T5{α:Type}(l:List α):Mj.boolsOf (l.map fun _=>D.bl true)=some (l.map fun _=>true):=by
 have:=XR (l.map fun _=>true)
 rw[U0f] at this
 exact this
theorem aU{n:Nat}{b:List St2}(hn:n=1∨n=2∨n=3)(hb:∀p∈b,p.1<p.2)(hl:b.length=n):J8 [.int n,Ae b]=some (.bl true):=by
 have hw:FW [.int n]=some (.bl true):=R7 (by omega)
 have hc:=fC n b hb (by omega)
 have h:DX [] (Ae b)=some (pB b):=Zv [] b
 have hlen:DR [] [Ae b]=some (.int n):=by simp[DR,Ae,Bu,hl]
 simp[J8,W7,Bh,sIf,DQ,Ep,VS.tOr,VS.Hq,Bt,Bf,eCB,Aa,Af,Ac,eC,eOp,Bp,G6,den,CT,age,Bb,Ax,Av,hw,h,pB,hlen,oEq,hc,Mj,VS.listOf,T5]
theorem jL{n:Nat}(h:n=1∨n=2∨n=3):S7 Bc.D3 [] (.int n)=some (.int ([0,20,10,6].getD n 0:Nat)):=by
 rcases h with h|h|h<;>subst h<;>rfl
theorem aR{n:Nat}{m:Bool}{bs:List (List St2)}(g:Good n bs):PK [some (Ba m n bs),some (.int n),some (.lst m (bs.map Ae))] []=some (bs.map (fun _=>D.bl true),[]):=by
 have few:=g.few
 unfold PK Dl
 have e:Ei (Ac 2) [some (Ba m n bs),some (.int n),some (.lst m (bs.map Ae))] []=some ((bs.map Ae,[]),[]):=by simp[Aq,VS.listOf,Bu,VS.idOf,IK,-U0f,-U0e]
 rw[e]
 simp only[U0d]
 rw[Ow (by simp) (fun _=>.bl true) _ (by simp;omega)]
 .simp[U4q]
 .intro d hd
  obtain⟨b,hb,rfl⟩:=U2b.mp hd
  refine⟨_,rfl,?_⟩
  have h1:=aU g.ways (fun p hp=>((g.box b hb).2 p hp).1) (g.box b hb).1
  simp[Aq,Aw,Al,Gv,HW,den,CT,age,Bb,Ax,Av,U0l,-U0f,-U0e,h1]
theorem Z7{n:Nat}{m:Bool}{bs:List (List St2)}(g:Good n bs):IV [Ba m n bs]=some (.bl true):=by
 have hw:FW [.int n]=some (.bl true):=R7 (by have:=g.ways;omega)
 have hc:=aR (m:=m) g
 have h:=QH [] m n bs
 have h2:=J9 [] m bs
 have hm:=jL g.ways
 have hle:¬(([0,20,10,6].getD n 0:Nat):Int)<(bs.length:Int):=by have:=g.most;omega
 unfold Ba at h hc ⊢
 simp only[U18] at hm hle
 simp[IV,Uo,Bh,sIf,DQ,Ep,Cd,VS.tOr,VS.Hq,Bt,Bf,eCB,Aa,Af,Ac,eC,eOp,eUn,Bp,G6,den,CT,age,Bb,Ax,Av,hw,h,h2,hc,oEq,oIx,oGt,oI,FJ,DR,VS.Bu,VS.listOf,Mj,T5,hm,hle]
theorem Wh{n:Nat}{m:Bool}{bs:List (List St2)}(g:Good n bs):GZ [Ba m n bs]=some .non:=by
 have h:=Z7 (m:=false) g
 simp[GZ,Qx,Dt,Dm,Zy,Aq,Aw,Al,Bq,M7,HW,EY,CT,Bb,Av,-U0f,-U0e,h]
end W38
end
section
namespace W38
open PySem L2 VS
theorem gn(c:Int):∃x y,Gq [.int c]=some (.lst true [.int x,.int y]):=by
 by_cases h:(1000000000000000000:Int)<=c<;>simp[Gq,Sv,Df,Cg,Dt,Dm,Aq,Cj,BL,Aw,Al,Bq,Br,oI,FJ,VN,KD,oMod,Ge,oGe,EY,den,CT,-U0f,-U0e,h]
theorem FQ(x y m:Int)(h0:0<m)(h1:m<2^63):∃r x' y',Ay [x,y] [.int m]=some (.int r,[x',y'])/\0<=r/\r<m:=by
 have hm:m<18446744073709551616:=by omega
 by_cases h:0<x
 .simp[Ay,PN,Df,CN,Cg,Dt,Dm,QJ,Aq,Cj,BL,Aw,Al,Dy,Bq,Br,oI,FJ,Mi,YS,VN,KD,Bm,Gu,oDiv,oMod,Ge,oGt,oIx,Px,VS.listOf,Bu,FP,intsOf,den,U0l,-U0f,-U0e,h,h0,hm]
  exact⟨Int.emod_nonneg _ (by omega),Int.emod_lt_of_pos _ h0⟩
 .have hc:∀t:Int,-18446744073709551616<t%2147483647/\t%2147483647<18446744073709551616:=fun t=>by omega
  have hc2:∀t:Int,-18446744073709551616<t%2147483587/\t%2147483587<18446744073709551616:=fun t=>by omega
  have hc3:∀t:Int,-18446744073709551616<t%2147483629/8/\t%2147483629/8<18446744073709551616:=fun t=>by omega
  by_cases hb:1000000<m<;>simp[Ay,PN,Df,CN,Cg,Dt,Dm,QJ,Aq,Cj,BL,Aw,Al,Dy,Bq,Br,oI,FJ,Mi,YS,VN,KD,Bm,Gu,oDiv,oMod,Ge,oGt,oIx,Px,VS.listOf,Bu,FP,intsOf,den,U0l,-U0f,-U0e,h,h0,hm,hb,hc,hc2,hc3]<;>exact⟨Int.emod_nonneg _ (by omega),Int.emod_lt_of_pos _ h0⟩
structure Marks(ms:List Int):Prop where
 rise:ms.Pairwise (·<·)
 two:2<=ms.length
 few:ms.length<=60
 near:∀x∈ms,-1000000000<=x/\x<=1000000000
theorem RN{lo:Int}{n:Nat}(h1:2<=n)(h2:n<=60)(h3:-1000000000<=lo)(h4:lo+n<=1000000000):Marks ((U12 n).map fun(i:Nat)=>lo+(i:Int)):=by
 refine⟨?_,by simpa using h1,by simpa using h2,fun x hx=>?_⟩
 .rw[U6i]
  exact U5n.imp fun h=>by omega
 .obtain⟨i,hi,rfl⟩:=U2b.mp hx
  have:=U3m.mp hi
  omega
theorem jM(x y many f w:Int)(h0:0<=many)(h1:many<=40):∃(ns:List Int)(x' y':Int),N8 [some (.ref 0),some (.int many),some (.int f),some (.int w),none] [some [.int x,.int y]]=some (ns.map .int,[some [.int x',.int y']])/\ns.length<=42/\∀n∈ns,-1000000000<=n/\n<=1000000000:=by
 have e:Fz (Aa (eOp Bm (eC (.int 2)) (Ac 1)) Af) [some (.ref 0),some (.int many),some (.int f),some (.int w),none] [some [.int x,.int y]]=some ((upD 0 (2+many).toNat,[]),[some [.int x,.int y]]):=by
  exact O6 _ (by simp[Aq,Cj,BL,Aw,Al,Bm,VS.listOf,-U0f,-U0e]) rfl (by omega) (by omega)
 unfold N8 Dl
 rw[e]
 simp only[U0d]
 obtain⟨ys,S',e2,⟨ns,x',y',rfl,rfl,hl,hb⟩⟩:=Ri (w:=[]) (e0:=Gv 1 [0] [some (.ref 0),some (.int many),some (.int f),some (.int w),none]) (g:=Pat.sem (.nm 0)) (ds:=upD 0 (2+many).toNat) (S:=[some [.int x,.int y]])
  (f:=(eOp Fe (Ck Ay (Aa (Ac 1) (Aa (eOp Bm (eOp Gu (eC (.int 2)) (eOp Ge (eC (.int 10)) (eC (.int 9)))) (eC (.int 1))) Af))) (eOp Ge (eC (.int 10)) (eC (.int 9)))))
  (fun i ys S=>∃(ns:List Int)(x' y':Int),ys=ns.map D.int/\S=[some [.int x',.int y']]/\ns.length=min i 42/\∀n∈ns,-1000000000<=n/\n<=1000000000)
  ⟨[],x,y,rfl,rfl,rfl,fun n hn=>by simp at hn⟩ (fun i ys S ⟨ns,x',y',h1,h2,h3,h4⟩=>⟨by simp,by rw[h1,U0g,h3];omega⟩)
  (fun i d ys S hd ⟨ns,x',y',h1,h2,h3,h4⟩=>by
   obtain⟨hi,rfl⟩:=Qk hd
   obtain⟨r,x2,y2,e3,r0,r1⟩:=FQ x' y' 2000000001 (by decide) (by decide)
   subst h1 h2
   refine⟨_,.int (r-1000000000),[some [.int x2,.int y2]],rfl,?_,ns++[r-1000000000],x2,y2,by simp,rfl,by simp;omega,fun n hn=>?_⟩
   .simp[Aq,Cj,BL,Aw,Al,Gv,Cr,oI,FJ,Mi,KD,Bm,Fe,Gu,Ge,VS.listOf,intsOf,den,CT,age,Bb,Ax,Av,U0l,-U0f,-U0e,e3]
   .rcases U1k.mp hn with z|z
    .exact h4 n z
    .have:n=r-1000000000:=by simpa using z
     omega)
 refine⟨ns,x',y',e2,by omega,hb⟩
theorem Sg{ns:List Int}{f:Int}(hl:ns.length<=44)(hb:∀n∈ns,-1000000000<=n/\n<=1000000000)(h1:-1000000000<=f)(h2:f+1<=1000000000):Marks (Ea (ns++[f,f+1]))/\(SetP.once (ns++[f,f+1])).length<64:=by
 obtain⟨o1,o2,o3⟩:=SetP.Ji (ns++[f,f+1])
 have hp:(Ea (ns++[f,f+1])).Perm (SetP.once (ns++[f,f+1])):=U3l _ _
 have hlen:(ns++[f,f+1]).length<=46:=by simp;omega
 have hs:(Ea (ns++[f,f+1])).Pairwise (·<=·):=by
  have:=U5h (le:=fun a b:Int=>decide (a<=b)) (by intro a b c h1 h2;simp at *;omega) (by intro a b;simp;omega) (SetP.once (ns++[f,f+1]))
  exact this.imp fun h=>by simpa using h
 have mem:∀z,z∈Ea (ns++[f,f+1])↔z∈ns++[f,f+1]:=fun z=>hp.mem_iff.trans (o3 z)
 refine⟨⟨?_,?_,by rw[hp.length_eq];omega,fun z hz=>?_⟩,by omega⟩
 .have nd:=hp.nodup_iff.mpr o1
  exact(hs.and nd).imp fun⟨h,n⟩=>by omega
 .have m1:f∈Ea (ns++[f,f+1]):=(mem f).mpr (by simp)
  have m2:f+1∈Ea (ns++[f,f+1]):=(mem _).mpr (by simp)
  match Ea (ns++[f,f+1]),m1,m2 with
  |[],m1,_=>simp at m1
  |[z],m1,m2=>simp at m1 m2;omega
  |_::_::_,_,_=>simp
 .rcases U1k.mp ((mem z).mp hz) with q|q
  .exact hb z q
  .simp at q;omega
theorem dN(x y many:Int)(h0:0<=many)(h1:many<=40):∃ms x' y',Ec [x,y] [.int many]=some (.lst true (ms.map .int),[x',y'])/\Marks ms:=by
 obtain⟨r,x1,y1,e1,r0,r1⟩:=FQ x y 1999999980 (by decide) (by decide)
 obtain⟨w,x2,y2,e2,w0,w1⟩:=FQ x1 y1 5 (by decide) (by decide)
 obtain⟨ns,x3,y3,e3,hl,hb⟩:=jM x2 y2 many (r-1000000000+10) w h0 h1
 have hw:w=0∨w=1∨w=2∨w=3∨w=4:=by omega
 rcases hw with rfl|rfl|rfl|rfl|rfl
 .refine⟨_,x2,y2,?_,RN (lo:=0) (n:=7) (by decide) (by decide) (by decide) (by decide)⟩
  rw[←Mw]
  simp[Ec,Ig,Df,CN,Cg,Dt,Dm,Aq,Cj,BL,O9,Aw,Al,Bq,Br,Cr,Hx,Hg,oI,FJ,Mi,KD,Bm,Fe,Gu,Ge,oLt,Fx,oEq,oIx,VS.listOf,Bu,FP,intsOf,den,CT,age,Bb,Ax,Av,U0l,-U0f,-U0e,e1,e2,r62]
 .refine⟨_,x2,y2,?_,RN (lo:=-3) (n:=7) (by decide) (by decide) (by decide) (by decide)⟩
  rw[←Mw]
  simp[Ec,Ig,Df,CN,Cg,Dt,Dm,Aq,Cj,BL,O9,Aw,Al,Bq,Br,Cr,Hx,Hg,oI,FJ,Mi,KD,Bm,Fe,Gu,Ge,oLt,Fx,oEq,oIx,VS.listOf,Bu,FP,intsOf,den,CT,age,Bb,Ax,Av,U0l,-U0f,-U0e,e1,e2,r62]
 .refine⟨_,x2,y2,?_,RN (lo:=r-1000000000+10) (n:=6) (by decide) (by decide) (by omega) (by omega)⟩
  rw[←Mw]
  have hr:r62 (r-1000000000+10)/\r62 (r-1000000000+10+6):=by unfold r62;omega
  have h6:(r-1000000000+10+6-(r-1000000000+10)).toNat=6:=by omega
  have h7:r-1000000000+10+6-(r-1000000000+10)<=1000:=by omega
  simp[Ec,Ig,Df,CN,Cg,Dt,Dm,Aq,Cj,BL,O9,Aw,Al,Bq,Br,Cr,Hx,Hg,oI,FJ,Mi,KD,Bm,Fe,Gu,Ge,oLt,Fx,oEq,oIx,VS.listOf,Bu,FP,intsOf,den,CT,age,Bb,Ax,Av,U0l,-U0f,-U0e,e1,e2,hr,h6,h7]
 .obtain⟨hm,ho⟩:=Sg (ns:=ns++[-1000000000,1000000000]) (f:=r-1000000000+10) (by simp;omega) (fun n hn=>by
   rcases U1k.mp hn with z|z
   .exact hb n z
   .simp at z;omega) (by omega) (by omega)
  refine⟨_,x3,y3,?_,hm⟩
  rw[U5i] at ho ⊢
  have hi:intsOf (ns.map D.int++[.int (-1000000000),.int 1000000000,.int (r-1000000000+10),.int (r-1000000000+10+1)])=some (ns++([-1000000000,1000000000]++[r-1000000000+10,r-1000000000+10+1])):=by
   rw[←K5 (ns++([-1000000000,1000000000]++[r-1000000000+10,r-1000000000+10+1]))];simp
  have hl2:ns.length+4<1000/\ns.length+4<=1000000/\ns.length+2<=1000000/\ns.length+2+2<=1000000/\ns.length<=999998/\ns.length<=999996:=by omega
  simp only[U2n,U13] at hi ho ⊢
  simp[Ec,Ig,Df,CN,Cg,Dt,Dm,Aq,Cj,BL,O9,Aw,Al,Bq,Br,Cr,Hx,Hg,oI,FJ,Mi,KD,Bm,Fe,Gu,Ge,oLt,Fx,oEq,oIx,VS.listOf,Bu,FP,intsOf,den,CT,age,Bb,Ax,Av,U0l,-U0f,-U0e,e1,e2,e3,hi,ho,hl2]
 .obtain⟨hm,ho⟩:=Sg (ns:=ns) (f:=r-1000000000+10) (by omega) hb (by omega) (by omega)
  refine⟨_,x3,y3,?_,hm⟩
  have hi:intsOf (ns.map D.int++[.int (r-1000000000+10),.int (r-1000000000+10+1)])=some (ns++[r-1000000000+10,r-1000000000+10+1]):=by
   rw[←K5 (ns++[r-1000000000+10,r-1000000000+10+1])];simp
  have hl2:ns.length+2<1000/\ns.length+2<=1000000/\ns.length<=999998:=by omega
  simp[Ec,Ig,Df,CN,Cg,Dt,Dm,Aq,Cj,BL,O9,Aw,Al,Bq,Br,Cr,Hx,Hg,oI,FJ,Mi,KD,Bm,Fe,Gu,Ge,oLt,Fx,oEq,oIx,VS.listOf,Bu,FP,intsOf,den,CT,age,Bb,Ax,Av,U0l,-U0f,-U0e,e1,e2,e3,hi,ho,hl2]
end W38
end
section
namespace W38
open PySem L2 VS
theorem SX(x y:Int)(m:Bool){ms:List Int}(M:Marks ms):∃p x' y',Em [x,y] [.lst m (ms.map .int)]=some (BJ p,[x',y'])/\p.1<p.2/\-1000000000<=p.1/\p.2<=1000000000:=by
 have h2:=M.two
 have h6:=M.few
 obtain⟨a,x1,y1,e1,a0,a1⟩:=FQ x y ((ms.length:Int)-1) (by omega) (by omega)
 obtain⟨c,x2,y2,e2,c0,c1⟩:=FQ x1 y1 ((ms.length:Int)-1-a) (by omega) (by omega)
 obtain⟨u,f1,g1⟩:=Ma (F:=D.int) (l:=ms) (i:=a) a0 (by omega)
 obtain⟨v,f2,g2⟩:=Ma (F:=D.int) (l:=ms) (i:=a+1+c) (by omega) (by omega)
 have hu:=M.near u (U06 g1)
 have hv:=M.near v (U06 g2)
 have huv:u<v:=by
  obtain⟨l1,q1⟩:=U0h.mp g1
  obtain⟨l2,q2⟩:=U0h.mp g2
  rw[←q1,←q2]
  exact List.pairwise_iff_getElem.mp M.rise _ _ _ _ (by omega)
 refine⟨(u,v),x2,y2,?_,huv,hu.1,hv.2⟩
 simp[Em,Ph,Df,CN,Cg,Aq,Cj,BL,Aw,Al,Dy,En,Cr,oI,FJ,Bm,Fe,oIx,DR,VS.listOf,Bu,FP,intsOf,den,CT,age,Bb,Ax,Av,U0l,-U0f,-U0e,e1,e2,f1,f2,BJ]
def encM(m:Bool)(mss:List (List Int)):D:=.lst m (mss.map fun ms=>.lst m (ms.map .int))
theorem oE(x y:Int)(b:List St2)(r:VS.Env)(S:Store)(hl:b.length<=3)(d0:Option D):O2 (d0::some (Ae b)::r) S=some (b.map (fun p=>BJ (p.2,p.2+1)),S):=by
 unfold O2 Dl
 have e:Ei (Ac 1) (d0::some (Ae b)::r) S=some ((b.map BJ,[]),S):=by simp[Aq,VS.listOf,Bu,VS.idOf,IK,-U0f,-U0e,Ae]
 rw[e]
 simp only[U0d]
 have:=Ow (w:=[]) (e0:=Gv 1 [] (d0::some (Ae b)::r)) (g:=Pat.sem (.nm 0)) (S:=S) (f:=Bo (Aa (eOp oIx (Ac 0) (eC (.int 1))) (Aa (eOp Bm (eOp oIx (Ac 0) (eC (.int 1))) (eC (.int 1))) Af)))
  (by simp) (fun d=>match d with|.tup [_,.int h]=>BJ (h,h+1)|_=>.non) (b.map BJ) (by simp;omega) (fun d hd=>by
   obtain⟨p,hp,rfl⟩:=U2b.mp hd
   exact⟨_,rfl,by simp[Aq,Cj,BL,Aw,Al,En,Gv,Bm,oIx,VS.listOf,Bu,U0l,-U0f,-U0e,BJ]⟩)
 rw[this]
 simp[BJ,U4q]
theorem Iz{b:List St2}:Ej (b.map BJ)=true:=Jq b fun p _=>HS p
theorem jJ(x y:Int)(b:List St2)(m:Bool)(mss:List (List Int))(h0:1<=b.length)(h3:b.length<=3)(hb:∀p∈b,p.1<p.2/\-1000000000<=p.1/\p.2<=1000000000)(hm:mss.length=b.length)(hM:∀ms∈mss,Marks ms) :
  ∃c x' y',Et [x,y] [Ae b,encM m mss]=some (Ae c,[x',y'])/\c.length=b.length/\∀p∈c,p.1<p.2:=by
 obtain⟨w,x1,y1,e1,w0,w1⟩:=FQ x y 6 (by decide) (by decide)
 obtain⟨a,x2,y2,e2,a0,a1⟩:=FQ x1 y1 (b.length:Int) (by omega) (by omega)
 obtain⟨⟨lo,hi⟩,f1,g1⟩:=Ma (F:=BJ) (l:=b) (i:=a) a0 a1
 have hp:=hb _ (U06 g1)
 simp only at hp
 have hal:a.toNat<b.length:=by omega
 have c1:=Zf (xs:=b.map BJ) (a:=a) a0 (by simp;omega)
 have c2:=Ov (xs:=b.map BJ) (a:=a+1) (by omega) (by simp;omega)
 have t1:(a+1).toNat=a.toNat+1:=by omega
 -- the box with another stretch
 have put:∀q1 q2:Int,q1<q2->∃c:List St2,(∀S:Store,CT 1 S ((b.map BJ).take a.toNat++(D.tup [.int q1,.int q2]::(b.map BJ).drop (a.toNat+1)))=some (c.map BJ))/\c.length=b.length/\∀p∈c,p.1<p.2:=fun q1 q2 hq=>by
  refine⟨b.take a.toNat++(q1,q2)::b.drop (a.toNat+1),fun S=>?_,by simp;omega,fun p hp'=>?_⟩
  .rw[show(b.map BJ).take a.toNat++(D.tup [.int q1,.int q2]::(b.map BJ).drop (a.toNat+1))=(b.take a.toNat++(q1,q2)::b.drop (a.toNat+1)).map BJ by simp[U64,U65,BJ]]
   exact Cq 1 S (Bd Iz)
  .rcases U1k.mp hp' with z|z
   .exact(hb p (List.mem_of_mem_take z)).1
   .rcases U0t.mp z with z|z
    .rw[z];exact hq
    .exact(hb p (List.mem_of_mem_drop z)).1
 have hlen:min a.toNat b.length<=999999/\min a.toNat b.length+1+(b.length-(a.toNat+1))<=1000000/\min a.toNat b.length+(b.length-(a.toNat+1)+1)<=1000000/\min a.toNat b.length+(1+(b.length-(a.toNat+1)))<=1000000:=by omega
 have hw:w=0∨w=1∨w=2∨w=3∨w=4∨w=5:=by omega
 rcases hw with rfl|rfl|rfl|rfl|rfl|rfl
 .refine⟨b,x2,y2,?_,rfl,fun p hp=>(hb p hp).1⟩
  unfold Ae at *
  unfold encM
  simp[Et,Hv,Df,CN,Cg,Dt,KQ,Dm,Aq,Cj,BL,Aw,Al,Dy,Bq,Io,Im,Ld,Br,En,Cr,oI,FJ,Bm,Fe,oEq,oIx,oSl,DR,Lh,VS.listOf,Bu,FP,Fd,Hw,GR,Ft,intsOf,den,CT,age,Bb,Ax,Av,U0l,-U0f,-U0e,e1,e2,f1,BJ,Cq,Bd,Iz]
 .obtain⟨r,x3,y3,e3,r0,r1⟩:=FQ x2 y2 3 (by decide) (by decide)
  obtain⟨c,hc,hl,hlt⟩:=put hi (hi+1+r) (by omega)
  refine⟨c,x3,y3,?_,hl,hlt⟩
  unfold Ae at *
  unfold encM
  simp[Et,Hv,Df,CN,Cg,Dt,KQ,Dm,Aq,Cj,BL,Aw,Al,Dy,Bq,Io,Im,Ld,Br,En,Cr,oI,FJ,Bm,Fe,oEq,oIx,oSl,DR,Lh,VS.listOf,Bu,FP,Fd,Hw,GR,Ft,intsOf,den,CT,age,Bb,Ax,Av,U0l,-U0f,-U0e,e1,e2,e3,f1,c1,c2,t1,hlen,hc,BJ,Cq,Bd,Iz]
 .obtain⟨r,x3,y3,e3,r0,r1⟩:=FQ x2 y2 (hi-lo) (by omega) (by omega)
  obtain⟨c,hc,hl,hlt⟩:=put (lo+r) hi (by omega)
  refine⟨c,x3,y3,?_,hl,hlt⟩
  unfold Ae at *
  unfold encM
  simp[Et,Hv,Df,CN,Cg,Dt,KQ,Dm,Aq,Cj,BL,Aw,Al,Dy,Bq,Io,Im,Ld,Br,En,Cr,oI,FJ,Bm,Fe,oEq,oIx,oSl,DR,Lh,VS.listOf,Bu,FP,Fd,Hw,GR,Ft,intsOf,den,CT,age,Bb,Ax,Av,U0l,-U0f,-U0e,e1,e2,e3,f1,c1,c2,t1,hlen,hc,BJ,Cq,Bd,Iz]
 .obtain⟨ms,f3,g3⟩:=Ma (F:=fun ms=>D.lst m (ms.map D.int)) (l:=mss) (i:=a) a0 (by omega)
  obtain⟨⟨u,v⟩,x3,y3,e3,huv,_,_⟩:=SX x2 y2 false (hM ms (U06 g3))
  simp only at huv
  obtain⟨c,hc,hl,hlt⟩:=put u v huv
  refine⟨c,x3,y3,?_,hl,hlt⟩
  unfold Ae at *
  unfold encM
  simp only[BJ] at e3
  simp[Et,Hv,Df,CN,Cg,Dt,KQ,Dm,Aq,Cj,BL,Aw,Al,Dy,Bq,Io,Im,Ld,Br,En,Cr,oI,FJ,Bm,Fe,oEq,oIx,oSl,DR,Lh,VS.listOf,Bu,FP,Fd,Hw,GR,Ft,intsOf,den,CT,age,Bb,Ax,Av,U0l,-U0f,-U0e,e1,e2,e3,f1,f3,c1,c2,t1,hlen,hc,BJ,Cq,Bd,Iz]
 .obtain⟨r,x3,y3,e3,r0,r1⟩:=FQ x2 y2 3 (by decide) (by decide)
  obtain⟨c,hc,hl,hlt⟩:=put (lo-1-r) lo (by omega)
  refine⟨c,x3,y3,?_,hl,hlt⟩
  unfold Ae at *
  unfold encM
  simp[Et,Hv,Df,CN,Cg,Dt,KQ,Dm,Aq,Cj,BL,Aw,Al,Dy,Bq,Io,Im,Ld,Br,En,Cr,oI,FJ,Bm,Fe,oEq,oIx,oSl,DR,Lh,VS.listOf,Bu,FP,Fd,Hw,GR,Ft,intsOf,den,CT,age,Bb,Ax,Av,U0l,-U0f,-U0e,e1,e2,e3,f1,c1,c2,t1,hlen,hc,BJ,Cq,Bd,Iz]
 .refine⟨b.map fun p=>(p.2,p.2+1),x2,y2,?_,by simp,fun p hp=>?_⟩
  .have hn:=oE x y b
   have hd:∀S:Store,CT 1 S (b.map fun p=>BJ (p.2,p.2+1))=some (b.map fun p=>BJ (p.2,p.2+1)):=fun S=>Cq 1 S (Bd (Jq b fun p _=>HS _))
   unfold Ae at *
   unfold encM
   simp[Et,Hv,Df,CN,Cg,Dt,KQ,Dm,Aq,Cj,BL,Aw,Al,Dy,Bq,Io,Im,Ld,Br,En,Cr,oI,FJ,Bm,Fe,oEq,oIx,oSl,DR,Lh,VS.listOf,Bu,FP,Fd,Hw,GR,Ft,intsOf,den,CT,age,Bb,Ax,Av,U0l,-U0f,-U0e,e1,e2,f1,hn,h3,BJ,Cq,Bd,Iz,U4q]
   simp[BJ] at hd
   exact(hd _).trans (by rw[U0f];rfl)
  .obtain⟨q,_,rfl⟩:=U2b.mp hp
   simp;omega
end W38
end
section
namespace W38
open PySem L2 VS
theorem jh(x y:Int)(n:Nat)(many:Int)(most:D)(hn:n<=3)(h0:0<=many)(h1:many<=40):∃(mss:List (List Int))(x' y':Int),Ky [some (.ref 0),some (.int n),some most,some (.int many),none,none,none,none,none] [some [.int x,.int y]]=some (mss.map (fun ms=>.lst true (ms.map .int)),[some [.int x',.int y']])/\mss.length=n/\∀ms∈mss,Marks ms:=by
 have e:Fz (Aa (Ac 1) Af) [some (.ref 0),some (.int n),some most,some (.int many),none,none,none,none,none] [some [.int x,.int y]]=some ((upD 0 n,[]),[some [.int x,.int y]]):=by
  exact O6 _ (by simp[Aq,Aw,Al,-U0f,-U0e];rfl) (by simp) (by omega) (by omega)
 unfold Ky Dl
 rw[e]
 simp only[U0d]
 obtain⟨ys,S',e2,⟨mss,x',y',rfl,rfl,hl,hb⟩⟩:=Ri (w:=[]) (e0:=Gv 1 [0,3] [some (.ref 0),some (.int n),some most,some (.int many),none,none,none,none,none]) (g:=Pat.sem (.nm 0)) (ds:=upD 0 n) (S:=[some [.int x,.int y]])
  (f:=(Ck Ec (Aa (Ac 1) (Aa (Ac 2) Af))))
  (fun i ys S=>∃(mss:List (List Int))(x' y':Int),ys=mss.map (fun ms=>D.lst true (ms.map D.int))/\S=[some [.int x',.int y']]/\mss.length=min i 3/\∀ms∈mss,Marks ms)
  ⟨[],x,y,rfl,rfl,rfl,fun n hn=>by simp at hn⟩ (fun i ys S ⟨ns,x',y',h1,h2,h3,h4⟩=>⟨by simp,by rw[h1,U0g,h3];omega⟩)
  (fun i d ys S hd ⟨mss,x',y',h1,h2,h3,h4⟩=>by
   obtain⟨hi,rfl⟩:=Qk hd
   obtain⟨ms,x2,y2,e3,M⟩:=dN x' y' many h0 (by omega)
   subst h1 h2
   refine⟨_,.lst true (ms.map .int),[some [.int x2,.int y2]],rfl,?_,mss++[ms],x2,y2,by simp,rfl,by simp;omega,fun n hn=>?_⟩
   .simp[Aq,Aw,Al,Gv,Cr,intsOf,den,CT,age,Bb,Ax,Av,U0l,-U0f,-U0e,e3]
   .rcases U1k.mp hn with z|z
    .exact h4 n z
    .have:n=ms:=by simpa using z
     rw[this];exact M)
 rw[Qj] at hl
 exact⟨mss,x',y',e2,by omega,hb⟩
theorem jg(x y:Int)(n:Nat)(most many alike:D)(d7 d8:Option D)(mss:List (List Int))(bs:List D)(hn:n<=3)(hl:mss.length=n)(hM:∀ms∈mss,Marks ms):∃(b:List St2)(x' y':Int),
  Kw [some (.ref 0),some (.int n),some most,some many,some (encM true mss),some (.ref 1),some alike,d7,d8] [some [.int x,.int y],some bs]=some (b.map BJ,[some [.int x',.int y'],some bs])/\b.length=n/\∀p∈b,p.1<p.2/\-1000000000<=p.1/\p.2<=1000000000:=by
 have e:Fz (Aa (Ac 1) Af) [some (.ref 0),some (.int n),some most,some many,some (encM true mss),some (.ref 1),some alike,d7,d8] [some [.int x,.int y],some bs]=some ((upD 0 n,[]),[some [.int x,.int y],some bs]):=by
  exact O6 _ (by simp[Aq,Aw,Al,-U0f,-U0e];rfl) (by simp) (by omega) (by omega)
 unfold Kw Dl
 rw[e]
 simp only[U0d]
 obtain⟨ys,S',e2,⟨b,x',y',rfl,rfl,hl,hb⟩⟩:=Ri (w:=[]) (e0:=Gv 1 [0,4] [some (.ref 0),some (.int n),some most,some many,some (encM true mss),some (.ref 1),some alike,d7,d8]) (g:=Pat.sem (.nm 0)) (ds:=upD 0 n) (S:=[some [.int x,.int y],some bs])
  (f:=(Ck Em (Aa (Ac 1) (Aa (eOp oIx (Ac 2) (Ac 0)) Af))))
  (fun i ys S=>∃(b:List St2)(x' y':Int),ys=b.map BJ/\S=[some [.int x',.int y'],some bs]/\b.length=min i 3/\∀p∈b,p.1<p.2/\-1000000000<=p.1/\p.2<=1000000000)
  ⟨[],x,y,rfl,rfl,rfl,fun n hn=>by simp at hn⟩ (fun i ys S ⟨ns,x',y',h1,h2,h3,h4⟩=>⟨by simp,by rw[h1,U0g,h3];omega⟩)
  (fun i d ys S hd ⟨b,x',y',h1,h2,h3,h4⟩=>by
   obtain⟨hi,rfl⟩:=Qk hd
   obtain⟨ms,f1,g1⟩:=Ma (F:=fun ms=>D.lst true (ms.map D.int)) (l:=mss) (i:=0+(i:Int)) (by omega) (by omega)
   obtain⟨p,x2,y2,e3,q1,q2,q3⟩:=SX x' y' false (hM ms (U06 g1))
   subst h1 h2
   simp only[Int.zero_add] at f1
   refine⟨_,BJ p,[some [.int x2,.int y2],some bs],rfl,?_,b++[p],x2,y2,by simp,rfl,by simp;omega,fun n hn=>?_⟩
   .simp[Aq,BL,Aw,Al,Gv,Cr,oIx,VS.listOf,Bu,intsOf,den,CT,age,Bb,Ax,Av,U0l,-U0f,-U0e,encM,e3,f1]
   .rcases U1k.mp hn with z|z
    .exact h4 n z
    .have:n=p:=by simpa using z
     rw[this];exact⟨q1,q2,q3⟩)
 rw[Qj] at hl
 exact⟨b,x',y',e2,by omega,hb⟩
def TX(i:Int):Int:=if i<0 then -i else i
def RK(p:St2):Int:=if TX p.2>TX p.1 then TX p.2 else TX p.1
theorem je(r:VS.Env)(b:List St2)(S:Store)(h8:r[8]?=some (some (Ae b)))(hl:b.length<=3):Kv r S=some ((b.map RK).map .int,S):=by
 have e:Ei (Ac 8) r S=some ((b.map BJ,[]),S):=by simp[Aq,VS.listOf,Bu,VS.idOf,IK,-U0f,-U0e,h8,Ae]
 unfold Kv Dl
 rw[e]
 simp only[U0d]
 have:=Ow (w:=[]) (e0:=Gv 2 [] r) (g:=Pat.sem (.tp [.nm 0,.nm 1])) (S:=S) (f:=eCB Rx (Aa (eCB RL (Aa (Ac 0) Af)) (Aa (eCB RL (Aa (Ac 1) Af)) Af)))
  (by simp) (fun d=>match d with|.tup [.int l,.int h]=>.int (RK (l,h))|_=>.non) (b.map BJ) (by simp;omega) (fun d hd=>by
   obtain⟨p,hp,rfl⟩:=U2b.mp hd
   exact⟨_,rfl,by simp[Aq,Aw,Al,Dy,Gv,Rx,RL,U0l,-U0f,-U0e,BJ,RK,TX]⟩)
 rw[this]
 simp[BJ,U4q]
theorem pD{p:St2}(h:RK p<=1000000000):-1000000000<=p.1/\p.2<=1000000000:=by
 unfold RK TX at h
 repeat' split at h
 all_goals omega
structure Ok1(n:Nat)(b:List St2):Prop where
 len:b.length=n
 all:∀p∈b,p.1<p.2/\-1000000000<=p.1/\p.2<=1000000000
theorem Vf{m:Bool}:∀(mss:List (List Int)),Av (mss.map fun ms=>D.lst m (ms.map D.int))=true
 |[]=>rfl
 |ms::r=>by rw[U00,Av,Ax,Sq,Vf r];rfl
theorem gM{m:Bool}:∀(mss:List (List Int)),Bb (mss.map fun ms=>D.lst m (ms.map D.int))=mss.map fun ms=>D.lst false (ms.map D.int)
 |[]=>by rw[U1p,Bb];rfl
 |ms::r=>by rw[U00,Bb,age,bF,gM r];rfl
theorem aJ{ns:List Int}(h:ns≠[]):∃m,bK ns=some m:=by
 cases ns with
 |nil=>exact absurd rfl h
 |cons a r=>exact⟨_,rfl⟩
theorem pC(x y:Int)(n:Nat)(most many:D)(alike k:Int)(d8:Option D)(mss:List (List Int))(bs:List (List St2))(h1:1<=n)(hn:n<=3)(hl:mss.length=n)(hM:∀ms∈mss,Marks ms)(hb:∀b∈bs,Ok1 n b)(few:bs.length<=20):∃(d8':Option D)(bs':List (List St2))(x' y':Int),
  Kz [some (.ref 0),some (.int n),some most,some many,some (encM true mss),some (.ref 1),some (.int alike),some (.int k),d8] [some [.int x,.int y],some (bs.map Ae)]=some (.nx,[some (.ref 0),some (.int n),some most,some many,some (encM true mss),some (.ref 1),some (.int alike),some (.int k),d8'],[some [.int x',.int y'],some (bs'.map Ae)])
  /\ bs'.length<=bs.length+1/\∀b∈bs',Ok1 n b:=by
 obtain⟨b,x1,y1,e1,bl,hb1⟩:=jg x y n most many (.int alike) (some (.int k)) d8 mss (bs.map Ae) hn hl hM
 -- behind the choice of a box
 have fin:∀(c:List St2)(x2 y2:Int),c.length=n->(∀p∈c,p.1<p.2)->∃(d8':Option D)(bs':List (List St2))(x' y':Int),
   (sIf (Bt (eOp oLe (eCB Qi (Aa (Bp Kv) Af)) (eOp Ge (eC (.int 10)) (eC (.int 9))))) (JR (Gs Gi (Ac 5) (Aa (Ac 8) Af))) Ep)
    [some (.ref 0),some (.int n),some most,some many,some (encM true mss),some (.ref 1),some (.int alike),some (.int k),some (Ae c)] [some [.int x2,.int y2],some (bs.map Ae)]=some (.nx,[some (.ref 0),some (.int n),some most,some many,some (encM true mss),some (.ref 1),some (.int alike),some (.int k),d8'],[some [.int x',.int y'],some (bs'.map Ae)])
   /\ bs'.length<=bs.length+1/\∀b∈bs',Ok1 n b:=fun c x2 y2 cl hc=>by
  have e3:=je [some (.ref 0),some (.int n),some most,some many,some (encM true mss),some (.ref 1),some (.int alike),some (.int k),some (Ae c)] c [some [.int x2,.int y2],some (bs.map Ae)] rfl (by omega)
  obtain⟨m,hm⟩:=aJ (ns:=c.map RK) (by intro z;have:=congrArg U4j z;simp at this;rw[this] at cl;simp at cl;omega)
  by_cases hle:m<=1000000000
  .refine⟨some (Ae c),bs++[c],x2,y2,?_,by simp,fun d hd=>?_⟩
   .have:bs.length<1000000:=by omega
    simp[Dt,KN,Dm,Aq,Cj,BL,Aw,Al,Dy,Bq,Br,Rc,oI,FJ,KD,Ge,oLe,Qi,VS.listOf,Gi,-U0f,-U0e,e3,hm,hle,this]
   .rcases U1k.mp hd with z|z
    .exact hb d z
    .have:d=c:=by simpa using z
     subst this
     refine⟨cl,fun p hp=>?_⟩
     have:=(Xy hm).2 (RK p) (List.mem_map_of_mem hp)
     have:=pD (p:=p) (by omega)
     exact⟨hc p hp,this.1,this.2⟩
  .refine⟨some (Ae c),bs,x2,y2,?_,by omega,hb⟩
   simp[Dt,KN,Dm,Aq,Cj,BL,Aw,Al,Dy,Bq,Br,Rc,oI,FJ,KD,Ge,oLe,Qi,VS.listOf,Gi,-U0f,-U0e,e3,hm,hle]
 have s1:(Cd 8 (eCB Lh (Aa (Bp Kw) Af))) [some (.ref 0),some (.int n),some most,some many,some (encM true mss),some (.ref 1),some (.int alike),some (.int k),d8] [some [.int x,.int y],some (bs.map Ae)]=some (.nx,[some (.ref 0),some (.int n),some most,some many,some (encM true mss),some (.ref 1),some (.int alike),some (.int k),some (Ae b)],[some [.int x1,.int y1],some (bs.map Ae)]):=by
  simp[CN,Aw,Al,Dy,Br,Lh,VS.listOf,Bu,-U0f,-U0e,e1,Ae]
 have hne:eqP true [some [.int x1,.int y1],some (bs.map Ae)] (.ref 1) (.lst true [])=some (.bl (true ^^ (bs.map pB).isEmpty)):=Qq 3 (RQ rfl) (Iv 0 bs) (by decide)
 unfold Kz
 rw[Ce s1]
 by_cases hbs:bs=[]
 .obtain⟨d8',bs',x',y',e,q1,q2⟩:=fin b x1 y1 bl fun p hp=>(hb1 p hp).1
  refine⟨d8',bs',x',y',?_,q1,q2⟩
  rw[Ce (env1:=[some (.ref 0),some (.int n),some most,some many,some (encM true mss),some (.ref 1),some (.int alike),some (.int k),some (Ae b)]) (S1:=[some [.int x1,.int y1],some (bs.map Ae)])]
  .exact e
  .subst hbs
   simp only[U1p] at hne
   simp[CN,Dt,Dm,Aq,Cj,BL,Aw,Al,Dy,Bq,J5,Br,Cr,oI,FJ,oLt,oEq,oIx,DR,VS.listOf,Bu,den,CT,age,Bb,Ax,Av,-U0f,-U0e,hne]
 .obtain⟨r,x2,y2,e2,r0,r1⟩:=FQ x1 y1 3 (by decide) (by decide)
  have hne':eqP true [some [.int x1,.int y1],some (bs.map Ae)] (.ref 1) (.lst true [])=some (.bl true):=by
   rw[hne]
   cases bs with
   |nil=>exact absurd rfl hbs
   |cons a r=>rfl
  have pos:0<bs.length:=U40.mpr hbs
  by_cases hr:r<alike
  .obtain⟨j,x3,y3,e3,j0,j1⟩:=FQ x2 y2 (bs.length:Int) (by omega) (by omega)
   obtain⟨c,f1,g1⟩:=Ma (F:=Ae) (l:=bs) (i:=j) j0 (by omega)
   have oc:=hb c (U06 g1)
   obtain⟨c',x4,y4,e4,cl,hc⟩:=jJ x3 y3 c false mss (by rw[oc.len];exact h1) (by rw[oc.len];exact hn) oc.all (by rw[oc.len];exact hl) hM
   obtain⟨d8',bs',x',y',e,q1,q2⟩:=fin c' x4 y4 (by rw[cl,oc.len]) hc
   refine⟨d8',bs',x',y',?_,q1,q2⟩
   have dm:∀S:Store,den 0 S (encM true mss)=some (encM true mss):=fun S=>by
    unfold encM
    rw[den,Cq 0 S]
    .rfl
    .exact Vf mss
   have am:age (encM true mss)=encM false mss:=by
    unfold encM
    rw[age,gM]
   have pm:Ax (encM true mss)=true:=by unfold encM;rw[Ax];exact Vf mss
   rw[Ce (env1:=[some (.ref 0),some (.int n),some most,some many,some (encM true mss),some (.ref 1),some (.int alike),some (.int k),some (Ae c')]) (S1:=[some [.int x4,.int y4],some (bs.map Ae)])]
   .exact e
   .simp[CN,Dt,Dm,Aq,Cj,BL,Aw,Al,Dy,Bq,J5,Br,Cr,oI,FJ,oLt,oEq,oIx,DR,VS.listOf,Bu,intsOf,den,CT,age,Bb,Ax,Av,-U0f,-U0e,hne',e2,hr,e3,f1,e4,dm,am,pm]
  .obtain⟨d8',bs',x',y',e,q1,q2⟩:=fin b x2 y2 bl fun p hp=>(hb1 p hp).1
   refine⟨d8',bs',x',y',?_,q1,q2⟩
   rw[Ce (env1:=[some (.ref 0),some (.int n),some most,some many,some (encM true mss),some (.ref 1),some (.int alike),some (.int k),some (Ae b)]) (S1:=[some [.int x2,.int y2],some (bs.map Ae)])]
   .exact e
   .simp[CN,Dt,Dm,Aq,Cj,BL,Aw,Al,Dy,Bq,J5,Br,Cr,oI,FJ,oLt,oEq,oIx,DR,VS.listOf,Bu,intsOf,den,CT,age,Bb,Ax,Av,-U0f,-U0e,hne',e2,hr]
theorem pA(x y:Int)(n:Nat)(most:D)(many alike:Int)(mss:List (List Int))(h1:1<=n)(hn:n<=3)(hl:mss.length=n)(hM:∀ms∈mss,Marks ms)(m0:0<=many)(m1:many<=20):∃(d7 d8:Option D)(bs:List (List St2))(x' y':Int),
  O4 [some (.ref 0),some (.int n),some most,some (.int many),some (encM true mss),some (.ref 1),some (.int alike),none,none] [some [.int x,.int y],some []]=some (.nx,[some (.ref 0),some (.int n),some most,some (.int many),some (encM true mss),some (.ref 1),some (.int alike),d7,d8],[some [.int x',.int y'],some (bs.map Ae)])
  /\ bs.length<=many.toNat/\∀b∈bs,Ok1 n b:=by
 have e:Fz (Aa (Ac 3) Af) [some (.ref 0),some (.int n),some most,some (.int many),some (encM true mss),some (.ref 1),some (.int alike),none,none] [some [.int x,.int y],some []]=some ((upD 0 many.toNat,[]),[some [.int x,.int y],some []]) :=
  O6 _ (by simp[Aq,Aw,Al,-U0f,-U0e]) rfl (by omega) (by omega)
 unfold O4
 rw[Jk,e]
 simp only[U0d]
 obtain⟨env',S',e2,⟨d7,d8,bs,x',y',rfl,rfl,hb1,hb2⟩⟩:=Ip (w:=[]) (g:=Pat.sem (.nm 7)) (b:=Kz) (ds:=upD 0 many.toNat) (env:=[some (.ref 0),some (.int n),some most,some (.int many),some (encM true mss),some (.ref 1),some (.int alike),none,none]) (S:=[some [.int x,.int y],some []])
  (fun i env S=>∃(d7 d8:Option D)(bs:List (List St2))(x' y':Int),env=[some (.ref 0),some (.int n),some most,some (.int many),some (encM true mss),some (.ref 1),some (.int alike),d7,d8]/\S=[some [.int x',.int y'],some (bs.map Ae)]/\bs.length<=min i many.toNat/\∀b∈bs,Ok1 n b)
  ⟨none,none,[],x,y,rfl,rfl,by simp,fun b hb=>by simp at hb⟩ (fun i env S _=>by simp) (fun i d env S hd ⟨d7,d8,bs,x',y',h1',h2',h3',h4'⟩=>by
   obtain⟨hi,rfl⟩:=Qk hd
   subst h1' h2'
   obtain⟨d8',bs',x2,y2,e3,q1,q2⟩:=pC x' y' n most (.int many) alike (0+i) d8 mss bs h1 hn hl hM h4' (by omega)
   exact⟨_,by rw[Fd];rfl,_,_,e3,_,d8',bs',x2,y2,rfl,rfl,by omega,q2⟩)
 rw[Qj] at hb1
 exact⟨d7,d8,bs,x',y',e2,by omega,hb2⟩
theorem Tj(x y:Int)(n most:Nat)(h1:1<=n)(hn:n<=3)(hm:most<=20):∃(bs:List (List St2))(x' y':Int),Fo [x,y] [.int n,.int most]=some (Ba true n bs,[x',y'])/\bs.length<=most/\∀b∈bs,Ok1 n b:=by
 obtain⟨r1,x1,y1,e1,p1,p2⟩:=FQ x y ((if (4:Int)<(most:Int) then (4:Int) else (most:Int))+1) (by split<;>omega) (by split<;>omega)
 obtain⟨r2,x2,y2,e2,p3,p4⟩:=FQ x1 y1 ((most:Int)+1) (by omega) (by omega)
 obtain⟨r3,x3,y3,e3,p5,p6⟩:=FQ x2 y2 3 (by decide) (by decide)
 obtain⟨many,f1,m0,m1⟩:∃many:Int,atI [D.int r1,D.int r2,D.int most] r3=some (.int many)/\0<=many/\many<=most:=by
  have:r3=0∨r3=1∨r3=2:=by omega
  rcases this with rfl|rfl|rfl
  .exact⟨r1,by simp,p1,by split at p2<;>omega⟩
  .exact⟨r2,by simp,p3,by omega⟩
  .exact⟨most,by simp,by omega,by omega⟩
 obtain⟨mss,x4,y4,e4,hl,hM⟩:=jh x3 y3 n many (.int most) hn m0 (by omega)
 obtain⟨al,x5,y5,e5,_,_⟩:=FQ x4 y4 3 (by decide) (by decide)
 obtain⟨d7,d8,bs,x6,y6,e6,hb1,hb2⟩:=pA x5 y5 n (.int most) many al mss h1 hn hl hM m0 (by omega)
 refine⟨bs,x6,y6,?_,by omega,hb2⟩
 have s1:(Cd 3 (eOp oIx (Bp (Aa (Ck Ay (Aa (Ac 0) (Aa (eOp Bm (eCB Rw (Aa (Ac 2) (Aa (eC (.int 4)) Af))) (eC (.int 1))) Af))) (Aa (Ck Ay (Aa (Ac 0) (Aa (eOp Bm (Ac 2) (eC (.int 1))) Af))) (Aa (Ac 2) Af)))) (Ck Ay (Aa (Ac 0) (Aa (eC (.int 3)) Af))))) [some (.ref 0),some (.int n),some (.int most),none,none,none,none,none,none] [some [.int x,.int y]]=some (.nx,[some (.ref 0),some (.int n),some (.int most),some (.int many),none,none,none,none,none],[some [.int x3,.int y3]]):=by
  simp[CN,Aq,Cj,BL,Aw,Al,Dy,Br,Cr,Bm,oIx,Rw,VS.listOf,Bu,intsOf,den,CT,age,Bb,Ax,Av,-U0f,-U0e,e1,e2,e3,f1]
 have s2:(Cd 4 (Bp Ky)) [some (.ref 0),some (.int n),some (.int most),some (.int many),none,none,none,none,none] [some [.int x3,.int y3]]=some (.nx,[some (.ref 0),some (.int n),some (.int most),some (.int many),some (encM true mss),none,none,none,none],[some [.int x4,.int y4]]):=by
  simp[CN,Br,-U0f,-U0e,e4,encM]
 have s3:(Cd 5 (Jr Af)) [some (.ref 0),some (.int n),some (.int most),some (.int many),some (encM true mss),none,none,none,none] [some [.int x4,.int y4]]=some (.nx,[some (.ref 0),some (.int n),some (.int most),some (.int many),some (encM true mss),some (.ref 1),none,none,none],[some [.int x4,.int y4],some []]):=by
  simp[CN,Aw,jj,-U0f,-U0e]
 have s4:(Cd 6 (Ck Ay (Aa (Ac 0) (Aa (eC (.int 3)) Af)))) [some (.ref 0),some (.int n),some (.int most),some (.int many),some (encM true mss),some (.ref 1),none,none,none] [some [.int x4,.int y4],some []]=some (.nx,[some (.ref 0),some (.int n),some (.int most),some (.int many),some (encM true mss),some (.ref 1),some (.int al),none,none],[some [.int x5,.int y5],some []]):=by
  simp[CN,Aq,Cj,Aw,Al,Cr,intsOf,den,CT,age,Bb,Ax,Av,-U0f,-U0e,e5]
 have run:PL [some (.ref 0),some (.int n),some (.int most),none,none,none,none,none,none] [some [.int x,.int y]]=some (.ret (.tup [.int n,.ref 1]),[some (.ref 0),some (.int n),some (.int most),some (.int many),some (encM true mss),some (.ref 1),some (.int al),d7,d8],[some [.int x6,.int y6],some (bs.map Ae)]):=by
  unfold PL
  rw[Ce s1,Ce s2,Ce s3,Ce s4,Ce e6]
  simp[Cg,Aq,Aw,Al,En,-U0f,-U0e]
 unfold Fo
 rw[FP]
 simp only[U0i,U1r,U00,U1p,U3,U3a,U0l,U2f,U2n,U13,if_true]
 rw[run]
 simp[intsOf,den,CT,-U0f,-U0e,Ba]
theorem WX(x y:Int):∃(n:Nat)(bs:List (List St2))(x' y':Int),Dw [x,y] []=some (Ba true n bs,[x',y'])/\Good n bs:=by
 obtain⟨r,x1,y1,e1,p1,p2⟩:=FQ x y 3 (by decide) (by decide)
 have:r=0∨r=1∨r=2:=by omega
 rcases this with rfl|rfl|rfl
 .obtain⟨bs,x2,y2,e2,hl,hb⟩:=Tj x1 y1 1 20 (by decide) (by decide) (by decide)
  have e3:Fo [x1,y1] [.int 1,.int 20]=some (Ba true 1 bs,[x2,y2]):=e2
  refine⟨1,bs,x2,y2,?_,.inl rfl,hl,fun b h=>⟨(hb b h).len,(hb b h).all⟩⟩
  simp[Dw,Ii,Df,CN,Cg,Aq,Cj,BL,Aw,Al,Br,Cr,Bm,oIx,VS.listOf,Bu,FP,intsOf,den,CT,age,Bb,Ax,Av,U0l,-U0f,-U0e,e1,e3]
 .obtain⟨bs,x2,y2,e2,hl,hb⟩:=Tj x1 y1 2 10 (by decide) (by decide) (by decide)
  have e3:Fo [x1,y1] [.int 2,.int 10]=some (Ba true 2 bs,[x2,y2]):=e2
  refine⟨2,bs,x2,y2,?_,.inr (.inl rfl),hl,fun b h=>⟨(hb b h).len,(hb b h).all⟩⟩
  simp[Dw,Ii,Df,CN,Cg,Aq,Cj,BL,Aw,Al,Br,Cr,Bm,oIx,VS.listOf,Bu,FP,intsOf,den,CT,age,Bb,Ax,Av,U0l,-U0f,-U0e,e1,e3]
 .obtain⟨bs,x2,y2,e2,hl,hb⟩:=Tj x1 y1 3 6 (by decide) (by decide) (by decide)
  have e3:Fo [x1,y1] [.int 3,.int 6]=some (Ba true 3 bs,[x2,y2]):=e2
  refine⟨3,bs,x2,y2,?_,.inr (.inr rfl),hl,fun b h=>⟨(hb b h).len,(hb b h).all⟩⟩
  simp[Dw,Ii,Df,CN,Cg,Aq,Cj,BL,Aw,Al,Br,Cr,Bm,oIx,VS.listOf,Bu,FP,intsOf,den,CT,age,Bb,Ax,Av,U0l,-U0f,-U0e,e1,e3]
end W38
end
section
namespace W38
open PySem L2 VS
theorem Fb{sem:Ci}{a:Bg}{env:VS.Env}{S S':Store}{ds es:List D}{r:D}(h:a env S=some (ds,S'))(hp:Av ds=true)(ha:Bb ds=es)(hr:sem es=some r):Bf sem a env S=some (r,S'):=by
 rw[HW,h]
 simp only[U0d,Cq 0 S' hp,ha,hr,hp,Bool.true_or,if_true]
def Du(bs:List (List St2))(w:Nat):List Int:=bs.map fun b=>(b.getD w (0,0)).1
def Dd(bs:List (List St2))(w:Nat):List Int:=bs.map fun b=>(b.getD w (0,0)).2
theorem col{bs:List (List St2)}{w:Nat}(hw:∀b∈bs,w<b.length)(hl:bs.length<=1000)(S:Store)(e0:VS.Env)(h0:∀d:D,(e0.set 0 (some d))[0]?=some (some d)/\(e0.set 0 (some d))[1]?=some (some (.int w))) :
  G4 [] e0 (Pat.sem (.nm 0)) Fw (eOp oIx (eOp oIx (Ac 0) (Ac 1)) (eC (.int 0))) (bs.map Ae) [] S=some ((Du bs w).map .int,S) /\
  G4 [] e0 (Pat.sem (.nm 0)) Fw (eOp oIx (eOp oIx (Ac 0) (Ac 1)) (eC (.int 1))) (bs.map Ae) [] S=some ((Dd bs w).map .int,S):=by
 have key:∀b∈bs,atI (b.map BJ) (w:Int)=some (BJ (b.getD w (0,0))):=fun b hb=>by
  have h:=hw b hb
  refine MP ?_
  rw[U03,U0y h]
  simp[h]
 constructor
 .rw[MJ (by simp) Ae (fun b=>.int (b.getD w (0,0)).1) bs (by omega)]
  .rw[Du,U0f];rfl
  .intro b hb
   refine⟨_,Fd _ _ _,?_⟩
   have ha:=key b hb
   simp only[BJ] at ha
   simp[Aq,Cj,BL,oIx,VS.listOf,Bu,-U0f,-U0e,h0,Ae,ha]
 .rw[MJ (by simp) Ae (fun b=>.int (b.getD w (0,0)).2) bs (by omega)]
  .rw[Dd,U0f];rfl
  .intro b hb
   refine⟨_,Fd _ _ _,?_⟩
   have ha:=key b hb
   simp only[BJ] at ha
   simp[Aq,Cj,BL,oIx,VS.listOf,Bu,-U0f,-U0e,h0,Ae,ha]
theorem Rb{cs:List (List St2)}{w:Nat}(hl:cs.length<=20):(SetP.once (Du cs w++Dd cs w)).length<64/\(Du cs w++Dd cs w).length<1000:=by
 have h1:=(SetP.Ji (Du cs w++Dd cs w)).2.1
 have h2:(Du cs w++Dd cs w).length=cs.length+cs.length:=by simp[Du,Dd]
 omega
theorem aY(a b:List Int):intsOf (a.map D.int++b.map D.int)=some (a++b):=by rw[←U2s];exact K5 _
theorem Y5{m:Bool}{cs:List (List St2)}{w:Nat}(hw:∀b∈cs,w<b.length)(hl:cs.length<=20):G3 [.lst m (cs.map Ae),.int w]=some (.lst true ((Ea (Du cs w++Dd cs w)).map .int)):=by
 obtain⟨c1,c2⟩:=col hw (by omega) [] [none,some (.int w)] fun d=>⟨rfl,rfl⟩
 have e:Ei (Ac 0) [some (.lst m (cs.map Ae)),some (.int w)] []=some ((cs.map Ae,[]),[]):=by simp[Aq,VS.listOf,Bu,VS.idOf,IK,-U0f,-U0e]
 have e1:Lr [some (.lst m (cs.map Ae)),some (.int w)] []=some ((Du cs w).map .int,[]):=by
  unfold Lr Dl
  rw[e]
  exact c1
 have e2:Lq [some (.lst m (cs.map Ae)),some (.int w)] []=some ((Dd cs w).map .int,[]):=by
  unfold Lq Dl
  rw[e]
  exact c2
 obtain⟨h1,h2⟩:=Rb (w:=w) hl
 have h3:(Du cs w).length+(Dd cs w).length<=1000000:=by simp at h2;omega
 have h4:(Du cs w).length+(Dd cs w).length<1000:=by simpa using h2
 simp[G3,Qh,Cg,BL,Br,Hg,Bm,VS.listOf,EY,den,-U0f,-U0e,e1,e2,aY,h1,h3,h4]
theorem Vk:∀a b:List Int,Eo (a.map D.int) (b.map D.int)=(a.zip b).map BJ
 |[],_=>by simp[Eo]
 |_::_,[]=>by simp[Eo]
 |p::a,q::b=>by simp[Eo,Vk a b,BJ]
theorem UW(E:List Int):Eo (E.map D.int) (E.map D.int).tail=(steps E).map BJ:=by
 rw[←List.map_tail,Vk];rfl
theorem Nk(E:List Int):(steps E).length<=E.length:=by simp[steps]
theorem cH{m:Bool}{cs:List (List St2)}{w:Nat}(hw:∀b∈cs,w<b.length)(hl:cs.length<=20)(hne:cs≠[]):Dq [.lst m (cs.map Ae),.int w]=some (.lst true ((steps (Ea (Du cs w++Dd cs w))).map BJ)):=by
 have h0:=Y5 (m:=false) hw hl
 have hl1:=Zr (Du cs w++Dd cs w)
 obtain⟨_,h2⟩:=Rb (w:=w) hl
 have pos:1<=(Ea (Du cs w++Dd cs w)).length:=by
  cases cs with
  |nil=>exact absurd rfl hne
  |cons b r =>
   have:(b.getD w (0,0)).1∈Ea (Du (b::r) w++Dd (b::r) w):=Ub.mpr (by simp[Du])
   exact List.length_pos_of_mem this
 generalize Ea (Du cs w++Dd cs w)=E at *
 have c:=Ov (xs:=E.map D.int) (a:=1) (by decide) (by simp;omega)
 have z:=UW E
 have hz:(steps E).length<=1000000:=by have:=Nk E;omega
 have c':cut (E.map D.int) (some 1) none=(E.map D.int).drop 1:=c
 have hd:∀(k:Nat)(S:Store),CT k S ((steps E).map BJ)=some ((steps E).map BJ):=fun k S=>Cq k S (Bd (Jq _ fun p _=>HS p))
 simp[Dq,Lk,Df,CN,Cg,Aq,Cj,Aw,Al,Io,Im,Ld,HW,XF,oSl,VS.listOf,Bu,EY,den,CT,age,Bb,Ax,Av,U0l,-U0f,-U0e,h0,c',z,hz,hd]
def Og(w:Nat)(x:Int)(b:List St2):Bool:=decide ((b.getD w (0,0)).1<=x)&&decide (x<(b.getD w (0,0)).2)
def Ey(bs:List (List St2))(w:Nat)(x:Int):List (List St2):=(bs.filter (Og w x)).map fun b=>b.eraseIdx w
theorem pN{b:List St2}{w:Nat}(h:w<b.length):atI (b.map BJ) (w:Int)=some (BJ (b.getD w (0,0))):=by
 refine MP ?_
 rw[U03,U18,U0y h];rfl
theorem pI(r:VS.Env)(S:Store)(bs:List (List St2))(w:Nat)(x:Int)(hl:bs.length<=1000)(hb:∀b∈bs,w<b.length)(h0:r[0]?=some (some (.lst false (bs.map Ae))))(h1:r[1]?=some (some (.int w)))(h2:r[2]?=some (some (.int x))):K8 r S=some ((bs.filter (Og w x)).map Ae,S):=by
 have e:Ei (Ac 0) r S=some ((bs.map Ae,[]),S):=by simp[Aq,VS.listOf,Bu,VS.idOf,IK,-U0f,-U0e,h0]
 have ec:Gv 1 [1,2] r=[none,some (.int w),some (.int x)]:=by simp[Gv,h1,h2]
 unfold K8 Dl
 rw[e,ec]
 simp only[U0d]
 rw[MK (by simp) Ae (Og w x) Ae _ _ (by simp;omega)]
 .simp
 .intro b hm
  have ha:=pN (hb b hm)
  refine⟨[some (Ae b),some (.int w),some (.int x)],by rw[Fd];rfl,?_,fun _=>rfl⟩
  have i1:∀k:D,eOp oIx (Ac 0) (Ac 1) [some (Ae b),some (.int w),some (.int x)] S=some (BJ (b.getD w (0,0)),S):=fun _=>by
   show U3i _ (atI (b.map BJ) (w:Int))=_
   rw[ha];rfl
  unfold Og
  generalize b.getD w (0,0)=p at *
  by_cases q1:p.1<=x<;>simp[Aq,Cj,BL,Ur,Bq,oI,FJ,oLt,oLe,oIx,VS.listOf,Bu,-U0f,-U0e,i1 .non,BJ,Ae,ha,q1]
theorem pH(r:VS.Env)(S:Store)(bs:List (List St2))(w:Nat)(hl:bs.length<=1000)(hb:∀b∈bs,w<b.length/\b.length<=3)(h1:r[1]?=some (some (.int w)))(h3:r[3]?=some (some (.lst true (bs.map Ae)))):NP r S=some ((bs.map fun b=>b.eraseIdx w).map Ae,S):=by
 have e:Ei (Ac 3) r S=some ((bs.map Ae,[]),S):=by simp[Aq,VS.listOf,Bu,VS.idOf,IK,-U0f,-U0e,h3]
 have ec:Gv 1 [1] r=[none,some (.int w)]:=by simp[Gv,h1]
 unfold NP Dl
 rw[e,ec]
 simp only[U0d]
 rw[MJ (by simp) Ae (fun b=>Ae (b.eraseIdx w)) bs (by omega),U0f]
 .rfl
 .intro b hm
  obtain⟨q1,q2⟩:=hb b hm
  refine⟨[some (Ae b),some (.int w)],by rw[Fd];rfl,?_⟩
  have c1:cut (b.map BJ) none (some (w:Int))=(b.take w).map BJ:=by
   rw[Zf (by omega) (by rw[U0g];omega),U64];rfl
  have c2:cut (b.map BJ) (some ((w:Int)+1)) none=(b.drop (w+1)).map BJ:=by
   rw[Ov (by omega) (by rw[U0g];omega),U65];rfl
  have v0:Ac 0 [some (Ae b),some (.int w)] S=some (Ae b,S):=rfl
  have v1:Ac 1 [some (Ae b),some (.int w)] S=some (.int w,S):=rfl
  have l1:eSl oSl (Ac 0) GC (G9 (Ac 1)) [some (Ae b),some (.int w)] S=some (Ae (b.take w),S):=by
   show(some (D.tup (cut (b.map BJ) none (some (w:Int))),S):Option (D×Store))=_
   rw[c1];rfl
  have l2:eSl oSl (Ac 0) (G9 (eOp Bm (Ac 1) (eC (.int 1)))) GC [some (Ae b),some (.int w)] S=some (Ae (b.drop (w+1)),S):=by
   show(some (D.tup (cut (b.map BJ) (some ((w:Int)+1)) none),S):Option (D×Store))=_
   rw[c2];rfl
  rw[BL,l1,U0d,l2,U0d]
  show U3i _ (if ((b.take w).map BJ).length+((b.drop (w+1)).map BJ).length<=1000000 then some (D.tup ((b.take w).map BJ++(b.drop (w+1)).map BJ)) else none)=_
  rw[if_pos (by rw[U0g,U0g,U2c,U5s];omega),←U2s,←List.eraseIdx_eq_take_drop_succ]
  rfl
end W38
end
section
namespace W38
open PySem L2 VS
theorem Vq{sem:Ci}{a:Bg}{env:VS.Env}{S S':Store}{d d':D}{cs:List D}(h:Bf sem a env S=some (d,S'))(ht:KC S'.length d=some (d',cs)):Mt sem a env S=some (d',S'++[some cs]):=by
 rw[aZ,h,U0d]
 show(KC S'.length d).bind _=_
 rw[ht];rfl
theorem WQ{sem:Ij}{a:Bg}{env:VS.Env}{S S':Store}{i:Nat}{rest es:List D}{ns ms:List Int}{r:D}(h:a env S=some (.ref i::rest,S'))(hi:S'[i]?=some (some (ns.map D.int)))(hp:Av rest=true)(ha:Bb rest=es)(hr:sem ns es=some (r,ms)):Ck sem a env S=some (r,S'.set i (some (ms.map D.int))):=by
 rw[Cr,h]
 simp only[U0d,hi,K5,Cq 0 _ hp,ha,hr,hp,Bool.true_or,if_true]
theorem cF{sem:Ij}{a:Bg}{env:VS.Env}{S S':Store}{d d':D}{cs:List D}(h:Ck sem a env S=some (d,S'))(ht:KC S'.length d=some (d',cs)):Q8 sem a env S=some (d',S'++[some cs]):=by
 rw[aj,h,U0d]
 show(KC S'.length d).bind _=_
 rw[ht];rfl
theorem Ut{sem:Ci}{a:Bg}{env:VS.Env}{S S':Store}{ds es fs:List D}{r:D}(h:a env S=some (ds,S'))(hd:CT 0 S' ds=some es)(ha:Bb es=fs)(hr:sem fs=some r)(hn:newD r=true):Bf sem a env S=some (r,S'):=by
 rw[HW,h]
 simp only[U0d,hd,ha,hr,hn,Bool.or_true,if_true]
theorem Qn{g:Store->D->List D->Option (D×Store)}{o:BK}{a:Bg}{env:VS.Env}{S S1 S2 S3:Store}{d r:D}{cs ds:List D}(h:o env S=some (d,S1))(hl:VS.listOf S1 d=some cs)(h2:a env S1=some (ds,S2))(h3:g S2 d ds=some (r,S3)):Gs g o a env S=some (r,S3):=by
 rw[Rc,h,U0d]
 show(if (VS.listOf S1 d).isSome=true then _ else _)=_
 rw[hl]
 show(a env S1).bind _=_
 rw[h2]
 exact h3
theorem bO(S:Store)(a:Option (List D))(l:List (Option (List D))):(S++a::l)[S.length]?=some a:=by simp
theorem TV(S:Store)(a b:Option (List D))(l:List (Option (List D))):(S++a::b::l)[S.length+1]?=some b:=by
 rw[U1t (by omega)]
 simp
theorem lK(S:Store)(a c:Option (List D))(l:List (Option (List D))):(S++a::l).set S.length c=S++c::l:=by
 rw[U5v _ _ (by omega)]
 simp
theorem tE(S:Store)(a b c:Option (List D))(l:List (Option (List D))):(S++a::b::l).set (S.length+1) c=S++a::c::l:=by
 rw[U5v _ _ (by omega)]
 simp
theorem Qc{α β:Type}(f:α->β):∀(l:List α)(k:Nat),(l.map f).eraseIdx k=(l.eraseIdx k).map f
 |[],k=>by simp
 |a::r,0=>by simp
 |a::r,k+1=>by simp[Qc f r k]
end W38
end
section
namespace W38
open PySem L2 VS
def pl:Nat->D->Bool
 |_,.int _=>true
 |_,.non=>true
 |k+1,.tup ds=>decide (ds.length<=100000)&&ds.all (pl k)
 |k+1,.lst false ds=>decide (ds.length<=100000)&&ds.all (pl k)
 |_,_=>false
structure Pl(d:D):Prop where
 pu:Ax d=true
 ag:age d=d
 see:∃p,toP d=some p/\noDict p=true
theorem Q0{k:Nat}(ih:∀d,pl k d=true->Pl d):∀ds:List D,ds.all (pl k)=true->Av ds=true/\Bb ds=ds/\∃ps,HY ds=some ps
 |[],_=>⟨rfl,by rw[Bb],[],by rw[HY]⟩
 |d::r,h=>by
  rw[U4a,U0x] at h
  obtain⟨h1,h2,p,h3,_⟩:=ih d h.1
  obtain⟨h4,h5,ps,h6⟩:=Q0 ih r h.2
  exact⟨by rw[Av,h1,h4];rfl,by rw[Bb,h2,h5],p::ps,by rw[HY,h3,h6];rfl⟩
theorem Nf:∀(k:Nat)(d:D),pl k d=true->Pl d
 |_,.int i,_=>⟨rfl,by rw[age],.int i,by rw[toP],rfl⟩
 |_,.non,_=>⟨rfl,by rw[age],.none,by rw[toP],rfl⟩
 |0,.tup _,h=>by simp[pl] at h
 |0,.lst m _,h=>by cases m<;>simp[pl] at h
 |k+1,.tup ds,h=>by
  rw[pl,U0x] at h
  obtain⟨h4,h5,ps,h6⟩:=Q0 (Nf k) ds h.2
  exact⟨by rw[Ax];exact h4,by rw[age,h5],.tuple ps,by rw[toP,h6];rfl,rfl⟩
 |k+1,.lst false ds,h=>by
  rw[pl,U0x] at h
  obtain⟨h4,h5,ps,h6⟩:=Q0 (Nf k) ds h.2
  exact⟨by rw[Ax];exact h4,by rw[age,h5],.list ps,by rw[toP,h6];rfl,rfl⟩
 |k+1,.lst true _,h=>by simp[pl] at h
 |k,.bl _,h=>by cases k<;>simp[pl] at h
 |k,.str _,h=>by cases k<;>simp[pl] at h
 |k,.ty _,h=>by cases k<;>simp[pl] at h
 |k,.ref _,h=>by cases k<;>simp[pl] at h
 |k,.scr _,h=>by cases k<;>simp[pl] at h
 |k,.emp,h=>by cases k<;>simp[pl] at h
 |k,.dref _,h=>by cases k<;>simp[pl] at h
 |k,.dcf _,h=>by cases k<;>simp[pl] at h
 |k,.dcm _,h=>by cases k<;>simp[pl] at h
 |k,.fn _ _,h=>by cases k<;>simp[pl] at h
 |k,.lent _,h=>by cases k<;>simp[pl] at h
theorem Pl.den{d:D}(h:Pl d)(k:Nat)(S:Store):VS.den k S d=some d:=KZ k S h.pu
theorem mW{k:Nat}{d:D}{ds:List D}(hq:∀S,Bu S d=some ds)(hd:Pl d)(hl:ds.length<=100000)(hp:∀e∈ds,Pl e/\Bw k [e,e]=some (.bl true)):O1 (Bw k) [some d,some d] []=some ([],[]):=by
 have e:Fz (Aa (eCB DR (Aa (Ac 1) Af)) Af) [some d,some d] []=some ((upD 0 ds.length,[]),[]):=O6 _ (by simp[Dy,Al,Aw,Aq,DR,hq];rfl) (by simp) (by omega) (by omega)
 unfold O1 Dl
 rw[e]
 simp only[U0d]
 have e2:upD 0 ds.length=(U12 ds.length).map fun(i:Nat)=>D.int i:=by unfold upD;simp
 rw[e2,MK (by simp) (fun(i:Nat)=>D.int i) (fun _=>false) (fun _=>.non) _ _ (by simp;omega)]
 .simp
 .intro i hi
  refine⟨_,Fd _ _ _,?_,fun z=>by cases z⟩
  have hi':=U3m.mp hi
  have ha:atI ds (i:Int)=some ds[i]:=MP (U0y hi')
  obtain⟨h1,h2⟩:=hp ds[i] (U5t hi')
  simp[M7,Bq,HW,Al,Aw,BL,Aq,Gv,oIx,hq,ha,CT,h1.den,Bb,h1.ag,h2,newD]
theorem iR:∀(k:Nat)(d:D),pl k d=true->Bw (k+1) [d,d]=some (.bl true):=by
 have seq:∀(k:Nat)(d:D)(ds:List D)(p:PyData),(∀S,Bu S d=some ds)->Pl d->(∀S,DX S d=some p)->noDict p=true->isSeq p=true->ds.length<=100000->(∀e∈ds,Pl e/\Bw k [e,e]=some (.bl true))->Bw (k+1) [d,d]=some (.bl true):=fun k d ds p hq hd hs hn hi hl hp=>by
  have hc:=mW hq hd hl hp
  have e0:∀S:Store,eqP false S (.lst true []) (.lst true [])=some (.bl true):=fun S=>Qq (l:=[]) 1 (by simp[DX,VS.den,CT,toP,HY]) rfl (by decide)
  have eb:∀(b:Bool)(S:Store),eqP true S (.bl b) (.bl b)=some (.bl false):=fun b S=>N6 0 (Xq S b) (Xq S b) rfl (by decide)
  simp[Bw,JL,EY,Df,Dt,Cg,Dm,Bq,Jz,Dy,Al,Aw,Aq,Cj,En,BL,Br,hs,hn,hi,oEq,eb,DR,hq,hc,e0,VS.den]
 intro k
 induction k with
 |zero =>
  intro d h
  cases d with
  |int i=>simp[Bw,JL,Df,Cg,Dt,Dm,Aq,Cj,BL,Aw,Al,Dy,KY,Oa,Bq,Jz,Br,En,oEq,RG,DR,VS.listOf,Bu,EY,den,-U0f,-U0e,noDict,isSeq]
  |non =>
   have:eqP false [] .non .non=some (.bl true):=N6 0 (Om _) (Om _) rfl (by decide)
   simp[Bw,JL,Df,Cg,Dt,Dm,Aq,Cj,BL,Aw,Al,Dy,KY,Oa,Bq,Jz,Br,En,oEq,RG,DR,VS.listOf,Bu,EY,den,-U0f,-U0e,noDict,isSeq,this]
  |lst m ds=>cases m<;>simp[pl] at h
  |_=>simp[pl] at h
 |succ k ih =>
  intro d h
  cases d with
  |int i=>simp[Bw,JL,Df,Cg,Dt,Dm,Aq,Cj,BL,Aw,Al,Dy,KY,Oa,Bq,Jz,Br,En,oEq,RG,DR,VS.listOf,Bu,EY,den,-U0f,-U0e,noDict,isSeq]
  |non =>
   have:eqP false [] .non .non=some (.bl true):=N6 0 (Om _) (Om _) rfl (by decide)
   simp[Bw,JL,Df,Cg,Dt,Dm,Aq,Cj,BL,Aw,Al,Dy,KY,Oa,Bq,Jz,Br,En,oEq,RG,DR,VS.listOf,Bu,EY,den,-U0f,-U0e,noDict,isSeq,this]
  |tup ds =>
   have hP:=Nf _ _ h
   rw[pl,U0x] at h
   obtain⟨h4,h5,ps,h6⟩:=Q0 (Nf k) ds h.2
   exact seq (k+1) _ ds (.tuple ps) (fun S=>rfl) hP (fun S=>by rw[DX,hP.den];show toP _=_;rw[toP,h6];rfl) rfl rfl (of_decide_eq_true h.1) fun e he=>⟨Nf k e (U14.mp h.2 e he),ih e (U14.mp h.2 e he)⟩
  |lst m ds =>
   cases m with
   |true=>simp[pl] at h
   |false =>
    have hP:=Nf _ _ h
    rw[pl,U0x] at h
    obtain⟨h4,h5,ps,h6⟩:=Q0 (Nf k) ds h.2
    exact seq (k+1) _ ds (.list ps) (fun S=>rfl) hP (fun S=>by rw[DX,hP.den];show toP _=_;rw[toP,h6];rfl) rfl rfl (of_decide_eq_true h.1) fun e he=>⟨Nf k e (U14.mp h.2 e he),ih e (U14.mp h.2 e he)⟩
  |_=>simp[pl] at h
theorem j7(k:Nat)(p:St2):pl (k+1) (BJ p)=true:=by simp[BJ,pl]
theorem j8(k:Nat)(b:List St2)(h:b.length<=100000):pl (k+2) (Ae b)=true:=by
 rw[Ae,pl,U0x]
 refine⟨decide_eq_true (by simpa using h),?_⟩
 rw[U53,U14]
 exact fun p _=>j7 k p
end W38
end
section
namespace W38
open PySem L2 VS
theorem Qo{r:VS.Env}{L:List D}{d:D}{j:Nat}(h1:r[j]?=some (some (.ref 0))):eOp oIx (Ac j) (eUn Fx (eC (.int 1))) r [some (L++[d])]=some (d,[some (L++[d])]):=by
 have v1:Ac j r [some (L++[d])]=some (.ref 0,[some (L++[d])]):=by simp[Aq,h1]
 rw[BL,v1,U0d]
 show U3i _ (atI (L++[d]) (-1))=_
 rw[fP];rfl
theorem eZ(n:Nat):ixN (n+(0+1)) (-1)=some n:=by
 unfold ixN
 rw[if_neg (by decide),if_pos (by omega)]
 congr 1
 omega
theorem W3{r:VS.Env}{L:List D}{d e:D}{v:BK}{j:Nat}(h1:r[j]?=some (some (.ref 0)))(hv:v r [some (L++[d])]=some (e,[some (L++[d])])):Mq v (Ac j) (eUn Fx (eC (.int 1))) r [some (L++[d])]=some (.nx,r,[some (L++[e])]):=by
 have v1:Ac j r [some (L++[d])]=some (.ref 0,[some (L++[d])]):=by simp[Aq,h1]
 rw[QJ,hv,U0d,v1,U0d]
 show(ixN (L++[d]).length (-1)).bind _=_
 rw[U0o,U0i,U1r,eZ]
 show some (Fl.nx,r,[some ((L++[d]).set L.length e)])=_
 rw[U5v _ _ (U0m _)];simp
theorem Vj{r:VS.Env}{L:List D}{d:D}{a:BK}{j:Nat}(h1:r[j]?=some (some (.ref 0)))(ha:a r [some L]=some (d,[some L]))(hl:L.length<1000000):JR (Gs Gi (Ac j) (Aa a Af)) r [some L]=some (.nx,r,[some (L++[d])]):=by
 rw[KN,Qn (d:=.ref 0) (cs:=L) (ds:=[d]) (r:=.non) (S1:=[some L]) (S2:=[some L]) (S3:=[some (L++[d])]) (by simp[Aq,h1]) rfl (by rw[Al,ha];rfl) (by
  show(if L.length<1000000 then some (D.non,[some (L++[d])]) else none)=_
  rw[if_pos hl])]
 rfl
abbrev Bx:=List St2
abbrev Row:=Int×Int×List Bx
def Ai(m:Bool)(r:Row):D:=.tup [.int r.1,.int r.2.1,.lst m (r.2.2.map Ae)]
def joinR(acc:List Row)(r:Row):List Row:=match acc.getLast? with
 |some l=>if l.2.1=r.1/\l.2.2=r.2.2 then acc.dropLast++[(l.1,r.2.1,r.2.2)] else acc++[r]
 |none=>acc++[r]
theorem aP(acc:List Row)(p:Row):(joinR acc p).length<=acc.length+1:=by
 unfold joinR
 split
 .split
  .rw[U0o,List.length_dropLast];simp
  .simp
 .simp
theorem Ot:∀(l acc:List Row),(l.foldl joinR acc).length<=acc.length+l.length
 |[],acc=>by simp
 |r::l,acc=>by
  have:=Ot l (joinR acc r)
  have:=aP acc r
  rw[U4e,U0i]
  omega
theorem aO{acc:List Row}{x r:Row}(h:r∈joinR acc x):r∈acc∨r.2.2=x.2.2:=by
 unfold joinR at h
 split at h
 .split at h
  .rcases U1k.mp h with h|h
   .exact .inl (List.dropLast_subset _ h)
   .rw[U08.mp h];exact .inr rfl
  .rcases U1k.mp h with h|h
   .exact .inl h
   .rw[U08.mp h];exact .inr rfl
 .rcases U1k.mp h with h|h
  .exact .inl h
  .rw[U08.mp h];exact .inr rfl
theorem Ka:∀{l acc:List Row} {r:Row},r∈l.foldl joinR acc->r∈acc∨∃x∈l,r.2.2=x.2.2
 |[],acc,r,h=>.inl h
 |x::l,acc,r,h=>by
  rcases Ka (l:=l) h with h|⟨y,hy,e⟩
  .rcases aO h with h|h
   .exact .inl h
   .exact .inr ⟨x,U04,h⟩
  .exact .inr ⟨y,U0r _ hy,e⟩
structure Up(rs:List Row)(hi:Int):Prop where
 one:∀r∈rs,r.1<r.2.1/\r.2.1<=hi
 two:rs.Pairwise fun r q=>r.2.1<=q.1
theorem Up.push{rs:List Row}{hi:Int}(h:Up rs hi){x:Row}(h1:hi<=x.1)(h2:x.1<x.2.1):Up (rs++[x]) x.2.1:=by
 refine⟨fun r hr=>?_,U3y.mpr ⟨h.two,List.pairwise_singleton _ _,fun a ha b hb=>?_⟩⟩
 .rcases U1k.mp hr with w|w
  .have:=h.one r w;omega
  .rw[U08.mp w];omega
 .rw[U08.mp hb]
  have:=h.one a ha
  omega
theorem eG{acc:List Row}{hi:Int}{x:Row}(h:Up acc hi)(h1:hi<=x.1)(h2:x.1<x.2.1):Up (joinR acc x) x.2.1:=by
 unfold joinR
 rcases List.eq_nil_or_concat acc with k|⟨l,q,k⟩
 .subst k
  exact h.push h1 h2
 .rw[List.concat_eq_append] at k
  subst k
  rw[List.getLast?_append]
  show Up (if q.2.1=x.1/\q.2.2=x.2.2 then (l++[q]).dropLast++[(q.1,x.2.1,x.2.2)] else l++[q]++[x]) x.2.1
  split
  .rename_i e
   rw[List.dropLast_concat]
   have hq:=h.one q (by simp)
   have hp:=U3y.mp h.two
   refine⟨fun r hr=>?_,U3y.mpr ⟨hp.1,List.pairwise_singleton _ _,fun a ha b hb=>?_⟩⟩
   .rcases U1k.mp hr with w|w
    .have:=h.one r (U3v _ w);omega
    .rw[U08.mp w]
     show q.1<x.2.1/\x.2.1<=x.2.1
     omega
   .rw[U08.mp hb]
    exact hp.2.2 a ha q (by simp)
  .exact h.push h1 h2
theorem Xz:∀{l acc:List Row} {hi:Int},Up acc hi->(∀x∈l,hi<=x.1/\x.1<x.2.1)->(l.Pairwise fun r q=>r.2.1<=q.1)->∃hi',Up (l.foldl joinR acc) hi'
 |[],acc,hi,h,_,_=>⟨hi,h⟩
 |x::l,acc,hi,h,h1,h2=>by
  have hx:=h1 x U04
  have hp:=U2k.mp h2
  exact Xz (l:=l) (eG h hx.1 hx.2) (fun y hy=>⟨hp.1 y hy,(h1 y (U0r _ hy)).2⟩) hp.2
def CW(bs:List Bx):List Int:=Ea (Du bs 0++Dd bs 0)
def BR:Nat->List Bx->List Bx
 |0,bs=>if bs.isEmpty=true then [] else [[]]
 |k+1,bs=>(((steps (CW bs)).map fun s=>((s.1,s.2,BR k (Ey bs 0 s.1)):Row)).foldl joinR []).flatMap fun r=>r.2.2.map fun b=>(r.1,r.2.1)::b
theorem QT{bs:List Bx}(h:bs.length<=20):(CW bs).length<=40:=by
 have q:=(SetP.Ji (Du bs 0++Dd bs 0)).2.1
 unfold CW Ea
 rw[(U3l _ _).length_eq]
 have e:(Du bs 0++Dd bs 0).length=bs.length+bs.length:=by unfold Du Dd;rw[U0o,U0g,U0g]
 omega
theorem Rh(bs:List Bx)(x:Int):(Ey bs 0 x).length<=bs.length:=by
 unfold Ey
 rw[U0g]
 exact List.length_filter_le ..
theorem Ou{α β:Type}(f:α->List β)(M:Nat):∀l:List α,(∀x∈l,(f x).length<=M)->(l.flatMap f).length<=l.length*M
 |[],_=>by simp
 |x::l,h=>by
  have h1:=h x U04
  have h2:=Ou f M l fun y hy=>h y (U0r _ hy)
  rw[List.flatMap_cons,U0o,U0i,Nat.add_mul,Nat.one_mul]
  omega
theorem Oo:∀(k:Nat)(bs:List Bx),bs.length<=20->(BR k bs).length<=40^k
 |0,bs,_=>by
  unfold BR
  split<;>simp
 |k+1,bs,h=>by
  unfold BR
  have sl:=Nk (CW bs)
  have el:=QT h
  have jl:=Ot ((steps (CW bs)).map fun s=>((s.1,s.2,BR k (Ey bs 0 s.1)):Row)) []
  rw[U0g] at jl
  have fl:=Ou (fun r:Row=>r.2.2.map fun b=>(r.1,r.2.1)::b) (40^k) (((steps (CW bs)).map fun s=>((s.1,s.2,BR k (Ey bs 0 s.1)):Row)).foldl joinR []) fun r hr=>by
   rw[U0g]
   rcases Ka hr with z|⟨y,hy,e⟩
   .cases z
   .obtain⟨s,hs,rfl⟩:=U2b.mp hy
    rw[e]
    exact Oo k _ (U02 (Rh bs s.1) h)
  refine U02 fl ?_
  rw[Nat.pow_succ,U6k]
  refine Nat.mul_le_mul (U0m _) ?_
  simp at jl
  omega
theorem Mz:∀(k:Nat)(bs:List Bx),∀b∈BR k bs,b.length=k
 |0,bs,b,h=>by
  unfold BR at h
  split at h
  .cases h
  .rw[U08.mp h];rfl
 |k+1,bs,b,h=>by
  unfold BR at h
  obtain⟨r,hr,hb⟩:=List.mem_flatMap.mp h
  obtain⟨c,hc,rfl⟩:=U2b.mp hb
  rcases Ka hr with z|⟨y,hy,e⟩
  .cases z
  .obtain⟨s,hs,rfl⟩:=U2b.mp hy
   rw[e] at hc
   rw[U0i,Mz k _ c hc]
theorem ZV:∀(a b:Bx),ltB a b=true->ltB b a=false
 |[],[],h=>by cases h
 |[],_::_,_=>rfl
 |_::_,[],h=>by cases h
 |p::r,q::t,h=>by
  unfold ltB at h ⊢
  by_cases e:p=q
  .subst e
   rw[if_pos rfl] at h ⊢
   exact ZV r t h
  .rw[if_neg e] at h
   rw[if_neg fun z=>e z.symm]
   unfold ltS at h ⊢
   by_cases e1:p.1=q.1
   .rw[if_pos e1] at h
    rw[if_pos e1.symm]
    have:=of_decide_eq_true h
    exact decide_eq_false (by omega)
   .rw[if_neg e1] at h
    rw[if_neg fun z=>e1 z.symm]
    have:=of_decide_eq_true h
    exact decide_eq_false (by omega)
theorem Zj:∀{l:List Bx},(l.Pairwise fun a b=>ltB a b=true)->Ml l=true
 |[],_=>rfl
 |[_],_=>rfl
 |a::b::r,h=>by
  have hp:=U2k.mp h
  unfold Ml
  rw[ZV a b (hp.1 b U04),Zj hp.2];rfl
theorem aX{l:List Row}(hu:∀r∈l,r.1<r.2.1)(h2:l.Pairwise fun r q=>r.2.1<=q.1)(hi:∀r∈l,r.2.2.Pairwise fun a b=>ltB a b=true):(l.flatMap fun r=>r.2.2.map fun b=>(r.1,r.2.1)::b).Pairwise fun a b=>ltB a b=true:=by
 induction l with
 |nil=>simp
 |cons r l ih =>
  have hp:=U2k.mp h2
  rw[List.flatMap_cons,U3y]
  refine⟨?_,ih (fun q hq=>hu q (U0r _ hq)) hp.2 (fun q hq=>hi q (U0r _ hq)),fun a ha b hb=>?_⟩
  .rw[U6i]
   refine(hi r U04).imp fun {a b} h=>?_
   show ltB ((r.1,r.2.1)::a) ((r.1,r.2.1)::b)=true
   unfold ltB
   rw[if_pos rfl];exact h
  .obtain⟨c,_,rfl⟩:=U2b.mp ha
   obtain⟨q,hq,hb⟩:=List.mem_flatMap.mp hb
   obtain⟨d,_,rfl⟩:=U2b.mp hb
   have h1:=hp.1 q hq
   have h3:=hu r U04
   unfold ltB
   rw[if_neg fun z=>by have:(r.1,r.2.1).1=(q.1,q.2.1).1:=congrArg Prod.fst z;have:r.1=q.1:=this;omega]
   unfold ltS
   rw[if_neg (by show r.1≠q.1;omega)]
   exact decide_eq_true (by show r.1<q.1;omega)
theorem Sy(bs:List Bx):(CW bs).Pairwise (·<·):=Yr _
theorem Sd:∀{E:List Int},E.Pairwise (·<·)->(steps E).Pairwise fun p q=>p.2<=q.1
 |[],_=>by simp[steps]
 |[a],_=>by simp[steps]
 |a::b::r,h=>by
  have hh:=U2k.mp h
  show((a,b)::steps (b::r)).Pairwise _
  refine U2k.mpr ⟨fun p hp=>?_,Sd hh.2⟩
  obtain⟨_,g2,_⟩:=QG hh.2 p hp
  rcases U0t.mp g2 with e|e
  .rw[e];exact Int.le_refl _
  .have:=(U2k.mp hh.2).1 _ e
   show b<=p.1
   omega
theorem iT(bs:List Bx)(f:Int->List Bx):∃hi,Up (((steps (CW bs)).map fun s=>((s.1,s.2,f s.1):Row)).foldl joinR []) hi:=by
 obtain⟨lo,hlo⟩:∃lo:Int,∀p∈steps (CW bs),lo<=p.1:=by
  generalize steps (CW bs)=l
  induction l with
  |nil=>exact⟨0,fun p h=>by cases h⟩
  |cons a l ih =>
   obtain⟨lo,h⟩:=ih
   refine⟨min lo a.1,fun p hp=>?_⟩
   rcases U0t.mp hp with rfl|hp
   .omega
   .have:=h p hp;omega
 refine Xz (hi:=lo) ⟨fun r h=>(by cases h),.nil⟩ (fun x hx=>?_) ?_
 .obtain⟨s,hs,rfl⟩:=U2b.mp hx
  exact⟨hlo s hs,(QG (Sy bs) s hs).1⟩
 .rw[U6i]
  exact Sd (Sy bs)
theorem Ug:∀(k:Nat)(bs:List Bx),(BR k bs).Pairwise fun a b=>ltB a b=true
 |0,bs=>by
  unfold BR
  split<;>simp
 |k+1,bs=>by
  unfold BR
  obtain⟨hi,hu⟩:=iT bs fun x=>BR k (Ey bs 0 x)
  refine aX (fun r hr=>(hu.one r hr).1) hu.two fun r hr=>?_
  rcases Ka hr with z|⟨y,hy,e⟩
  .cases z
  .obtain⟨s,hs,rfl⟩:=U2b.mp hy
   rw[e]
   exact Ug k _
end W38
end
section
namespace W38
open PySem L2 VS
theorem QS{α:Type}[DecidableEq α](f:α->PyData)(hf:∀x y,U4x (f x) (f y)=decide (x=y)):∀a b:List α,U6c (a.map f) (b.map f)=decide (a=b)
 |[],[]=>rfl
 |[],_::_=>rfl
 |_::_,[]=>rfl
 |x::a,y::b=>by
  rw[U00,U00,U6c,QS f hf a b,hf]
  by_cases h:x=y
  .subst h
   simp
  .simp[h]
theorem rO(p q:St2):U4x (pS p) (pS q)=decide (p=q):=by
 obtain⟨a,b⟩:=p
 obtain⟨c,d⟩:=q
 rw[U4c]
 simp[pS,U4x,U6c]
theorem rP(a b:Bx):U4x (pB a) (pB b)=decide (a=b):=QS pS rO a b
theorem Kc(neg:Bool)(S:Store)(m1 m2:Bool)(a b:List Bx):oEq neg S (.lst m1 (a.map Ae)) (.lst m2 (b.map Ae))=some (.bl (neg ^^ decide (a=b))):=by
 show eqP neg S (.lst m1 (a.map Ae)) (.lst m2 (b.map Ae))=_
 unfold eqP
 rw[J9,J9]
 simp only[U0d]
 rw[M5 (Iv 0 a) (by decide),M5 (Iv 0 b) (by decide)]
 show some (D.bl (neg ^^ U6c (a.map pB) (b.map pB)))=_
 rw[QS pB rP]
theorem cX(m:Bool)(r:Row):Ax (Ai m r)=true:=by simp[Ai,Ax,Av,Bd (BP r.2.2)]
theorem Nm(m:Bool):∀l:List Row,Av (l.map (Ai m))=true
 |[]=>by rw[U1p,Av]
 |r::l=>by rw[U00,Av,cX,Nm m l];rfl
theorem jt(m:Bool)(r:Row):VS.age (Ai m r)=Ai false r:=by simp[Ai,VS.age,Bb,Es (BP r.2.2)]
theorem WT(m:Bool):∀l:List Row,Bb (l.map (Ai m))=l.map (Ai false)
 |[]=>by rw[U1p,Bb];rfl
 |r::l=>by rw[U00,Bb,jt,WT m l];rfl
theorem W5{c:FT}{s1 s2:Bl}{r:VS.Env}{j:Nat}{m:Bool}(acc:List Row)(x:Row)(hl:acc.length<1000000)(h1:r[j]?=some (some (.ref 0)))
  (ht:∀(l:List Row) d,c r [some (l.map (Ai m)++[Ai m d])]=some (decide (d.2.1=x.1)&&decide (d.2.2=x.2.2),[some (l.map (Ai m)++[Ai m d])])) (h0:c r [some []]=some (false,[some []]))
  (hs:∀L d,s1 r [some (L++[Ai m d])]=some (.nx,r,[some (L++[Ai m (d.1,x.2.1,x.2.2)])])) (ha:∀L,L.length<1000000->s2 r [some L]=some (.nx,r,[some (L++[Ai m x])])) :
  sIf c s1 s2 r [some (acc.map (Ai m))]=some (.nx,r,[some ((joinR acc x).map (Ai m))]):=by
 rcases List.eq_nil_or_concat acc with k|⟨l,q,k⟩
 .subst k
  rw[U1p,Lx h0,ha _ (by decide)];rfl
 .rw[List.concat_eq_append] at k
  subst k
  unfold joinR
  rw[List.getLast?_append,U2s,U00,U1p]
  have ht:=ht l q
  by_cases e:q.2.1=x.1/\q.2.2=x.2.2
  .rw[decide_eq_true e.1,decide_eq_true e.2] at ht
   rw[SM ht,hs]
   show _=some (Fl.nx,r,[some ((if q.2.1=x.1/\q.2.2=x.2.2 then (l++[q]).dropLast++[(q.1,x.2.1,x.2.2)] else l++[q]++[x]).map (Ai m))])
   rw[if_pos e,List.dropLast_concat,U2s];rfl
  .have e':(decide (q.2.1=x.1)&&decide (q.2.2=x.2.2))=false:=by
    rw[←Bool.decide_and];exact decide_eq_false e
   rw[e'] at ht
   rw[Lx ht]
   show s2 r [some (l.map (Ai m)++[Ai m q])]=some (Fl.nx,r,[some ((if q.2.1=x.1/\q.2.2=x.2.2 then (l++[q]).dropLast++[(q.1,x.2.1,x.2.2)] else l++[q]++[x]).map (Ai m))])
   rw[ha _ (by rw[U0o,U0g] at *;exact hl),if_neg e,U2s,U2s];rfl
theorem eF(C:D)(acc:List Row)(x:Row)(hl:acc.length<1000000):Ih [some C,some (.ref 0),some (.int x.1),some (.int x.2.1),some (.lst false (x.2.2.map Ae))] [some (acc.map (Ai false))]=some (.nx,[some C,some (.ref 0),some (.int x.1),some (.int x.2.1),some (.lst false (x.2.2.map Ae))],[some ((joinR acc x).map (Ai false))]):=by
 have len:∀L:List D,Bt (eOp oGt (eCB DR (Aa (Ac 1) Af)) (eC (.int 0))) [some C,some (.ref 0),some (.int x.1),some (.int x.2.1),some (.lst false (x.2.2.map Ae))] [some L]=some (decide (0<(L.length:Int)),[some L]):=fun L=>rfl
 unfold Ih
 refine W5 (j:=1) acc x hl rfl (fun l d=>?_) ?_ (fun L d=>?_) (fun L h=>Vj (j:=1) rfl rfl h)
 .generalize l.map (Ai false)=L
  have la:=Qo (r:=[some C,some (.ref 0),some (.int x.1),some (.int x.2.1),some (.lst false (x.2.2.map Ae))]) (L:=L) (d:=Ai false d) (j:=1) rfl
  have t1:Bt (eOp (oEq false) (eOp oIx (eOp oIx (Ac 1) (eUn Fx (eC (.int 1)))) (eC (.int 1))) (Ac 2)) [some C,some (.ref 0),some (.int x.1),some (.int x.2.1),some (.lst false (x.2.2.map Ae))] [some (L++[Ai false d])]=some (decide (d.2.1=x.1),[some (L++[Ai false d])]):=by
   rw[Bq,BL,BL,la]
   show some ((false ^^ decide (d.2.1=x.1)),_)=_
   rw[U5e]
  have t2:Bt (eOp (oEq false) (eOp oIx (eOp oIx (Ac 1) (eUn Fx (eC (.int 1)))) (eC (.int 2))) (Ac 4)) [some C,some (.ref 0),some (.int x.1),some (.int x.2.1),some (.lst false (x.2.2.map Ae))] [some (L++[Ai false d])]=some (decide (d.2.2=x.2.2),[some (L++[Ai false d])]):=by
   have q:eOp oIx (eOp oIx (Ac 1) (eUn Fx (eC (.int 1)))) (eC (.int 2)) [some C,some (.ref 0),some (.int x.1),some (.int x.2.1),some (.lst false (x.2.2.map Ae))] [some (L++[Ai false d])]=some (.lst false (d.2.2.map Ae),[some (L++[Ai false d])]):=by rw[BL,la];rfl
   have v4:Ac 4 [some C,some (.ref 0),some (.int x.1),some (.int x.2.1),some (.lst false (x.2.2.map Ae))] [some (L++[Ai false d])]=some (.lst false (x.2.2.map Ae),[some (L++[Ai false d])]):=rfl
   rw[Bq,BL,q,U0d,v4,U0d,Kc,U5e];rfl
  rw[J5,len,decide_eq_true (by simp)]
  show VS.Mg _ _ _ _=_
  rw[J5,t1]
  simp only[U0d,t2]
  cases decide (d.2.1=x.1)<;>rfl
 .rw[J5,len];rfl
 .have la:=Qo (r:=[some C,some (.ref 0),some (.int x.1),some (.int x.2.1),some (.lst false (x.2.2.map Ae))]) (L:=L) (d:=Ai false d) (j:=1) rfl
  refine W3 rfl ?_
  have q:eOp oIx (eOp oIx (Ac 1) (eUn Fx (eC (.int 1)))) (eC (.int 0)) [some C,some (.ref 0),some (.int x.1),some (.int x.2.1),some (.lst false (x.2.2.map Ae))] [some (L++[Ai false d])]=some (.int d.1,[some (L++[Ai false d])]):=by rw[BL,la];rfl
  rw[En,Al,q];rfl
theorem aN(l:List Row)(hl:l.length<=1000):Eu [.lent (l.map (Ai false))]=some (.lst true ((l.foldl joinR []).map (Ai false))):=by
 have s1:(Cd 1 (Jr Af)) [some (.lent (l.map (Ai false))),none,none,none,none] []=some (.nx,[some (.lent (l.map (Ai false))),some (.ref 0),none,none,none],[some []]):=rfl
 have e:Ei (Ac 0) [some (.lent (l.map (Ai false))),some (.ref 0),none,none,none] [some []]=some ((l.map (Ai false),[]),[some []]):=rfl
 obtain⟨env',S',e2,y2,y3,y4,he,hS⟩:=Ip (w:=[]) (g:=Pat.sem (.tp [(.nm 2),(.nm 3),(.nm 4)])) (b:=Ih) (ds:=l.map (Ai false)) (env:=[some (.lent (l.map (Ai false))),some (.ref 0),none,none,none]) (S:=[some []])
  (fun i env S=>∃y2 y3 y4:Option D,env=[some (.lent (l.map (Ai false))),some (.ref 0),y2,y3,y4]/\S=[some (((l.take i).foldl joinR []).map (Ai false))])
  ⟨none,none,none,rfl,rfl⟩ (fun i env S _=>by simp) (fun i d env S hd q=>by
   obtain⟨y2,y3,y4,he,hS⟩:=q
   subst he hS
   rw[U03] at hd
   obtain⟨x,hx,rfl⟩:=U26.mp hd
   have jf:=Ot (l.take i) []
   rw[U2c] at jf
   refine⟨[some (.lent (l.map (Ai false))),some (.ref 0),some (.int x.1),some (.int x.2.1),some (.lst false (x.2.2.map Ae))],by simp[Fd,Hw,GR,Ft,-U0f,-U0e,Ai],_,_,eF _ ((l.take i).foldl joinR []) x (by simp at jf;omega),_,_,_,rfl,?_⟩
   rw[U5f,hx,U4i,U6g];rfl)
 subst he hS
 rw[U0g,U37] at e2
 unfold Eu
 rw[EY]
 simp only[U0i,U1r,U00,U1p,U3,U3a,U0l,U2f,U2n,U13,if_true]
 unfold Od
 have l1:K9 [some (.lent (l.map (Ai false))),some (.ref 0),none,none,none] [some []]=some (.nx,[some (.lent (l.map (Ai false))),some (.ref 0),y2,y3,y4],[some ((l.foldl joinR []).map (Ai false))]):=by
  unfold K9
  rw[Jk,e]
  exact e2
 rw[Ce s1,Ce l1]
 show den 0 [some ((l.foldl joinR []).map (Ai false))] (.ref 0)=_
 rw[den,if_neg (by omega)]
 show(if Av ((l.foldl joinR []).map (Ai false))=true then _ else _)=_
 rw[if_pos (Nm ..)]
theorem W8:Ea (Du [] 0++Dd [] 0)=[]:=by
 have h:∀x,x ∉ Ea (Du [] 0++Dd [] 0):=fun x hx=>by
  have:=Ub.mp hx
  simp[Du,Dd] at this
 exact List.eq_nil_iff_forall_not_mem.mpr h
theorem Zo{m:Bool}:Dq [.lst m [],.int 0]=some (.lst true []):=by
 have h0:=Y5 (m:=false) (cs:=[]) (w:=0) (fun b h=>by cases h) (by decide)
 have e:Ea (Du [] 0++Dd [] 0)=[]:=W8
 rw[e] at h0
 have c:∀S:Store,Bf G3 (Aa (Ac 0) (Aa (Ac 1) Af)) [some (.lst m []),some (.int 0),none] S=some (.lst true [],S):=fun S=>Fb (ds:=[.lst m [],.int 0]) (es:=[.lst false [],.int 0]) rfl (by simp[Av,Ax]) (by simp[Bb,age]) h0
 unfold Dq
 rw[EY]
 simp only[U0i,U1r,U00,U1p,U3,U3a,U0l,U2f,U2n,U13,if_true]
 unfold Lk
 rw[Ce (by rw[CN,c];rfl)]
 rfl
theorem Zq{m:Bool}{cs:List Bx}(hw:∀b∈cs,0<b.length)(hl:cs.length<=20):Dq [.lst m (cs.map Ae),.int 0]=some (.lst true ((steps (CW cs)).map BJ)):=by
 by_cases h:cs=[]
 .subst h
  rw[U1p,Zo]
  unfold CW
  rw[W8]
  rfl
 .exact cH (w:=0) hw hl h
theorem YB{m:Bool}{bs:List Bx}(hl:bs.length<=20)(hb:∀b∈bs,0<b.length/\b.length<=3)(x:Int):Ed [.lst false (bs.map Ae),.int 0,.int x]=some (.lst true ((Ey bs 0 x).map Ae)):=by
 have c1:=pI [some (.lst false (bs.map Ae)),some (.int 0),some (.int x),none] [] bs 0 x (by omega) (fun b h=>(hb b h).1) rfl rfl rfl
 have c2:=pH [some (.lst false (bs.map Ae)),some (.int 0),some (.int x),some (.lst true ((bs.filter (Og 0 x)).map Ae))] [] (bs.filter (Og 0 x)) 0 (U02 (List.length_filter_le ..) (by omega)) (fun b h=>hb b (U4b.mp h).1) rfl rfl
 have s1:(Cd 3 (Bp K8)) [some (.lst false (bs.map Ae)),some (.int 0),some (.int x),none] []=some (.nx,[some (.lst false (bs.map Ae)),some (.int 0),some (.int x),some (.lst true ((bs.filter (Og 0 x)).map Ae))],[]):=by
  rw[CN,Br,c1];rfl
 unfold Ed
 rw[EY]
 simp only[U0i,U1r,U00,U1p,U3,U3a,U0l,U2f,U2n,U13,if_true]
 unfold Qz
 rw[Ce s1,Cg,Br,c2]
 show den 0 _ (.lst true _)=_
 rw[den,Cq 0 _ (Bd (BP _))];rfl
end W38
end
section
namespace W38
open PySem L2 VS
def pE(fa:Nat->Addr)(BD:List D)(k:Int)(a4 a5 a6 a7 a8:Option D):VS.Env:=[some (.fn (fa 0) 0),some (.lst false BD),some (.lst false []),some (.int k),a4,a5,a6,a7,a8]
theorem XQ(a b:Bool):Hj [.bl a,.bl b]=some (.bl a):=by
 unfold Hj
 rw[EY]
 rfl
def DY(k:Nat)(bs:List Bx):List Row:=(steps (CW bs)).map fun s=>(s.1,s.2,BR k (Ey bs 0 s.1))
theorem Y4{env:VS.Env}{S S':Store}{o a:BK}{i:Nat}{l ds:List D}{m:Bool}(ho:o env S=some (.ref i,S))(hi:S[i]?=some (some l))(ha:a env S=some (.lst m ds,S))(hl:l.length+ds.length<=1000000)(hS:S.set i (some (l++ds))=S'):JR (Gs M9 o (Aa a Af)) env S=some (.nx,env,S'):=by
 rw[KN,Qn (d:=.ref i) (cs:=l) (ds:=[.lst m ds]) (r:=.non) (S1:=S) (S2:=S) (S3:=S') ho (by rw[VS.listOf,hi];rfl) (by rw[Al,ha];rfl) (by
  unfold M9
  simp only[hi,VS.listOf,U0d]
  rw[if_pos hl,hS])]
 rfl
theorem Vy(fa:Nat->Addr)(f:Nat):∀(k:Nat)(bs:List Bx),(∀b∈bs,b.length=k)->bs.length<=20->k<=3->Bk fa (k+f+1) [.fn (fa 0) 0,.lst false (bs.map Ae),.lst false [],.int k]=some (.lst true ((BR k bs).map Ae))
 |0,bs,hb,hl,_=>by
  rw[Bk,EY]
  simp only[U0i,U1r,U00,U1p,U3,U3a,U0l,U2f,U2n,U13,if_true]
  unfold Ln
  show((Bh _ _ (pE fa (bs.map Ae) 0 none none none none none) []).bind _)=_
  have cv:QC 0 (Ru fa) (Aa (eOp oGt (eCB DR (Aa (Ac 1) Af)) (eC (.int 0))) (Aa (eOp oGt (eCB DR (Aa (Ac 2) Af)) (eC (.int 0))) Af)) (pE fa (bs.map Ae) 0 none none none none none) []=some (.bl (decide (0<(bs.length:Int))),[]):=by
   have e:QC 0 (Ru fa) (Aa (eOp oGt (eCB DR (Aa (Ac 1) Af)) (eC (.int 0))) (Aa (eOp oGt (eCB DR (Aa (Ac 2) Af)) (eC (.int 0))) Af)) (pE fa (bs.map Ae) 0 none none none none none) []=(if fa 0=fa 0 then Bf Hj (Aa (eOp oGt (eCB DR (Aa (Ac 1) Af)) (eC (.int 0))) (Aa (eOp oGt (eCB DR (Aa (Ac 2) Af)) (eC (.int 0))) Af)) (pE fa (bs.map Ae) 0 none none none none none) [] else none):=rfl
   rw[e,if_pos rfl]
   refine Fb (ds:=[.bl (decide (0<(bs.length:Int))),.bl false]) (es:=[.bl (decide (0<(bs.length:Int))),.bl false]) ?_ (by simp[Av,Ax]) (by simp[Bb,age]) (XQ _ _)
   show some ([D.bl (decide ((((bs.map Ae).length:Nat):Int)>0)),.bl false],([]:Store))=_
   rw[U0g]
  have t0:Bt (eOp (oEq false) (Ac 3) (eC (.int 0))) (pE fa (bs.map Ae) 0 none none none none none) []=some (true,[]):=rfl
  rw[iQ (d:=.lst true ((BR 0 bs).map Ae)) (env1:=pE fa (bs.map Ae) 0 none none none none none) (S1:=[]) (by
   rw[SM t0,Cg,pF,Bq,cv]
   cases bs with
   |nil=>rfl
   |cons b r=>rw[decide_eq_true (by rw[U0i];omega)];rfl)]
  show den 0 _ (.lst true _)=_
  rw[den,Cq 0 _ (Bd (BP _))];rfl
 |k+1,bs,hb,hl,h3=>by
  have el:=QT hl
  have sl:=Nk (CW bs)
  have pos:∀b∈bs,0<b.length/\b.length<=3:=fun b h=>by rw[hb b h];omega
  have hcut:∀x:Int,(∀b∈Ey bs 0 x,b.length=k)/\(Ey bs 0 x).length<=20:=fun x=>by
   refine⟨fun b h=>?_,U02 (Rh bs x) hl⟩
   unfold Ey at h
   obtain⟨c,hc,rfl⟩:=U2b.mp h
   have:=hb c (U4b.mp hc).1
   rw[List.length_eraseIdx,if_pos (by omega)]
   omega
  rw[show k+1+f=k+f+1 by omega,Bk,EY]
  simp only[U0i,U1r,U00,U1p,U3,U3a,U0l,U2f,U2n,U13,if_true]
  unfold Ln
  show((Bh _ _ (pE fa (bs.map Ae) ((k+1:Nat):Int) none none none none none) []).bind _)=_
  have t0:Bt (eOp (oEq false) (Ac 3) (eC (.int 0))) (pE fa (bs.map Ae) ((k+1:Nat):Int) none none none none none) []=some (false,[]):=by
   show some ((false ^^ decide (((k+1:Nat):Int)=0)),([]:Store))=_
   rw[U5e,decide_eq_false (by omega)]
  have s2:(Cd 4 (Jr Af)) (pE fa (bs.map Ae) ((k+1:Nat):Int) none none none none none) []=some (.nx,pE fa (bs.map Ae) ((k+1:Nat):Int) (some (.ref 0)) none none none none,[some []]):=rfl
  have ad:∀S:Store,eOp Bm (Ac 1) (Ac 2) (pE fa (bs.map Ae) ((k+1:Nat):Int) (some (.ref 0)) none none none none) S=some (.lst true (bs.map Ae),S):=fun S=>by
   show(U3i _ (if (bs.map Ae).length+0<=1000000 then some (D.lst true (bs.map Ae++[])) else none))=_
   rw[if_pos (by rw[U0g];omega),U2y];rfl
  have cs:∀S:Store,Bf Dq (Aa (eOp Bm (Ac 1) (Ac 2)) (Aa (eC (.int 0)) Af)) (pE fa (bs.map Ae) ((k+1:Nat):Int) (some (.ref 0)) none none none none) S=some (.lst true ((steps (CW bs)).map BJ),S):=fun S =>
   Fb (ds:=[.lst true (bs.map Ae),.int 0]) (es:=[.lst false (bs.map Ae),.int 0]) (by rw[Al,ad];rfl) (by simp[Av,Ax,Bd (BP bs)]) (by simp[Bb,age,Es (BP bs)]) (Zq (fun b h=>(pos b h).1) hl)
  have e1:Ei (Bf Dq (Aa (eOp Bm (Ac 1) (Ac 2)) (Aa (eC (.int 0)) Af))) (pE fa (bs.map Ae) ((k+1:Nat):Int) (some (.ref 0)) none none none none) [some []]=some (((steps (CW bs)).map BJ,[]),[some []]):=by rw[IK,cs];rfl
  obtain⟨env',S',l1,y5,y6,y7,he,hS⟩:=Ip (w:=[]) (g:=Pat.sem (.tp [(.nm 5),(.nm 6)])) (b:=Kh fa (Bk fa (k+f+1))) (ds:=(steps (CW bs)).map BJ) (env:=pE fa (bs.map Ae) ((k+1:Nat):Int) (some (.ref 0)) none none none none) (S:=[some []])
   (fun i env S=>∃y5 y6 y7:Option D,env=pE fa (bs.map Ae) ((k+1:Nat):Int) (some (.ref 0)) y5 y6 y7 none/\S=[some (((DY k bs).take i).map (Ai true))])
   ⟨none,none,none,rfl,rfl⟩ (fun i env S _=>by simp) (fun i d env S hd q=>by
    obtain⟨y5,y6,y7,he,hS⟩:=q
    subst he hS
    rw[U03] at hd
    obtain⟨s,hs,rfl⟩:=U26.mp hd
    have hr:(DY k bs)[i]?=some (s.1,s.2,BR k (Ey bs 0 s.1)):=by unfold DY;rw[U03,hs];rfl
    obtain⟨h1,h2⟩:=hcut s.1
    have ih:=Vy fa f k (Ey bs 0 s.1) h1 h2 (by omega)
    have rl:(DY k bs).length<=40:=by unfold DY;rw[U0g];omega
    obtain⟨LL,hLL⟩:∃LL:List D,LL=((DY k bs).take i).map (Ai true):=⟨_,rfl⟩
    have nLL:LL.length<1000000:=by rw[hLL,U0g,U2c];omega
    rw[←hLL]
    have q1:Bf Ed (Aa (Ac 1) (Aa (eC (.int 0)) (Aa (Ac 5) Af))) (pE fa (bs.map Ae) ((k+1:Nat):Int) (some (.ref 0)) (some (.int s.1)) (some (.int s.2)) y7 none) [some LL]=some (.lst true ((Ey bs 0 s.1).map Ae),[some LL]) :=
     Fb (ds:=[.lst false (bs.map Ae),.int 0,.int s.1]) (es:=[.lst false (bs.map Ae),.int 0,.int s.1]) rfl (by simp[Av,Ax,Bd (BP bs)]) (by simp[Bb,age,Es (BP bs)]) (YB (m:=true) hl pos s.1)
    have q2:Bf Ed (Aa (Ac 2) (Aa (eC (.int 0)) (Aa (Ac 5) Af))) (pE fa (bs.map Ae) ((k+1:Nat):Int) (some (.ref 0)) (some (.int s.1)) (some (.int s.2)) y7 none) [some LL]=some (.lst true [],[some LL]) :=
     Fb (ds:=[.lst false [],.int 0,.int s.1]) (es:=[.lst false [],.int 0,.int s.1]) rfl (by simp[Av,Ax]) (by simp[Bb,age]) (YB (m:=true) (bs:=[]) (by decide) (fun b h=>by cases h) s.1)
    have q3:eOp Fe (Ac 3) (eC (.int 1)) (pE fa (bs.map Ae) ((k+1:Nat):Int) (some (.ref 0)) (some (.int s.1)) (some (.int s.2)) y7 none) [some LL]=some (.int k,[some LL]):=by
     show some (D.int (((k+1:Nat):Int)-1),_)=_
     rw[show((k+1:Nat):Int)-1=k by omega]
    have v0:Ac 0 (pE fa (bs.map Ae) ((k+1:Nat):Int) (some (.ref 0)) (some (.int s.1)) (some (.int s.2)) y7 none) [some LL]=some (.fn (fa 0) 0,[some LL]):=rfl
    have q4:Bf (Bk fa (k+f+1)) (Aa (Ac 0) (Aa (Bf Ed (Aa (Ac 1) (Aa (eC (.int 0)) (Aa (Ac 5) Af)))) (Aa (Bf Ed (Aa (Ac 2) (Aa (eC (.int 0)) (Aa (Ac 5) Af)))) (Aa (eOp Fe (Ac 3) (eC (.int 1))) Af)))) (pE fa (bs.map Ae) ((k+1:Nat):Int) (some (.ref 0)) (some (.int s.1)) (some (.int s.2)) y7 none) [some LL]=some (.lst true ((BR k (Ey bs 0 s.1)).map Ae),[some LL]) :=
     Fb (ds:=[.fn (fa 0) 0,.lst true ((Ey bs 0 s.1).map Ae),.lst true [],.int k]) (es:=[.fn (fa 0) 0,.lst false ((Ey bs 0 s.1).map Ae),.lst false [],.int k]) (by
      rw[Al,v0,U0d,Al,q1,U0d,Al,q2,U0d,Al,q3];rfl) (by simp[Av,Ax,Bd (BP _)]) (by simp[Bb,age,Es (BP _)]) ih
    refine⟨pE fa (bs.map Ae) ((k+1:Nat):Int) (some (.ref 0)) (some (.int s.1)) (some (.int s.2)) y7 none,by simp[Fd,Hw,GR,Ft,-U0f,-U0e,BJ,pE],pE fa (bs.map Ae) ((k+1:Nat):Int) (some (.ref 0)) (some (.int s.1)) (some (.int s.2)) (some (.lst true ((BR k (Ey bs 0 s.1)).map Ae))) none,[some (LL++[Ai true (s.1,s.2,BR k (Ey bs 0 s.1))])],?_,some (.int s.1),some (.int s.2),some (.lst true ((BR k (Ey bs 0 s.1)).map Ae)),rfl,?_⟩
    .unfold Kh
     rw[Ce (by rw[CN,q4];rfl)]
     exact Vj (j:=4) rfl rfl nLL
    .rw[U5f,hr,U4i,U2s,hLL];rfl)
  subst he hS
  have rl:(DY k bs).length=(steps (CW bs)).length:=by unfold DY;rw[U0g]
  rw[U0g,←rl,U37] at l1
  have L1:Ke fa (Bk fa (k+f+1)) (pE fa (bs.map Ae) ((k+1:Nat):Int) (some (.ref 0)) none none none none) [some []]=some (.nx,pE fa (bs.map Ae) ((k+1:Nat):Int) (some (.ref 0)) y5 y6 y7 none,[some ((DY k bs).map (Ai true))]):=by
   unfold Ke
   rw[Jk,e1]
   exact l1
  have s3:(Cd 8 (Jr Af)) (pE fa (bs.map Ae) ((k+1:Nat):Int) (some (.ref 0)) y5 y6 y7 none) [some ((DY k bs).map (Ai true))]=some (.nx,pE fa (bs.map Ae) ((k+1:Nat):Int) (some (.ref 0)) y5 y6 y7 (some (.ref 1)),[some ((DY k bs).map (Ai true)),some []]):=rfl
  have jo:=aN (DY k bs) (by omega)
  have cl:∀T:List (Option (List D)),QD Eu (Aa (Ac 4) Af) (pE fa (bs.map Ae) ((k+1:Nat):Int) (some (.ref 0)) y5 y6 y7 (some (.ref 1))) (some ((DY k bs).map (Ai true))::T)=some (.lst true (((DY k bs).foldl joinR []).map (Ai false)),some ((DY k bs).map (Ai true))::T):=fun T=>by
   have a:Aa (Ac 4) Af (pE fa (bs.map Ae) ((k+1:Nat):Int) (some (.ref 0)) y5 y6 y7 (some (.ref 1))) (some ((DY k bs).map (Ai true))::T)=some ([.ref 0],some ((DY k bs).map (Ai true))::T):=rfl
   have le:Ng (some ((DY k bs).map (Ai true))::T) [.ref 0]=some [.lent ((DY k bs).map (Ai false))]:=by
    rw[Ng,if_neg (by simp[Ax])]
    show((if Av ((DY k bs).map (Ai true))=true then some (D.lent (Bb ((DY k bs).map (Ai true)))) else none).bind _)=_
    rw[if_pos (Nm ..),WT];rfl
   rw[ao,a,U0d,le,U0d,jo];rfl
  have pl:=Oo (k+1) bs hl
  have pk:40^(k+1)<=64000:=by
   have:k=0∨k=1∨k=2:=by omega
   rcases this with rfl|rfl|rfl<;>decide
  have jm:=fun r hr=>Ka (l:=DY k bs) (acc:=[]) (r:=r) hr
  have ep:BR (k+1) bs=((DY k bs).foldl joinR []).flatMap fun r=>r.2.2.map fun b=>(r.1,r.2.1)::b:=rfl
  rw[ep] at pl ⊢
  generalize (DY k bs).foldl joinR []=J at *
  generalize (DY k bs).map (Ai true)=RR at *
  have e2:Ei (QD Eu (Aa (Ac 4) Af)) (pE fa (bs.map Ae) ((k+1:Nat):Int) (some (.ref 0)) y5 y6 y7 (some (.ref 1))) [some RR,some []]=some ((J.map (Ai false),[]),[some RR,some []]):=by rw[IK,cl];rfl
  obtain⟨env',S',l2,z5,z6,z7,he,hS⟩:=Ip (w:=[]) (g:=Pat.sem (.tp [(.nm 5),(.nm 6),(.nm 7)])) (b:=Kg fa (Bk fa (k+f+1))) (ds:=J.map (Ai false)) (env:=pE fa (bs.map Ae) ((k+1:Nat):Int) (some (.ref 0)) y5 y6 y7 (some (.ref 1))) (S:=[some RR,some []])
   (fun i env S=>∃z5 z6 z7:Option D,env=pE fa (bs.map Ae) ((k+1:Nat):Int) (some (.ref 0)) z5 z6 z7 (some (.ref 1))/\S=[some RR,some (((J.take i).flatMap fun r=>r.2.2.map fun b=>(r.1,r.2.1)::b).map Ae)])
   ⟨y5,y6,y7,rfl,rfl⟩ (fun i env S _=>by simp) (fun i d env S hd q=>by
    obtain⟨z5,z6,z7,he,hS⟩:=q
    subst he hS
    rw[U03] at hd
    obtain⟨r,hr,rfl⟩:=U26.mp hd
    have hi:i<J.length:=(U0h.mp hr).1
    have tk:(J.take (i+1)).flatMap (fun r:Row=>r.2.2.map fun b=>(r.1,r.2.1)::b)=(J.take i).flatMap (fun r:Row=>r.2.2.map fun b=>(r.1,r.2.1)::b)++r.2.2.map fun b=>(r.1,r.2.1)::b:=by
     rw[U5f,hr,U4i,U42];simp
    have tl:((J.take (i+1)).flatMap (fun r:Row=>r.2.2.map fun b=>(r.1,r.2.1)::b)).length<=(J.flatMap fun r=>r.2.2.map fun b=>(r.1,r.2.1)::b).length:=by
     conv=>rhs;rw[←List.take_append_drop (i+1) J]
     rw[U42,U0o];omega
    rw[tk,U0o,U0g] at tl
    obtain⟨LL,hLL⟩:∃LL:List Bx,LL=(J.take i).flatMap fun r=>r.2.2.map fun b=>(r.1,r.2.1)::b:=⟨_,rfl⟩
    rw[←hLL] at tl ⊢
    have c1:Kf fa (Bk fa (k+f+1)) (pE fa (bs.map Ae) ((k+1:Nat):Int) (some (.ref 0)) (some (.int r.1)) (some (.int r.2.1)) (some (.lst false (r.2.2.map Ae))) (some (.ref 1))) [some RR,some (LL.map Ae)]=some ((r.2.2.map fun b=>(r.1,r.2.1)::b).map Ae,[some RR,some (LL.map Ae)]):=by
     have e0:Ei (Ac 7) (pE fa (bs.map Ae) ((k+1:Nat):Int) (some (.ref 0)) (some (.int r.1)) (some (.int r.2.1)) (some (.lst false (r.2.2.map Ae))) (some (.ref 1))) [some RR,some (LL.map Ae)]=some ((r.2.2.map Ae,[]),[some RR,some (LL.map Ae)]):=rfl
     unfold Kf Dl
     rw[e0]
     simp only[U0d]
     rw[MJ (by simp) Ae (fun b=>Ae ((r.1,r.2.1)::b)) r.2.2 (by omega),U0f]
     .rfl
     .intro b hbm
      refine⟨[some (Ae b),some (.int r.1),some (.int r.2.1)],rfl,?_⟩
      have hbl:b.length<=3:=by
       rcases jm r (U06 hr) with z|⟨y,hy,e⟩
       .cases z
       .unfold DY at hy
        obtain⟨s,_,rfl⟩:=U2b.mp hy
        rw[e] at hbm
        rw[Mz k _ b hbm];omega
      show(U3i _ (if 1+(b.map BJ).length<=1000000 then some (D.tup ([BJ (r.1,r.2.1)]++b.map BJ)) else none))=_
      rw[if_pos (by rw[U0g];omega)];rfl
    refine⟨pE fa (bs.map Ae) ((k+1:Nat):Int) (some (.ref 0)) (some (.int r.1)) (some (.int r.2.1)) (some (.lst false (r.2.2.map Ae))) (some (.ref 1)),by simp[Fd,Hw,GR,Ft,-U0f,-U0e,Ai,pE],pE fa (bs.map Ae) ((k+1:Nat):Int) (some (.ref 0)) (some (.int r.1)) (some (.int r.2.1)) (some (.lst false (r.2.2.map Ae))) (some (.ref 1)),[some RR,some (LL.map Ae++(r.2.2.map fun b=>(r.1,r.2.1)::b).map Ae)],?_,some (.int r.1),some (.int r.2.1),some (.lst false (r.2.2.map Ae)),rfl,?_⟩
    .unfold Kg
     exact Y4 (i:=1) (m:=true) rfl rfl (by rw[Br,c1];rfl) (by rw[U0g,U0g,U0g];omega) rfl
    .rw[tk,←hLL,U2s])
  subst he hS
  rw[U0g,U37] at l2
  have L2:Kd fa (Bk fa (k+f+1)) (pE fa (bs.map Ae) ((k+1:Nat):Int) (some (.ref 0)) y5 y6 y7 (some (.ref 1))) [some RR,some []]=some (.nx,pE fa (bs.map Ae) ((k+1:Nat):Int) (some (.ref 0)) z5 z6 z7 (some (.ref 1)),[some RR,some ((J.flatMap fun r=>r.2.2.map fun b=>(r.1,r.2.1)::b).map Ae)]):=by
   unfold Kd
   rw[Jk,e2]
   exact l2
  rw[Ce (by rw[Lx t0];rfl),Ce s2,Ce L1,Ce s3,Ce L2]
  show den 0 [some RR,some ((J.flatMap fun r=>r.2.2.map fun b=>(r.1,r.2.1)::b).map Ae)] (.ref 1)=_
  rw[den,if_neg (by omega)]
  show(if Av ((J.flatMap fun r=>r.2.2.map fun b=>(r.1,r.2.1)::b).map Ae)=true then _ else _)=_
  rw[if_pos (Bd (BP _))]
theorem Lz(fa:Nat->Addr){n:Nat}{m:Bool}{bs:List Bx}(g:Good n bs):DN fa [Ba m n bs]=some (.lst true ((BR n bs).map Ae)):=by
 have n3:=g.n3
 have few:=g.few
 have hp:Av [Ba m n bs]=true:=by simp[Ba,Av,Ax,Bd (BP bs)]
 have ha:Bb [Ba m n bs]=[Ba false n bs]:=by simp[Ba,Bb,age,Es (BP bs)]
 have c1:Bf GZ (Aa (Ac 0) Af) [some (Ba m n bs)] []=some (.non,[]):=Fb (ds:=[Ba m n bs]) (es:=[Ba false n bs]) rfl hp ha (Wh g)
 have e4:=Vy fa (3-n) n bs (fun b h=>(g.box b h).1) few (by omega)
 rw[show n+(3-n)+1=4 by omega] at e4
 have c2:Bf (Bk fa 4) (Aa (eC (.fn (fa 0) 0)) (Aa (eOp oIx (Ac 0) (eC (.int 1))) (Aa (Bp Af) (Aa (eOp oIx (Ac 0) (eC (.int 0))) Af)))) [some (Ba m n bs)] []=some (.lst true ((BR n bs).map Ae),[]) :=
  Fb (ds:=[.fn (fa 0) 0,.lst m (bs.map Ae),.lst true [],.int n]) (es:=[.fn (fa 0) 0,.lst false (bs.map Ae),.lst false [],.int n]) rfl (by simp[Av,Ax,Bd (BP bs)]) (by simp[Bb,age,Es (BP bs)]) e4
 unfold DN
 rw[EY]
 simp only[U0i,U1r,U00,U1p,U3,U3a,U2f,U2y,if_true]
 unfold Qf
 rw[Ce (by rw[KN,c1];rfl),Cg,c2]
 show den 0 _ (.lst true _)=_
 rw[den,Cq 0 _ (Bd (BP _))];rfl
end W38
end
section
namespace W38
open PySem L2 VS
theorem e63:((2^63:Nat):Int)=(2:Int)^63:=(Int.natCast_pow 2 63).trans (congrArg (fun z:Int=>z^63) (show((2:Nat):Int)=2 from rfl))
theorem mj{n:Nat}(hn:n<=1000):n<2^63:=U5 hn (by decide)
theorem mZ{n:Nat}(hn:n<=1000):(n:Int)<(2:Int)^63:=by rw[←e63];exact Int.ofNat_lt.mpr (mj hn)
theorem mY{n:Nat}:-(2:Int)^63<=(n:Int):=by rw[←e63];exact Int.le_trans (Int.neg_nonpos_of_nonneg (Int.natCast_nonneg _)) (Int.natCast_nonneg _)
theorem qX{α:Type}{n:Nat}{ds:List D}{r:Option α}(hl:ds.length*n<=1000000)(hn:n<=1000):(if -(2^63)<=(n:Int)/\(n:Int)<2^63/\ds.length*(n:Int).toNat<=1000000 then r else none)=r:=if_pos ⟨mY,mZ hn,by rw[U2x];exact hl⟩
theorem o9(S:Store)(m:Bool)(ds:List D)(k:Int):Gu S (.lst m ds) (.int k)=if -(2^63)<=k/\k<2^63/\ds.length*k.toNat<=1000000 then some (.lst true (U0s k.toNat ds).flatten) else none:=by
 simp only[Gu,VS.listOf,U0d]
theorem iU{a b:BK}{env:VS.Env}{S:Store}{m:Bool}{ds:List D}{n:Nat}(ha:a env S=some (.lst m ds,S))(hb:b env S=some (.int n,S))(hl:ds.length*n<=1000000)(hn:n<=1000):eOp Gu a b env S=some (.lst true (U0s n ds).flatten,S):=by
 rw[BL,ha,U0d,hb,U0d,o9,qX hl hn,U2x,Option.map_some]
def TQ(r:Row):PyData:=.tuple [.int r.1,.int r.2.1,.list (r.2.2.map pB)]
theorem iG(m:Bool)(r:Row):toP (Ai m r)=some (TQ r):=by
 unfold Ai
 rw[toP,HY,toP,U0d,HY,toP,U0d,HY,toP,SQ]
 simp[HY,TQ]
theorem cQ{S:Store}{i:Nat}{m:Bool}{l:List Row}(h:S[i]?=some (some (l.map (Ai m)))):DX S (.ref i)=some (.list (l.map TQ)):=by
 rw[DX,den,if_neg (by omega),h]
 show(if Av (l.map (Ai m))=true then some (D.lst true (l.map (Ai m))) else none).bind toP=_
 rw[if_pos (Nm ..),U0d,toP,RP l fun r _=>iG m r];rfl
theorem dY(l:List Row):lev 6 (.list (l.map TQ))=true:=by
 rw[lev,U53,U14]
 intro r _
 show lev 5 (TQ r)=true
 unfold TQ
 rw[lev,U4a,U4a,U4a,Iv 1 r.2.2]
 rfl
theorem Vv(neg:Bool){S:Store}{i:Nat}{m:Bool}{l:List Row}(h:S[i]?=some (some (l.map (Ai m)))):oEq neg S (.ref i) (.lst true [])=some (.bl (neg ^^ l.isEmpty)):=by
 have:=Qq (neg:=neg) (m:=true) 6 (cQ h) (dY l) (by decide)
 rw[List.isEmpty_map] at this
 exact this
theorem au{bs:List Bx}(hb:∀b∈bs,0<b.length)(x:Int):((bs.filter (Og 0 x)).map fun b=>b.tail)=Ey bs 0 x:=by
 unfold Ey
 refine List.map_congr_left fun b h=>?_
 have:=hb b (U4b.mp h).1
 cases b with
 |nil=>cases this
 |cons a r=>rfl
theorem Y9(xs:List D):cut xs (some 1) none=xs.tail:=by
 cases xs with
 |nil=>rfl
 |cons x r =>
  rw[Ov (by decide) (by simp;omega)]
  rfl
def qE(BD:List D)(k:Int)(a3 a4 a5 a6 a7 a8 a9:Option D):VS.Env:=[some (.tup [.int k,.lst false BD]),some (.int k),some (.lst false BD),a3,a4,a5,a6,a7,a8,a9]
theorem rB(rec:Ci){bs:List Bx}(hl:bs.length<=20)(hb:∀b∈bs,0<b.length)(k x:Int)(a3 a4 a6 a7 a8 a9:Option D)(S:Store):JN rec (qE (bs.map Ae) k a3 a4 (some (.int x)) a6 a7 a8 a9) S=some ((Ey bs 0 x).map Ae,S):=by
 have e0:Ei (Ac 2) (qE (bs.map Ae) k a3 a4 (some (.int x)) a6 a7 a8 a9) S=some ((bs.map Ae,[]),S):=rfl
 unfold JN Dl
 rw[e0]
 simp only[U0d]
 rw[MK (by simp) Ae (Og 0 x) (fun b=>Ae b.tail) bs [] (by simp;omega),U13,←au hb,U0f]
 .rfl
 .intro b h
  have hp:=hb b h
  cases b with
  |nil=>cases hp
  |cons p r =>
   refine⟨[some (Ae (p::r)),some (.int x)],rfl,?_,fun _=>?_⟩
   .have i0:∀S:Store,eOp oIx (Ac 0) (eC (.int 0)) [some (Ae (p::r)),some (.int x)] S=some (BJ p,S):=fun S=>by
     show U3i _ (atI ((p::r).map BJ) ((0:Nat):Int))=_
     rw[MP (v:=BJ p) rfl];rfl
    have i1:eOp oIx (eOp oIx (Ac 0) (eC (.int 0))) (eC (.int 0)) [some (Ae (p::r)),some (.int x)] S=some (.int p.1,S):=by rw[BL,i0];rfl
    have i2:eOp oIx (eOp oIx (Ac 0) (eC (.int 0))) (eC (.int 1)) [some (Ae (p::r)),some (.int x)] S=some (.int p.2,S):=by rw[BL,i0];rfl
    have v1:Ac 1 [some (Ae (p::r)),some (.int x)] S=some (.int x,S):=rfl
    rw[Bq,Ur,i1,U0d,v1]
    simp only[U0d,i2]
    show((match D.bl (decide (p.1<=x)) with|.bl true=>_|.bl false=>_|_=>_:Option (D×Store)).bind _)=some (decide (p.1<=x)&&decide (x<p.2),S)
    cases decide (p.1<=x)<;>rfl
   .show some (D.tup (cut ((p::r).map BJ) (some 1) none),S)=_
    rw[Y9];rfl
theorem dR(rec:Ci){bs:List Bx}(hl:bs.length<=20)(hb:∀b∈bs,0<b.length)(k:Int)(S:Store):Jj (eOp Bm (Bp (Gn rec)) (Bp (Gm rec))) (qE (bs.map Ae) k none none none none none none none) S=some (.lst true ((CW bs).map .int),S):=by
 have one:∀(i:Int)(F:Bx->Int),(∀b∈bs,eOp oIx (eOp oIx (Ac 0) (eC (.int 0))) (eC (.int i)) [some (Ae b)] S=some (.int (F b),S))->Dl 1 [] (Ei (Ac 2)) (Pat.sem (.nm 0)) VS.Fw (eOp oIx (eOp oIx (Ac 0) (eC (.int 0))) (eC (.int i))) (qE (bs.map Ae) k none none none none none none none) S=some ((bs.map F).map .int,S):=fun i F h=>by
  have e0:Ei (Ac 2) (qE (bs.map Ae) k none none none none none none none) S=some ((bs.map Ae,[]),S):=rfl
  unfold Dl
  rw[e0]
  simp only[U0d]
  rw[MJ (by simp) Ae (fun b=>.int (F b)) bs (by omega),U0f]
  .rfl
  .intro b hm
   exact⟨[some (Ae b)],rfl,h b hm⟩
 have at0:∀b∈bs,∀i:Int,eOp oIx (eOp oIx (Ac 0) (eC (.int 0))) (eC (.int i)) [some (Ae b)] S=U3i (fun d=>(d,S)) (atI [D.int (b.getD 0 (0,0)).1,.int (b.getD 0 (0,0)).2] i):=fun b hm i=>by
  have hp:=hb b hm
  cases b with
  |nil=>cases hp
  |cons p r =>
   have i0:eOp oIx (Ac 0) (eC (.int 0)) [some (Ae (p::r))] S=some (BJ p,S):=by
    show U3i _ (atI ((p::r).map BJ) ((0:Nat):Int))=_
    rw[MP (v:=BJ p) rfl];rfl
   rw[BL,i0];rfl
 have c1:=one 0 (fun b=>(b.getD 0 (0,0)).1) fun b hm=>by rw[at0 b hm];rfl
 have c2:=one 1 (fun b=>(b.getD 0 (0,0)).2) fun b hm=>by rw[at0 b hm];rfl
 have c1:Gn rec (qE (bs.map Ae) k none none none none none none none) S=some ((Du bs 0).map .int,S):=c1
 have c2:Gm rec (qE (bs.map Ae) k none none none none none none none) S=some ((Dd bs 0).map .int,S):=c2
 have ad:eOp Bm (Bp (Gn rec)) (Bp (Gm rec)) (qE (bs.map Ae) k none none none none none none none) S=some (.lst true ((Du bs 0++Dd bs 0).map .int),S):=by
  have f1:Bp (Gn rec) (qE (bs.map Ae) k none none none none none none none) S=some (.lst true ((Du bs 0).map .int),S):=by rw[Br,c1];rfl
  have f2:Bp (Gm rec) (qE (bs.map Ae) k none none none none none none none) S=some (.lst true ((Dd bs 0).map .int),S):=by rw[Br,c2];rfl
  rw[BL,f1,U0d,f2,U0d]
  show(U3i _ (if ((Du bs 0).map D.int).length+((Dd bs 0).map D.int).length<=1000000 then some (D.lst true ((Du bs 0).map D.int++(Dd bs 0).map D.int)) else none))=_
  rw[if_pos (by unfold Du Dd;simp;omega),←U2s];rfl
 obtain⟨l1,l2⟩:=Rb (cs:=bs) (w:=0) hl
 rw[Hg,ad]
 show((intsOf ((Du bs 0++Dd bs 0).map D.int)).bind fun ns=>if ns.length<1000/\(SetP.once ns).length<64 then some (D.lst true ((Ea ns).map .int),S) else none)=_
 rw[K5,U0d,if_pos ⟨l2,l1⟩];rfl
end W38
end
section
namespace W38
open PySem L2 VS
theorem tZ(BD:List D)(k:Int)(S:Store):(VH (Ac 0) (Pat.sem (.tp [(.nm 1),(.nm 2)]))) [some (.tup [.int k,.lst false BD]),none,none,none,none,none,none,none,none,none] S=some (.nx,qE BD k none none none none none none none,S):=by
 simp[KQ,Aq,Fd,Hw,GR,Ft,-U0f,-U0e,qE]
theorem rC(rec:Ci)(k:Nat){bs:List Bx}(hl:bs.length<=20)(hb:∀b∈bs,b.length=k+1)(hk:k<=2)
  (hr:k≠0->∀cs:List Bx,(∀b∈cs,b.length=k)->cs.length<=20->rec [.tup [.int (k:Int),.lst false (cs.map Ae)]]=some (.lst true ((BR k cs).map Ae)))
  (acc:List Row) (ha:acc.length<1000) (s:St2) (a3 a7 a8:Option D):∃y7 y8:Option D,JQ rec (qE (bs.map Ae) ((k+1:Nat):Int) a3 (some (.ref 0)) (some (.int s.1)) (some (.int s.2)) a7 a8 none) [some (acc.map (Ai true))]=some (.nx,qE (bs.map Ae) ((k+1:Nat):Int) a3 (some (.ref 0)) (some (.int s.1)) (some (.int s.2)) y7 y8 none,[some ((joinR acc (s.1,s.2,BR k (Ey bs 0 s.1))).map (Ai true))]):=by
 have pos:∀b∈bs,0<b.length:=fun b h=>by rw[hb b h];omega
 have hcut:(∀b∈Ey bs 0 s.1,b.length=k)/\(Ey bs 0 s.1).length<=20:=by
  refine⟨fun b h=>?_,U02 (Rh bs s.1) hl⟩
  unfold Ey at h
  obtain⟨c,hc,rfl⟩:=U2b.mp h
  have:=hb c (U4b.mp hc).1
  rw[List.length_eraseIdx,if_pos (by omega)]
  omega
 have c3:=rB rec hl pos ((k+1:Nat):Int) s.1 a3 (some (.ref 0)) (some (.int s.2)) a7 a8 none [some (acc.map (Ai true))]
 have P0:BR 0 (Ey bs 0 s.1)=if (Ey bs 0 s.1).isEmpty=true then [] else [[]]:=rfl
 obtain⟨C,hC⟩:∃C,C=Ey bs 0 s.1:=⟨_,rfl⟩
 rw[←hC] at hcut c3 P0 ⊢
 have s1:(Cd 7 (Bp (JN rec))) (qE (bs.map Ae) ((k+1:Nat):Int) a3 (some (.ref 0)) (some (.int s.1)) (some (.int s.2)) a7 a8 none) [some (acc.map (Ai true))]=some (.nx,qE (bs.map Ae) ((k+1:Nat):Int) a3 (some (.ref 0)) (some (.int s.1)) (some (.int s.2)) (some (.lst true (C.map Ae))) a8 none,[some (acc.map (Ai true))]):=by
  rw[CN,Br,c3];rfl
 have s2:(Cd 8 (eOp Gu (Bp (Aa (Bo Af) Af)) (eCB Px (Aa (eOp (oEq true) (Ac 7) (Bp Af)) Af)))) (qE (bs.map Ae) ((k+1:Nat):Int) a3 (some (.ref 0)) (some (.int s.1)) (some (.int s.2)) (some (.lst true (C.map Ae))) a8 none) [some (acc.map (Ai true))]=some (.nx,qE (bs.map Ae) ((k+1:Nat):Int) a3 (some (.ref 0)) (some (.int s.1)) (some (.int s.2)) (some (.lst true (C.map Ae))) (some (.lst true ((BR 0 C).map Ae))) none,[some (acc.map (Ai true))]):=by
  have v7:Ac 7 (qE (bs.map Ae) ((k+1:Nat):Int) a3 (some (.ref 0)) (some (.int s.1)) (some (.int s.2)) (some (.lst true (C.map Ae))) a8 none) [some (acc.map (Ai true))]=some (.lst true (C.map Ae),[some (acc.map (Ai true))]):=rfl
  have ne:eOp (oEq true) (Ac 7) (Bp Af) (qE (bs.map Ae) ((k+1:Nat):Int) a3 (some (.ref 0)) (some (.int s.1)) (some (.int s.2)) (some (.lst true (C.map Ae))) a8 none) [some (acc.map (Ai true))]=some (.bl (!decide (C=[])),[some (acc.map (Ai true))]):=by
   have q:=Kc true [some (acc.map (Ai true))] true true C []
   rw[BL,v7,U0d]
   show U3i _ (oEq true [some (acc.map (Ai true))] (.lst true (C.map Ae)) (.lst true (([]:List Bx).map Ae)))=_
   rw[q,Bool.true_xor];rfl
  have bi:eCB Px (Aa (eOp (oEq true) (Ac 7) (Bp Af)) Af) (qE (bs.map Ae) ((k+1:Nat):Int) a3 (some (.ref 0)) (some (.int s.1)) (some (.int s.2)) (some (.lst true (C.map Ae))) a8 none) [some (acc.map (Ai true))]=some (.int ((if C=[] then 0 else 1:Nat):Int),[some (acc.map (Ai true))]):=by
   rw[Dy,Al,ne]
   by_cases z:C=[]
   .rw[decide_eq_true z,if_pos z];rfl
   .rw[decide_eq_false z,if_neg z];rfl
  rw[CN,iU (m:=true) (ds:=[.tup []]) rfl bi (by split<;>simp) (by split<;>decide)]
  have e:(U0s (if C=[] then 0 else 1) [D.tup []]).flatten=(BR 0 C).map Ae:=by
   rw[P0]
   cases C with
   |nil=>rfl
   |cons a r=>rfl
  rw[e];rfl
 have s3:(sIf (Bt (eOp oGt (Ac 1) (eC (.int 1)))) (Cd 8 (Bf rec (Aa (Bo (Aa (eOp Fe (Ac 1) (eC (.int 1))) (Aa (Ac 7) Af))) Af))) Ep) (qE (bs.map Ae) ((k+1:Nat):Int) a3 (some (.ref 0)) (some (.int s.1)) (some (.int s.2)) (some (.lst true (C.map Ae))) (some (.lst true ((BR 0 C).map Ae))) none) [some (acc.map (Ai true))]=some (.nx,qE (bs.map Ae) ((k+1:Nat):Int) a3 (some (.ref 0)) (some (.int s.1)) (some (.int s.2)) (some (.lst true (C.map Ae))) (some (.lst true ((BR k C).map Ae))) none,[some (acc.map (Ai true))]):=by
  have t:Bt (eOp oGt (Ac 1) (eC (.int 1))) (qE (bs.map Ae) ((k+1:Nat):Int) a3 (some (.ref 0)) (some (.int s.1)) (some (.int s.2)) (some (.lst true (C.map Ae))) (some (.lst true ((BR 0 C).map Ae))) none) [some (acc.map (Ai true))]=some (decide ((k+1:Nat)>(1:Int)),[some (acc.map (Ai true))]):=rfl
  by_cases z:k=0
  .subst z
   rw[Lx (by rw[t];rfl)];rfl
  .have c:Bf rec (Aa (Bo (Aa (eOp Fe (Ac 1) (eC (.int 1))) (Aa (Ac 7) Af))) Af) (qE (bs.map Ae) ((k+1:Nat):Int) a3 (some (.ref 0)) (some (.int s.1)) (some (.int s.2)) (some (.lst true (C.map Ae))) (some (.lst true ((BR 0 C).map Ae))) none) [some (acc.map (Ai true))]=some (.lst true ((BR k C).map Ae),[some (acc.map (Ai true))]) :=
    Fb (ds:=[.tup [.int (k:Int),.lst true (C.map Ae)]]) (es:=[.tup [.int (k:Int),.lst false (C.map Ae)]]) (by
     show some ([D.tup [.int (((k+1:Nat):Int)-1),.lst true (C.map Ae)]],_)=_
     rw[show((k+1:Nat):Int)-1=k by omega]) (by simp[Av,Ax,Bd (BP C)]) (by simp[Bb,age,Es (BP C)]) (hr z C hcut.1 hcut.2)
   rw[SM (by rw[t,decide_eq_true (by omega)]),CN,c];rfl
 refine⟨some (.lst true (C.map Ae)),some (.lst true ((BR k C).map Ae)),?_⟩
 unfold JQ
 rw[Ce s1,Ce s2,Ce s3]
 generalize BR k C=P at *
 generalize C.map Ae=CD at *
 refine W5 (j:=4) acc (s.1,s.2,P) (by omega) rfl (fun l d=>?_) ?_ (fun L d=>?_) (fun L h=>Vj (j:=4) rfl rfl h)
 .obtain⟨e,he⟩:∃e:VS.Env,e=qE (bs.map Ae) ((k+1:Nat):Int) a3 (some (.ref 0)) (some (.int s.1)) (some (.int s.2)) (some (.lst true CD)) (some (.lst true (P.map Ae))) none:=⟨_,rfl⟩
  have la:=Qo (r:=e) (L:=l.map (Ai true)) (d:=Ai true d) (j:=4) (by rw[he];rfl)
  have t0:Bt (eOp (oEq true) (Ac 4) (Bp Af)) e [some (l.map (Ai true)++[Ai true d])]=some (true,[some (l.map (Ai true)++[Ai true d])]):=by
   have v4:Ac 4 e [some (l.map (Ai true)++[Ai true d])]=some (.ref 0,[some (l.map (Ai true)++[Ai true d])]):=by rw[he];rfl
   have q:=Vv true (S:=[some (l.map (Ai true)++[Ai true d])]) (i:=0) (m:=true) (l:=l++[d]) (by rw[U2s];rfl)
   rw[Bq,BL,v4,U0d]
   show((U3i _ (oEq true [some (l.map (Ai true)++[Ai true d])] (.ref 0) (.lst true []))).bind _)=_
   rw[q]
   have:(l++[d]).isEmpty=false:=by cases l<;>rfl
   rw[this];rfl
  have t1:Bt (eOp (oEq false) (eOp oIx (eOp oIx (Ac 4) (eUn Fx (eC (.int 1)))) (eC (.int 1))) (Ac 5)) e [some (l.map (Ai true)++[Ai true d])]=some (decide (d.2.1=s.1),[some (l.map (Ai true)++[Ai true d])]):=by
   have v5:Ac 5 e [some (l.map (Ai true)++[Ai true d])]=some (.int s.1,[some (l.map (Ai true)++[Ai true d])]):=by rw[he];rfl
   rw[Bq,BL,BL,la,U0d]
   show((Option.bind (some (D.int d.2.1,_)) _:Option (D×Store)).bind _)=_
   rw[U0d,v5]
   show some ((false ^^ decide (d.2.1=s.1)),_)=_
   rw[U5e]
  have t2:Bt (eOp (oEq false) (eOp oIx (eOp oIx (Ac 4) (eUn Fx (eC (.int 1)))) (eC (.int 2))) (Ac 8)) e [some (l.map (Ai true)++[Ai true d])]=some (decide (d.2.2=P),[some (l.map (Ai true)++[Ai true d])]):=by
   have q:eOp oIx (eOp oIx (Ac 4) (eUn Fx (eC (.int 1)))) (eC (.int 2)) e [some (l.map (Ai true)++[Ai true d])]=some (.lst true (d.2.2.map Ae),[some (l.map (Ai true)++[Ai true d])]):=by rw[BL,la];rfl
   have v8:Ac 8 e [some (l.map (Ai true)++[Ai true d])]=some (.lst true (P.map Ae),[some (l.map (Ai true)++[Ai true d])]):=by rw[he];rfl
   rw[Bq,BL,q,U0d,v8,U0d,Kc,U5e];rfl
  rw[←he,J5,t0]
  show VS.Mg _ _ _ _=_
  rw[J5,t1]
  simp only[U0d,t2]
  cases decide (d.2.1=s.1)<;>rfl
 .rw[J5]
  have v4:Ac 4 (qE (bs.map Ae) ((k+1:Nat):Int) a3 (some (.ref 0)) (some (.int s.1)) (some (.int s.2)) (some (.lst true CD)) (some (.lst true (P.map Ae))) none) [some []]=some (.ref 0,[some []]):=rfl
  have q:=Vv true (S:=[some []]) (i:=0) (m:=true) (l:=[]) rfl
  have fz:Bp Af (qE (bs.map Ae) ((k+1:Nat):Int) a3 (some (.ref 0)) (some (.int s.1)) (some (.int s.2)) (some (.lst true CD)) (some (.lst true (P.map Ae))) none) [some []]=some (.lst true [],[some []]):=rfl
  have q':oEq true [some []] (.ref 0) (.lst true [])=some (.bl false):=q
  rw[Bq,BL,v4,U0d,fz,U0d,q'];rfl
 .have la:=Qo (r:=qE (bs.map Ae) ((k+1:Nat):Int) a3 (some (.ref 0)) (some (.int s.1)) (some (.int s.2)) (some (.lst true CD)) (some (.lst true (P.map Ae))) none) (L:=L) (d:=Ai true d) (j:=4) rfl
  refine W3 rfl ?_
  have q:eOp oIx (eOp oIx (Ac 4) (eUn Fx (eC (.int 1)))) (eC (.int 0)) (qE (bs.map Ae) ((k+1:Nat):Int) a3 (some (.ref 0)) (some (.int s.1)) (some (.int s.2)) (some (.lst true CD)) (some (.lst true (P.map Ae))) none) [some (L++[Ai true d])]=some (.int d.1,[some (L++[Ai true d])]):=by rw[BL,la];rfl
  rw[En,Al,q];rfl
end W38
end
section
namespace W38
open PySem L2 VS
theorem ZW(rec:Ci)(k:Nat)(hk:k<=2)(hr:k≠0->∀cs:List Bx,(∀b∈cs,b.length=k)->cs.length<=20->rec [.tup [.int (k:Int),.lst false (cs.map Ae)]]=some (.lst true ((BR k cs).map Ae)))(bs:List Bx)(hb:∀b∈bs,b.length=k+1)(hl:bs.length<=20) :
  G6 1 10 (Lp rec) [.tup [.int ((k+1:Nat):Int),.lst false (bs.map Ae)]]=some (.lst true ((BR (k+1) bs).map Ae)):=by
 have pos:∀b∈bs,0<b.length:=fun b h=>by rw[hb b h];omega
 have el:=QT hl
 have sl:=Nk (CW bs)
 have s2:(Cd 3 (Jj (eOp Bm (Bp (Gn rec)) (Bp (Gm rec))))) (qE (bs.map Ae) ((k+1:Nat):Int) none none none none none none none) []=some (.nx,qE (bs.map Ae) ((k+1:Nat):Int) (some (.lst true ((CW bs).map .int))) none none none none none none,[]):=by
  rw[CN,dR rec hl pos];rfl
 have s3:(Cd 4 (Jr Af)) (qE (bs.map Ae) ((k+1:Nat):Int) (some (.lst true ((CW bs).map .int))) none none none none none none) []=some (.nx,qE (bs.map Ae) ((k+1:Nat):Int) (some (.lst true ((CW bs).map .int))) (some (.ref 0)) none none none none none,[some []]):=rfl
 have e1:Yj (Aa (Ac 3) (Aa (eSl oSl (Ac 3) (G9 (eC (.int 1))) GC) Af)) (qE (bs.map Ae) ((k+1:Nat):Int) (some (.lst true ((CW bs).map .int))) (some (.ref 0)) none none none none none) [some []]=some (((steps (CW bs)).map BJ,[]),[some []]):=by
  show some ((Eo ((CW bs).map D.int) (cut ((CW bs).map D.int) (some 1) none),([]:List (Nat×List D))++[]),([some []]:Store))=_
  rw[Y9,UW];rfl
 obtain⟨env',S',l1,y5,y6,y7,y8,he,hS⟩:=Ip (w:=[]) (g:=Pat.sem (.tp [(.nm 5),(.nm 6)])) (b:=JQ rec) (ds:=(steps (CW bs)).map BJ) (env:=qE (bs.map Ae) ((k+1:Nat):Int) (some (.lst true ((CW bs).map .int))) (some (.ref 0)) none none none none none) (S:=[some []])
  (fun i env S=>∃y5 y6 y7 y8:Option D,env=qE (bs.map Ae) ((k+1:Nat):Int) (some (.lst true ((CW bs).map .int))) (some (.ref 0)) y5 y6 y7 y8 none/\S=[some ((((DY k bs).take i).foldl joinR []).map (Ai true))])
  ⟨none,none,none,none,rfl,rfl⟩ (fun i env S _=>by simp) (fun i d env S hd q=>by
   obtain⟨y5,y6,y7,y8,he,hS⟩:=q
   subst he hS
   rw[U03] at hd
   obtain⟨s,hs,rfl⟩:=U26.mp hd
   have hrw:(DY k bs)[i]?=some (s.1,s.2,BR k (Ey bs 0 s.1)):=by unfold DY;rw[U03,hs];rfl
   have jf:=Ot ((DY k bs).take i) []
   have rl:(DY k bs).length<=40:=by unfold DY;rw[U0g];omega
   rw[U2c] at jf
   obtain⟨z7,z8,b1⟩:=rC rec k hl hb hk hr (((DY k bs).take i).foldl joinR []) (by simp at jf;omega) s (some (.lst true ((CW bs).map .int))) y7 y8
   refine⟨qE (bs.map Ae) ((k+1:Nat):Int) (some (.lst true ((CW bs).map .int))) (some (.ref 0)) (some (.int s.1)) (some (.int s.2)) y7 y8 none,by simp[Fd,Hw,GR,Ft,-U0f,-U0e,BJ,qE],_,_,b1,some (.int s.1),some (.int s.2),z7,z8,rfl,?_⟩
   rw[U5f,hrw,U4i,U6g];rfl)
 subst he hS
 have rl:(DY k bs).length=(steps (CW bs)).length:=by unfold DY;rw[U0g]
 rw[U0g,←rl,U37] at l1
 have pl:=Oo (k+1) bs hl
 have pk:40^(k+1)<=64000:=by
  have:k=0∨k=1∨k=2:=by omega
  rcases this with rfl|rfl|rfl<;>decide
 have jm:=fun r hr=>Ka (l:=DY k bs) (acc:=[]) (r:=r) hr
 have ep:BR (k+1) bs=((DY k bs).foldl joinR []).flatMap fun r=>r.2.2.map fun b=>(r.1,r.2.1)::b:=rfl
 rw[ep] at pl ⊢
 generalize (DY k bs).foldl joinR []=J at *
 have L1:Ko rec (qE (bs.map Ae) ((k+1:Nat):Int) (some (.lst true ((CW bs).map .int))) (some (.ref 0)) none none none none none) [some []]=some (.nx,qE (bs.map Ae) ((k+1:Nat):Int) (some (.lst true ((CW bs).map .int))) (some (.ref 0)) y5 y6 y7 y8 none,[some (J.map (Ai true))]):=by
  unfold Ko
  rw[Jk,e1]
  exact l1
 have s4:(Cd 9 (Jr Af)) (qE (bs.map Ae) ((k+1:Nat):Int) (some (.lst true ((CW bs).map .int))) (some (.ref 0)) y5 y6 y7 y8 none) [some (J.map (Ai true))]=some (.nx,qE (bs.map Ae) ((k+1:Nat):Int) (some (.lst true ((CW bs).map .int))) (some (.ref 0)) y5 y6 y7 y8 (some (.ref 1)),[some (J.map (Ai true)),some []]):=rfl
 have e2:Ei (Ac 4) (qE (bs.map Ae) ((k+1:Nat):Int) (some (.lst true ((CW bs).map .int))) (some (.ref 0)) y5 y6 y7 y8 (some (.ref 1))) [some (J.map (Ai true)),some []]=some ((J.map (Ai true),[(0,J.map (Ai true))]),[some (J.map (Ai true)),some []]):=rfl
 obtain⟨env',S',l2,z5,z6,z8,he,hS⟩:=Ip (w:=[(0,J.map (Ai true))]) (g:=Pat.sem (.tp [(.nm 5),(.nm 6),(.nm 8)])) (b:=Kq rec) (ds:=J.map (Ai true)) (env:=qE (bs.map Ae) ((k+1:Nat):Int) (some (.lst true ((CW bs).map .int))) (some (.ref 0)) y5 y6 y7 y8 (some (.ref 1))) (S:=[some (J.map (Ai true)),some []])
  (fun i env S=>∃z5 z6 z8:Option D,env=qE (bs.map Ae) ((k+1:Nat):Int) (some (.lst true ((CW bs).map .int))) (some (.ref 0)) z5 z6 y7 z8 (some (.ref 1))/\S=[some (J.map (Ai true)),some (((J.take i).flatMap fun r=>r.2.2.map fun b=>(r.1,r.2.1)::b).map Ae)])
  ⟨y5,y6,y8,rfl,rfl⟩ (fun i env S q=>by
   obtain⟨z5,z6,z8,he,hS⟩:=q
   subst hS
   intro p hp
   rw[U08.mp hp];rfl) (fun i d env S hd q=>by
   obtain⟨z5,z6,z8,he,hS⟩:=q
   subst he hS
   rw[U03] at hd
   obtain⟨r,hr,rfl⟩:=U26.mp hd
   have hi:i<J.length:=(U0h.mp hr).1
   have tk:(J.take (i+1)).flatMap (fun r:Row=>r.2.2.map fun b=>(r.1,r.2.1)::b)=(J.take i).flatMap (fun r:Row=>r.2.2.map fun b=>(r.1,r.2.1)::b)++r.2.2.map fun b=>(r.1,r.2.1)::b:=by
    rw[U5f,hr,U4i,U42];simp
   have tl:((J.take (i+1)).flatMap (fun r:Row=>r.2.2.map fun b=>(r.1,r.2.1)::b)).length<=(J.flatMap fun r=>r.2.2.map fun b=>(r.1,r.2.1)::b).length:=by
    conv=>rhs;rw[←List.take_append_drop (i+1) J]
    rw[U42,U0o];omega
   rw[tk,U0o,U0g] at tl
   obtain⟨LL,hLL⟩:∃LL:List Bx,LL=(J.take i).flatMap fun r=>r.2.2.map fun b=>(r.1,r.2.1)::b:=⟨_,rfl⟩
   rw[←hLL] at tl ⊢
   have hrm:=U06 hr
   obtain⟨RR,hRR⟩:∃RR:List D,RR=J.map (Ai true):=⟨_,rfl⟩
   rw[←hRR]
   have c1:Kp rec (qE (bs.map Ae) ((k+1:Nat):Int) (some (.lst true ((CW bs).map .int))) (some (.ref 0)) (some (.int r.1)) (some (.int r.2.1)) y7 (some (.lst true (r.2.2.map Ae))) (some (.ref 1))) [some RR,some (LL.map Ae)]=some ((r.2.2.map fun b=>(r.1,r.2.1)::b).map Ae,[some RR,some (LL.map Ae)]):=by
    have e0:Ei (Ac 8) (qE (bs.map Ae) ((k+1:Nat):Int) (some (.lst true ((CW bs).map .int))) (some (.ref 0)) (some (.int r.1)) (some (.int r.2.1)) y7 (some (.lst true (r.2.2.map Ae))) (some (.ref 1))) [some RR,some (LL.map Ae)]=some ((r.2.2.map Ae,[]),[some RR,some (LL.map Ae)]):=rfl
    unfold Kp Dl
    rw[e0]
    simp only[U0d]
    rw[MJ (by simp) Ae (fun b=>Ae ((r.1,r.2.1)::b)) r.2.2 (by omega),U0f]
    .rfl
    .intro b hbm
     refine⟨[some (Ae b),some (.int r.1),some (.int r.2.1)],rfl,?_⟩
     have hbl:b.length<=3:=by
      rcases jm r hrm with z|⟨y,hy,e⟩
      .cases z
      .unfold DY at hy
       obtain⟨s,_,rfl⟩:=U2b.mp hy
       rw[e] at hbm
       rw[Mz k _ b hbm];omega
     show(U3i _ (if 1+(b.map BJ).length<=1000000 then some (D.tup ([BJ (r.1,r.2.1)]++b.map BJ)) else none))=_
     rw[if_pos (by rw[U0g];omega)];rfl
   refine⟨qE (bs.map Ae) ((k+1:Nat):Int) (some (.lst true ((CW bs).map .int))) (some (.ref 0)) (some (.int r.1)) (some (.int r.2.1)) y7 (some (.lst true (r.2.2.map Ae))) (some (.ref 1)),by simp[Fd,Hw,GR,Ft,-U0f,-U0e,Ai,qE],qE (bs.map Ae) ((k+1:Nat):Int) (some (.lst true ((CW bs).map .int))) (some (.ref 0)) (some (.int r.1)) (some (.int r.2.1)) y7 (some (.lst true (r.2.2.map Ae))) (some (.ref 1)),[some RR,some (LL.map Ae++(r.2.2.map fun b=>(r.1,r.2.1)::b).map Ae)],?_,some (.int r.1),some (.int r.2.1),some (.lst true (r.2.2.map Ae)),rfl,?_⟩
   .unfold Kq
    exact Y4 (i:=1) (m:=true) rfl rfl (by rw[Br,c1];rfl) (by rw[U0g,U0g,U0g];omega) rfl
   .rw[tk,←hLL,U2s])
 subst he hS
 rw[U0g,U37] at l2
 have L2:Km rec (qE (bs.map Ae) ((k+1:Nat):Int) (some (.lst true ((CW bs).map .int))) (some (.ref 0)) y5 y6 y7 y8 (some (.ref 1))) [some (J.map (Ai true)),some []]=some (.nx,qE (bs.map Ae) ((k+1:Nat):Int) (some (.lst true ((CW bs).map .int))) (some (.ref 0)) z5 z6 y7 z8 (some (.ref 1)),[some (J.map (Ai true)),some ((J.flatMap fun r=>r.2.2.map fun b=>(r.1,r.2.1)::b).map Ae)]):=by
  unfold Km
  rw[Jk,e2]
  exact l2
 rw[EY]
 simp only[U0i,U1r,U00,U1p,U3,U3a,U0l,U2f,U2n,U13,if_true]
 unfold Lp
 rw[Ce (tZ _ _ _),Ce s2,Ce s3,Ce L1,Ce s4,Ce L2]
 show den 0 [some (J.map (Ai true)),some ((J.flatMap fun r=>r.2.2.map fun b=>(r.1,r.2.1)::b).map Ae)] (.ref 1)=_
 rw[den,if_neg (by omega)]
 show(if Av ((J.flatMap fun r=>r.2.2.map fun b=>(r.1,r.2.1)::b).map Ae)=true then _ else _)=_
 rw[if_pos (Bd (BP _))]
theorem Qw(f:Nat):∀(k:Nat)(bs:List Bx),k<=2->(∀b∈bs,b.length=k+1)->bs.length<=20->Cu (k+f+1) [.tup [.int ((k+1:Nat):Int),.lst false (bs.map Ae)]]=some (.lst true ((BR (k+1) bs).map Ae))
 |0,bs,hk,hb,hl=>ZW (Cu (0+f)) 0 hk (fun h=>absurd rfl h) bs hb hl
 |k+1,bs,hk,hb,hl=>by
  rw[show k+1+f=k+f+1 by omega]
  exact ZW (Cu (k+f+1)) (k+1) hk (fun _ cs h1 h2=>Qw f k cs (by omega) h1 h2) bs hb hl
theorem dO{n:Nat}{bs:List Bx}(g:Good n bs):Cu 3 [Ba false n bs]=some (.lst true ((BR n bs).map Ae)):=by
 have n3:=g.n3
 have few:=g.few
 obtain⟨k,rfl⟩:∃k,n=k+1:=⟨n-1,by omega⟩
 have:=Qw (2-k) k bs (by omega) (fun b h=>(g.box b h).1) few
 rw[show k+(2-k)+1=3 by omega] at this
 exact this
end W38
end
section
namespace W38
open PySem L2 VS
theorem fU:∀b:Bx,R8 (b.map BJ)=some b
 |[]=>rfl
 |p::b=>by rw[U00,R8,fU b];rfl
theorem fV:∀l:List Bx,R9 (l.map Ae)=some l
 |[]=>rfl
 |b::l=>by
  rw[U00,R9,fV l]
  show(R8 (b.map BJ)).bind _=_
  rw[fU];rfl
theorem RV{n:Nat}{bs:List Bx}(g:Good n bs):(BR n bs).length<=64000:=by
 have h:=Oo n bs g.few
 have n3:=g.n3
 have:n=0∨n=1∨n=2∨n=3:=by omega
 rcases this with rfl|rfl|rfl|rfl<;>exact U02 h (by decide)
theorem cj{n:Nat}{bs:List Bx}(g:Good n bs):pl 4 (.lst false ((BR n bs).map Ae))=true:=by
 have n3:=g.n3
 have h:=RV g
 rw[pl,U0x]
 refine⟨decide_eq_true (by rw[U0g];omega),?_⟩
 rw[U53,U14]
 intro b hb
 exact j8 1 b (by rw[Mz n bs b hb];omega)
theorem Yq{n:Nat}{bs:List Bx}(g:Good n bs){e:VS.Env}{S:Store}{j i:Nat}(h1:e[j]?=some (some (.ref i)))(h2:S[i]?=some (some ((BR n bs).map Ae))):Q9 (Ac j) e S=some (.lst true ((BR n bs).map Ae),S):=by
 have few:=RV g
 have v:Ac j e S=some (.ref i,S):=by simp[Aq,h1]
 have hn:1<=n:=by rcases g.ways with z|z|z<;>omega
 have hl:VS.listOf S (.ref i)=some ((BR n bs).map Ae):=by rw[VS.listOf,h2];rfl
 have ha:(BR n bs).all (fun b=>!b.isEmpty)=true:=by
  rw[U14]
  intro b hb
  have:=Mz n bs b hb
  cases b with
  |nil=>simp at this;omega
  |cons=>rfl
 rw[ak,v,U0d,hl,U0d,fV,U0d,if_pos]
 rw[ha,Zj (Ug n bs),decide_eq_true (by rw[U0g];omega)];rfl
theorem jd{n:Nat}{bs:List (List St2)}(m m':Bool)(S:Store):eqP true S (Ba m n bs) (Ba m' n bs)=some (.bl false):=N6 4 (QH S m n bs) (QH S m' n bs) (dZ 0 n bs) (by decide)
theorem aK(fa:Nat->Addr){n:Nat}{bs:List Bx}(g:Good n bs)(z3 z4:Option D)(S:Store) :
  K7 fa [some (Ba false n bs),some (.lst true ((BR n bs).map Ae)),some (Ba true n bs),z3,z4] S=some (.nx,[some (Ba false n bs),some (.lst true ((BR n bs).map Ae)),some (Ba true n bs),z3,some (.ref S.length)],S++[some ((BR n bs).map Ae++[.int 0])]):=by
 have h1:=Lz fa (m:=false) g
 have h3:=iR 4 _ (cj g)
 have few:=RV g
 have srt:=@Yq n bs g
 have hp:Av ((BR n bs).map Ae)=true:=Bd (BP _)
 have ha:Bb ((BR n bs).map Ae)=(BR n bs).map Ae:=Es (BP _)
 have hf:Ej ((BR n bs).map Ae)=true:=BP _
 have sr:∀(S:Store) i,S[i]?=some (some ((BR n bs).map Ae))->oEq true S (.ref i) (.lst true ((BR n bs).map Ae))=some (.bl false):=fun S i h=>N6 3 (RQ h) (J9 S true _) (Iv 0 _) (by decide)
 generalize BR n bs=P at *
 have h6:=bO S (some (P.map Ae)) []
 have s1:(Cd 4 (Mt (DN fa) (Aa (Ac 2) Af))) [some (Ba false n bs),some (.lst true (P.map Ae)),some (Ba true n bs),z3,z4] S=some (.nx,[some (Ba false n bs),some (.lst true (P.map Ae)),some (Ba true n bs),z3,some (.ref S.length)],S++[some (P.map Ae)]):=by
  rw[CN,Vq (d':=.ref S.length) (cs:=P.map Ae) (Fb (ds:=[Ba true n bs]) (es:=[Ba false n bs]) (S':=S) (by simp[Al,Aw,Aq]) (by simp[Av,Ax,Ba,Bd (BP bs)]) (by simp[Bb,age,Ba,Es (BP bs)]) h1) (by rw[KC,if_pos hf])]
  simp
 have c2:(Bf (Bw 5) (Aa (Ac 4) (Aa (Ac 1) Af))) [some (Ba false n bs),some (.lst true (P.map Ae)),some (Ba true n bs),z3,some (.ref S.length)] (S++[some (P.map Ae)])=some (.bl true,S++[some (P.map Ae)]) :=
  Ut (ds:=[.ref S.length,.lst true (P.map Ae)]) (es:=[.lst true (P.map Ae),.lst true (P.map Ae)]) (fs:=[.lst false (P.map Ae),.lst false (P.map Ae)]) (by simp[Al,Aw,Aq]) (by simp only[CT,den,h6,hp,Cq 0 _ hp,U5y,if_true,if_false,U0d,Option.map_some]) (by simp only[Bb,age,ha]) h3 rfl
 have t3:(tOr (Hq (Bt (Bf (Bw 5) (Aa (Ac 4) (Aa (Ac 1) Af))))) (tOr (Bt (eOp (oEq true) (Ac 4) (Q9 (Ac 4)))) (Bt (eOp (oEq true) (Ac 2) (Ac 0))))) [some (Ba false n bs),some (.lst true (P.map Ae)),some (Ba true n bs),z3,some (.ref S.length)] (S++[some (P.map Ae)])=some (false,S++[some (P.map Ae)]):=by
  have he':oEq true (S++[some (P.map Ae)]) (Ba true n bs) (Ba false n bs)=some (.bl false):=jd (n:=n) (bs:=bs) true false _
  have hs':=srt (e:=[some (Ba false n bs),some (.lst true (P.map Ae)),some (Ba true n bs),z3,some (.ref S.length)]) (S:=S++[some (P.map Ae)]) (j:=4) (i:=S.length) rfl h6
  have hq':=sr (S++[some (P.map Ae)]) S.length h6
  rw[Jz,M7,Bq,c2]
  simp[Jz,Bq,BL,Aq,he',hs',hq']
 have s3:(JR (Gs Gi (Ac 4) (Aa (eC (.int 0)) Af))) [some (Ba false n bs),some (.lst true (P.map Ae)),some (Ba true n bs),z3,some (.ref S.length)] (S++[some (P.map Ae)])=some (.nx,[some (Ba false n bs),some (.lst true (P.map Ae)),some (Ba true n bs),z3,some (.ref S.length)],S++[some (P.map Ae++[.int 0])]):=by
  rw[KN,Qn (d:=.ref S.length) (cs:=P.map Ae) (ds:=[.int 0]) (r:=.non) (S1:=S++[some (P.map Ae)]) (S2:=S++[some (P.map Ae)]) (S3:=S++[some (P.map Ae++[.int 0])]) rfl (by rw[VS.listOf,h6];rfl) rfl (by
   unfold Gi
   simp only[h6]
   rw[if_pos (by rw[U0g];omega),lK])]
  rfl
 unfold K7
 rw[Ce s1]
 rw[Ce (by rw[Lx t3];rfl),s3]
theorem cT(fa:Nat->Addr){n:Nat}{bs:List Bx}(g:Good n bs):FZ fa [Ba false n bs]=some (.bl true):=by
 have few:=g.few
 have hc:=dO g
 have s1:(Cd 1 (Bf (Cu 3) (Aa (Ac 0) Af))) [some (Ba false n bs),none,none,none,none] []=some (.nx,[some (Ba false n bs),some (.lst true ((BR n bs).map Ae)),none,none,none],[]):=by
  rw[CN,Fb (ds:=[Ba false n bs]) (S':=[]) (es:=[Ba false n bs]) (by simp[Al,Aw,Aq]) (by simp[Av,Ax,Ba,Bd (BP bs)]) (by simp[Bb,age,Ba,Es (BP bs)]) hc]
  rfl
 have s2:(Cd 2 (Bo (Aa (eOp oIx (Ac 0) (eC (.int 0))) (Aa (Rv nList (Aa (eOp oIx (Ac 0) (eC (.int 1))) Af)) Af)))) [some (Ba false n bs),some (.lst true ((BR n bs).map Ae)),none,none,none] []=some (.nx,[some (Ba false n bs),some (.lst true ((BR n bs).map Ae)),some (Ba true n bs),none,none],[]):=by
  simp[CN,Aq,Cj,BL,Aw,Al,En,fJ,oIx,nList,VS.listOf,Bu,-U0f,-U0e,Ba]
 have l2:∃env' S',N7 fa [some (Ba false n bs),some (.lst true ((BR n bs).map Ae)),some (Ba true n bs),none,none] []=some (.nx,env',S'):=by
  have e:Fz (Aa (eC (.int 2)) Af) [some (Ba false n bs),some (.lst true ((BR n bs).map Ae)),some (Ba true n bs),none,none] []=some ((upD 0 2,[]),[]):=O6 (j:=2) 2 (by simp[Cj,Aw,Al,-U0f,-U0e]) (by decide) (by decide) (by decide)
  unfold N7
  rw[Jk,e]
  obtain⟨env',S',e2,_⟩:=Ip (w:=[]) (g:=Pat.sem (.nm 3)) (b:=K7 fa) (ds:=upD 0 2) (env:=[some (Ba false n bs),some (.lst true ((BR n bs).map Ae)),some (Ba true n bs),none,none]) (S:=[])
   (fun i env S=>(∃z3 z4,env=[some (Ba false n bs),some (.lst true ((BR n bs).map Ae)),some (Ba true n bs),z3,z4])) ⟨none,none,rfl⟩ (fun i env S _=>by simp) (fun i d env S hd q=>by
    obtain⟨z5,z6,he⟩:=q
    subst he
    exact⟨_,Fd _ _ _,_,_,aK fa g _ _ S,⟨_,_,rfl⟩⟩)
  exact⟨env',S',e2⟩
 obtain⟨env',S',l2⟩:=l2
 unfold FZ
 rw[EY]
 simp only[U0i,U1r,U00,U1p,U3,U3a,U0l,U2f,U2n,U13,if_true]
 unfold Qy
 rw[Ce s1,Ce s2,Ce l2]
 simp[Cg,Cj,den,-U0f,-U0e]
end W38
end
section
namespace W38
open PySem L2 VS
theorem Vw(fa:Nat->Addr){n:Nat}{bs:List (List St2)}(g:Good n bs){e:VS.Env}{S:Store}{i:Nat}(h3:e[3]?=some (some (.tup [.int n,.ref i])))(hi:S[i]?=some (some (bs.map Ae))):(Bf (FZ fa) (Aa (Ac 3) Af)) e S=some (.bl true,S) :=
 Ut (ds:=[.tup [.int n,.ref i]]) (es:=[Ba true n bs]) (fs:=[Ba false n bs]) (by simp[Al,Aw,Aq,h3]) (by simp[CT,den,hi,Ba]) (by simp[Bb]) (cT fa g) rfl
theorem iD(fa:Nat->Addr)(ns:List Int)(c:Int)(z2 z3:Option D)(S:Store):∃z2' z3' S',S9 fa [some (.scr ns),some (.int c),z2,z3] S=some (.nx,[some (.scr ns),some (.int c),z2',z3'],S'):=by
 obtain⟨x,y,w⟩:=gn c
 obtain⟨n,bs,x',y',hh,g⟩:=WX x y
 have few:=g.few
 have s1:(Cd 2 (Mt Gq (Aa (Ac 1) Af))) [some (.scr ns),some (.int c),z2,z3] S=some (.nx,[some (.scr ns),some (.int c),some (.ref S.length),z3],S++[some [.int x,.int y]]):=by
  rw[CN,Vq (Fb (ds:=[.int c]) (S':=S) (by simp[Al,Aw,Aq]) (by simp[Av,Ax]) (by simp[Bb,age]) w) (by simp[KC,Ej,Ca];exact⟨rfl,rfl⟩)]
  simp
 have s2:(Cd 3 (Q8 Dw (Aa (Ac 2) Af))) [some (.scr ns),some (.int c),some (.ref S.length),z3] (S++[some [.int x,.int y]])=some (.nx,[some (.scr ns),some (.int c),some (.ref S.length),some (.tup [.int n,.ref (S.length+1)])],S++[some [.int x',.int y'],some (bs.map Ae)]):=by
  rw[CN,cF (WQ (ns:=[x,y]) (rest:=[]) (es:=[]) (i:=S.length) (S':=S++[some [.int x,.int y]]) (by simp[Al,Aw,Aq]) (bO _ _ _) rfl rfl hh) (d':=.tup [.int n,.ref (S.length+1)]) (cs:=bs.map Ae) (by simp[KC,Rq,Ba,Ca,Ej,BP bs])]
  simp
 have r1:=Vw fa (e:=[some (.scr ns),some (.int c),some (.ref S.length),some (.tup [.int n,.ref (S.length+1)])]) (S:=S++[some [.int x',.int y'],some (bs.map Ae)]) (i:=S.length+1) g rfl (TV _ _ _ _)
 have s3:(sIf (Hq (Bt (Bf (FZ fa) (Aa (Ac 3) Af)))) (DQ (eC (.bl false))) Ep) [some (.scr ns),some (.int c),some (.ref S.length),some (.tup [.int n,.ref (S.length+1)])] (S++[some [.int x',.int y'],some (bs.map Ae)])=some (.nx,[some (.scr ns),some (.int c),some (.ref S.length),some (.tup [.int n,.ref (S.length+1)])],S++[some [.int x',.int y'],some (bs.map Ae)]):=by
  rw[Lx (by rw[M7,Bq,r1];rfl)]
  rfl
 have hx:(eOp oIx (Ac 3) (eC (.int 1))) [some (.scr ns),some (.int c),some (.ref S.length),some (.tup [.int n,.ref (S.length+1)])] (S++[some [.int x',.int y'],some (bs.map Ae)])=some (.ref (S.length+1),S++[some [.int x',.int y'],some (bs.map Ae)]):=by
  simp[BL,Aq,Cj,oIx,Bu]
 have hq:eqP true (S++[some [.int x',.int y'],some (bs.map Ae)]) (.ref (S.length+1)) (.lst true [])=some (.bl (!bs.isEmpty)):=by
  have:=Qq (neg:=true) (m:=true) 3 (RQ (TV S (some [.int x',.int y']) (some (bs.map Ae)) [])) (Iv 0 bs) (by decide)
  rw[this]
  cases bs<;>rfl
 have t4:(Bt (eOp (oEq true) (eOp oIx (Ac 3) (eC (.int 1))) (Bp Af))) [some (.scr ns),some (.int c),some (.ref S.length),some (.tup [.int n,.ref (S.length+1)])] (S++[some [.int x',.int y'],some (bs.map Ae)])=some (!bs.isEmpty,S++[some [.int x',.int y'],some (bs.map Ae)]):=by
  rw[Bq,BL,hx]
  simp[Br,Aw,oEq,hq]
 unfold S9
 rw[Ce s1,Ce s2,Ce s3]
 by_cases hb:bs=[]
 .subst hb
  rw[Lx t4]
  exact⟨_,_,_,rfl⟩
 .have t4':=t4
  have he:bs.isEmpty=false:=by cases bs with
   |nil=>exact absurd rfl hb
   |cons a r=>rfl
  have hl:0<bs.length:=U40.mpr hb
  rw[he] at t4'
  rw[SM t4']
  obtain⟨r,x2,y2,hd,r0,r1'⟩:=FQ x' y' bs.length (by omega) (by omega)
  have hlen:(eCB DR (Aa (eOp oIx (Ac 3) (eC (.int 1))) Af)) [some (.scr ns),some (.int c),some (.ref S.length),some (.tup [.int n,.ref (S.length+1)])] (S++[some [.int x',.int y'],some (bs.map Ae)])=some (.int bs.length,S++[some [.int x',.int y'],some (bs.map Ae)]):=by
   rw[Dy,Al,hx]
   simp[Aw,DR,Bu,VS.listOf,TV]
  have hdr:(Ck Ay (Aa (Ac 2) (Aa (eCB DR (Aa (eOp oIx (Ac 3) (eC (.int 1))) Af)) Af))) [some (.scr ns),some (.int c),some (.ref S.length),some (.tup [.int n,.ref (S.length+1)])] (S++[some [.int x',.int y'],some (bs.map Ae)])=some (.int r,S++[some [.int x2,.int y2],some (bs.map Ae)]):=by
   rw[WQ (ns:=[x',y']) (rest:=[.int bs.length]) (es:=[.int bs.length]) (i:=S.length) (S':=S++[some [.int x',.int y'],some (bs.map Ae)]) (by rw[Al,Aq];simp[Al,Aw,hlen]) (bO _ _ _) (by simp[Av,Ax]) (by simp[Bb,age]) hd,lK]
   rfl
  have hix:seqIndex? r (bs.map Ae).length=some r.toNat:=PySem.StrLaws.seqIndex_nonneg r0 (by rw[U0g];exact r1')
  have hrn:r.toNat<bs.length:=by omega
  have hget:(bs.map Ae)[r.toNat]?=some (Ae bs[r.toNat]):=by rw[U03,U0y hrn];rfl
  have hpop:(Gs O7 (eOp oIx (Ac 3) (eC (.int 1))) (Aa (Ck Ay (Aa (Ac 2) (Aa (eCB DR (Aa (eOp oIx (Ac 3) (eC (.int 1))) Af)) Af))) Af)) [some (.scr ns),some (.int c),some (.ref S.length),some (.tup [.int n,.ref (S.length+1)])] (S++[some [.int x',.int y'],some (bs.map Ae)])=some (Ae bs[r.toNat],S++[some [.int x2,.int y2],some ((bs.eraseIdx r.toNat).map Ae)]):=by
   refine Qn hx (cs:=bs.map Ae) (by rw[VS.listOf,TV];rfl) (ds:=[.int r]) (S2:=S++[some [.int x2,.int y2],some (bs.map Ae)]) (by rw[Al,hdr];rfl) ?_
   rw[O7,TV]
   show(if -(2^63)<=r/\r<2^63 then (seqIndex? r (bs.map Ae).length).bind _ else _)=_
   rw[if_pos ⟨by omega,by omega⟩,hix]
   show((bs.map Ae)[r.toNat]?).bind _=_
   rw[hget]
   show some (_,_)=_
   rw[tE,Qc]
  have s5:(JR (Gs O7 (eOp oIx (Ac 3) (eC (.int 1))) (Aa (Ck Ay (Aa (Ac 2) (Aa (eCB DR (Aa (eOp oIx (Ac 3) (eC (.int 1))) Af)) Af))) Af))) [some (.scr ns),some (.int c),some (.ref S.length),some (.tup [.int n,.ref (S.length+1)])] (S++[some [.int x',.int y'],some (bs.map Ae)])=some (.nx,[some (.scr ns),some (.int c),some (.ref S.length),some (.tup [.int n,.ref (S.length+1)])],S++[some [.int x2,.int y2],some ((bs.eraseIdx r.toNat).map Ae)]):=by
   rw[KN,hpop];rfl
  rw[Ce s5]
  have r2:=Vw fa (e:=[some (.scr ns),some (.int c),some (.ref S.length),some (.tup [.int n,.ref (S.length+1)])]) (S:=S++[some [.int x2,.int y2],some ((bs.eraseIdx r.toNat).map Ae)]) (i:=S.length+1) (g.erase r.toNat) rfl (TV _ _ _ _)
  rw[Lx (by rw[M7,Bq,r2];rfl)]
  exact⟨_,_,_,rfl⟩
theorem dg(fa:Nat->Addr):∀ns:List Int,ns.length<=63->TY fa [.scr ns]=some (.bl true):=by
 intro ns hns
 obtain⟨l,e⟩:∃l:List Int,Ei (eOp Bm (Bp (Aa (eC (.int 0)) (Aa (eC (.int 5)) Af))) (eSl oSl (Ac 0) GC (G9 (eC (.int 8))))) [some (.scr ns),none,none,none] []=some ((l.map .int,[]),[]):=by
  obtain⟨cs,hc,hl⟩:∃cs:List Int,cut (ns.map D.int) none (some 8)=cs.map D.int/\cs.length<=63:=by
   unfold cut
   rw[←U65,←U64]
   exact⟨_,rfl,by rw[U2c,U5s];omega⟩
  have hl2:2+cs.length<=1000000:=by omega
  refine⟨0::5::cs,?_⟩
  simp[Aq,Cj,BL,Aw,Al,Io,Im,Ld,Br,Bm,oSl,VS.listOf,Bu,VS.idOf,IK,-U0f,-U0e,hc,hl2]
 have l1:∃z1 z2 z3 S',Vh fa [some (.scr ns),none,none,none] []=some (.nx,[some (.scr ns),z1,z2,z3],S'):=by
  unfold Vh
  rw[Jk,e]
  obtain⟨env',S',e2,z1,z2,z3,he⟩:=Ip (w:=[]) (g:=Pat.sem (.nm 1)) (b:=S9 fa) (ds:=l.map .int) (env:=[some (.scr ns),none,none,none]) (S:=[])
   (fun _ env S=>∃z1 z2 z3,env=[some (.scr ns),z1,z2,z3]) ⟨_,_,_,rfl⟩ (fun i env S _=>by simp) (fun j d env S hd ⟨z1,z2,z3,he⟩=>by
    rw[U03] at hd
    obtain⟨c,hc,rfl⟩:=U26.mp hd
    subst he
    obtain⟨z2',z3',S',e3⟩:=iD fa ns c z2 z3 S
    exact⟨_,Fd _ _ _,_,_,e3,_,_,_,rfl⟩)
  subst he
  exact⟨z1,z2,z3,S',e2⟩
 obtain⟨z1,z2,z3,S',l1⟩:=l1
 have gA:Good 1 [[((0:Int),(3:Int))],[(3,5)],[(7,8)]]:=⟨.inl rfl,by simp,by simp⟩
 have gB:Good 2 []:=⟨.inr (.inl rfl),by simp,by simp⟩
 have gC:Good 2 [[((0:Int),(2:Int)),(0,2)],[(1,3),(0,2)]]:=⟨.inr (.inl rfl),by simp,by simp;omega⟩
 have hA:=Lz fa (m:=false) gA
 have hB:=Lz fa (m:=false) gB
 have hC:=Lz fa (m:=false) gC
 have sA:CW [[((0:Int),(3:Int))],[(3,5)],[(7,8)]]=[0,3,5,7,8]:=(J7 (ns:=[0,3,7,3,5,8]) (ms:=[0,3,5,7,8]) (by decide) (by decide)).symm
 have vA:BR 1 [[((0:Int),(3:Int))],[(3,5)],[(7,8)]]=[[(0,5)],[(7,8)]]:=by
  rw[BR,sA]
  decide
 have vB:BR 2 []=[]:=by
  rw[BR,show CW []=[] from (J7 (ns:=[]) (ms:=[]) (by decide) (by decide)).symm]
  rfl
 have sC:CW [[((0:Int),(2:Int)),(0,2)],[(1,3),(0,2)]]=[0,1,2,3]:=(J7 (ns:=[0,1,2,3]) (ms:=[0,1,2,3]) (by decide) (by decide)).symm
 have s1:CW [[((0:Int),(2:Int))]]=[0,2]:=(J7 (ns:=[0,2]) (ms:=[0,2]) (by decide) (by decide)).symm
 have s2:CW [[((0:Int),(2:Int))],[(0,2)]]=[0,2]:=(J7 (ns:=[0,0,2,2]) (ms:=[0,2]) (by decide) (by decide)).symm
 have v1:BR 1 [[((0:Int),(2:Int))]]=[[(0,2)]]:=by
  rw[BR,s1]
  decide
 have v2:BR 1 [[((0:Int),(2:Int))],[(0,2)]]=[[(0,2)]]:=by
  rw[BR,s2]
  decide
 have vC:BR 2 [[((0:Int),(2:Int)),(0,2)],[(1,3),(0,2)]]=[[(0,3),(0,2)]]:=by
  rw[BR,sC]
  rw[show steps [0,1,2,3]=[((0:Int),(1:Int)),(1,2),(2,3)] from rfl,U00,U00,U00,U1p]
  rw[show Ey [[((0:Int),(2:Int)),(0,2)],[(1,3),(0,2)]] 0 ((0:Int),(1:Int)).1=[[((0:Int),(2:Int))]] by decide,show Ey [[((0:Int),(2:Int)),(0,2)],[(1,3),(0,2)]] 0 ((1:Int),(2:Int)).1=[[((0:Int),(2:Int))],[(0,2)]] by decide,show Ey [[((0:Int),(2:Int)),(0,2)],[(1,3),(0,2)]] 0 ((2:Int),(3:Int)).1=[[((0:Int),(2:Int))]] by decide,v1,v2]
  decide
 rw[vA] at hA
 rw[vB] at hB
 rw[vC] at hC
 have cA:(Bf (DN fa) (Aa (Bo (Aa (eC (.int 1)) (Aa (Bp (Aa (Bo (Aa (Bo (Aa (eC (.int 0)) (Aa (eC (.int 3)) Af))) Af)) (Aa (Bo (Aa (Bo (Aa (eC (.int 3)) (Aa (eC (.int 5)) Af))) Af)) (Aa (Bo (Aa (Bo (Aa (eC (.int 7)) (Aa (eC (.int 8)) Af))) Af)) Af)))) Af))) Af)) [some (.scr ns),z1,z2,z3] S'=some (.lst true ([[((0:Int),(5:Int))],[(7,8)]].map Ae),S') :=
  Fb (ds:=[Ba true 1 [[((0:Int),(3:Int))],[(3,5)],[(7,8)]]]) (S':=S') (by simp[Al,Aw,Cj,En,Br,Ba,Ae,BJ]) (by simp[Av,Ax]) (by simp[Bb,age]) hA
 have cB:(Bf (DN fa) (Aa (Bo (Aa (eC (.int 2)) (Aa (Bp Af) Af))) Af)) [some (.scr ns),z1,z2,z3] S'=some (.lst true (([]:List Bx).map Ae),S') :=
  Fb (ds:=[Ba true 2 []]) (S':=S') (by simp[Al,Aw,Cj,En,Br,Ba,Ae,BJ]) (by simp[Av,Ax]) (by simp[Bb,age]) hB
 have cC:(Bf (DN fa) (Aa (Bo (Aa (eC (.int 2)) (Aa (Bp (Aa (Bo (Aa (Bo (Aa (eC (.int 0)) (Aa (eC (.int 2)) Af))) (Aa (Bo (Aa (eC (.int 0)) (Aa (eC (.int 2)) Af))) Af))) (Aa (Bo (Aa (Bo (Aa (eC (.int 1)) (Aa (eC (.int 3)) Af))) (Aa (Bo (Aa (eC (.int 0)) (Aa (eC (.int 2)) Af))) Af))) Af))) Af))) Af)) [some (.scr ns),z1,z2,z3] S'=some (.lst true ([[((0:Int),(3:Int)),(0,2)]].map Ae),S') :=
  Fb (ds:=[Ba true 2 [[((0:Int),(2:Int)),(0,2)],[(1,3),(0,2)]]]) (S':=S') (by simp[Al,Aw,Cj,En,Br,Ba,Ae,BJ]) (by simp[Av,Ax]) (by simp[Bb,age]) hC
 have kA:(Bp (Aa (Bo (Aa (Bo (Aa (eC (.int 0)) (Aa (eC (.int 5)) Af))) Af)) (Aa (Bo (Aa (Bo (Aa (eC (.int 7)) (Aa (eC (.int 8)) Af))) Af)) Af))) [some (.scr ns),z1,z2,z3] S'=some (.lst true ([[((0:Int),(5:Int))],[(7,8)]].map Ae),S'):=rfl
 have kB:(Bp Af) [some (.scr ns),z1,z2,z3] S'=some (.lst true (([]:List Bx).map Ae),S'):=rfl
 have kC:(Bp (Aa (Bo (Aa (Bo (Aa (eC (.int 0)) (Aa (eC (.int 3)) Af))) (Aa (Bo (Aa (eC (.int 0)) (Aa (eC (.int 2)) Af))) Af))) Af)) [some (.scr ns),z1,z2,z3] S'=some (.lst true ([[((0:Int),(3:Int)),(0,2)]].map Ae),S'):=rfl
 have eA:=Kc true S' true true [[((0:Int),(5:Int))],[(7,8)]] [[((0:Int),(5:Int))],[(7,8)]]
 have eB:=Kc true S' true true [] []
 have eC':=Kc false S' true true [[((0:Int),(3:Int)),(0,2)]] [[((0:Int),(3:Int)),(0,2)]]
 rw[decide_eq_true rfl] at eA eB eC'
 generalize [[((0:Int),(5:Int))],[(7,8)]].map Ae=LA at cA kA eA
 generalize ([]:List Bx).map Ae=LB at cB kB eB
 generalize [[((0:Int),(3:Int)),(0,2)]].map Ae=LC at cC kC eC'
 have qA:∀{f g:BK} {r:VS.Env} {L:List D} {neg b:Bool},f r S'=some (.lst true L,S')->g r S'=some (.lst true L,S')->oEq neg S' (.lst true L) (.lst true L)=some (.bl b)->eOp (oEq neg) f g r S'=some (.bl b,S'):=fun h1 h2 h3=>by
  rw[BL,h1,U0d,h2,U0d]
  simp only[h3]
  rfl
 have tA:=qA cA kA eA
 have tB:=qA cB kB eB
 have tC:=qA cC kC eC'
 unfold TY
 rw[EY]
 simp only[U0i,U1r,U00,U1p,U3,U3a,U0l,U2f,U2n,U13,if_true]
 unfold gK
 rw[Ce l1,Ce (by rw[Lx (by rw[Jz,Bq,tA];show Bt _ _ _=_;rw[Bq,tB];rfl)];rfl),Cg,tC]
 rfl
end W38
end
section
namespace W38
open PySem PySem.Spec L2 VS
theorem Mf:∀{us:List Value},us.length=1->∃a0,us=[a0]
 |[a0],_=>⟨a0,rfl⟩
theorem Pn:∀{us:List Value},us.length=2->∃a0 a1,us=[a0,a1]
 |[a0,a1],_=>⟨a0,a1,rfl⟩
theorem bH:∀{us:List Value},us.length=3->∃a0 a1 a2,us=[a0,a1,a2]
 |[a0,a1,a2],_=>⟨a0,a1,a2,rfl⟩
theorem sV:∀{us:List Value},us.length=4->∃a0 a1 a2 a3,us=[a0,a1,a2,a3]
 |[a0,a1,a2,a3],_=>⟨a0,a1,a2,a3,rfl⟩
theorem tops{l:U5x}{w:World}{K:U0a}{h:Heap}{mg:Str->Option Value}{fa dM:Addr}{f1 f2 f3 f4 f5 f6 f7 f8 f9 f10 f11 f12 f13 f14 f15 f16 f17 f18 f19 f20 f21 f22 f23 f24:Addr}(X:K.In h)(G:h.Ns mainGlobals mg)(hfa:mg "law"=some (.ref fa))
  {od1 an1 od2 an2 od3 an3 od4 an4 od5 an5 od6 an6 od7 an7 od8 an8 od9 an9 od10 an10 od11 an11 od12 an12 od13 an13 od14 an14 od15 an15 od16 an16 od17 an17 od18 an18 od19 an19 od20 an20 od21 an21 od22 an22 od23 an23 od24 an24:Option Addr} {sl1 sl2 sl3 sl4 sl5 sl6 sl7 sl8 sl9 sl10 sl11 sl12 sl13 sl14 sl15 sl16 sl17 sl18 sl19 sl20 sl21 sl22 sl23 sl24:Array (Option Value)} {oc1 kV1 dc1 pm1 cd1 ct1 oc2 kV2 dc2 pm2 cd2 ct2 oc3 kV3 dc3 pm3 cd3 ct3 oc4 kV4 dc4 pm4 cd4 ct4 oc5 kV5 dc5 pm5 cd5 ct5 oc6 kV6 dc6 pm6 cd6 ct6 oc7 kV7 dc7 pm7 cd7 ct7 oc8 kV8 dc8 pm8 cd8 ct8 oc9 kV9 dc9 pm9 cd9 ct9 oc10 kV10 dc10 pm10 cd10 ct10 oc11 kV11 dc11 pm11 cd11 ct11 oc12 kV12 dc12 pm12 cd12 ct12 oc13 kV13 dc13 pm13 cd13 ct13 oc14 kV14 dc14 pm14 cd14 ct14 oc15 kV15 dc15 pm15 cd15 ct15 oc16 kV16 dc16 pm16 cd16 ct16 oc17 kV17 dc17 pm17 cd17 ct17 oc18 kV18 dc18 pm18 cd18 ct18 oc19 kV19 dc19 pm19 cd19 ct19 oc20 kV20 dc20 pm20 cd20 ct20 oc21 kV21 dc21 pm21 cd21 ct21 oc22 kV22 dc22 pm22 cd22 ct22 oc23 kV23 dc23 pm23 cd23 ct23 oc24 kV24 dc24 pm24 cd24 ct24:Value}
  (a1:U0v K mainGlobals "is_whole"=some (some (.ref f1))) (l1:K.lookup f1=some ⟨oc1,od1,.func (U1b "is_whole" "is_whole" (DG JF) (Cp JF) (Ak JF) .none kV1 dc1 pm1 an1 cd1 ct1),sl1⟩) (c1:U07 K cd1 "is_whole"=true) (k1:U01 K (.ref f1)=true)
  (a2:U0v K mainGlobals "are_ways"=some (some (.ref f2))) (l2:K.lookup f2=some ⟨oc2,od2,.func (U1b "are_ways" "are_ways" (DG JK) (Cp JK) (Ak JK) .none kV2 dc2 pm2 an2 cd2 ct2),sl2⟩) (c2:U07 K cd2 "are_ways"=true) (k2:U01 K (.ref f2)=true)
  (a3:U0v K mainGlobals "is_stretch"=some (some (.ref f3))) (l3:K.lookup f3=some ⟨oc3,od3,.func (U1b "is_stretch" "is_stretch" (DG Ho) (Cp Ho) (Ak Ho) .none kV3 dc3 pm3 an3 cd3 ct3),sl3⟩) (c3:U07 K cd3 "is_stretch"=true) (k3:U01 K (.ref f3)=true)
  (a4:U0v K mainGlobals "is_box"=some (some (.ref f4))) (l4:K.lookup f4=some ⟨oc4,od4,.func (U1b "is_box" "is_box" (DG Jh) (Cp Jh) (Ak Jh) .none kV4 dc4 pm4 an4 cd4 ct4),sl4⟩) (c4:U07 K cd4 "is_box"=true) (k4:U01 K (.ref f4)=true)
  (a5:U0v K mainGlobals "is_heap"=some (some (.ref f5))) (l5:K.lookup f5=some ⟨oc5,od5,.func (U1b "is_heap" "is_heap" (DG Iu) (Cp Iu) (Ak Iu) .none kV5 dc5 pm5 an5 cd5 ct5),sl5⟩) (c5:U07 K cd5 "is_heap"=true) (k5:U01 K (.ref f5)=true)
  (a6:U0v K mainGlobals "need_heap"=some (some (.ref f6))) (l6:K.lookup f6=some ⟨oc6,od6,.func (U1b "need_heap" "need_heap" (DG Ia) (Cp Ia) (Ak Ia) .none kV6 dc6 pm6 an6 cd6 ct6),sl6⟩) (c6:U07 K cd6 "need_heap"=true) (k6:U01 K (.ref f6)=true)
  (a7:U0v K mainGlobals "ends_along"=some (some (.ref f7))) (l7:K.lookup f7=some ⟨oc7,od7,.func (U1b "ends_along" "ends_along" (DG G8) (Cp G8) (Ak G8) .none kV7 dc7 pm7 an7 cd7 ct7),sl7⟩) (c7:U07 K cd7 "ends_along"=true) (k7:U01 K (.ref f7)=true)
  (a8:U0v K mainGlobals "steps_along"=some (some (.ref f8))) (l8:K.lookup f8=some ⟨oc8,od8,.func (U1b "steps_along" "steps_along" (DG Gx) (Cp Gx) (Ak Gx) .none kV8 dc8 pm8 an8 cd8 ct8),sl8⟩) (c8:U07 K cd8 "steps_along"=true) (k8:U01 K (.ref f8)=true)
  (a9:U0v K mainGlobals "cut_boxes"=some (some (.ref f9))) (l9:K.lookup f9=some ⟨oc9,od9,.func (U1b "cut_boxes" "cut_boxes" (DG Gh) (Cp Gh) (Ak Gh) .none kV9 dc9 pm9 an9 cd9 ct9),sl9⟩) (c9:U07 K cd9 "cut_boxes"=true) (k9:U01 K (.ref f9)=true)
  (a10:U0v K mainGlobals "joined_alike"=some (some (.ref f10))) (l10:K.lookup f10=some ⟨oc10,od10,.func (U1b "joined_alike" "joined_alike" (DG Gk) (Cp Gk) (Ak Gk) .none kV10 dc10 pm10 an10 cd10 ct10),sl10⟩) (c10:U07 K cd10 "joined_alike"=true) (k10:U01 K (.ref f10)=true)
  (a11:U0v K mainGlobals "by_first"=some (some (.ref f11))) (l11:K.lookup f11=some ⟨oc11,od11,.func (U1b "by_first" "by_first" (DG JH) (Cp JH) (Ak JH) .none kV11 dc11 pm11 an11 cd11 ct11),sl11⟩) (c11:U07 K cd11 "by_first"=true) (k11:U01 K (.ref f11)=true)
  (a12:U0v K mainGlobals "parts_where"=some (some (.ref f12))) (l12:K.lookup f12=some ⟨oc12,od12,.func (U1b "parts_where" "parts_where" (DG Ga) (Cp Ga) (Ak Ga) .none kV12 dc12 pm12 an12 cd12 ct12),sl12⟩) (c12:U07 K cd12 "parts_where"=true) (k12:U01 K (.ref f12)=true)
  (a13:U0v K mainGlobals "parting_of"=some (some (.ref f13))) (l13:K.lookup f13=some ⟨oc13,od13,.func (U1b "parting_of" "parting_of" (DG Hl) (Cp Hl) (Ak Hl) .none kV13 dc13 pm13 an13 cd13 ct13),sl13⟩) (c13:U07 K cd13 "parting_of"=true) (k13:U01 K (.ref f13)=true)
  (a14:U0v K mainGlobals "_law_well"=some (some (.ref f14))) (l14:K.lookup f14=some ⟨oc14,od14,.func (U1b "_law_well" "_law_well" (DG JB) (Cp JB) (Ak JB) .none kV14 dc14 pm14 an14 cd14 ct14),sl14⟩) (c14:U07 K cd14 "_law_well"=true) (k14:U01 K (.ref f14)=true)
  (a15:U0v K mainGlobals "_law_draw"=some (some (.ref f15))) (l15:K.lookup f15=some ⟨oc15,od15,.func (U1b "_law_draw" "_law_draw" (DG JD) (Cp JD) (Ak JD) .none kV15 dc15 pm15 an15 cd15 ct15),sl15⟩) (c15:U07 K cd15 "_law_draw"=true) (k15:U01 K (.ref f15)=true)
  (a16:U0v K mainGlobals "_law_marks"=some (some (.ref f16))) (l16:K.lookup f16=some ⟨oc16,od16,.func (U1b "_law_marks" "_law_marks" (DG Hf) (Cp Hf) (Ak Hf) .none kV16 dc16 pm16 an16 cd16 ct16),sl16⟩) (c16:U07 K cd16 "_law_marks"=true) (k16:U01 K (.ref f16)=true)
  (a17:U0v K mainGlobals "_law_stretch"=some (some (.ref f17))) (l17:K.lookup f17=some ⟨oc17,od17,.func (U1b "_law_stretch" "_law_stretch" (DG Gy) (Cp Gy) (Ak Gy) .none kV17 dc17 pm17 an17 cd17 ct17),sl17⟩) (c17:U07 K cd17 "_law_stretch"=true) (k17:U01 K (.ref f17)=true)
  (a18:U0v K mainGlobals "_law_near"=some (some (.ref f18))) (l18:K.lookup f18=some ⟨oc18,od18,.func (U1b "_law_near" "_law_near" (DG Hu) (Cp Hu) (Ak Hu) .none kV18 dc18 pm18 an18 cd18 ct18),sl18⟩) (c18:U07 K cd18 "_law_near"=true) (k18:U01 K (.ref f18)=true)
  (a19:U0v K mainGlobals "_law_heap"=some (some (.ref f19))) (l19:K.lookup f19=some ⟨oc19,od19,.func (U1b "_law_heap" "_law_heap" (DG Gf) (Cp Gf) (Ak Gf) .none kV19 dc19 pm19 an19 cd19 ct19),sl19⟩) (c19:U07 K cd19 "_law_heap"=true) (k19:U01 K (.ref f19)=true)
  (a20:U0v K mainGlobals "_law_some_heap"=some (some (.ref f20))) (l20:K.lookup f20=some ⟨oc20,od20,.func (U1b "_law_some_heap" "_law_some_heap" (DG GQ) (Cp GQ) (Ak GQ) .none kV20 dc20 pm20 an20 cd20 ct20),sl20⟩) (c20:U07 K cd20 "_law_some_heap"=true) (k20:U01 K (.ref f20)=true)
  (a21:U0v K mainGlobals "_law_parting"=some (some (.ref f21))) (l21:K.lookup f21=some ⟨oc21,od21,.func (U1b "_law_parting" "_law_parting" (DG Ew) (Cp Ew) (Ak Ew) .none kV21 dc21 pm21 an21 cd21 ct21),sl21⟩) (c21:U07 K cd21 "_law_parting"=true) (k21:U01 K (.ref f21)=true)
  (a22:U0v K mainGlobals "_law_same"=some (some (.ref f22))) (l22:K.lookup f22=some ⟨oc22,od22,.func (U1b "_law_same" "_law_same" (DG Ht) (Cp Ht) (Ak Ht) .none kV22 dc22 pm22 an22 cd22 ct22),sl22⟩) (c22:U07 K cd22 "_law_same"=true) (k22:U01 K (.ref f22)=true)
  (a23:U0v K mainGlobals "_law_right"=some (some (.ref f23))) (l23:K.lookup f23=some ⟨oc23,od23,.func (U1b "_law_right" "_law_right" (DG Ib) (Cp Ib) (Ak Ib) .none kV23 dc23 pm23 an23 cd23 ct23),sl23⟩) (c23:U07 K cd23 "_law_right"=true) (k23:U01 K (.ref f23)=true)
  (a24:U0v K mainGlobals "law"=some (some (.ref f24))) (l24:K.lookup f24=some ⟨oc24,od24,.func (U1b "law" "law" (DG Lw) (Cp Lw) (Ak Lw) .none kV24 dc24 pm24 an24 cd24 ct24),sl24⟩) (c24:U07 K cd24 "law"=true) (k24:U01 K (.ref f24)=true)
  (z1:U0v K mainGlobals "len"=some none)
  (z2:U0v K mainGlobals "isinstance"=some none)
  (z3:U0v K mainGlobals "all"=some none)
  (z4:U0v K mainGlobals "sorted"=some none)
  (z5:U0v K mainGlobals "min"=some none)
  (z6:U0v K mainGlobals "max"=some none)
  (z7:U0v K mainGlobals "abs"=some none)
  (z8:U0v K mainGlobals "repr"=some none)
  (z9:U0v K mainGlobals "set"=some none)
  (z10:U0v K mainGlobals "list"=some none)
  (z11:U0v K mainGlobals "tuple"=some none)
  (z12:U0v K mainGlobals "range"=some none)
  (z13:U0v K mainGlobals "int"=some none)
  (z14:U0v K mainGlobals "bool"=some none)
  (z15:U0v K mainGlobals "str"=some none)
  (zBz:U0v K mainGlobals "zip"=some none)
  {ep:Nat} {h1 h2 h3:Int} {t1 t2 t3 u1 u2 u3:Tok} (aM:U0v K mainGlobals "MOST_BOXES"=some (some (.ref dM))) (hM:(dM==sysModules)=false)
  (lM:K.lookup dM=some { cls:=.type "dict",data:=.dict #[⟨h1,.int 1 t1,.int 20 u1⟩,⟨h2,.int 2 t2,.int 10 u2⟩,⟨h3,.int 3 t3,.int 6 u3⟩] ep }) (e1:h1=hashInt 1) (e2:h2=hashInt 2) (e3:h3=hashInt 3)
  : ∃fd:FuncData,(∀(s:Shared)(v:Value),BindsTo s fd ⟨[v],[]⟩ [("script",v)])/\∀base:Heap,K.In base->base.Ns mainGlobals mg->Dp l.prog w K mg base CX0 9 fa fd ["script"] (Ry K):=by
 have e:=hfa.symm.trans (U0u X G a24)
 cases e
 have F1:=Ek (st:=JF) l1 c1 k1
 have b1:=F1.binds (ps:=["thing"]) fun _ _ _ _ _ _ us hl=>by obtain⟨_,rfl⟩:=Mf hl;rfl
 have F2:=Ek (st:=JK) l2 c2 k2
 have b2:=F2.binds (ps:=["thing"]) fun _ _ _ _ _ _ us hl=>by obtain⟨_,rfl⟩:=Mf hl;rfl
 have F3:=Ek (st:=Ho) l3 c3 k3
 have b3:=F3.binds (ps:=["thing"]) fun _ _ _ _ _ _ us hl=>by obtain⟨_,rfl⟩:=Mf hl;rfl
 have F4:=Ek (st:=Jh) l4 c4 k4
 have b4:=F4.binds (ps:=["ways","thing"]) fun _ _ _ _ _ _ us hl=>by obtain⟨_,_,rfl⟩:=Pn hl;rfl
 have F5:=Ek (st:=Iu) l5 c5 k5
 have b5:=F5.binds (ps:=["thing"]) fun _ _ _ _ _ _ us hl=>by obtain⟨_,rfl⟩:=Mf hl;rfl
 have F6:=Ek (st:=Ia) l6 c6 k6
 have b6:=F6.binds (ps:=["heap"]) fun _ _ _ _ _ _ us hl=>by obtain⟨_,rfl⟩:=Mf hl;rfl
 have F7:=Ek (st:=G8) l7 c7 k7
 have b7:=F7.binds (ps:=["boxes","way"]) fun _ _ _ _ _ _ us hl=>by obtain⟨_,_,rfl⟩:=Pn hl;rfl
 have F8:=Ek (st:=Gx) l8 c8 k8
 have b8:=F8.binds (ps:=["boxes","way"]) fun _ _ _ _ _ _ us hl=>by obtain⟨_,_,rfl⟩:=Pn hl;rfl
 have F9:=Ek (st:=Gh) l9 c9 k9
 have b9:=F9.binds (ps:=["boxes","way","number"]) fun _ _ _ _ _ _ us hl=>by obtain⟨_,_,_,rfl⟩:=bH hl;rfl
 have F10:=Ek (st:=Gk) l10 c10 k10
 have b10:=F10.binds (ps:=["steps"]) fun _ _ _ _ _ _ us hl=>by obtain⟨_,rfl⟩:=Mf hl;rfl
 have F11:=Ek (st:=JH) l11 c11 k11
 have b11:=F11.binds (ps:=["first","second"]) fun _ _ _ _ _ _ us hl=>by obtain⟨_,_,rfl⟩:=Pn hl;rfl
 have F12:=Ek (st:=Ga) l12 c12 k12
 have b12:=F12.binds (ps:=["wanted","first","second","ways"]) fun _ _ _ _ _ _ us hl=>by obtain⟨_,_,_,_,rfl⟩:=sV hl;rfl
 have F13:=Ek (st:=Hl) l13 c13 k13
 have b13:=F13.binds (ps:=["heap"]) fun _ _ _ _ _ _ us hl=>by obtain⟨_,rfl⟩:=Mf hl;rfl
 have F14:=Ek (st:=JB) l14 c14 k14
 have b14:=F14.binds (ps:=["cell"]) fun _ _ _ _ _ _ us hl=>by obtain⟨_,rfl⟩:=Mf hl;rfl
 have F15:=Ek (st:=JD) l15 c15 k15
 have b15:=F15.binds (ps:=["well","many"]) fun _ _ _ _ _ _ us hl=>by obtain⟨_,_,rfl⟩:=Pn hl;rfl
 have F16:=Ek (st:=Hf) l16 c16 k16
 have b16:=F16.binds (ps:=["well","many"]) fun _ _ _ _ _ _ us hl=>by obtain⟨_,_,rfl⟩:=Pn hl;rfl
 have F17:=Ek (st:=Gy) l17 c17 k17
 have b17:=F17.binds (ps:=["well","marks"]) fun _ _ _ _ _ _ us hl=>by obtain⟨_,_,rfl⟩:=Pn hl;rfl
 have F18:=Ek (st:=Hu) l18 c18 k18
 have b18:=F18.binds (ps:=["well","box","marks"]) fun _ _ _ _ _ _ us hl=>by obtain⟨_,_,_,rfl⟩:=bH hl;rfl
 have F19:=Ek (st:=Gf) l19 c19 k19
 have b19:=F19.binds (ps:=["well","ways","most"]) fun _ _ _ _ _ _ us hl=>by obtain⟨_,_,_,rfl⟩:=bH hl;rfl
 have F20:=Ek (st:=GQ) l20 c20 k20
 have b20:=F20.binds (ps:=["well"]) fun _ _ _ _ _ _ us hl=>by obtain⟨_,rfl⟩:=Mf hl;rfl
 have F21:=Ek (st:=Ew) l21 c21 k21
 have b21:=F21.binds (ps:=["heap"]) fun _ _ _ _ _ _ us hl=>by obtain⟨_,rfl⟩:=Mf hl;rfl
 have F22:=Ek (st:=Ht) l22 c22 k22
 have b22:=F22.binds (ps:=["found","due"]) fun _ _ _ _ _ _ us hl=>by obtain⟨_,_,rfl⟩:=Pn hl;rfl
 have F23:=Ek (st:=Ib) l23 c23 k23
 have b23:=F23.binds (ps:=["heap"]) fun _ _ _ _ _ _ us hl=>by obtain⟨_,rfl⟩:=Mf hl;rfl
 have F24:=Ek (st:=Lw) l24 c24 k24
 have mM:=U0u X G aM
 have B:Blt mg:=fun x hx=>by
  simp only[Rj,U0t,U1x,or_false] at hx
  rcases hx with rfl|rfl|rfl|rfl|rfl|rfl|rfl|rfl|rfl|rfl|rfl|rfl|rfl|rfl|rfl
  .exact U1i X G z1
  .exact U1i X G z2
  .exact U1i X G z3
  .exact U1i X G z4
  .exact U1i X G z5
  .exact U1i X G z6
  .exact U1i X G z7
  .exact U1i X G z8
  .exact U1i X G z9
  .exact U1i X G z10
  .exact U1i X G z11
  .exact U1i X G z12
  .exact U1i X G z13
  .exact U1i X G z14
  .exact U1i X G z15
 have Bz:mg "zip"=none:=U1i X G zBz
 refine⟨U1b "law" "law" (DG Lw) (Cp Lw) (Ak Lw) .none kV24 dc24 pm24 an24 cd24 ct24,fun s v=>.of_eq rfl,fun base _ _=>?_⟩
 obtain⟨fT,hT0⟩:∃fT:Nat->Addr,fT 0=f11:=⟨fun|0=>f11|_=>f11,rfl⟩
 have FV_by_first:mg "by_first"=some (.ref (fT 0)):=by rw[hT0];exact U0u X G a11
 have C_is_whole:Cv l.prog w K mg base "is_whole" 1 Fp:=⟨⟨["thing"],⟨_,_,X7 F1 B,b1,k1,U0u X G a1⟩,fun ds r h=>Dn h⟩⟩
 have C_are_ways:Cv l.prog w K mg base "are_ways" 2 FW:=⟨⟨["thing"],⟨_,_,XC F2 B mM (lE hM lM e1 e2 e3 (by decide)) C_is_whole,b2,k2,U0u X G a2⟩,fun ds r h=>Dn h⟩⟩
 have C_is_stretch:Cv l.prog w K mg base "is_stretch" 2 Gj:=⟨⟨["thing"],⟨_,_,V6 F3 B C_is_whole,b3,k3,U0u X G a3⟩,fun ds r h=>Dn h⟩⟩
 have C_is_box:Cv l.prog w K mg base "is_box" 3 J8:=⟨⟨["ways","thing"],⟨_,_,aG F4 B C_are_ways C_is_stretch,b4,k4,U0u X G a4⟩,fun ds r h=>Dn h⟩⟩
 have C_is_heap:Cv l.prog w K mg base "is_heap" 4 IV:=⟨⟨["thing"],⟨_,_,Yw F5 B mM (lE hM lM e1 e2 e3 (by decide)) C_are_ways C_is_box,b5,k5,U0u X G a5⟩,fun ds r h=>Dn h⟩⟩
 have C_need_heap:Cv l.prog w K mg base "need_heap" 5 GZ:=⟨⟨["heap"],⟨_,_,Wc F6 B C_is_heap,b6,k6,U0u X G a6⟩,fun ds r h=>Dn h⟩⟩
 have C_ends_along:Cv l.prog w K mg base "ends_along" 1 G3:=⟨⟨["boxes","way"],⟨_,_,V7 F7 B,b7,k7,U0u X G a7⟩,fun ds r h=>Dn h⟩⟩
 have C_steps_along:Cv l.prog w K mg base "steps_along" 2 Dq:=⟨⟨["boxes","way"],⟨_,_,Tt F8 B Bz C_ends_along,b8,k8,U0u X G a8⟩,fun ds r h=>Dn h⟩⟩
 have C_cut_boxes:Cv l.prog w K mg base "cut_boxes" 1 Ed:=⟨⟨["boxes","way","number"],⟨_,_,Wg F9 B,b9,k9,U0u X G a9⟩,fun ds r h=>Dn h⟩⟩
 have C_joined_alike:Cv l.prog w K mg base "joined_alike" 1 Eu:=⟨⟨["steps"],⟨_,_,T8 F10 B,b10,k10,U0u X G a10⟩,fun ds r h=>Dn h⟩⟩
 have C_by_first:Cv l.prog w K mg base "by_first" 1 Hj:=⟨⟨["first","second"],⟨_,_,X8 F11 B,b11,k11,U0u X G a11⟩,fun ds r h=>Dn h⟩⟩
 have TB:∀n t,Ru fT n=some t->Oh l.prog w K mg base t.1 1 t.2:=fun n t h=>by
  match n,h with
  |0,h=>cases h;exact(Oh.of C_by_first FV_by_first).mono (by decide)
  |n+1,h=>cases h
 have C_parts_where0:Cv l.prog w K mg base "parts_where" 2 (Bk fT 0):=⟨⟨["wanted","first","second","ways"],⟨_,_,Tp (f:=f12) rfl,b12,k12,U0u X G a12⟩,fun ds r h=>by cases h⟩⟩
 have C_parts_where1:Cv l.prog w K mg base "parts_where" 3 (Bk fT 1):=⟨⟨["wanted","first","second","ways"],⟨_,_,JM F12 B C_steps_along (by decide) C_parts_where0 C_cut_boxes C_joined_alike TB,b12,k12,U0u X G a12⟩,fun ds r h=>Dn h⟩⟩
 have C_parts_where2:Cv l.prog w K mg base "parts_where" 4 (Bk fT 2):=⟨⟨["wanted","first","second","ways"],⟨_,_,JM F12 B C_steps_along (by decide) C_parts_where1 C_cut_boxes C_joined_alike TB,b12,k12,U0u X G a12⟩,fun ds r h=>Dn h⟩⟩
 have C_parts_where3:Cv l.prog w K mg base "parts_where" 5 (Bk fT 3):=⟨⟨["wanted","first","second","ways"],⟨_,_,JM F12 B C_steps_along (by decide) C_parts_where2 C_cut_boxes C_joined_alike TB,b12,k12,U0u X G a12⟩,fun ds r h=>Dn h⟩⟩
 have C_parts_where4:Cv l.prog w K mg base "parts_where" 6 (Bk fT 4):=⟨⟨["wanted","first","second","ways"],⟨_,_,JM F12 B C_steps_along (by decide) C_parts_where3 C_cut_boxes C_joined_alike TB,b12,k12,U0u X G a12⟩,fun ds r h=>Dn h⟩⟩
 have C_parts_where:=C_parts_where4
 have C_parting_of:Cv l.prog w K mg base "parting_of" 7 (DN fT):=⟨⟨["heap"],⟨_,_,V5 F13 B C_need_heap C_parts_where FV_by_first,b13,k13,U0u X G a13⟩,fun ds r h=>Dn h⟩⟩
 have C_law_well:Cv l.prog w K mg base "_law_well" 1 Gq:=⟨⟨["cell"],⟨_,_,X3 F14 B,b14,k14,U0u X G a14⟩,fun ds r h=>Dn h⟩⟩
 have C_law_draw:Hh l.prog w K mg base "_law_draw" 1 Ay:=⟨⟨["well","many"],⟨_,_,X6 F15 B,b15,k15,U0u X G a15⟩,fun ns ds r h=>M8 h⟩⟩
 have C_law_marks:Hh l.prog w K mg base "_law_marks" 2 Ec:=⟨⟨["well","many"],⟨_,_,Wf F16 B C_law_draw,b16,k16,U0u X G a16⟩,fun ns ds r h=>M8 h⟩⟩
 have C_law_stretch:Hh l.prog w K mg base "_law_stretch" 2 Em:=⟨⟨["well","marks"],⟨_,_,Tv F17 B C_law_draw,b17,k17,U0u X G a17⟩,fun ns ds r h=>M8 h⟩⟩
 have C_law_near:Hh l.prog w K mg base "_law_near" 3 Et:=⟨⟨["well","box","marks"],⟨_,_,X4 F18 B C_law_draw C_law_stretch,b18,k18,U0u X G a18⟩,fun ns ds r h=>M8 h⟩⟩
 have C_law_heap:Hh l.prog w K mg base "_law_heap" 4 Fo:=⟨⟨["well","ways","most"],⟨_,_,X5 F19 B C_law_draw C_law_marks C_law_stretch C_law_near,b19,k19,U0u X G a19⟩,fun ns ds r h=>M8 h⟩⟩
 have C_law_some_heap:Hh l.prog w K mg base "_law_some_heap" 5 Dw:=⟨⟨["well"],⟨_,_,Rn F20 B C_law_draw C_law_heap,b20,k20,U0u X G a20⟩,fun ns ds r h=>M8 h⟩⟩
 have C_law_parting0:Cv l.prog w K mg base "_law_parting" 0 (Cu 0):=⟨⟨["heap"],⟨_,_,Tp (f:=f21) rfl,b21,k21,U0u X G a21⟩,fun ds r h=>by cases h⟩⟩
 have C_law_parting1:Cv l.prog w K mg base "_law_parting" 1 (Cu 1):=⟨⟨["heap"],⟨_,_,Kl F21 B Bz (by decide) C_law_parting0,b21,k21,U0u X G a21⟩,fun ds r h=>Dn h⟩⟩
 have C_law_parting2:Cv l.prog w K mg base "_law_parting" 2 (Cu 2):=⟨⟨["heap"],⟨_,_,Kl F21 B Bz (by decide) C_law_parting1,b21,k21,U0u X G a21⟩,fun ds r h=>Dn h⟩⟩
 have C_law_parting3:Cv l.prog w K mg base "_law_parting" 3 (Cu 3):=⟨⟨["heap"],⟨_,_,Kl F21 B Bz (by decide) C_law_parting2,b21,k21,U0u X G a21⟩,fun ds r h=>Dn h⟩⟩
 have C_law_parting:=C_law_parting3
 have C_law_same0:Cv l.prog w K mg base "_law_same" 0 (Bw 0):=⟨⟨["found","due"],⟨_,_,Tp (f:=f22) rfl,b22,k22,U0u X G a22⟩,fun ds r h=>by cases h⟩⟩
 have C_law_same1:Cv l.prog w K mg base "_law_same" 1 (Bw 1):=⟨⟨["found","due"],⟨_,_,Jb F22 B (by decide) C_law_same0,b22,k22,U0u X G a22⟩,fun ds r h=>Dn h⟩⟩
 have C_law_same2:Cv l.prog w K mg base "_law_same" 2 (Bw 2):=⟨⟨["found","due"],⟨_,_,Jb F22 B (by decide) C_law_same1,b22,k22,U0u X G a22⟩,fun ds r h=>Dn h⟩⟩
 have C_law_same3:Cv l.prog w K mg base "_law_same" 3 (Bw 3):=⟨⟨["found","due"],⟨_,_,Jb F22 B (by decide) C_law_same2,b22,k22,U0u X G a22⟩,fun ds r h=>Dn h⟩⟩
 have C_law_same4:Cv l.prog w K mg base "_law_same" 4 (Bw 4):=⟨⟨["found","due"],⟨_,_,Jb F22 B (by decide) C_law_same3,b22,k22,U0u X G a22⟩,fun ds r h=>Dn h⟩⟩
 have C_law_same5:Cv l.prog w K mg base "_law_same" 5 (Bw 5):=⟨⟨["found","due"],⟨_,_,Jb F22 B (by decide) C_law_same4,b22,k22,U0u X G a22⟩,fun ds r h=>Dn h⟩⟩
 have C_law_same:=C_law_same5
 have C_law_right:Cv l.prog w K mg base "_law_right" 8 (FZ fT):=⟨⟨["heap"],⟨_,_,Wd F23 B C_law_parting C_parting_of C_law_same,b23,k23,U0u X G a23⟩,fun ds r h=>Dn h⟩⟩
 exact(o8 F24 B C_law_well C_law_some_heap C_law_right C_law_draw C_parting_of).imp (oM (dg fT))
theorem walk{l:U5x}{q:Program}{loose:List Str}{XP:(Str->Option Value)->Heap->Prop}{YP:World->Heap->Prop}{d:DefRec}{K:Params->U0a}(hn:l.most=some 63)(hdf:d.params.defaults=[])
  (hY:∀(w:World)(h:Heap),YP w h->(K w.params).In h)
  (F:∀(w:World)(mg:Str->Option Value)(fa:Addr)(h:Heap),(K w.params).In h->h.Ns mainGlobals mg->mg d.name=some (.ref fa) ->
   ∃fd:FuncData,(∀(s:Shared)(u:Value),BindsTo s fd ⟨[u],[]⟩ [("script",u)])/\∀base:Heap,(K w.params).In base->base.Ns mainGlobals mg->Dp l.prog w (K w.params) mg base CX0 9 fa fd ["script"] (Ry (K w.params))) :
  U63 q loose XP YP l.row.toRowW d [] (fun f vs=>U62 f vs) :=
 L2.bZ (n:=63) (k:=9) (x:="script") (CX:=CX0) (sp:=Ry) hn (by decide) hdf ⟨rfl,by decide,by decide,rfl⟩ hY F (fun _ _ a ns hl hO hS=>⟨a,ns,rfl,hO,hl,hS,fun _=>rfl⟩) fun _ _ _ _ z=>z
end W38
open PySem PySem.W PyProof.Rows
set_option maxRecDepth 100000 in
set_option maxHeartbeats 0 in
theorem PySem.Challenge.cw_boxcover_k38_partings_told_holds : PySem.Challenge.rw_boxcover_k38_partings_told.Holds := by
 w_on;o_law;k_head;(case hw=>w_witness2)
 k_fill
 refine W38.walk (l := PySem.Challenge.rw_boxcover_k38_partings_told) rfl rfl (fun w h Y => PySem.W.kIn_of Y) ?F
 case F =>
  intro w mg fa h KX G hmg
  refine' W38.tops KX G hmg ?a1 ?l1 ?c1 ?k1 ?a2 ?l2 ?c2 ?k2 ?a3 ?l3 ?c3 ?k3 ?a4 ?l4 ?c4 ?k4 ?a5 ?l5 ?c5 ?k5 ?a6 ?l6 ?c6 ?k6 ?a7 ?l7 ?c7 ?k7 ?a8 ?l8 ?c8 ?k8 ?a9 ?l9 ?c9 ?k9 ?a10 ?l10 ?c10 ?k10 ?a11 ?l11 ?c11 ?k11 ?a12 ?l12 ?c12 ?k12 ?a13 ?l13 ?c13 ?k13 ?a14 ?l14 ?c14 ?k14 ?a15 ?l15 ?c15 ?k15 ?a16 ?l16 ?c16 ?k16 ?a17 ?l17 ?c17 ?k17 ?a18 ?l18 ?c18 ?k18 ?a19 ?l19 ?c19 ?k19 ?a20 ?l20 ?c20 ?k20 ?a21 ?l21 ?c21 ?k21 ?a22 ?l22 ?c22 ?k22 ?a23 ?l23 ?c23 ?k23 ?a24 ?l24 ?c24 ?k24 ?z1 ?z2 ?z3 ?z4 ?z5 ?z6 ?z7 ?z8 ?z9 ?z10 ?z11 ?z12 ?z13 ?z14 ?z15 ?zBz ?aM ?hM ?lM ?e1 ?e2 ?e3
  (case a1=>k_is);(case l1=>k_is);(case c1=>k_is);(case k1=>k_is)
  (case a2=>k_is);(case l2=>k_is);(case c2=>k_is);(case k2=>k_is)
  (case a3=>k_is);(case l3=>k_is);(case c3=>k_is);(case k3=>k_is)
  (case a4=>k_is);(case l4=>k_is);(case c4=>k_is);(case k4=>k_is)
  (case a5=>k_is);(case l5=>k_is);(case c5=>k_is);(case k5=>k_is)
  (case a6=>k_is);(case l6=>k_is);(case c6=>k_is);(case k6=>k_is)
  (case a7=>k_is);(case l7=>k_is);(case c7=>k_is);(case k7=>k_is)
  (case a8=>k_is);(case l8=>k_is);(case c8=>k_is);(case k8=>k_is)
  (case a9=>k_is);(case l9=>k_is);(case c9=>k_is);(case k9=>k_is)
  (case a10=>k_is);(case l10=>k_is);(case c10=>k_is);(case k10=>k_is)
  (case a11=>k_is);(case l11=>k_is);(case c11=>k_is);(case k11=>k_is)
  (case a12=>k_is);(case l12=>k_is);(case c12=>k_is);(case k12=>k_is)
  (case a13=>k_is);(case l13=>k_is);(case c13=>k_is);(case k13=>k_is)
  (case a14=>k_is);(case l14=>k_is);(case c14=>k_is);(case k14=>k_is)
  (case a15=>k_is);(case l15=>k_is);(case c15=>k_is);(case k15=>k_is)
  (case a16=>k_is);(case l16=>k_is);(case c16=>k_is);(case k16=>k_is)
  (case a17=>k_is);(case l17=>k_is);(case c17=>k_is);(case k17=>k_is)
  (case a18=>k_is);(case l18=>k_is);(case c18=>k_is);(case k18=>k_is)
  (case a19=>k_is);(case l19=>k_is);(case c19=>k_is);(case k19=>k_is)
  (case a20=>k_is);(case l20=>k_is);(case c20=>k_is);(case k20=>k_is)
  (case a21=>k_is);(case l21=>k_is);(case c21=>k_is);(case k21=>k_is)
  (case a22=>k_is);(case l22=>k_is);(case c22=>k_is);(case k22=>k_is)
  (case a23=>k_is);(case l23=>k_is);(case c23=>k_is);(case k23=>k_is)
  (case a24=>k_is);(case l24=>k_is);(case c24=>k_is);(case k24=>k_is)
  (case z1=>k_is);(case z2=>k_is);(case z3=>k_is);(case z4=>k_is);(case z5=>k_is);(case z6=>k_is);(case z7=>k_is);(case z8=>k_is);(case z9=>k_is);(case z10=>k_is);(case z11=>k_is);(case z12=>k_is);(case z13=>k_is);(case z14=>k_is);(case z15=>k_is)
  (case zBz=>k_is)
  (case aM=>k_is);(case lM=>k_is)
  (case hM=>rfl);(case e1=>rfl);(case e2=>rfl);(case e3=>rfl)
end
