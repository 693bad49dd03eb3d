import PyProof.Rows.All
import Wide.All
import OpenK.AllK
import Wide.FinOn
import Lean
import PyProof.EqAt
import PyProof.EqKinds
import PyProof.TupleCall
import PyProof.SetKind
import PyProof.SetNew
import PyProof.SetRoads
import PyProof.Walks
import PyProof.Rows.SetListFold
import PyProof.Seq
import PyProof.Rows.SortShell
import PyProof.TupleIter
import PyProof.CollectWalk
import PyProof.ReprRoads
import PyProof.EqLayable
import PyProof.ReprLen
import PyProof.WalkInts
import PyProof.SeqI3
import PyProof.ListMulRoad
import PyProof.ZipIter
import PyProof.EnumFor
import PyProof.EnumMake
import PyProof.Draws
import PyProof.Rows.ZipGen
import PyProof.LayNew
import PyProof.WalksMore
import PyProof.IsiTupleAll
import PyProof.Rows.Range3
import PyProof.Rows.SumAny
import PyProof.Rows.CallKwBuiltin
import PyProof.MinMaxWalk
import PySem.Challenge.RW_boxcover_k14_lengths_across_told
open PySem renaming wpAny_bind → U0, wpAny_pure → U0f, wpAny_newObj_type → U2f, wpAny_field → U2h, wpAny_call_entry → U2l, wpAny_holding → U2p, wpAny_seqItems → U2z, mem_of_lookup → U23, wpAny_setField → U3a, wpAny_truthy_bool → U3j, wpAny_setField_rec → U3t, wpAny_setState_of → U4d, wpAny_askSetting → U4o, wpAny_rule → U4x, wpAny_updateSeq → U40, wpAny_isInstance → U5a, wpAny_attempt → U5e, wpAny_passesOwn → U5n, wpAny_Call_Name_kw → U5r, wpAny_typeOf → U5t, wpAny_getItem_list_slice → U5u, wpAny_pyIter_tuple → U5x, wpAny_mono → U51, wpAny_pyIter_list → U58, wpAny_onRaise → U6e, wpAny_updateSeq_pair → U6q, wpAny_setEntries_of → U6s, wpAny_standAt → U65, wpAny_pyIter_slot → U7, wpAny_execs_nil → U7j, wpAny_specialOf → U7m, wpAny_ite_false → U7n, wpAny_letGo → U7s, call → U7x
open PySem.W renaming Frag → U0a, nsIn → U0x, keepIn → U01, codeIn → U02, mg_of → U04, fnOf → U08, mg_none_of → U1p, kia_one → U27, kitOne → U3h, findIn → U52, cellsFrom_some → U6, OpenLaw → U6l, methodObj → U67, instObj → U7i, lookIn → U7u, WalkO → U7z
open Option renaming bind_some → U0b, map_bind → U0e, some → U1m, map → U17, map_eq_some_iff → U2t, isSome_iff_exists → U4l, getD_some → U4r, toList_some → U50, bind → U61
open PySem.Heap renaming get?_push_of_some → U0c, lt_size → U0p, get?_push_size → U0w, SameBut → U07, get?_update_other → U1i, get?_update_self → U2i, size_push → U2m, ExtBut → U5g, IsTuple → U5w, IsSliceOf → U7v
open List renaming map_map → U0d, getElem?_eq_getElem → U0g, range → U0h, length_cons → U0i, length_map → U0j, getD_eq_getElem?_getD → U0k, getElem?_eq_some_iff → U0l, map_cons → U0m, length_append → U0n, mem_cons → U0q, size_toArray → U0r, replicate_succ → U0s, mem_cons_of_mem → U0t, mem_cons_self → U0u, getElem?_map → U0y, mem_singleton → U03, replicate → U05, length_nil → U1a, map_append → U1b, replicate_zero → U1c, map_nil → U1e, not_mem_nil → U1f, getElem?_append_left → U1g, mem_append_right → U1h, mem_append → U1k, pairwise_cons → U1l, mem_range → U1n, getElem_mem → U1s, mem_map → U1t, foldl_cons → U1v, nil_append → U11, lookup_cons → U16, mem_of_getElem? → U18, length_take → U19, length_replicate → U2a, Nodup → U2c, cons_append → U2d, getElem?_append_right → U2g, append_nil → U2k, drop_eq_getElem_cons → U2s, getElem?_set_ne → U21, getElem?_set_self → U22, length_range → U24, filterMap_cons_some → U25, length_eq_zero_iff → U29, all_eq_true → U3, length_filter_le → U3d, mem_append_left → U3g, mem_filter → U3k, sum_cons → U3o, take_length → U3p, length_singleton → U3s, length_set → U3v, pairwise_append → U3w, getLast?_append → U3x, dropLast_concat → U3y, foldl_append → U3z, of_mem_zip → U34, mem_iff_getElem? → U35, getElem?_eq_none → U36, forIn_cons → U37, length_zip → U39, eq_nil_or_concat → U4, concat_eq_append → U4a, flatten_cons → U4c, Perm → U4h, take_succ → U4k, filterMap_cons_none → U4s, getElem?_replicate → U4t, all_cons → U4v, filterMap_map → U4y, lookup_append → U41, zip_cons_cons → U43, filter_eq_nil_iff → U47, length_dropLast → U5, any_eq_true → U5c, length → U5f, filterMap_cons → U5h, getElem?_range → U5i, mergeSort_perm → U5k, filter_eq_self → U5l, mem_map_of_mem → U5m, nodup_cons → U5o, pairwise_iff_getElem → U5q, forIn_nil → U53, drop_zero → U54, append_assoc → U56, take_of_length_le → U6b, Pairwise → U6c, length_drop → U6f, zipIdx_cons → U6h, getElem?_toArray → U6i, set_append_right → U6j, foldl → U6k, Sublist → U6m, all_map → U6r, getElem_of_mem → U6v, flatMap_cons → U7a, filter_congr → U7b, isEmpty_nil → U7f, ext_getElem → U7g, mem_flatMap → U7h, range_succ → U7o, lookup → U7r, map → U7y, map_drop → U70, map_take → U71, toArray → U73, cons → U75, range' → U76
open Nat renaming le_refl → U0o, lt_of_lt_of_le → U0v, ne_of_lt → U0z, le_trans → U06, le_add_right → U1o, ne_of_gt → U1x, reduceAdd → U14, reduceSub → U15, le_of_lt → U2q, lt_trans → U20, lt_succ_of_lt → U3b, zero_le → U3u, lt_irrefl → U30, lt_of_le_of_lt → U4z, le_succ → U44, mul_le_mul_right → U5b, min_self → U5y, lt_succ_self → U6g, add_lt_add_left → U6u, mul_comm → U7d, zero_add → U7e, not_lt_zero → U7k, le_of_eq → U72
open Bool renaming and_eq_true → U00, false_ne_true → U1d, false_eq_true → U1y, eq_iff_iff → U26, not_true → U5d, or_eq_true → U7l, false_and → U7t
open Option.some renaming inj → U09
open PySem.Builtin.SmallTypes renaming nextOf → U1j, ownedTupleIsFree → U13
open Array renaming length_toList → U1q, getElem?_eq_getElem → U2b, getElem?_toList → U2w, getD_eq_getD_getElem? → U28
open PySem.F renaming plainAttrs_list → U1r, slot_list_append → U1z, type_list_append → U10, slot_zip_next → U2x, slot_tuple_iterator_next → U3q, plain_extend_loop → U4g, called_set → U4p, args_zip_next_1 → U4u, slot_tuple_mul → U45, entry_zip_next → U46, args_tuple_add_2 → U5s, entry_tuple_add → U55, slot_tuple_add → U6a
open PySem.SetTable renaming below → U1u, grown → U4i, probe → U6y
open Ne renaming symm → U1w
open PySem.Heap.SameBut renaming update → U12
open PySem.PassesOwn renaming never → U2e
open PySem.Obj renaming mapSeq → U2j, mapFields → U31
open PySem.NameKind renaming free → U2n, cell → U3n
open PySem.Value renaming ref → U2o, none → U2r, type → U3m, int → U3r, bool → U4w
open PySem.SeqAt renaming shaped → U2u
open PyProof.Rows renaming callWith_type1 → U2v, slot_tuple_getitem → U2y, IntTab → U5j
open Int renaming toNat_natCast → U3c, zero_add → U5z, toNat_of_nonneg → U6t, emod_lt_of_pos → U64, emod_nonneg → U7p, mul_one → U7q, le_of_lt → U74, pow_add → U77
open PySem.Str renaming ofString → U3e
open PySem.PyData renaming depth → U3f, depthAll → U38, canLay0 → U4j, shownAll → U42, shown → U5v, canLayAll0 → U59, eqv → U6o, showable → U6p
open PySem.Around renaming under_plainId → U3i
open PySem.Builtin.List renaming listExtendWith → U3l, listTooLong → U4n, listSameRef → U4q, listLengthHint → U49
open PySem.Builtin.Range renaming rangeSize → U32
open PySem.Manifest renaming ParamKind → U33, Receiver → U57
open PySem.Manifest.ParamKind renaming posOnly → U4b
open False renaming elim → U4e
open PySem.Builtin.Slice renaming slicePlaces → U4f, sliceAdjust → U5p
open PySem.Builtin.Tuple renaming tupleExact → U4m
open PySem.SetTable.below renaming go → U48
open PySem.Shared renaming TypeIs → U6d, heap → U60
open ForInStep renaming yield → U6n
open Sum renaming inl → U6w, inr → U6x
open List.Perm renaming refl → U6z, cons → U7w
open PyProof.Rows.IsTup renaming new → U62
open PySem.Heap.IsSliceOf renaming new → U63
open List.cons renaming inj → U66
open List.Pairwise renaming nil → U68
open PySem.SetTable.probe renaming go → U69
open True renaming intro → U7c
noncomputable section
set_option Elab.async false
set_option maxRecDepth 10000
set_option linter.all false
set_option maxHeartbeats 4000000
namespace PySem.W.Fast
def tw18021863559905792386:=0
def tw262722877842231581:=0
def tw6708713200527661880:=0
def tw12283573691873451398:=0
def tw6214883542695103497:=0
def tw7887182868375945072:=0
def tw13920767027827557098:=0
def tw9504937159939230280:=0
def tw14746372162377450830:=0
def tw11631678430649424205:=0
def tw7713345606532523021:=0
def tw6200729538455236644:=0
def tw6455646581233349766:=0
def tw516297203653664232:=0
def tw4325536851098089897:=0
def tw7189004229568317373:=0
def tw11300997670102926556:=0
def tw13586198416140824234:=0
def tw3024196081347469831:=0
def tw1007295905114395843:=0
def tw18175984645000590838:=0
def tw1144408872660072091:=0
def tw4499225436742856017:=0
def tw13111607106504737231:=0
def tw16379068557806518702:=0
def tw12065471675075057487:=0
def tw468088544652782788:=0
def tw8925827347133652346:=0
def tw15447351392308533889:=0
def tw4001924657235854709:=0
def tw11499423592517119648:=0
def tw14887953667406341113:=0
def tw18346164775285786652:=0
def tw9999952172535940662:=0
def tw16433290455569266757:=0
def tw964389030734816022:=0
def tw16337145549500876712:=0
def tw16668179837366824994:=0
def tw8809919409931989570:=0
def tw4258553088770743377:=0
def tw1818749415396205664:=0
def tw9635797931636088481:=0
def tw5448963703674458151:=0
def tw10920634127615554253:=0
def tw15468601681628787475:=0
def tw13495239739015414515:=0
def tw13402249220601106298:=0
def tw17694770097779262072:=0
def tw14686522220727158653:=0
def tw13197921766019916865:=0
def tw3107987311703157256:=0
def tw14660090602578359175:=0
def tw13867599883185261019:=0
def tw14433587807061892326:=0
def tw12301682056909451819:=0
def tw9523856084634206876:=0
def tw9468714346103181724:=0
def tw11717569384921935625:=0
def tw9440257756914159236:=0
def tw3896089539048117014:=0
def tw10692304081697361448:=0
def tw16720300164128097379:=0
def tw10968980927877181491:=0
def tw7840775990553649814:=0
def tw17215266840860192619:=0
def tw12223635890961360394:=0
def tw6831833638497650767:=0
def tw7813618749304225898:=0
def tw6570871934297994888:=0
def tw6934080638855417263:=0
def tw13753458425088942657:=0
def tw1567017810121152046:=0
def tw13521611645301372607:=0
def tw4955693764368730971:=0
def tw15428540880895183248:=0
def tw12287888845022984829:=0
def tw2454436281199902340:=0
def tw5095184118248734095:=0
def tw10578252635974823674:=0
def tw11004370782043638889:=0
def tw17005815888428903144:=0
def tw1779686787168460600:=0
def tw7572827640036622602:=0
def tw13896993577056569234:=0
def tw1306518462953410086:=0
def tw16223180093269047344:=0
def tw7236909176922808306:=0
def tw938777904689330209:=0
def tw256939723018981518:=0
def tw8915147915499970053:=0
def tw7358844861057057243:=0
def tw9285586533494262504:=0
def tw15798434690103763349:=0
def tw11013379754880447776:=0
def tw46319501364487921:=0
def tw8581332369734244611:=0
def tw5933749019551685813:=0
def tw16473948874976478605:=0
def tw8760512684521490902:=0
def tw1879801762376326166:=0
def tw10910331389174847305:=0
def tw9055079756089325992:=0
def tw9964675474053742516:=0
def tw884476832462203885:=0
def tw8676268928850703940:=0
def tw9197179993726608428:=0
def tw6771959497006403081:=0
def tw7665171072106983640:=0
def tw284760656154863814:=0
def tw7183272176505432315:=0
end PySem.W.Fast
section
set_option maxRecDepth 100000
namespace L2
open PySem PySem.Spec PyProof.Rows
abbrev Key:=Sum Int Str
def nA:Key->Value->Bool
 |.inl k,v=>Value.isInt k v
 |.inr x,v=>Value.isStrOf x v
def zN(w:World):Key->Int
 |.inl k=>hashInt k
 |.inr x=>hashStr w x
theorem GR:∀{k:Key} {v:Value},nA k v=true->(∃i t,k=U6w i/\v=U3r i t)∨(∃x t,k=U6x x/\v=Value.str x t)
 |.inl i,v,h=>by
  obtain⟨t,e⟩:=Value.isInt_shape (k:=i) (v:=v) h
  exact .inl ⟨i,t,rfl,e⟩
 |.inr x,v,h=>by
  obtain⟨t,e⟩:=Value.isStrOf_shape (x:=x) (v:=v) h
  exact .inr ⟨x,t,rfl,e⟩
theorem vN(a b:Int):decide ((U6w a:Key)=U6w b)=(a==b):=by
 by_cases e:a=b
 .subst e;simp
 .have h:¬(U6w a:Key)=U6w b:=fun q=>e (U6w.inj q)
  rw[decide_eq_false h]
  exact(beq_eq_false_iff_ne.mpr e).symm
theorem vK(a b:Str):decide ((U6x a:Key)=U6x b)=decide (a=b):=by
 by_cases e:a=b
 .subst e;simp
 .have h:¬(U6x a:Key)=U6x b:=fun q=>e (U6x.inj q)
  rw[decide_eq_false h,decide_eq_false e]
theorem vM(a:Int)(b:Str):decide ((U6w a:Key)=U6x b)=false:=decide_eq_false (fun q=>nomatch q)
theorem vL(a:Str)(b:Int):decide ((U6x a:Key)=U6w b)=false:=decide_eq_false (fun q=>nomatch q)
def Vp(prog:Program)(w:World):PySem.KeyKind prog w Key where
 is:=nA
 hash:=zN w
 inj:=fun v a b ha hb=>by
  rcases GR ha with ⟨i,t,rfl,rfl⟩|⟨x,t,rfl,rfl⟩
  .rcases GR hb with ⟨j,u,rfl,e⟩|⟨y,u,rfl,e⟩
   .injection e with e1 _;rw[e1]
   .exact nomatch e
  .rcases GR hb with ⟨j,u,rfl,e⟩|⟨y,u,rfl,e⟩
   .exact nomatch e
   .injection e with e1 _;rw[e1]
 byValue:=fun k v h=>by
  rcases GR h with ⟨i,t,rfl,rfl⟩|⟨x,t,rfl,rfl⟩<;>rfl
 pyHash:=fun hv h=>by
  rcases GR hv with ⟨i,t,rfl,rfl⟩|⟨x,t,rfl,rfl⟩
  .exact wpAny_pyHash_int h
  .exact wpAny_pyHash_str h
 eqBool:=fun hu hv h=>by
  rcases GR hu with ⟨i,t,rfl,rfl⟩|⟨x,t,rfl,rfl⟩
  .rcases GR hv with ⟨j,u,rfl,rfl⟩|⟨y,u,rfl,rfl⟩
   .rw[vN] at h;exact wpAny_eqBool_int h
   .rw[vM] at h;exact SeqAt.EqAt.int_str i t y u _ _ _ _ h
  .rcases GR hv with ⟨j,u,rfl,rfl⟩|⟨y,u,rfl,rfl⟩
   .rw[vL] at h;exact SeqAt.EqAt.str_int x t j u _ _ _ _ h
   .rw[vK] at h;exact wpAny_eqBool_str h
 «strs»:=fun k x t v h=>by
  rcases GR h with ⟨i,u,rfl,e⟩|⟨y,u,rfl,e⟩
  .exact nomatch e
  .injection e with e1 _
   subst e1
   cases v<;>rfl
end L2
namespace L2
open PySem PySem.Spec PyProof.Rows
inductive V where
 |non|bl (b:Bool)|int (i:Int)|str (x:Str)|byt (b:Array UInt8)|flt (b:UInt64)|ref (a:Addr)|ty (n:String)
 deriving DecidableEq
def RelV:V->Value->Prop
 |.non,u=>u=U2r
 |.bl b,u=>u=U4w b
 |.int i,u=>∃t,u=U3r i t
 |.str x,u=>∃t,u=Value.str x t
 |.byt b,u=>∃t,u=Value.bytes b t
 |.flt b,u=>∃t,u=Value.float b t
 |.ref a,u=>u=U2o a
 |.ty n,u=>u=U3m n
abbrev Vals:List V->List Value->Prop:=Paired RelV
theorem Vals.length{xs:List V}{us:List Value}(r:Vals xs us):xs.length=us.length:=Paired.length r
theorem Vals.get:∀{xs:List V} {us:List Value} {i:Nat} {x:V},Vals xs us->xs[i]?=some x->∃u,us[i]?=some u/\RelV x u
 |_,_,_,_,.nil,e=>by simp at e
 |_,_,0,_,.cons r _,e=>by simp at e;subst e;exact⟨_,rfl,r⟩
 |_,_,i+1,x,.cons _ t,e=>by
  obtain⟨u,h1,h2⟩:=Vals.get (i:=i) (x:=x) t (by simpa using e)
  exact⟨u,by simpa using h1,h2⟩
theorem Vals.set{x:V}{u:Value}(r:RelV x u):∀{xs:List V} {us:List Value} (i:Nat),Vals xs us->Vals (xs.set i x) (us.set i u)
 |_,_,_,.nil=>.nil
 |_,_,0,.cons _ t=>.cons r t
 |_,_,i+1,.cons q t=>.cons q (Vals.set r i t)
theorem Vals.append:∀{xs ys:List V} {us ws:List Value},Vals xs us->Vals ys ws->Vals (xs++ys) (us++ws)
 |_,_,_,_,.nil,s=>s
 |_,_,_,_,.cons r t,s=>.cons r (Vals.append t s)
theorem Vals.take:∀{xs:List V} {us:List Value} (n:Nat),Vals xs us->Vals (xs.take n) (us.take n)
 |_,_,0,_=>.nil
 |_,_,_+1,.nil=>.nil
 |_,_,n+1,.cons r t=>.cons r (Vals.take n t)
theorem Vals.drop:∀{xs:List V} {us:List Value} (n:Nat),Vals xs us->Vals (xs.drop n) (us.drop n)
 |_,_,0,r=>r
 |_,_,_+1,.nil=>.nil
 |_,_,n+1,.cons _ t=>Vals.drop n t
def jK:Option V->Option Value->Prop
 |some v,some u=>RelV v u
 |none,none=>True
 |_,_=>False
def KV{κ:Type}:List (κ×V)->List (κ×Value)->Prop:=Paired fun(p:κ×V) (q:κ×Value)=>p.1=q.1/\RelV p.2 q.2
def kV:Key->V
 |.inl i=>.int i
 |.inr x=>.str x
inductive HO where
  /-- a list -/
 |lst (xs:List V)
  /-- a tuple (never changes) -/
 |tup (xs:List V)
  /-- a dict whose keys are ints and texts; one whose keys are tuples of ints and texts (the empty one is both) -/
 |dK (kvs:List (Key×V))|dT (kvs:List (List Key×V))
  /-- a set of ints: its members, its size -/
 |set (S:Int->Bool) (n:Nat)
  /-- an instance of the class at C, its dict at dx, its attributes -/
 |ins (C dx:Addr) (fs:List (Str×V))
  /-- the dict of the instance at x -/
 |own (x:Addr)
  /-- the dict of an exception -/
 |xd (fs:List (Str×V))
  /-- a bound method, f of x -/
 |met (f x:Addr)
  /-- a range object lo, lo + 1, .. below hi -/
 |rng (lo hi:Int)
  /-- a thing that is known to the object (the script; a dict while a loop walks it): read, never written while it is so -/
 |frz (o:Obj) (u:HO)
  /-- a code object's table -/
 |tbl (ps:Array Value)
  /-- any other thing, by what is true of its one object (a def of one's own: SetO a S n := HO.ext fun h => ..) -/
 |ext (φ:Heap->Prop)
abbrev Hp:=Addr->Option HO
def upd(H:Hp)(a:Addr)(o:HO):Hp:=fun b=>if b=a then some o else H b
theorem Ce{H:Hp}{a:Addr}{o:HO}:upd H a o a=some o:=by unfold upd;rw[if_pos rfl]
theorem Bu{H:Hp}{a b:Addr}{o:HO}(h:b≠a):upd H a o b=H b:=by unfold upd;rw[if_neg h]
theorem Du{H:Hp}{a b:Addr}{o:HO}(h:H a=some o)(h':H b=none):a≠b:=by
 intro e;subst e;rw[h] at h';cases h'
section
variable(P:Program)(w:World)
def Ei(H:Hp)(h:Heap)(a:Addr):HO->Prop
 |.lst xs=>xs.length<=sizeLine/\∃(its:List Value)(n:Nat),Vals xs its/\h.get? a=some { cls:=.type "list",data:=.seq its.toArray n }
 |.tup xs=>xs.length<=sizeLine/\∃its:List Value,Vals xs its/\IsTup h a its.toArray
 |.dK kvs=>kvs.length<=sizeLine/\(a==sysModules)=false/\∃vs,KV kvs vs/\h.DictOf (Vp P w) a vs
 |.dT kvs=>kvs.length<=sizeLine/\(a==sysModules)=false/\∃xs:List (List Key×Addr×Value),
   Paired (fun(p:List Key×V) (q:List Key×Addr×Value)=>p.1=q.1/\H q.2.1=some (.tup (p.1.map kV))/\RelV p.2 q.2.2) kvs xs /\
   ∃o es ep,h.get? a=some o/\o.ExactDict/\o.data=.dict es ep/\es.toList=xs.map (entryOfKey (tupleKind (Vp P w)))/\(xs.map (·.1)).Nodup
 |.set S n=>h.SetOf (intKind P w) a S n
 |.ins C dx fs=>H dx=some (.own a)/\fs.length<=1000/\dx≠a/\h.get? a=some (U7i C dx) /\
   ∃mA,h.Ns1 dx mA/\(∀f,jK (fs.lookup f) (mA f))/\PySem.Within mA (fs.map (·.1))
 |.own _=>∃o,h.get? a=some o
 |.xd fs=>∃mA,h.Ns1 a mA/\∀f,jK (fs.lookup f) (mA f)
 |.rng lo hi=>∃t u v,h.get? a=some { cls:=.type "range",data:=.fields #[.int lo t,.int hi u,.int 1 v] }
 |.frz o u=>h.get? a=some o/\Ei H h a u
 |.tbl ps=>h.get? a=some { cls:=.none,data:=.fields ps }
 |.met f x=>h.get? a=some (U67 (.ref f) (.ref x))
 |.ext φ=>φ h/\(∃o,h.get? a=some o)/\∀h1 h2:Heap,φ h1->(∀o,h1.get? a=some o->h2.get? a=some o)->φ h2
def HOk(H:Hp)(h:Heap):Prop:=∀a o,H a=some o->Ei P w H h a o
end
section
variable{P:Program}{w:World}{H H':Hp}{h h':Heap}{a:Addr}{o:HO}
theorem Ei.lt(x:Ei P w H h a o):a<h.objs.size:=by
 cases o with
 |lst xs=>obtain⟨_,_,_,_,e⟩:=x;exact U0p e
 |tup xs=>obtain⟨_,_,_,p⟩:=x;exact p.lt
 |dK kvs=>obtain⟨_,_,_,_,o,_,_,e,_⟩:=x;exact U0p e
 |dT kvs=>obtain⟨_,_,_,_,o,_,_,e,_⟩:=x;exact U0p e
 |set S n=>obtain⟨o,_,_,_,e,_⟩:=x;exact U0p e
 |ins C dx fs=>obtain⟨_,_,_,e,_⟩:=x;exact U0p e
 |own y=>obtain⟨_,e⟩:=x;exact U0p e
 |xd fs=>obtain⟨_,⟨_,_,_,e,_⟩,_⟩:=x;exact U0p e
 |rng lo hi=>obtain⟨_,_,_,e⟩:=x;exact U0p e
 |frz ob u=>obtain⟨e,_⟩:=x;exact U0p e
 |tbl ps=>exact U0p (show h.get? a=some _ from x)
 |met f y=>exact U0p (show h.get? a=some _ from x)
 |ext φ=>obtain⟨_,⟨_,e⟩,_⟩:=x;exact U0p e
theorem Paired.tW{α β:Type}{F G:α->β->Prop}:∀{l₁:List α} {l₂:List β},Paired F l₁ l₂->(∀a b,F a b->G a b)->Paired G l₁ l₂
 |_,_,.nil,_=>.nil
 |_,_,.cons r t,f=>.cons (f _ _ r) (Paired.tW t f)
theorem Ei.stay(x:Ei P w H h a o)(k:∀b u,(b=a∨H b=some (.own a))->h.get? b=some u->h'.get? b=some u)
  (ho:∀b,H b=some (.own a)->H' b=some (.own a)) (ht:∀b xs,H b=some (.tup xs)->H' b=some (.tup xs)):Ei P w H' h' a o:=by
 induction o with
 |lst xs=>obtain⟨z,its,n,r,e⟩:=x;exact⟨z,its,n,r,k _ _ (.inl rfl) e⟩
 |tup xs=>obtain⟨z,its,r,ob,e,c⟩:=x;exact⟨z,its,r,ob,k _ _ (.inl rfl) e,c⟩
 |dK kvs=>obtain⟨z,y,vs,r,ob,es,ep,e,c⟩:=x;exact⟨z,y,vs,r,ob,es,ep,k _ _ (.inl rfl) e,c⟩
 |dT kvs =>
  obtain⟨z,y,xs,r,ob,es,ep,e,c⟩:=x
  exact⟨z,y,xs,Paired.tW r fun p q z=>⟨z.1,ht _ _ z.2.1,z.2.2⟩,ob,es,ep,k _ _ (.inl rfl) e,c⟩
 |set S n=>obtain⟨ob,es,ep,t,e,c⟩:=x;exact⟨ob,es,ep,t,k _ _ (.inl rfl) e,c⟩
 |ins C dx fs =>
  obtain⟨d,z,ne,e,mA,⟨od,es,ep,e2,c⟩,r⟩:=x
  exact⟨ho _ d,z,ne,k _ _ (.inl rfl) e,mA,⟨od,es,ep,k _ _ (.inr d) e2,c⟩,r⟩
 |own y=>obtain⟨ob,e⟩:=x;exact⟨ob,k _ _ (.inl rfl) e⟩
 |xd fs=>obtain⟨mA,⟨od,es,ep,e,c⟩,r⟩:=x;exact⟨mA,⟨od,es,ep,k _ _ (.inl rfl) e,c⟩,r⟩
 |rng lo hi=>obtain⟨t,u,v,e⟩:=x;exact⟨t,u,v,k _ _ (.inl rfl) e⟩
 |frz ob u ih=>obtain⟨e,q⟩:=x;exact⟨k _ _ (.inl rfl) e,ih q⟩
 |tbl ps =>
  have e:h.get? a=some { cls:=.none,data:=.fields ps }:=x
  show h'.get? a=some { cls:=.none,data:=.fields ps }
  exact k a _ (.inl rfl) e
 |met f y =>
  have e:h.get? a=some (U67 (.ref f) (.ref y)):=x
  show h'.get? a=some (U67 (.ref f) (.ref y))
  exact k a _ (.inl rfl) e
 |ext φ=>obtain⟨p,⟨o,e⟩,st⟩:=x;exact⟨st _ _ p fun o q=>k _ _ (.inl rfl) q,⟨o,k _ _ (.inl rfl) e⟩,st⟩
theorem HOk.lt(x:HOk P w H h)(e:H a=some o):a<h.objs.size:=(x a o e).lt
theorem HOk.fresh(x:HOk P w H h)(e:h.objs.size<=a):H a=none:=by
 cases q:H a with
 |none=>rfl
 |some u=>exact absurd (U0v (x.lt q) e) (U30 _)
theorem HOk.kept(x:HOk P w H h)(k:∀b u,h.get? b=some u->h'.get? b=some u):HOk P w H h':=fun a o e =>
 (x a o e).stay (fun b u _ q=>k b u q) (fun _ q=>q) fun _ _ q=>q
theorem HOk.laid(x:HOk P w H h)(k:∀b u,h.get? b=some u->h'.get? b=some u)(hp:h.objs.size<=a)(new:Ei P w (upd H a o) h' a o):HOk P w (upd H a o) h':=fun b u e=>by
 have hn:=x.fresh hp
 by_cases hb:b=a
 .subst hb;rw[Ce] at e;cases e;exact new
 .rw[Bu hb] at e
  exact(x b u e).stay (fun c v _ q=>k c v q) (fun c q=>by rw[Bu (Du q hn)];exact q) fun c xs q=>by rw[Bu (Du q hn)];exact q
end
def Rd(H:Hp)(a:Addr)(u:HO):Prop:=H a=some u∨∃o,H a=some (.frz o u)
theorem Rd.ok{P:Program}{w:World}{H:Hp}{h:Heap}{a:Addr}{u:HO}(r:Rd H a u)(x:HOk P w H h):Ei P w H h a u:=by
 rcases r with r|⟨o,r⟩
 .exact x a u r
 .obtain⟨_,q⟩:=x a _ r
  exact q
def Mut:Option HO->Prop
 |some (.lst _)=>True
 |some (.dK _)=>True
 |some (.dT _)=>True
 |some (.set _ _)=>True
 |some (.ins _ _ _)=>True
 |some (.ext _)=>True
 |_=>False
section
variable{P:Program}{w:World}{H:Hp}{h h':Heap}{x e:Addr}{o':HO}
theorem HOk.write(ok:HOk P w H h)(mu:Mut (H x))(he:e=x∨H e=some (.own x))(k:∀b u,b≠e->h.get? b=some u->h'.get? b=some u)(heo:∃u,h'.get? e=some u)
  (new:Ei P w (upd H x o') h' x o'):HOk P w (upd H x o') h':=fun b u q=>by
 have nown:∀c y,H c=some (.own y)->c≠x:=fun c y r z=>by subst z;rw[r] at mu;exact mu
 have ntup:∀c xs,H c=some (.tup xs)->c≠x:=fun c xs r z=>by subst z;rw[r] at mu;exact mu
 by_cases hb:b=x
 .subst hb;rw[Ce] at q;cases q;exact new
 .rw[Bu hb] at q
  by_cases hbe:b=e
  .have q':H b=some (.own x):=by
    rcases he with z|z
    .exact absurd (hbe.trans z) hb
    .rw[hbe];exact z
   rw[q] at q';cases q'
   obtain⟨v,hv⟩:=heo
   exact⟨v,by rw[hbe];exact hv⟩
  .refine(ok b u q).stay (fun c v hc r=>k c v ?_ r) (fun c r=>by rw[Bu (nown c b r)];exact r) fun c xs r=>by rw[Bu (ntup c xs r)];exact r
   rcases hc with rfl|hc
   .exact hbe
   .rintro rfl
    rcases he with z|z
    .exact nown c b hc z
    .rw[hc] at z;cases z;exact hb rfl
end
structure Un(fs ex:List Addr)(H H':Hp)(h h':Heap):Prop where
 keep:∀b o,h.get? b=some o->H b=none->b ∉ fs->b ∉ ex->h'.get? b=some o
 slot:∀b o,h.get? b=some o->H b=none->b∈fs->b ∉ ex->∃sl,h'.get? b=some { o with slots:=sl }
 free:∀b o,h.get? b=some o->H b=none->b ∉ ex->H' b=none
 there:∀b o,h.get? b=some o->b ∉ ex->∃o',h'.get? b=some o'
 tups:∀b xs,H b=some (.tup xs)->H' b=some (.tup xs)
 frzs:∀b o u,H b=some (.frz o u)->H' b=some (.frz o u)
 tbls:∀b ps,H b=some (.tbl ps)->∃more,H' b=some (.tbl (ps++more))
 sy:H sysModules=none->H' sysModules=none
section
variable{fs fs' ex ex':List Addr}{H H1 H2:Hp}{h h1 h2 h':Heap}{a x e:Addr}{o:HO}
theorem Un.any(u:Un fs ex H H1 h h1){b:Addr}{ob:Obj}(q:h.get? b=some ob)(n:H b=none)(hx:b ∉ ex):∃sl,h1.get? b=some { ob with slots:=sl }:=by
 by_cases hb:b∈fs
 .exact u.slot b ob q n hb hx
 .exact⟨ob.slots,u.keep b ob q n hb hx⟩
theorem Un.kept(k:∀b u,h.get? b=some u->h'.get? b=some u):Un fs ex H H h h' :=
 ⟨fun b ob q _ _ _=>k b ob q,fun b ob q _ _ _=>⟨ob.slots,k b ob q⟩,fun _ _ _ n _=>n,fun b ob q _=>⟨ob,k b ob q⟩,fun _ _ q=>q,fun _ _ _ q=>q,fun _ ps q=>⟨#[],by rw[q];simp⟩,id⟩
theorem Un.refl:Un fs ex H H h h:=Un.kept fun _ _ q=>q
theorem Un.laid(k:∀b u,h.get? b=some u->h'.get? b=some u)(hp:h.objs.size<=a)(hn:H a=none)(hsy:sysModules≠a):Un fs ex H (upd H a o) h h' where
 sy:=fun n=>by rw[Bu hsy];exact n
 keep:=fun b u q _ _ _=>k b u q
 slot:=fun b u q _ _ _=>⟨u.slots,k b u q⟩
 free:=fun b u q n _=>by rw[Bu (U0z (U0v (U0p q) hp))];exact n
 there:=fun b u q _=>⟨u,k b u q⟩
 tups:=fun b xs q=>by rw[Bu (Du q hn)];exact q
 frzs:=fun b u xs q=>by rw[Bu (Du q hn)];exact q
 tbls:=fun b ps q=>⟨#[],by rw[Bu (Du q hn),q];simp⟩
theorem Un.write(mu:Mut (H x))(he:e=x∨H e=some (.own x))(k:∀b u,b≠e->h.get? b=some u->h'.get? b=some u)(heo:∃u,h'.get? e=some u):Un fs ex H (upd H x o) h h':=by
 have hx:∀b,H b=none->b≠x:=fun b n z=>by subst z;rw[n] at mu;exact mu
 have hb:∀b,H b=none->b≠e:=fun b n z=>by
  subst z
  rcases he with r|r
  .exact hx b n r
  .rw[n] at r;cases r
 have hm:∀b u,H b=some u->¬Mut (some u)->b≠x:=fun b u q nm z=>by subst z;rw[q] at mu;exact nm mu
 refine⟨fun b u q n _ _=>k b u (hb b n) q,fun b u q n _ _=>⟨u.slots,k b u (hb b n) q⟩,fun b u q n _=>by rw[Bu (hx b n)];exact n,fun b u q _=>?_,
  fun b xs q=>by rw[Bu (hm b _ q fun z=>z)];exact q,fun b u xs q=>by rw[Bu (hm b _ q fun z=>z)];exact q,fun b ps q=>⟨#[],by rw[Bu (hm b _ q fun z=>z),q];simp⟩,fun n=>by rw[Bu (hx _ n)];exact n⟩
 by_cases hbe:b=e
 .subst hbe;exact heo
 .exact⟨u,k b u hbe q⟩
end
def trk(h:Heap)(H:Hp):List Addr:=(U0h h.objs.size).filter fun a=>(H a).isSome
def QT(h:Heap)(H:Hp):Heap:=PySem.W.hideAll h (trk h H)
theorem iU(h:Heap)(H:Hp):(QT h H).objs.size=h.objs.size:=PySem.W.hideAll_size _ _
theorem m9{h:Heap}{H:Hp}{b:Addr}{o:Obj}(e:h.get? b=some o)(n:H b=none):(QT h H).get? b=some o :=
 PySem.W.hideAll_get _ e fun hm=>by
  have q:(H b).isSome=true:=(U3k.mp hm).2
  rw[n] at q;simp at q
theorem pR{h:Heap}{H:Hp}{b:Addr}{o:Obj}(e:(QT h H).get? b=some o):h.get? b=some o/\H b=none:=by
 have e':h.get? b=some o:=PySem.W.of_hideAll (trk h H) e
 refine⟨e',?_⟩
 cases q:H b with
 |none=>rfl
 |some x =>
  have hm:b∈trk h H:=U3k.mpr ⟨U1n.mpr (U0p e'),by simp[q]⟩
  have z:(QT h H).get? b=none:=PySem.W.hideAll_none (trk h H) hm
  rw[z] at e;cases e
def rH(g h:Heap)(L:Addr):List (Addr×Obj):=(U0h h.objs.size).filterMap fun a=>if a=L∨(g.get? a).isSome=true then none else (h.get? a).map fun o=>(a,o)
def rest(g h:Heap)(L d:Addr):List (Addr×Obj):=(rH g h L).filter fun p=>decide (p.1≠d)
end L2
namespace L2
open PySem PySem.Spec PyProof.Rows
structure Mod(K:U0a)(mg:Str->Option Value)(base:Heap):Prop where
 kin:K.In base
 glob:base.Ns mainGlobals mg
 blt:∃mb,base.Ns builtinsNs mb/\∀x:Str,x≠"__name__"->mb x=bootBuiltins x
 nolimit:base.NoLimit
/-- the context: a def's body (or a comprehension's block) running. base: fixed through the whole law; s₀, H₀: the entry; outer: the frames whose slots others may change (a def's callers); stack: all frames that run;
   ex: iterators that were made ahead of the entry and are walked here (a comprehension's); fn: the names whose cells were made at the entry (a def: all; a comprehension's block: its own); calm: not within an except suite; pn: pins that every state bears; xe: what is wanted of an exception that leaves the code -/
structure Cx where
 prog:Program
 w:World
 K:U0a
 mg:Str->Option Value
 base:Heap
 A:Around
 N:List Str
 s₀:Shared
 H₀:Hp
 env:Env
 outer:List Env
 stack:List Env
 ex:List Addr
 fn:Str->Bool
 calm:Bool
 pn:List (Addr×Obj)
 xe:Value->Shared->Prop
def frs(l:List Env):List Addr:=l.filterMap (·.frame)
abbrev Cx.fs(X:Cx):List Addr:=frs X.outer
def Vis(sc:Scope)(x:Str):Prop:=sc.names.lookup x=some .local∨sc.names.lookup x=some .cell∨sc.names.lookup x=some .free
def Loc(sc:Scope)(x:Str):Prop:=sc.names.lookup x=some .local∨sc.names.lookup x=some .cell
def Look(env:Env)(h:Heap)(m:Str->Option Value)(x:Str)(u:Value):Prop :=
 (env.kindOf x=some .local/\m x=some u)∨((env.kindOf x=some .cell∨env.kindOf x=some .free)/\∃c,env.cells.lookup x=some c/\h.IsCell c (some u))
structure Cx.Ok(X:Cx):Prop where
 mod:Mod X.K X.mg X.base
 kind:X.env.scope.kind=.function
 glob:X.env.globals=mainGlobals
 blt:X.env.builtins=builtinsNs
 above:X.s₀.heap.objs.size<=X.env.locals
 inj:∀x y c,X.env.cells.lookup x=some c->X.env.cells.lookup y=some c->x=y
 has:∀x,(X.env.kindOf x=some .cell∨X.env.kindOf x=some .free)->∃c,X.env.cells.lookup x=some c
 cab:∀x c,X.fn x=true->X.env.cells.lookup x=some c->X.s₀.heap.objs.size<=c
 hd:X.calm=true->X.A.handled=none
 frames:X.A.frames=some X.stack
 stk:X.stack=X.outer∨(X.stack=X.env::X.outer/\X.env.frame=some X.env.locals)
 exf:∀b∈X.ex,b≠X.env.locals/\∀x c,X.env.cells.lookup x=some c->c≠b
 bs:∀b o,X.base.get? b=some o->X.s₀.heap.get? b=some o/\X.H₀ b=none
 bsz:X.base.objs.size<=X.s₀.heap.objs.size
 noex:∀b o,X.base.get? b=some o->b ∉ X.ex
 exfs:∀b∈X.ex,b ∉ X.fs
 OJ:X.s₀.heap.FunFrames X.base X.outer
 frf:∀b∈X.fs,X.H₀ b=none
 sy:X.H₀ sysModules=none
structure Inv(X:Cx)(pins:List (Addr×Obj))(σ:List (Option V))(H:Hp)(s:Shared):Prop where
 ok:X.Ok
 os:s.os=X.s₀.os
 bare:AllBare s.gens
 base:Un X.fs X.ex X.H₀ H X.s₀.heap s.heap
 loc:∃m,s.heap.Ns X.env.locals m/\∀(i:Nat)(x:Str)(v:V),X.N[i]?=some x->σ[i]?=some (some v)->Vis X.env.scope x->∃u,RelV v u/\Look X.env s.heap m x u
 cell:∀x c,X.env.cells.lookup x=some c->∃v,s.heap.IsCell c v
 free:H X.env.locals=none
 freeC:∀x c,X.env.cells.lookup x=some c->H c=none
 pin:∀p∈X.pn++pins,s.heap.get? p.1=some p.2/\H p.1=none/\p.1≠X.env.locals/\p.1 ∉ X.fs/\∀v,p.2.data≠.cell v
 hok:HOk X.prog X.w H s.heap
 len:σ.length=X.N.length
section
variable{X:Cx}{pins:List (Addr×Obj)}{σ:List (Option V)}{H H':Hp}{s:Shared}{h':Heap}
theorem Cx.Ok.zM(ok:X.Ok){b:Addr}{o:Obj}(e:X.base.get? b=some o):b ∉ X.fs:=fun hb=>by
 have:=(ok.OJ.mem hb).1
 rw[e] at this;cases this
theorem Inv.bs(I:Inv X pins σ H s):∀b o,X.base.get? b=some o->s.heap.get? b=some o/\H b=none:=fun b o e =>
 ⟨I.base.keep b o (I.ok.bs b o e).1 (I.ok.bs b o e).2 (I.ok.zM e) (I.ok.noex b o e),I.base.free b o (I.ok.bs b o e).1 (I.ok.bs b o e).2 (I.ok.noex b o e)⟩
theorem Inv.bk(I:Inv X pins σ H s):∀b o,X.base.get? b=some o->s.heap.get? b=some o:=fun b o e=>(I.bs b o e).1
theorem Inv.mod(I:Inv X pins σ H s):Mod X.K X.mg X.base:=I.ok.mod
theorem Inv.kIn(I:Inv X pins σ H s):X.K.In s.heap:=I.ok.mod.kin.keeps I.bk
theorem Inv.fr(I:Inv X pins σ H s):∃m,Fr X.base X.env.locals s.heap m :=
 let ⟨m,hn,_⟩:=I.loc
 ⟨m,hn,I.bk,U06 I.ok.bsz I.ok.above⟩
theorem Inv.lt(I:Inv X pins σ H s):X.env.locals<s.heap.objs.size:=let ⟨_,hn,_⟩:=I.loc;hn.lt
theorem Inv.sz(I:Inv X pins σ H s):X.s₀.heap.objs.size<=s.heap.objs.size:=U06 I.ok.above (U2q I.lt)
theorem Inv.jC(I:Inv X pins σ H s){a:Addr}(h:s.heap.objs.size<=a):a ∉ X.fs:=fun hb=>by
 obtain⟨_,o,ho,_⟩:=I.ok.OJ.mem hb
 exact absurd (U0v (U0p ho) (U06 I.sz h)) (U30 _)
theorem Inv.cne(I:Inv X pins σ H s):∀x c,X.env.cells.lookup x=some c->c≠X.env.locals:=fun x c e z=>by
 obtain⟨v,o,ho,hd⟩:=I.cell x c e
 obtain⟨m,⟨o',es,ep,ho',hd',_⟩,_⟩:=I.loc
 rw[z,ho'] at ho;cases ho;rw[hd'] at hd;cases hd
theorem Inv.OJ(I:Inv X pins σ H s):s.heap.FunFrames X.base X.outer:=by
 have all:∀(l:List Env),(∀b∈frs l,b∈X.fs)->X.s₀.heap.FunFrames X.base l->s.heap.FunFrames X.base l:=by
  intro l
  induction l with
  |nil=>intro _ _;trivial
  |cons env r ih =>
   intro hs hl
   obtain⟨hk,⟨L,o,hf,hn,ho,hd⟩,hr⟩:=hl
   have hL:L∈X.fs:=hs L (by unfold frs;rw[U5h,hf];exact U0u)
   obtain⟨sl,e⟩:=I.base.slot L o ho (I.ok.frf L hL) hL fun z=>I.ok.exfs L z hL
   exact⟨hk,⟨L,_,hf,hn,e,hd⟩,ih (fun b hb=>hs b (by unfold frs;rw[U5h,hf];exact U0t _ hb)) hr⟩
 exact all X.outer (fun _ hb=>hb) I.ok.OJ
theorem Inv.stack(I:Inv X pins σ H s):s.heap.FunFrames X.base X.stack:=by
 rcases I.ok.stk with e|⟨e,hf⟩
 .rw[e];exact I.OJ
 .rw[e]
  obtain⟨m,hn,_⟩:=I.loc
  refine .cons (by rw[I.ok.kind];decide) hf hn ?_ I.OJ
  exact Heap.get?_none_of_le (U06 I.ok.bsz I.ok.above)
theorem Inv.R6(I:Inv X pins σ H s):∀b∈frs X.stack,b∈X.env.locals::X.fs:=fun b hb=>by
 rcases I.ok.stk with e|⟨e,hf⟩
 .rw[e] at hb;exact U0t _ hb
 .rw[e] at hb
  unfold frs at hb
  rw[U5h,hf] at hb
  exact hb
theorem Inv.aQ(I:Inv X pins σ H s):∀b∈frs X.stack,H b=none:=fun b hb=>by
 rcases U0q.mp (I.R6 b hb) with e|hb
 .rw[e];exact I.free
 .obtain⟨_,o,ho,_⟩:=I.ok.OJ.mem hb
  exact I.base.free b o ho (I.ok.frf b hb) fun z=>I.ok.exfs b z hb
theorem Inv.bZ(I:Inv X pins σ H s):sysModules<s.heap.objs.size:=by
 obtain⟨o,_,_,e,_⟩:=I.ok.mod.glob
 exact U20 (by decide:(1:Nat)<3) (U0p (I.bk _ _ e))
theorem Inv.T6(I:Inv X pins σ H s):H sysModules=none:=I.base.sy I.ok.sy
theorem Inv.step{g':Array GenState}{t':Nat}{d':Drawn}{ch:List Addr}(I:Inv X pins σ H s)
  (hch:∀b∈ch,(b∈X.ex∨X.s₀.heap.objs.size<=b)/\b≠X.env.locals/\(∀x c,X.env.cells.lookup x=some c->c≠b)/\∀p∈X.pn++pins,p.1≠b)
  (keep:∀b o,b≠X.env.locals->b ∉ X.fs->b ∉ ch->s.heap.get? b=some o->H b=none->h'.get? b=some o)
  (slot:∀b o,b≠X.env.locals->b∈X.fs->b ∉ ch->s.heap.get? b=some o->H b=none->∃sl,h'.get? b=some { o with slots:=sl }) (free:∀b o,b ∉ ch->s.heap.get? b=some o->H b=none->H' b=none)
  (there:∀b o,b ∉ ch->s.heap.get? b=some o->∃o',h'.get? b=some o')
  (tups:∀b xs,H b=some (.tup xs)->H' b=some (.tup xs)) (frzs:∀b o u,H b=some (.frz o u)->H' b=some (.frz o u)) (tbls:∀b ps,H b=some (.tbl ps)->∃more,H' b=some (.tbl (ps++more)))
  (ns:∀m,s.heap.Ns X.env.locals m->h'.Ns X.env.locals m) (hok:HOk X.prog X.w H' h') (hg:AllBare g') (sy:H sysModules=none->H' sysModules=none) :
  Inv X pins σ H' { s with heap:=h',gens:=g',drawn:=d',toks:=t' }:=by
 have neL:∀b o,X.s₀.heap.get? b=some o->b≠X.env.locals:=fun b o e=>U0z (U0v (U0p e) I.ok.above)
 have neC:∀b o,X.s₀.heap.get? b=some o->b ∉ X.ex->b ∉ ch:=fun b o e hx hb=>by
  rcases(hch b hb).1 with z|z
  .exact hx z
  .exact absurd (U0v (U0p e) z) (U30 _)
 have cellK:∀x c,X.env.cells.lookup x=some c->∀v,s.heap.IsCell c v->h'.IsCell c v:=fun x c e v ⟨o,ho,hd⟩=>by
  have nch:c ∉ ch:=fun z=>(hch c z).2.2.1 x c e rfl
  by_cases hc:c∈X.fs
  .obtain⟨sl,q⟩:=slot c o (I.cne x c e) hc nch ho (I.freeC x c e)
   exact⟨_,q,hd⟩
  .exact⟨o,keep c o (I.cne x c e) hc nch ho (I.freeC x c e),hd⟩
 refine⟨I.ok,I.os,hg,⟨fun b o e n hb hx=>?_,fun b o e n hb hx=>?_,fun b o e n hx=>?_,fun b o e hx=>?_,fun b xs e=>tups b xs (I.base.tups b xs e),fun b o xs e=>frzs b o xs (I.base.frzs b o xs e),fun b ps e=>?_,fun n=>sy (I.base.sy n)⟩,?_,fun x c e=>?_,?_,fun x c e=>?_,fun p hp=>?_,hok,I.len⟩
 .exact keep b o (neL b o e) hb (neC b o e hx) (I.base.keep b o e n hb hx) (I.base.free b o e n hx)
 .obtain⟨sl,e1⟩:=I.base.slot b o e n hb hx
  obtain⟨sl',e2⟩:=slot b _ (neL b o e) hb (neC b o e hx) e1 (I.base.free b o e n hx)
  exact⟨sl',e2⟩
 .obtain⟨o',e1⟩:=I.base.there b o e hx
  exact free b o' (neC b o e hx) e1 (I.base.free b o e n hx)
 .obtain⟨o',e1⟩:=I.base.there b o e hx
  exact there b o' (neC b o e hx) e1
 .obtain⟨m1,e1⟩:=I.base.tbls b ps e
  obtain⟨m2,e2⟩:=tbls b _ e1
  exact⟨m1++m2,by rw[e2,Array.append_assoc]⟩
 .obtain⟨m,hn,hl⟩:=I.loc
  refine⟨m,ns m hn,fun i x v e1 e2 e3=>?_⟩
  obtain⟨u,r,l⟩:=hl i x v e1 e2 e3
  refine⟨u,r,?_⟩
  rcases l with l|⟨k,c,e,z⟩
  .exact .inl l
  .exact .inr ⟨k,c,e,cellK x c e _ z⟩
 .obtain⟨v,z⟩:=I.cell x c e
  exact⟨v,cellK x c e v z⟩
 .obtain⟨m,⟨o,_,_,ho,_⟩,_⟩:=I.loc
  exact free _ o (fun z=>(hch _ z).2.1 rfl) ho I.free
 .obtain⟨v,o,ho,hd⟩:=I.cell x c e
  exact free c o (fun z=>(hch c z).2.2.1 x c e rfl) ho (I.freeC x c e)
 .obtain⟨e,n,ne,nf,d⟩:=I.pin p hp
  have nch:p.1 ∉ ch:=fun z=>(hch p.1 z).2.2.2 p hp rfl
  exact⟨keep p.1 p.2 ne nf nch e n,free p.1 p.2 nch e n,ne,nf,d⟩
theorem Inv.un{t':Nat}(I:Inv X pins σ H s)(u:Un X.fs [] H H' s.heap h')(hok:HOk X.prog X.w H' h'):Inv X pins σ H' { s with heap:=h',toks:=t' }:=by
 obtain⟨m,⟨o,es,ep,ho,r⟩,_⟩:=id I.loc
 obtain⟨sl,hL⟩:=u.any ho I.free (by simp)
 exact I.step (g':=s.gens) (d':=s.drawn) (ch:=[]) (fun _ z=>nomatch z) (fun b o _ hb _ e n=>u.keep b o e n hb (by simp)) (fun b o _ hb _ e n=>u.slot b o e n hb (by simp)) (fun b o _ e n=>u.free b o e n (by simp)) (fun b o _ e=>u.there b o e (by simp)) u.tups u.frzs u.tbls (fun m' hm=>by
  obtain⟨o',es',ep',ho',r'⟩:=hm
  rw[ho] at ho';cases ho'
  exact⟨_,es',ep',hL,r'⟩) hok I.bare u.sy
theorem Inv.call{g':Array GenState}{t':Nat}{d':Drawn}{ch:List Addr}(I:Inv X pins σ H s)(u:Un (frs X.stack) ch H H' s.heap h')(hok:HOk X.prog X.w H' h')(hg:AllBare g')
  (hch:∀b∈ch,(b∈X.ex∨X.s₀.heap.objs.size<=b)/\b≠X.env.locals/\(∀x c,X.env.cells.lookup x=some c->c≠b)/\∀p∈X.pn++pins,p.1≠b) :
  Inv X pins σ H' { s with heap:=h',gens:=g',drawn:=d',toks:=t' }:=by
 obtain⟨m,⟨o,es,ep,ho,r⟩,_⟩:=id I.loc
 obtain⟨sl,hL⟩:=u.any ho I.free fun z=>(hch _ z).2.1 rfl
 exact I.step (ch:=ch) hch (fun b o hL hb hc e n=>u.keep b o e n (fun z=>(U0q.mp (I.R6 b z)).elim hL hb) hc) (fun b o _ _ hc e n=>u.any e n hc) (fun b o hc e n=>u.free b o e n hc) (fun b o hc e=>u.there b o e hc) u.tups u.frzs u.tbls (fun m' hm=>by
  obtain⟨o',es',ep',ho',r'⟩:=hm
  rw[ho] at ho';cases ho'
  exact⟨_,es',ep',hL,r'⟩) hok hg u.sy
theorem Inv.turned{t':Nat}{it:Addr}(I:Inv X pins σ H s)(k:∀b o,b≠it->s.heap.get? b=some o->h'.get? b=some o)(hn:H it=none)(hL:it≠X.env.locals)
  (h1:it∈X.ex∨X.s₀.heap.objs.size<=it) (h2:∀x c,X.env.cells.lookup x=some c->c≠it) (h3:∀p∈X.pn++pins,p.1≠it):Inv X pins σ H { s with heap:=h',toks:=t' }:=by
 have nit:∀b u,H b=some u->b≠it:=fun b u e z=>by rw[z,hn] at e;cases e
 refine I.step (g':=s.gens) (d':=s.drawn) (ch:=[it]) (fun b hb=>?_) (fun b o _ _ hc e _=>k b o (fun z=>hc (by simp[z])) e) (fun b o _ _ hc e _=>⟨o.slots,k b o (fun z=>hc (by simp[z])) e⟩) (fun _ _ _ _ n=>n)
  (fun b o hc e=>⟨o,k b o (fun z=>hc (by simp[z])) e⟩) (fun _ _ e=>e) (fun _ _ _ e=>e) (fun b ps e=>⟨#[],by rw[e];simp⟩) (fun m hm=>?_) (fun b u e=>?_) I.bare id
 .have e:b=it:=by simpa using hb
  subst e
  exact⟨h1,hL,h2,h3⟩
 .obtain⟨o,es,ep,ho,r⟩:=hm
  exact⟨o,es,ep,k _ o (U1w hL) ho,r⟩
 .refine(I.hok b u e).stay (fun c v hc q=>k c v ?_ q) (fun _ q=>q) fun _ _ q=>q
  rcases hc with z|z
  .rw[z];exact nit b u e
  .exact nit c _ z
theorem Inv.tok(I:Inv X pins σ H s)(t:Nat):Inv X pins σ H { s with toks:=t }:=I.un (h':=s.heap) (t':=t) Un.refl I.hok
theorem Inv.kept{t':Nat}(I:Inv X pins σ H s)(k:∀b u,s.heap.get? b=some u->h'.get? b=some u):Inv X pins σ H { s with heap:=h',toks:=t' }:=I.un (Un.kept k) (I.hok.kept k)
theorem Inv.laid{a:Addr}{o:HO}{t':Nat}(I:Inv X pins σ H s)(k:∀b u,s.heap.get? b=some u->h'.get? b=some u)(hp:s.heap.objs.size<=a)(new:Ei X.prog X.w (upd H a o) h' a o) :
  Inv X pins σ (upd H a o) { s with heap:=h',toks:=t' }:=I.un (Un.laid k hp (I.hok.fresh hp) (U0z (U0v I.bZ hp))) (I.hok.laid k hp new)
theorem Inv.write{x e:Addr}{o:HO}{t':Nat}(I:Inv X pins σ H s)(mu:Mut (H x))(he:e=x∨H e=some (.own x))(k:∀b u,b≠e->s.heap.get? b=some u->h'.get? b=some u)(heo:∃u,h'.get? e=some u)
  (new:Ei X.prog X.w (upd H x o) h' x o):Inv X pins σ (upd H x o) { s with heap:=h',toks:=t' }:=I.un (Un.write mu he k heo) (I.hok.write mu he k heo new)
theorem Inv.weak{σ':List (Option V)}(I:Inv X pins σ H s)(hl:σ'.length=σ.length)(w:∀(i:Nat) v,σ'[i]?=some (some v)->σ[i]?=some (some v)):Inv X pins σ' H s :=
 ⟨I.ok,I.os,I.bare,I.base,let ⟨m,hn,hl'⟩:=I.loc;⟨m,hn,fun i x v e1 e2 e3=>hl' i x v e1 (w i v e2) e3⟩,I.cell,I.free,I.freeC,I.pin,I.hok,hl.trans I.len⟩
theorem Inv.Ro{pins':List (Addr×Obj)}(I:Inv X pins σ H s)(h:∀p∈pins',s.heap.get? p.1=some p.2/\H p.1=none/\p.1≠X.env.locals/\p.1 ∉ X.fs/\∀v,p.2.data≠.cell v):Inv X pins' σ H s :=
 ⟨I.ok,I.os,I.bare,I.base,I.loc,I.cell,I.free,I.freeC,fun p hp=>(U1k.mp hp).elim (fun z=>I.pin p (U3g _ z)) (h p),I.hok,I.len⟩
theorem YX{N:List Str}(hN:N.Nodup){i j:Nat}{x:Str}(a:N[i]?=some x)(b:N[j]?=some x):i=j:=by
 obtain⟨h1,e1⟩:=U0l.mp a
 obtain⟨h2,e2⟩:=U0l.mp b
 exact(List.getElem_inj hN).mp (e1.trans e2.symm)
theorem W6{M:Model}{A:Around}{E:Value->Shared->Prop}{i:Nat}{x:Str}{v:V}{u:Value}{Q:Unit->Shared->Prop}(I:Inv X pins σ H s)(hN:X.N.Nodup)(hi:X.N[i]?=some x)(hx:Loc X.env.scope x)(r:RelV v u)
  (h:∀s',Inv X pins (σ.set i (some v)) H s'->(∃a,U07 a s.heap s'.heap/\(a=X.env.locals∨X.env.cells.lookup x=some a))->Q () s') (hf:X.fn x=true∨X.env.scope.names.lookup x=some .local:=by first|exact .inl rfl|exact .inr rfl|assumption):wpAny M A (storeName X.env x u) Q E s:=by
 obtain⟨m,hn,hl⟩:=id I.loc
 have hcls:(X.env.scope.kind==.class||(X.env.scope.kind==.module&&X.env.locals != X.env.globals))=false:=by rw[I.ok.kind];rfl
 have hiσ:i<σ.length:=by rw[I.len];exact(U0l.mp hi).1
 have cne:=I.cne
 have tracked:∀{a:Addr} {h':Heap},(∃o,s.heap.get? a=some o/\H a=none)->U07 a s.heap h'->HOk X.prog X.w H h':=fun {a h'} ha hs b ob e=>by
  obtain⟨_,_,hfree⟩:=ha
  refine(I.hok b ob e).stay (fun c w' hc q=>(hs.2 c ?_).trans q) (fun _ q=>q) fun _ _ q=>q
  rintro rfl
  rcases hc with rfl|hc
  .rw[hfree] at e;cases e
  .rw[hfree] at hc;cases hc
 rcases hx with hk|hk
 .refine wpAny_storeName_local hk hn (fun h' hn' hs=>?_) hcls
  obtain⟨oL,_,_,hoL,_⟩:=id hn
  refine h _ ⟨I.ok,I.os,I.bare,⟨fun b o e n hb hx=>?_,fun b o e n hb hx=>?_,I.base.free,fun b o e hx=>?_,I.base.tups,I.base.frzs,I.base.tbls,I.base.sy⟩,⟨_,hn',fun j y v' e1 e2 e3=>?_⟩,fun y c e=>?_,I.free,I.freeC,fun p hp=>?_,tracked ⟨oL,hoL,I.free⟩ hs,by simpa using I.len⟩ ⟨_,hs,.inl rfl⟩
  .exact(hs.2 b (U0z (U0v (U0p e) I.ok.above))).trans (I.base.keep b o e n hb hx)
  .obtain⟨sl,e1⟩:=I.base.slot b o e n hb hx
   exact⟨sl,(hs.2 b (U0z (U0v (U0p e) I.ok.above))).trans e1⟩
  .obtain⟨o',e1⟩:=I.base.there b o e hx
   exact⟨o',(hs.2 b (U0z (U0v (U0p e) I.ok.above))).trans e1⟩
  .by_cases hj:j=i
   .subst hj
    rw[hi] at e1;cases e1
    rw[U22 hiσ] at e2
    cases e2
    exact⟨u,r,.inl ⟨hk,by simp⟩⟩
   .rw[U21 (U1w hj)] at e2
    obtain⟨u',r',q⟩:=hl j y v' e1 e2 e3
    refine⟨u',r',?_⟩
    rcases q with ⟨k,e⟩|⟨k,c,e,z⟩
    .refine .inl ⟨k,?_⟩
     have:y≠x:=fun e=>hj (YX hN e1 (e ▸ hi))
     simp[this,e]
    .exact .inr ⟨k,c,e,z.sameBut hs (cne y c e)⟩
  .obtain⟨w',z⟩:=I.cell y c e
   exact⟨w',z.sameBut hs (cne y c e)⟩
  .obtain⟨e,n,ne,nf,d⟩:=I.pin p hp
   exact⟨(hs.2 p.1 ne).trans e,n,ne,nf,d⟩
 .have hfn:X.fn x=true:=by
   rcases hf with z|z
   .exact z
   .rw[z] at hk;cases hk
  obtain⟨c,hc⟩:=I.ok.has x (.inl hk)
  obtain⟨w',z⟩:=I.cell x c hc
  refine wpAny_storeName_cell I.ok.kind hk hc z (fun h' hc' hs=>?_)
  obtain⟨oc,hoc,hocd⟩:=id z
  refine h { s with heap:=h' } ⟨I.ok,I.os,I.bare,⟨fun b o e n hb hx=>?_,fun b o e n hb hx=>?_,I.base.free,fun b o e hx=>?_,I.base.tups,I.base.frzs,I.base.tbls,I.base.sy⟩,⟨m,hn.sameBut hs (U1w (cne x c hc)),fun j y v' e1 e2 e3=>?_⟩,fun y c' e=>?_,I.free,I.freeC,fun p hp=>?_,tracked ⟨oc,hoc,I.freeC x c hc⟩ hs,by simpa using I.len⟩ ⟨c,hs,.inr hc⟩
  .exact(hs.2 b (U0z (U0v (U0p e) (I.ok.cab x c hfn hc)))).trans (I.base.keep b o e n hb hx)
  .obtain⟨sl,e1⟩:=I.base.slot b o e n hb hx
   exact⟨sl,(hs.2 b (U0z (U0v (U0p e) (I.ok.cab x c hfn hc)))).trans e1⟩
  .obtain⟨o',e1⟩:=I.base.there b o e hx
   exact⟨o',(hs.2 b (U0z (U0v (U0p e) (I.ok.cab x c hfn hc)))).trans e1⟩
  .by_cases hj:j=i
   .subst hj
    rw[hi] at e1;cases e1
    rw[U22 hiσ] at e2
    cases e2
    exact⟨u,r,.inr ⟨.inl hk,c,hc,hc'⟩⟩
   .rw[U21 (U1w hj)] at e2
    obtain⟨u',r',q⟩:=hl j y v' e1 e2 e3
    refine⟨u',r',?_⟩
    rcases q with q|⟨k,c',e,z'⟩
    .exact .inl q
    .refine .inr ⟨k,c',e,z'.sameBut hs ?_⟩
     rintro rfl
     exact hj (YX hN e1 (I.ok.inj _ _ _ e hc ▸ hi))
  .by_cases hcc:c'=c
   .subst hcc;exact⟨_,hc'⟩
   .obtain⟨w2,z2⟩:=I.cell y c' e
    exact⟨w2,z2.sameBut hs hcc⟩
  .obtain⟨e,n,ne,nf,d⟩:=I.pin p hp
   refine⟨(hs.2 p.1 ?_).trans e,n,ne,nf,d⟩
   intro q
   rw[q,hoc] at e
   have q':oc=p.2:=U09 e
   exact d w' (by rw[←q'];exact hocd)
theorem QZ{M:Model}{A:Around}{E:Value->Shared->Prop}{i:Nat}{x:Str}{v:V}{u:Value}{Q:Unit->Shared->Prop}(I:Inv X pins σ H s)(hN:X.N.Nodup)(hi:X.N[i]?=some x)(hx:Loc X.env.scope x)(r:RelV v u)
  (h:∀s',Inv X pins (σ.set i (some v)) H s'->Q () s') (hf:X.fn x=true∨X.env.scope.names.lookup x=some .local:=by first|exact .inl rfl|exact .inr rfl|assumption):wpAny M A (storeName X.env x u) Q E s :=
 W6 I hN hi hx r (fun s' I' _=>h s' I') hf
theorem Inv.call'{s':Shared}{ch:List Addr}(I:Inv X pins σ H s)(ho:s'.os=s.os)(u:Un (frs X.stack) ch H H' s.heap s'.heap)(hok:HOk X.prog X.w H' s'.heap)(hg:AllBare s'.gens)
  (hch:∀b∈ch,(b∈X.ex∨X.s₀.heap.objs.size<=b)/\b≠X.env.locals/\(∀x c,X.env.cells.lookup x=some c->c≠b)/\∀p∈X.pn++pins,p.1≠b):Inv X pins σ H' s':=by
 obtain⟨h',g',d',t',o'⟩:=s'
 have e:o'=s.os:=ho
 subst e
 exact I.call (g':=g') (t':=t') (d':=d') u hok hg hch
end
abbrev XK:=Value->Option Addr->Hp->Prop
abbrev St:=List (Option V)
abbrev VK:=V->Hp->Prop
abbrev TE:=St->Hp->VK->Prop
abbrev TT:=St->Hp->(Bool->Hp->Prop)->Prop
abbrev TA:=St->Hp->(List V->Hp->Prop)->Prop
structure Ends where
 nx:St->Hp->Prop
 rt:VK
 bk:St->Hp->Prop:=fun _ _=>False
 ct:St->Hp->Prop:=fun _ _=>False
abbrev TS:=Ends->St->Hp->Prop
def EP(X:Cx)(pins:List (Addr×Obj))(σ:St)(Q:VK)(u:Value)(s':Shared):Prop:=∃v H',Inv X pins σ H' s'/\RelV v u/\Q v H'
def TP(X:Cx)(pins:List (Addr×Obj))(σ:St)(Q:Bool->Hp->Prop)(b:Bool)(s':Shared):Prop:=∃H',Inv X pins σ H' s'/\Q b H'
def AP(X:Cx)(pins:List (Addr×Obj))(σ:St)(Q:List V->Hp->Prop)(us:List Value)(s':Shared):Prop:=∃vs H',Inv X pins σ H' s'/\Vals vs us/\Q vs H'
def SP(X:Cx)(pins:List (Addr×Obj))(D:Ends)(f:Flow)(s':Shared):Prop :=
 match f with
 |.next=>∃σ' H',Inv X pins σ' H' s'/\D.nx σ' H'
 |.brk=>∃σ' H',Inv X pins σ' H' s'/\D.bk σ' H'
 |.cont=>∃σ' H',Inv X pins σ' H' s'/\D.ct σ' H'
 |.ret u=>∃v σ' H',Inv X pins σ' H' s'/\RelV v u/\D.rt v H'
def PE(X:Cx)(e:Expr)(t:TE):Prop :=
 ∀(pins:List (Addr×Obj))(s:Shared)(σ:St)(H:Hp)(Q:VK),Inv X pins σ H s->t σ H Q->wpAny (model X.prog X.w) X.A (eval e X.env) (EP X pins σ Q) X.xe s
def PT(X:Cx)(e:Expr)(t:TT):Prop :=
 ∀(pins:List (Addr×Obj))(s:Shared)(σ:St)(H:Hp)(Q:Bool->Hp->Prop),Inv X pins σ H s->t σ H Q->wpAny (model X.prog X.w) X.A (isTrue e X.env (eval e X.env)) (TP X pins σ Q) X.xe s
def PW(X:Cx)(e:Expr)(t:TT):Prop :=
 ∀(whole:Sem Value)(pins:List (Addr×Obj))(s:Shared)(σ:St)(H:Hp)(Q:Bool->Hp->Prop),Inv X pins σ H s->t σ H Q->wpAny (model X.prog X.w) X.A (isTrue e X.env whole) (TP X pins σ Q) X.xe s
theorem PW.pt{X:Cx}{e:Expr}{t:TT}(h:PW X e t):PT X e t:=h _
def PA(X:Cx)(es:List Expr)(t:TA):Prop :=
 ∀(pos:Pos)(pins:List (Addr×Obj))(s:Shared)(σ:St)(H:Hp)(Q:List V->Hp->Prop),Inv X pins σ H s->t σ H Q->wpAny (model X.prog X.w) X.A (spliced (backTo pos (starEach es X.env))) (AP X pins σ Q) X.xe s
def PS(X:Cx)(st:Stmt)(t:TS):Prop :=
 ∀(pins:List (Addr×Obj))(s:Shared)(σ:St)(H:Hp)(D:Ends),Inv X pins σ H s->t D σ H->wpAny (model X.prog X.w) X.A (exec st X.env) (SP X pins D) X.xe s
def PSs(X:Cx)(st:List Stmt)(t:TS):Prop :=
 ∀(pins:List (Addr×Obj))(s:Shared)(σ:St)(H:Hp)(D:Ends),Inv X pins σ H s->t D σ H->wpAny (model X.prog X.w) X.A (execs st X.env) (SP X pins D) X.xe s
theorem thn{α:Type}{t:Sem α}{Q Q':α->Shared->Prop}{M:Model}{A:Around}{E:Value->Shared->Prop}{s:Shared}(h:wpAny M A t Q E s)(hQ:∀a s,Q a s->Q' a s):wpAny M A t Q' E s:=U51 h hQ fun _ _ x=>x
end L2
namespace L2
open PySem PySem.Spec PyProof.Rows
section
variable{X:Cx}
theorem bin{a b:Expr}{ta tb:TE}(ha:PE X a ta)(hb:PE X b tb){pins:List (Addr×Obj)}{s:Shared}{σ:St}{H:Hp}{R:V->V->Hp->Prop}(I:Inv X pins σ H s)(h:ta σ H fun x H1=>tb σ H1 fun y H2=>R x y H2)
  {α:Type} {Q:α->Shared->Prop} {f:Value->Value->Sem α}
  (hf:∀v u s2 x y H2,Inv X pins σ H2 s2->RelV x v->RelV y u->R x y H2->wpAny (model X.prog X.w) X.A (f v u) Q X.xe s2) :
  wpAny (model X.prog X.w) X.A (eval a X.env) (fun v s₁=>wpAny (model X.prog X.w) X.A (eval b X.env) (fun u s₂=>wpAny (model X.prog X.w) X.A (f v u) Q X.xe s₂) X.xe s₁) X.xe s:=by
 refine thn (ha pins s σ H _ I h) fun v s1 ⟨x,H1,I1,r1,q1⟩=>?_
 refine thn (hb pins s1 σ H1 _ I1 q1) fun u s2 ⟨y,H2,I2,r2,q2⟩=>?_
 exact hf v u s2 x y H2 I2 r1 r2 q2
def yt(i:Nat):TE:=fun σ H Q=>∃v,σ[i]?=some (some v)/\Q v H
def tC(v:V):TE:=fun _ H Q=>Q v H
theorem uc{i:Nat}{x:Str}{pos:Pos}(hN:X.N[i]?=some x)(hv:Vis X.env.scope x)(hd:(x==("__debug__":Str))=false:=by decide)(hcd:(x==("__classdict__":Str))=false:=by decide):PE X (.Name x pos) (yt i):=by
 intro pins s σ H Q I h
 obtain⟨v,e,h⟩:=h
 obtain⟨m,hn,hl⟩:=I.loc
 obtain⟨u,r,l⟩:=hl i x v hN e hv
 have fin:EP X pins σ Q u s:=⟨v,H,I,r,h⟩
 rcases l with ⟨hk,hm⟩|⟨hk,c,hc,hcell⟩
 .exact wpAny_Name (wpAny_loadName_local I.ok.kind hk hn hm fin) hd
 .rcases hk with hk|hk
  .exact wpAny_Name (wpAny_loadName_cell I.ok.kind hk hc hcell fin) hd
  .exact wpAny_Name (wpAny_loadName_free I.ok.kind hk hc hcell fin hcd) hd
theorem Ue{i j pos}:PE X (.Constant (.int i) j pos) (tC (.int i)):=fun _ _ _ H _ I h=>wpAny_Constant_int ⟨.int i,H,I.tok _,⟨_,rfl⟩,h⟩
theorem xr{b j pos}:PE X (.Constant (.bool b) j pos) (tC (.bl b)):=fun _ _ _ H _ I h=>Constant_bool ⟨.bl b,H,I,rfl,h⟩
theorem uh{j pos}:PE X (.Constant .none j pos) (tC .non):=fun _ _ _ H _ I h=>Constant_none ⟨.non,H,I,rfl,h⟩
def Gl(X:Cx)(x:Str):Prop:=X.env.kindOf x=some .globalImplicit
theorem bA{E:Value->Shared->Prop}{pins:List (Addr×Obj)}{s:Shared}{σ:St}{H:Hp}{x:Str}{u:Value}{pos:Pos}{Q:Value->Shared->Prop}(I:Inv X pins σ H s)(hg:Gl X x)(hm:X.mg x=some u)(h:Q u s)
  (hd:(x==("__debug__":Str))=false:=by decide):wpAny (model X.prog X.w) X.A (eval (.Name x pos) X.env) Q E s :=
 Calls.Name_function_global I.ok.kind hg (Calls.loadGlobal_global (by rw[I.ok.glob];exact I.mod.glob.keeps I.bk) hm h) hd
theorem LQ{E:Value->Shared->Prop}{pins:List (Addr×Obj)}{s:Shared}{σ:St}{H:Hp}{x:Str}{u:Value}{pos:Pos}{Q:Value->Shared->Prop}(I:Inv X pins σ H s)(hg:Gl X x)(hm:X.mg x=none)(hv:bootBuiltins x=some u)(h:Q u s)
  (hn:x≠"__name__":=by decide) (hd:(x==("__debug__":Str))=false:=by decide):wpAny (model X.prog X.w) X.A (eval (.Name x pos) X.env) Q E s:=by
 obtain⟨mb,h1,h2⟩:=I.mod.blt
 exact Calls.Name_function_global I.ok.kind hg (Calls.loadGlobal_builtin (by rw[I.ok.glob];exact I.mod.glob.keeps I.bk) hm (by rw[I.ok.blt];exact h1.keeps I.bk) ((h2 x hn).trans hv) h) hd
theorem aj{x:Str}{v:V}{u:Value}{pos:Pos}(hg:Gl X x)(hm:X.mg x=some u)(r:RelV v u)(hd:(x==("__debug__":Str))=false:=by decide):PE X (.Name x pos) (tC v) :=
 fun _ _ _ H _ I h=>bA I hg hm ⟨v,H,I,r,h⟩ hd
theorem pN{x:Str}{v:V}{u:Value}{pos:Pos}(hg:Gl X x)(hm:X.mg x=none)(hv:bootBuiltins x=some u)(r:RelV v u)(hn:x≠"__name__":=by decide)(hd:(x==("__debug__":Str))=false:=by decide):PE X (.Name x pos) (tC v) :=
 fun _ _ _ H _ I h=>LQ I hg hm hv ⟨v,H,I,r,h⟩ hn hd
variable{a b:Expr}{ta tb:TE}{pos:Pos}
def PC(X:Cx)(op:CmpOp)(a b:Expr)(t:TE):Prop :=
 ∀(pins:List (Addr×Obj))(s:Shared)(σ:St)(H:Hp)(Q:VK),Inv X pins σ H s->t σ H Q ->
  wpAny (model X.prog X.w) X.A (eval a X.env) (fun v s₁=>wpAny (model X.prog X.w) X.A (eval b X.env) (fun u s₂=>wpAny (model X.prog X.w) X.A (compareOp op v u) (EP X pins σ Q) X.xe s₂) X.xe s₁) X.xe s
theorem lB(b:Expr){op:CmpOp}(h:op≠.In)(h2:op≠.NotIn):behindInMarks op b=false:=by
 have e1:(op==CmpOp.In)=false:=by cases op<;>first|rfl|exact absurd rfl h
 have e2:(op==CmpOp.NotIn)=false:=by cases op<;>first|rfl|exact absurd rfl h2
 cases b<;>simp[behindInMarks,e1,e2]
def tB(t:TE):TT:=fun σ H Q=>t σ H fun x H1=>∃c,x=.bl c/\Q c H1
theorem Jae{op:CmpOp}{t:TE}(h:PC X op a b t)(h1:behindInMarks op b=false:=by first|exact lB _ (by decide) (by decide)|rfl):PT X (.Compare a [op] [b] pos) (tB t):=by
 intro pins s σ H Q I hw
 refine wpAny_isTrue_Compare1 (thn (h pins s σ H _ I hw) fun v s1 h1=>thn h1 fun u s2 h2=>thn h2 fun c s3 ⟨x,H1,I1,r1,q1⟩=>?_) h1
 obtain⟨d,rfl,q⟩:=q1
 cases r1
 exact U3j ⟨H1,I1,q⟩
theorem uP{e:Expr}{t:TE}(h:PE X e t)(he:∀whole,isTrue e X.env whole=(do let v ←whole;standAt e.pos;holding [v] (truthy v)):=by intro _;rfl):PT X e (tB t):=by
 intro pins s σ H Q I hw
 refine isTrue_plain (thn (h pins s σ H _ I hw) fun v s1 ⟨x,H1,I1,r1,q1⟩=>?_) (he _)
 obtain⟨d,rfl,q⟩:=q1
 cases r1
 exact U3j ⟨H1,I1,q⟩
variable{tA tB':TT}{rest:List Expr}
def G4(t u:TT):TT:=fun σ H Q=>t σ H fun c H1=>if c=true then u σ H1 Q else Q false H1
def tOr(t u:TT):TT:=fun σ H Q=>t σ H fun c H1=>if c=true then Q true H1 else u σ H1 Q
def JR(t:TT):TT:=fun σ H Q=>t σ H fun c H1=>Q (!c) H1
theorem oW(ha:PT X a tA):PW X (.BoolOp .And [a] pos) tA:=by
 intro wh pins s σ H Q I h
 refine isTrue_and (thn (ha pins s σ H Q I h) fun c s1 e=>?_)
 cases c with
 |true=>exact isTrue_and_nil e
 |false=>exact e
theorem uN(ha:PT X a tA):PW X (.BoolOp .Or [a] pos) tA:=by
 intro wh pins s σ H Q I h
 refine isTrue_or (thn (ha pins s σ H Q I h) fun c s1 e=>?_)
 cases c with
 |false=>exact isTrue_or_nil e
 |true=>exact e
theorem uO(ha:PT X a tA)(hb:PW X (.BoolOp .And (b::rest) pos) tB'):PW X (.BoolOp .And (a::b::rest) pos) (G4 tA tB'):=by
 intro wh pins s σ H Q I h
 refine isTrue_and (thn (ha pins s σ H _ I h) fun c s1 ⟨H1,I1,q1⟩=>?_)
 cases c with
 |true=>exact hb wh pins s1 σ H1 Q I1 q1
 |false=>exact⟨H1,I1,q1⟩
theorem xW(ha:PT X a tA)(hb:PW X (.BoolOp .Or (b::rest) pos) tB'):PW X (.BoolOp .Or (a::b::rest) pos) (tOr tA tB'):=by
 intro wh pins s σ H Q I h
 refine isTrue_or (thn (ha pins s σ H _ I h) fun c s1 ⟨H1,I1,q1⟩=>?_)
 cases c with
 |true=>exact⟨H1,I1,q1⟩
 |false=>exact hb wh pins s1 σ H1 Q I1 q1
theorem uQ(ha:PT X a tA):PT X (.UnaryOp .Not a pos) (JR tA):=by
 intro pins s σ H Q I h
 exact isTrue_not (ha pins s σ H (fun c H1=>Q (!c) H1) I h)
def xP(ta tb:TE):TE:=fun σ H Q=>ta σ H fun x H1=>∃c,x=.bl c/\if c=true then tb σ H1 Q else Q (.bl false) H1
def xK(ta:TE):TE:=fun σ H Q=>ta σ H fun x H1=>∃c,x=.bl c/\Q (.bl (!c)) H1
theorem uf{op}{t:TE}(h:PE X a t):PE X (.BoolOp op [a] pos) t:=fun pins s σ H Q I hw=>BoolOp_one (h pins s σ H Q I hw)
theorem uo(ha:PE X a ta)(hb:PE X (.BoolOp .And (b::rest) pos) tb):PE X (.BoolOp .And (a::b::rest) pos) (xP ta tb):=by
 intro pins s σ H Q I h
 refine BoolOp_and (thn (ha pins s σ H _ I h) fun v s1 ⟨x,H1,I1,r1,q1⟩=>?_)
 obtain⟨c,rfl,q1⟩:=q1
 cases r1
 refine U3j ?_
 cases c with
 |true=>exact hb pins s1 σ H1 Q I1 q1
 |false=>exact⟨.bl false,H1,I1,rfl,q1⟩
theorem ug(ha:PE X a ta):PE X (.UnaryOp .Not a pos) (xK ta):=by
 intro pins s σ H Q I h
 refine UnaryOp_ (thn (ha pins s σ H _ I h) fun v s1 ⟨x,H1,I1,r1,q1⟩=>?_)
 obtain⟨c,rfl,q1⟩:=q1
 cases r1
 exact not_of (U3j ⟨.bl (!c),H1,I1,rfl,q1⟩)
end
end L2
namespace L2
open PySem PySem.Spec PyProof.Rows
def SqL(K:U0a)(H:Hp)(a:Addr)(xs:List V):Prop :=
 Rd H a (.lst xs) ∨
  ∃(o:Obj)(its:Array Value)(n:Nat),K.lookup a=some o/\o.cls=.type "list"/\o.dict=none/\o.data=.seq its n/\its.size<=sizeLine/\Vals xs its.toList
def SqT(K:U0a)(H:Hp)(a:Addr)(xs:List V):Prop :=
 Rd H a (.tup xs) ∨
  ∃(o:Obj)(its:Array Value)(n:Nat),K.lookup a=some o/\o.cls=.type "tuple"/\o.data=.seq its n/\its.size<=sizeLine/\Vals xs its.toList
def zT:Value->Option V
 |.none=>some .non
 |.bool b=>some (.bl b)
 |.int i _=>some (.int i)
 |.str x _=>some (.str x)
 |.bytes b _=>some (.byt b)
 |.float b _=>some (.flt b)
 |.ref a=>some (.ref a)
 |.type n=>some (.ty n)
 |_=>none
theorem RelV.abs{x:V}{u:Value}(r:RelV x u):zT u=some x:=by
 cases x with
 |non=>cases r;rfl
 |bl _=>cases r;rfl
 |int _=>obtain⟨t,rfl⟩:=r;rfl
 |str _=>obtain⟨t,rfl⟩:=r;rfl
 |byt _=>obtain⟨t,rfl⟩:=r;rfl
 |flt _=>obtain⟨t,rfl⟩:=r;rfl
 |ref _=>cases r;rfl
 |ty _=>cases r;rfl
theorem RelV.inj{x y:V}{u:Value}(r:RelV x u)(q:RelV y u):x=y:=U09 (r.abs.symm.trans q.abs)
theorem Vals.inj:∀{xs ys:List V} {us:List Value},Vals xs us->Vals ys us->xs=ys
 |_,_,_,.nil,.nil=>rfl
 |_,_,_,.cons r t,.cons r' t'=>by rw[r.inj r',Vals.inj t t']
section
variable{X:Cx}{pins:List (Addr×Obj)}{σ:St}{H:Hp}{s:Shared}{a:Addr}{xs ys:List V}
theorem SqL.of{K:U0a}(h:H a=some (.lst xs)):SqL K H a xs:=.inl (.inl h)
theorem SqT.of{K:U0a}(h:H a=some (.tup xs)):SqT K H a xs:=.inl (.inl h)
theorem Inv.list(I:Inv X pins σ H s)(h:SqL X.K H a xs):∃its:List Value,Vals xs its/\PlainL s.heap a its.toArray/\xs.length<=sizeLine:=by
 rcases h with h|⟨o,its,n,hk,hc,hd,hs,hz,r⟩
 .obtain⟨z,its,n,r,e⟩:=h.ok I.hok
  exact⟨its,r,⟨_,n,e,rfl,rfl,rfl⟩,z⟩
 .refine⟨its.toList,r,⟨o,n,I.kIn a o hk,hc,hd,by simpa using hs⟩,?_⟩
  have e:=r.length
  simp only[U1q] at e
  omega
theorem Inv.tuple(I:Inv X pins σ H s)(h:SqT X.K H a xs):∃its:List Value,Vals xs its/\IsTup s.heap a its.toArray/\xs.length<=sizeLine:=by
 rcases h with h|⟨o,its,n,hk,hc,hs,hz,r⟩
 .obtain⟨z,its,r,p⟩:=h.ok I.hok
  exact⟨its,r,p,z⟩
 .refine⟨its.toList,r,⟨o,I.kIn a o hk,hc,n,by simpa using hs⟩,?_⟩
  have e:=r.length
  simp only[U1q] at e
  omega
theorem Inv.Yc(I:Inv X pins σ H s)(h:SqL X.K H a xs)(h':SqL X.K H a ys):xs=ys:=by
 obtain⟨its,r,⟨o,n,e,_,_,d⟩,_⟩:=I.list h
 obtain⟨its',r',⟨o',n',e',_,_,d'⟩,_⟩:=I.list h'
 rw[e] at e';cases e'
 rw[d] at d'
 injection d' with d1 _
 have:its=its':=by simpa using congrArg Array.toList d1
 subst this
 exact r.inj r'
theorem Inv.fV(I:Inv X pins σ H s)(h:SqT X.K H a xs)(h':SqT X.K H a ys):xs=ys:=by
 obtain⟨its,r,⟨o,e,_,n,d⟩,_⟩:=I.tuple h
 obtain⟨its',r',⟨o',e',_,n',d'⟩,_⟩:=I.tuple h'
 rw[e] at e';cases e'
 rw[d] at d'
 injection d' with d1 _
 have:its=its':=by simpa using congrArg Array.toList d1
 subst this
 exact r.inj r'
end
abbrev Cx.wish(X:Cx)(E:Value->Shared->Prop):Cx:={ X with xe:=E }
abbrev Cx.nox(X:Cx):Cx:=X.wish fun _ _=>False
theorem Cx.Ok.wish{X:Cx}(ok:X.Ok)(E:Value->Shared->Prop):(X.wish E).Ok :=
 ⟨ok.mod,ok.kind,ok.glob,ok.blt,ok.above,ok.inj,ok.has,ok.cab,ok.hd,ok.frames,ok.stk,ok.exf,ok.bs,ok.bsz,ok.noex,ok.exfs,ok.OJ,ok.frf,ok.sy⟩
theorem Cx.Ok.Mj{X:Cx}{E:Value->Shared->Prop}(ok:(X.wish E).Ok):X.Ok :=
 ⟨ok.mod,ok.kind,ok.glob,ok.blt,ok.above,ok.inj,ok.has,ok.cab,ok.hd,ok.frames,ok.stk,ok.exf,ok.bs,ok.bsz,ok.noex,ok.exfs,ok.OJ,ok.frf,ok.sy⟩
section
variable{X:Cx}{pins:List (Addr×Obj)}{σ:St}{H:Hp}{s:Shared}{E:Value->Shared->Prop}
theorem Inv.wish(I:Inv X pins σ H s)(E:Value->Shared->Prop):Inv (X.wish E) pins σ H s:=⟨I.ok.wish E,I.os,I.bare,I.base,I.loc,I.cell,I.free,I.freeC,I.pin,I.hok,I.len⟩
theorem Inv.Mj(I:Inv (X.wish E) pins σ H s):Inv X pins σ H s:=⟨I.ok.Mj,I.os,I.bare,I.base,I.loc,I.cell,I.free,I.freeC,I.pin,I.hok,I.len⟩
theorem SP.Mj{D:Ends}{f:Flow}{s':Shared}(h:SP (X.wish E) pins D f s'):SP X pins D f s':=by
 cases f with
 |next=>obtain⟨σ',H',I,q⟩:=h;exact⟨σ',H',I.Mj,q⟩
 |brk=>obtain⟨σ',H',I,q⟩:=h;exact⟨σ',H',I.Mj,q⟩
 |cont=>obtain⟨σ',H',I,q⟩:=h;exact⟨σ',H',I.Mj,q⟩
 |ret u=>obtain⟨v,σ',H',I,r,q⟩:=h;exact⟨v,σ',H',I.Mj,r,q⟩
theorem PSs.nox{st:List Stmt}{t:TS}(h:PSs X.nox st t):PSs X st t:=fun pins s σ H D I hw =>
 U51 (h pins s σ H D (I.wish _) hw) (fun _ _ q=>q.Mj) fun _ _ z=>U4e z
end
section
variable{X:Cx}{st:Stmt}{rest:List Stmt}{t u:TS}{e:Expr}{te:TE}{pos:Pos}
def xM:TS:=fun D σ H=>D.nx σ H
def yu(t u:TS):TS:=fun D σ H=>t { D with nx:=u D } σ H
theorem pC:PSs X [] xM:=fun _ _ σ H _ I h=>U7j ⟨σ,H,I,h⟩
theorem kE(h1:PS X st t)(h2:PSs X rest u):PSs X (st::rest) (yu t u):=by
 intro pins s σ H D I h
 refine wpAny_execs_cons (thn (h1 pins s σ H { D with nx:=u D } I h) fun f s1 q=>?_)
 cases f with
 |next =>
  obtain⟨σ',H',I',q⟩:=q
  exact h2 pins s1 σ' H' D I' q
 |ret v=>exact q
 |brk=>exact q
 |cont=>exact q
theorem pA(h1:PS X st t):PSs X [st] t:=by
 intro pins s σ H D I h
 refine wpAny_execs_cons (thn (h1 pins s σ H D I h) fun f s1 q=>?_)
 cases f with
 |next=>exact U7j q
 |ret v=>exact q
 |brk=>exact q
 |cont=>exact q
theorem Inv.quiet{pins:List (Addr×Obj)}{σ:St}{H:Hp}{s:Shared}(I:Inv X pins σ H s):interactive X.env=false:=by simp[interactive,I.ok.kind]
def xO(te:TE):TS:=fun D σ H=>te σ H fun _ H1=>D.nx σ H1
theorem pD(he:PE X e te)(hs:swapsWith e none pos.line X.env=pure false:=by rfl):PS X (.Expr e pos) (xO te):=by
 intro pins s σ H D I h
 exact wpAny_Expr_any (thn (he pins s σ H _ I h) fun v s1 ⟨x,H1,I1,r1,q1⟩=>⟨σ,H1,I1,q1⟩) I.quiet hs
def yw(te:TE):TS:=fun D σ H=>te σ H D.rt
theorem uT(he:PE X e te):PS X (.Return (some e) pos) (yw te):=by
 intro pins s σ H D I h
 exact wpAny_Return_some (thn (he pins s σ H _ I h) fun v s1 ⟨x,H1,I1,r1,q1⟩=>⟨x,σ,H1,I1,r1,q1⟩)
def zB(c:TT)(t u:TS):TS:=fun D σ H=>c σ H fun b H1=>if b=true then t D σ H1 else u D σ H1
theorem xX{c:Expr}{a b:List Stmt}{tc:TT}(hc:PT X c tc)(ha:PSs X a t)(hb:PSs X b u):PS X (.If c a b pos) (zB tc t u):=by
 intro pins s σ H D I h
 refine wpAny_If (thn (hc pins s σ H _ I h) fun d s1 ⟨H1,I1,q1⟩=>?_)
 cases d with
 |true=>exact ha pins s1 σ H1 D I1 q1
 |false=>exact hb pins s1 σ H1 D I1 q1
def uG:TS:=fun _ _ _=>False
theorem kI:PS X st uG:=fun _ _ _ _ _ _ h=>h.elim
end
abbrev TG:=V->St->Hp->(St->Hp->Prop)->Prop
abbrev TGs:=List V->St->Hp->(St->Hp->Prop)->Prop
def PG(X:Cx)(target:Expr)(t:TG):Prop :=
 ∀(pins:List (Addr×Obj))(s:Shared)(σ:St)(H:Hp)(v:V)(u:Value)(Q:St->Hp->Prop),Inv X pins σ H s->RelV v u->t v σ H Q ->
  wpAny (model X.prog X.w) X.A (assign target X.env u) (fun _ s'=>∃σ' H',Inv X pins σ' H' s'/\Q σ' H') X.xe s
def PGs(X:Cx)(ts:List Expr)(t:TGs):Prop :=
 ∀(pins:List (Addr×Obj))(s:Shared)(σ:St)(H:Hp)(vs:List V)(us:List Value)(Q:St->Hp->Prop),Inv X pins σ H s->Vals vs us->t vs σ H Q ->
  wpAny (model X.prog X.w) X.A (assignInOrder ((assignEach ts X.env).map (·.2)) us) (fun _ s'=>∃σ' H',Inv X pins σ' H' s'/\Q σ' H') X.xe s
abbrev jH:=V->V->V->Hp->(Hp->Prop)->Prop
def u5(X:Cx)(t:jH):Prop :=
 ∀(pins:List (Addr×Obj))(s:Shared)(σ:St)(H:Hp)(o i v:V)(ov iv u:Value)(Q:Hp->Prop),Inv X pins σ H s->RelV o ov->RelV i iv->RelV v u->t o i v H Q ->
  wpAny (model X.prog X.w) X.A (setItem ov iv u) (fun _ s'=>∃H',Inv X pins σ H' s'/\Q H') X.xe s
section
variable{X:Cx}{pos:Pos}
def Xa(i:Nat):TG:=fun v σ H Q=>Q (σ.set i (some v)) H
theorem pJ{i:Nat}{x:Str}(hN:X.N.Nodup)(hi:X.N[i]?=some x)(hx:Loc X.env.scope x)(hf:X.fn x=true∨X.env.scope.names.lookup x=some .local:=by first|exact .inl rfl|exact .inr rfl|assumption):PG X (.Name x pos) (Xa i):=by
 intro pins s σ H v u Q I r h
 exact wpAny_assign_Name (QZ I hN hi hx r (fun s' I'=>⟨_,H,I',h⟩) hf)
def jF:TGs:=fun vs σ H Q=>vs=[]/\Q σ H
def cL(t:TG)(u:TGs):TGs:=fun vs σ H Q=>∃v r,vs=v::r/\t v σ H fun σ' H'=>u r σ' H' Q
theorem pI:PGs X [] jF:=by
 intro pins s σ H vs us Q I r h
 obtain⟨e,h⟩:=h
 subst e
 cases r
 exact assignInOrder_nil ⟨σ,H,I,h⟩
theorem kW{e:Expr}{es:List Expr}{t:TG}{u:TGs}(h1:PG X e t)(h2:PGs X es u)
  (hs:(assignEach (e::es) X.env).map (·.2)=assign e X.env::(assignEach es X.env).map (·.2):=by rfl):PGs X (e::es) (cL t u):=by
 intro pins s σ H vs us Q I r h
 obtain⟨v,vr,e1,h⟩:=h
 subst e1
 cases r with
 |cons r rr =>
  rw[hs]
  refine assignInOrder_cons (thn (h1 pins s σ H _ _ _ I r h) fun _ s1 ⟨σ1,H1,I1,q1⟩=>?_)
  exact h2 pins s1 σ1 H1 _ _ Q I1 rr q1
def jE(K:U0a)(n:Nat)(t:TGs):TG:=fun v σ H Q=>∃a xs,v=.ref a/\SqT K H a xs/\xs.length=n/\t xs σ H Q
theorem uY{es:List Expr}{k:Nat}{t:TGs}{n:Nat}(hc:X.calm=true)(h:PGs X es t)
  (hn:(assignEach es X.env).length=n:=by rfl) (hst:(assignEach es X.env).findIdx? (·.1)=none:=by rfl):PG X (.Tuple es k pos) (jE X.K n t):=by
 intro pins s σ H v u Q I r hw
 obtain⟨a,xs,e1,hq,hl,hw⟩:=hw
 subst e1
 cases r
 obtain⟨its,rv,ht,hz⟩:=I.tuple hq
 refine assign_Tuple_tuple (I.ok.hd hc) ht (by simp[hn,←hl,rv.length]) hst fun h' hx=>?_
 have I1:Inv X pins σ H { s with heap:=h' }:=I.kept (t':=s.toks) fun b o e=>hx b o (U0z (U0p e)) e
 exact h pins _ σ H xs _ Q I1 (by simpa using rv) hw
def zP(to ti:TE)(t:jH):TG:=fun v σ H Q=>to σ H fun o H1=>ti σ H1 fun i H2=>t o i v H2 fun H3=>Q σ H3
theorem uZ{o i:Expr}{to ti:TE}{t:jH}(ho:PE X o to)(hi:PE X i ti)(hs:u5 X t)
  (ha:∀v,assign (.Subscript o i pos) X.env v=(do
   let ov ←holding [v] (eval o X.env)
   let iv ←holding [v,ov] (eval i X.env)
   standAt pos
   holding [v,ov,iv] (setItem ov iv v)
   release [v,ov,iv] []):=by intro _;rfl):PG X (.Subscript o i pos) (zP to ti t):=by
 intro pins s σ H v u Q I r h
 rw[ha]
 refine U0 (U2p (thn (ho pins s σ H _ I h) fun ov s1 ⟨x,H1,I1,r1,q1⟩=>?_))
 refine U0 (U2p (thn (hi pins s1 σ H1 _ I1 q1) fun iv s2 ⟨y,H2,I2,r2,q2⟩=>?_))
 refine U0 (U65 (U0 (U2p (thn (hs pins s2 σ H2 x y v ov iv u _ I2 r1 r2 r q2) fun _ s3 ⟨H3,I3,q3⟩=>?_))))
 exact wpAny_release ⟨σ,H3,I3,q3⟩
def sX(te:TE)(g:TG):TS:=fun D σ H=>te σ H fun x H1=>g x σ H1 D.nx
theorem eE{tg e:Expr}{te:TE}{g:TG}(he:PE X e te)(hg:PG X tg g)(hs:swapsWithSole [tg] e pos.line X.env=pure false:=by rfl)(hw:swappedStores [tg] e X.env=pure none:=by rfl)
  (h1:(assignEach [tg] X.env).map (·.2)=[assign tg X.env]:=by rfl):PS X (.Assign [tg] e pos) (sX te g):=by
 intro pins s σ H D I h
 refine wpAny_Assign_stores (thn (he pins s σ H _ I h) fun v s1 ⟨x,H1,I1,r1,q1⟩=>?_) hs hw
 rw[h1]
 exact thn (hg pins s1 σ H1 x v _ I1 r1 q1) fun _ s2 q=>q
theorem uR{i:Nat}{x:Str}{e:Expr}{te:TE}{pos':Pos}(hN:X.N.Nodup)(hi:X.N[i]?=some x)(hx:Loc X.env.scope x)(he:PE X e te)(hs:swapsWith e (some (.Name x pos')) pos.line X.env=pure false:=by rfl)(hf:X.fn x=true∨X.env.scope.names.lookup x=some .local:=by first|exact .inl rfl|exact .inr rfl|assumption) :
  PS X (.Assign [.Name x pos'] e pos) (sX te (Xa i)):=by
 intro pins s σ H D I h
 refine wpAny_Assign_Name (thn (he pins s σ H _ I h) fun v s1 ⟨y,H1,I1,r1,q1⟩=>?_) hs
 exact QZ I1 hN hi hx r1 (fun s2 I2=>⟨_,H1,I2,q1⟩) hf
def yx(i j:Nat)(ta:TA):TS:=fun D σ H=>ta σ H fun vs H1=>∃v w,vs=[v,w]/\D.nx ((σ.set i (some v)).set j (some w)) H1
theorem uU{i j:Nat}{x y:Str}{a b:Expr}{ta:TA}{px py pt:Pos}{kt k2 pt2}(hc:X.calm=true)(hN:X.N.Nodup)(hi:X.N[i]?=some x)(hj:X.N[j]?=some y)(hij:i≠j)
  (hx:X.env.scope.names.lookup x=some .local) (hy:X.env.scope.names.lookup y=some .local) (ha:PA X [a,b] ta)
  (hw:swappedStores [.Tuple [.Name x px,.Name y py] kt pt] (.Tuple [a,b] k2 pt2) X.env=pure (some [x,y]))
  (hs:swapsWithSole [.Tuple [.Name x px,.Name y py] kt pt] (.Tuple [a,b] k2 pt2) pos.line X.env=pure false:=by rfl) :
  PS X (.Assign [.Tuple [.Name x px,.Name y py] kt pt] (.Tuple [a,b] k2 pt2) pos) (yx i j ta):=by
 intro pins s σ H D I h
 rw[exec_Assign_arm]
 refine U0 (U65 ?_)
 rw[hs]
 refine U0 (U0f ?_)
 rw[if_neg (by decide)]
 refine U0 (Tuple_ (thn (ha _ pins s σ H _ I h) fun us s1 ⟨vs,H1,I1,r1,q1⟩=>?_))
 obtain⟨v,w,e1,q1⟩:=q1
 subst e1
 obtain⟨u1,u2,rfl,rv,rw'⟩:∃u1 u2,us=[u1,u2]/\RelV v u1/\RelV w u2:=by
  cases r1 with
  |cons p q =>
   cases q with
   |cons p' q' =>
    cases q'
    exact⟨_,_,rfl,p,p'⟩
 refine U2f ?_ (by show 2<=sizeLine;decide)
 have I2:Inv X pins σ H1 { s1 with heap:=s1.heap.push { cls:=.type "tuple",data:=.seq [u1,u2].toArray } }:=I1.kept (t':=s1.toks) fun b o e=>U0c _ e
 rw[hw]
 refine U0 (U0f ?_)
 show wpAny (model X.prog X.w) X.A (do rule "assign.swapped-stores";let items ←unpackItems (.ref s1.heap.objs.size) 2 none;assignInOrder [fun v=>bindName X.env y v,fun v=>bindName X.env x v] items.reverse;pure Flow.next) _ _ _
 refine U0 (U4x (U0 (unpackItems_tuple (items:=#[u1,u2]) (I.ok.hd hc) (U62 s1.heap _) fun h' hx'=>?_)))
 have I3:=I2.kept (h':=h') (t':=s1.toks) fun b o e=>hx' b o (U0z (U0p e)) e
 show wpAny _ _ (assignInOrder [fun v=>bindName X.env y v,fun v=>bindName X.env x v] [u2,u1] >>= fun _=>pure Flow.next) _ _ _
 refine U0 (assignInOrder_cons (wpAny_bindName (QZ I3 hN hj (.inl hy) rw' (fun s2 I4=>?_) (.inr hy))))
 refine assignInOrder_cons (wpAny_bindName (QZ I4 hN hi (.inl hx) rv (fun s3 I5=>assignInOrder_nil (U0f ?_)) (.inr hx)))
 rw[List.set_comm _ _ (U1w hij)] at I5
 exact⟨_,H1,I5,q1⟩
end
section
variable{X:Cx}{pos:Pos}
end
structure It where
 go:Nat->Hp->Prop
 yld:Nat->Hp->V->Hp->Prop
 stop:Nat->Hp->Prop
def Pz(X:Cx)(pins:List (Addr×Obj))(H:Hp)(b:Addr):Prop :=
 H b=none/\b≠X.env.locals/\b ∉ X.fs/\(b∈X.ex∨X.s₀.heap.objs.size<=b)/\(∀x c,X.env.cells.lookup x=some c->c≠b)/\∀p∈X.pn++pins,p.1≠b
theorem Inv.Vf{X:Cx}{pins:List (Addr×Obj)}{σ:St}{H H':Hp}{s:Shared}{b:Addr}(I:Inv X pins σ H s)(hb:s.heap.objs.size<=b)(hn:H' b=none):Pz X pins H' b:=by
 refine⟨hn,U1x (U0v I.lt hb),I.jC hb,.inr (U06 I.sz hb),fun x c e z=>?_,fun p hp z=>?_⟩
 .obtain⟨v,q⟩:=I.cell x c e
  exact absurd (U0v q.lt (by rw[z];exact hb)) (U30 _)
 .exact absurd (U0v (U0p (I.pin p hp).1) (by rw[z];exact hb)) (U30 _)
structure Turn(P:Program)(w:World)(K:U0a)(tg:Expr)(J:It)(fp:List Addr)(it:Addr)(tn:Nat->Heap->Prop):Prop where
 mem:it∈fp
 obj:∀i h,tn i h->∀b∈fp,∃o,h.get? b=some o/\∀v,o.data≠.cell v
 keep:∀i h h',tn i h->(∀b∈fp,∀o,h.get? b=some o->h'.get? b=some o)->tn i h'
 item:∀(X:Cx),X.prog=P->X.w=w->X.K=K->X.calm=true->∀(i:Nat)(pins:List (Addr×Obj))(s:Shared)(σ:St)(H:Hp)(E:Value->Shared->Prop),Inv X pins σ H s->(∀b∈fp,Pz X pins H b)->tn i s.heap->J.go i H ->
  wpAny (model P w) X.A (pyNext (.ref it)) (fun r s1=>∃u,r=some u /\
   wpAny (model P w) X.A (letOwnedTupleGo tg (.ref it) u) (fun _ s2=>∃x H',Inv X pins σ H' s2/\RelV x u/\J.yld i H x H'/\tn (i+1) s2.heap/\∀b∈fp,H' b=none) E s1) E s
 done:∀(X:Cx),X.prog=P->X.w=w->X.K=K->X.calm=true->∀(i:Nat)(pins:List (Addr×Obj))(s:Shared)(σ:St)(H:Hp)(E:Value->Shared->Prop),Inv X pins σ H s->(∀b∈fp,Pz X pins H b)->tn i s.heap->J.stop i H ->
  wpAny (model P w) X.A (pyNext (.ref it)) (fun r s1=>r=none/\Inv X pins σ H s1) E s
 self:∀(A:Around)(i:Nat)(s:Shared)(Q:Value->Shared->Prop)(E:Value->Shared->Prop),tn i s.heap->Q (.ref it) s->wpAny (model P w) A (pyIter (.ref it)) Q E s
abbrev TI:=St->Hp->(It->Hp->Prop)->Prop
def PIE(X:Cx)(pins:List (Addr×Obj))(σ:St)(tg:Expr)(R:It->Hp->Prop)(itv:Value)(s2:Shared):Prop :=
 ∃(it:Addr)(fp:List Addr)(tn:Nat->Heap->Prop)(J:It)(H':Hp),itv=.ref it/\Inv X pins σ H' s2/\Turn X.prog X.w X.K tg J fp it tn/\tn 0 s2.heap/\(∀b∈fp,Pz X pins H' b)/\R J H'
def PI(X:Cx)(tg iter:Expr)(wi:TI):Prop :=
 ∀(pins:List (Addr×Obj))(s:Shared)(σ:St)(H:Hp)(R:It->Hp->Prop),Inv X pins σ H s->wi σ H R ->
  wpAny (model X.prog X.w) X.A (eval iter X.env) (fun v s1=>wpAny (model X.prog X.w) X.A (pyIter v) (PIE X pins σ tg R) X.xe s1) X.xe s
theorem XS{M:Model}{A:Around}{E:Value->Shared->Prop}{s:Shared}{tg:Expr}{it:Addr}{u:Value}{o:Obj}{n:String}{vs:Array Value}{Q:Unit->Shared->Prop}(ho:s.heap.get? it=some o)(hc:o.cls=.type n)(hd:o.data=.fields vs)
  (hn:["enumerate","zip","dict_itemiterator","dict_reverseitemiterator","odict_iterator","itertools.zip_longest","itertools.pairwise"].contains n=false) (hQ:Q () s):wpAny M A (letOwnedTupleGo tg (.ref it) u) Q E s:=by
 unfold letOwnedTupleGo
 cases tg<;>first
  |exact U0f hQ
  |(cases u<;>first
    |exact U0f hQ
    |(refine U0 (wpAny_load ho ?_)
      rw[hc,hd]
      show wpAny M A (if (["enumerate","zip","dict_itemiterator","dict_reverseitemiterator","odict_iterator","itertools.zip_longest","itertools.pairwise"].contains n&&vs[0]?==some (rawInt _))=true then _ else _) Q E s
      rw[if_neg (by intro h;rw[hn,U7t] at h;cases h)]
      exact U0f hQ))
def Itl(K:U0a)(a:Addr):It :=
 ⟨fun i H=>∃xs x,SqL K H a xs/\xs[i]?=some x,fun i H x H'=>H'=H/\∀xs,SqL K H a xs->xs[i]?=some x,fun i H=>∃xs,SqL K H a xs/\xs.length<=i⟩
def Itt(K:U0a)(a:Addr):It :=
 ⟨fun i H=>∃xs x,SqT K H a xs/\xs[i]?=some x,fun i H x H'=>H'=H/\∀xs,SqT K H a xs->xs[i]?=some x,fun i H=>∃xs,SqT K H a xs/\xs.length<=i⟩
def Itr(lo:Int)(n:Nat):It:=⟨fun i _=>i<n,fun i H x H'=>H'=H/\x=.int (lo+i),fun i _=>n<=i⟩
theorem fQ{P:Program}{w:World}{K:U0a}{tg:Expr}(a it:Addr):Turn P w K tg (Itl K a) [it] it (fun i h=>h.IsListIter it a i) where
 mem:=by simp
 obj:=fun i h st b hb=>by
  have e:b=it:=by simpa using hb
  subst e
  obtain⟨o,e,c,d⟩:=st
  exact⟨o,e,fun v z=>by rw[d] at z;cases z⟩
 keep:=fun i h h' st k=>st.at fun o e=>k it (by simp) o e
 item:=by
  intro X hP hw hK hc i pins s σ H E I hf st hg
  subst hP hw hK
  obtain⟨xs,x,hq,hx⟩:=hg
  obtain⟨its,rv,p,hz⟩:=I.list hq
  obtain⟨u,hu,ru⟩:=rv.get hx
  obtain⟨f0,f1,f2,f3,f4,f5⟩:=hf it (by simp)
  refine wpAny_pyNext_list_item st p.isList (x:=u) (by simpa using hu) fun h' st' sb=>?_
  have I1:Inv X pins σ H { s with heap:=h' }:=I.turned (t':=s.toks) (fun b o hb e=>(sb.2 b hb).trans e) f0 f1 f3 f4 f5
  obtain⟨o,e,c,d⟩:=id st'
  exact⟨u,rfl,XS (s:={ s with heap:=h' }) e c d (by decide) ⟨x,H,I1,ru,⟨rfl,fun ys hy=>by rw[I.Yc hy hq];exact hx⟩,st',fun b hb=>(hf b hb).1⟩⟩
 done:=by
  intro X hP hw hK hc i pins s σ H E I hf st hg
  subst hP hw hK
  obtain⟨xs,hq,hx⟩:=hg
  obtain⟨its,rv,p,hz⟩:=I.list hq
  obtain⟨f0,f1,f2,f3,f4,f5⟩:=hf it (by simp)
  have hl:=rv.length
  exact wpAny_pyNext_list_end (I.ok.hd hc) st p.isList (by simp;omega) fun h' eb=>⟨rfl,I.turned (t':=s.toks) (fun b o hb e=>eb b o hb e) f0 f1 f3 f4 f5⟩
 self:=fun _ _ _ _ _ st h=>wpAny_pyIter_listiter st h
theorem cM{P:Program}{w:World}{K:U0a}{tg:Expr}(a it:Addr):Turn P w K tg (Itt K a) [it] it (fun i h=>h.IsTupleIter it a i) where
 mem:=by simp
 obj:=fun i h st b hb=>by
  have e:b=it:=by simpa using hb
  subst e
  obtain⟨o,e,c,d⟩:=st
  exact⟨o,e,fun v z=>by rw[d] at z;cases z⟩
 keep:=fun i h h' st k=>st.at fun o e=>k it (by simp) o e
 item:=by
  intro X hP hw hK hc i pins s σ H E I hf st hg
  subst hP hw hK
  obtain⟨xs,x,hq,hx⟩:=hg
  obtain⟨its,rv,p,hz⟩:=I.tuple hq
  obtain⟨u,hu,ru⟩:=rv.get hx
  obtain⟨f0,f1,f2,f3,f4,f5⟩:=hf it (by simp)
  refine wpAny_pyNext_tuple_item st (show s.heap.IsTuple a its.toArray from p) (x:=u) (by simpa using hu) fun h' st' sb=>?_
  have I1:Inv X pins σ H { s with heap:=h' }:=I.turned (t':=s.toks) (fun b o hb e=>(sb.2 b hb).trans e) f0 f1 f3 f4 f5
  obtain⟨o,e,c,d⟩:=id st'
  exact⟨u,rfl,XS (s:={ s with heap:=h' }) e c d (by decide) ⟨x,H,I1,ru,⟨rfl,fun ys hy=>by rw[I.fV hy hq];exact hx⟩,st',fun b hb=>(hf b hb).1⟩⟩
 done:=by
  intro X hP hw hK hc i pins s σ H E I hf st hg
  subst hP hw hK
  obtain⟨xs,hq,hx⟩:=hg
  obtain⟨its,rv,p,hz⟩:=I.tuple hq
  obtain⟨f0,f1,f2,f3,f4,f5⟩:=hf it (by simp)
  have hl:=rv.length
  exact wpAny_pyNext_tuple_end (I.ok.hd hc) st (show s.heap.IsTuple a its.toArray from p) (by simp;omega) fun h' eb=>⟨rfl,I.turned (t':=s.toks) (fun b o hb e=>eb b o hb e) f0 f1 f3 f4 f5⟩
 self:=fun _ _ _ _ _ st h=>wpAny_pyIter_tupleiter st h
theorem cO{P:Program}{w:World}{K:U0a}{tg:Expr}(it:Addr)(lo:Int)(n:Nat):Turn P w K tg (Itr lo n) [it] it (fun i h=>IsRangeIter h it (lo+(i:Nat)*1) ((n:Int)-(i:Nat)) 1) where
 mem:=by simp
 obj:=fun i h st b hb=>by
  have e:b=it:=by simpa using hb
  subst e
  exact⟨_,st,fun v z=>by
   have z':Data.fields _=Data.cell v:=z
   cases z'⟩
 keep:=fun i h h' st k=>k it (by simp) _ st
 item:=by
  intro X hP hw hK hc i pins s σ H E I hf st hg
  subst hP hw hK
  obtain⟨f0,f1,f2,f3,f4,f5⟩:=hf it (by simp)
  have W:=Walks.range (prog:=X.prog) (w:=X.w) (I.ok.hd hc) it lo 1 n
  refine W.item i s _ _ hg st fun v h' tk hv st' kk=>?_
  obtain⟨t,rfl⟩:=hv
  have I1:Inv X pins σ H { s with heap:=h',toks:=tk }:=I.turned (fun b o hb e=>kk b o (by simpa using hb) e) f0 f1 f3 f4 f5
  refine⟨_,rfl,XS (s:={ s with heap:=h',toks:=tk }) (n:="range_iterator") st' rfl rfl (by decide) ⟨.int (lo+i),H,I1,⟨t,?_⟩,⟨rfl,rfl⟩,st',fun b hb=>(hf b hb).1⟩⟩
  rw[U7q]
 done:=by
  intro X hP hw hK hc i pins s σ H E I hf st hg
  subst hP hw hK
  obtain⟨f0,f1,f2,f3,f4,f5⟩:=hf it (by simp)
  exact wpAny_pyNext_range_end (I.ok.hd hc) st (by have:n<=i:=hg;omega) fun h' eb=>⟨rfl,I.turned (t':=s.toks) (fun b o hb e=>eb b o hb e) f0 f1 f3 f4 f5⟩
 self:=fun _ _ _ _ _ st h=>wpAny_pyIter_rangeiter st h
end L2
namespace L2
open PySem PySem.Spec PyProof.Rows
section
variable{X:Cx}{tg:Expr}
theorem jx{pins:List (Addr×Obj)}{σ:St}{H:Hp}{s:Shared}{R:It->Hp->Prop}{E:Value->Shared->Prop}{lo hi:Int}{t u v:Tok}{tk:Nat}(I:Inv X pins σ H s)(h1:-(2^62)<=lo)(h2:lo<2^62)(h3:-(2^62)<=hi)(h4:hi<2^62)
  (q:R (Itr lo (hi-lo).toNat) H):wpAny (model X.prog X.w) X.A (pyIter (.ref s.heap.objs.size)) (PIE X pins σ tg R) E { s with heap:=s.heap.push { cls:=.type "range",data:=.fields #[.int lo t,.int hi u,.int 1 v] },toks:=tk }:=by
 refine wpAny_pyIter_range (IsRange.new ..) (small_one h1 h2 h3 h4) ?_
 have I1:Inv X pins σ H { s with heap:=s.heap.push { cls:=.type "range",data:=.fields #[.int lo t,.int hi u,.int 1 v] },toks:=tk }:=I.kept fun b o e=>U0c _ e
 refine⟨(s.heap.push { cls:=.type "range",data:=.fields #[.int lo t,.int hi u,.int 1 v] }).objs.size,[(s.heap.push { cls:=.type "range",data:=.fields #[.int lo t,.int hi u,.int 1 v] }).objs.size],_,_,H,rfl,
  I1.kept (t':=tk) fun b o e=>U0c _ e,cO _ lo (hi-lo).toNat,?_,fun b hb=>?_,q⟩
 .have e1:lo+((0:Nat):Int)*1=lo:=by simp
  have e2:(((hi-lo).toNat:Nat):Int)-((0:Nat):Int)=U32 lo hi 1:=by rw[rangeSize_one];split<;>omega
  show IsRangeIter _ _ (lo+((0:Nat):Int)*1) ((((hi-lo).toNat:Nat):Int)-((0:Nat):Int)) 1
  rw[e1,e2]
  exact U0w _ rfl
 .have e:b=(s.heap.push { cls:=.type "range",data:=.fields #[.int lo t,.int hi u,.int 1 v] }).objs.size:=by simpa using hb
  subst e
  exact I1.Vf (U0o _) (I1.hok.fresh (U0o _))
def yM(ta:TA):TI:=fun σ H R=>ta σ H fun vs H1=>∃j:Int,vs=[.int j]/\-(2^62)<=j/\j<2^62/\R (Itr 0 j.toNat) H1
theorem gW{a:Expr}{ta:TA}{p pos:Pos}(hg:Gl X "range")(hm:X.mg "range"=none)(ha:PA X [a] ta)(hs:starEach [a] X.env=[(false,eval a X.env)]:=by rfl):PI X tg (.Call (.Name "range" p) [a] [] pos) (yM ta):=by
 intro pins s σ H R I h
 refine Call_ (LQ I hg hm boot_range (U2v (thn (ha pos pins s σ H _ I h) fun us s1 ⟨vs,H1,I1,r1,q1⟩=>?_) hs rfl))
 obtain⟨j,e,q1,q2,q⟩:=q1
 subst e
 cases r1 with
 |cons r rr =>
  cases rr
  obtain⟨t,rfl⟩:=r
  exact call_range_1 (jx I1 (by omega) (by omega) q1 q2 (by simpa using q))
def zE(wi:TI)(g:TG)(tb:TS):TS:=fun D σ H=>wi σ H fun J H1=>∃W:Nat->Nat->St->Hp->Prop,(∃m,W 0 m σ H1)/\∀i m σ H,W i m σ H ->
 (J.stop i H/\D.nx σ H)∨(J.go i H/\∃N:St->Hp->Prop,(∀σ' H',N σ' H'->∃m',m'<m/\W (i+1) m' σ' H')/\∀x H',J.yld i H x H'->g x σ H' fun σ2 H2=>tb { D with nx:=N,ct:=N,bk:=D.nx } σ2 H2)
def Mp(fp:List Addr)(h:Heap):List (Addr×Obj):=fp.filterMap fun b=>(h.get? b).map fun o=>(b,o)
theorem Nv{fp:List Addr}{h:Heap}{b:Addr}{o:Obj}(hb:b∈fp)(e:h.get? b=some o):(b,o)∈Mp fp h:=List.mem_filterMap.mpr ⟨b,hb,by rw[e];rfl⟩
theorem WW{fp:List Addr}{h:Heap}{p:Addr×Obj}(hp:p∈Mp fp h):p.1∈fp/\h.get? p.1=some p.2:=by
 obtain⟨b,hb,e⟩:=List.mem_filterMap.mp hp
 cases q:h.get? b with
 |none=>rw[q] at e;cases e
 |some o =>
  rw[q] at e
  have e':(b,o)=p:=U09 e
  subst e'
  exact⟨hb,q⟩
theorem Inv.pinned{pins:List (Addr×Obj)}{σ:St}{H:Hp}{s:Shared}{fp:List Addr}(I:Inv X pins σ H s)(hf:∀b∈fp,Pz X pins H b)(ho:∀b∈fp,∃o,s.heap.get? b=some o/\∀v,o.data≠.cell v):Inv X (pins++Mp fp s.heap) σ H s :=
 I.Ro fun p hp=>(U1k.mp hp).elim (fun z=>I.pin p (U1h _ z)) fun z=>by
  obtain⟨hb,e⟩:=WW z
  obtain⟨f0,f1,f2,_⟩:=hf p.1 hb
  obtain⟨o,e',d⟩:=ho p.1 hb
  rw[e] at e';cases e'
  exact⟨e,f0,f1,f2,d⟩
theorem Inv.QW{pins pl:List (Addr×Obj)}{σ:St}{H:Hp}{s:Shared}(I:Inv X (pins++pl) σ H s):Inv X pins σ H s:=I.Ro fun p hp=>I.pin p (U1h _ (U3g _ hp))
theorem uV{iter:Expr}{body:List Stmt}{wi:TI}{g:TG}{tb:TS}{pos:Pos}(hp:PassesOwn (model X.prog X.w) X.A X.env X.xe)(hc:X.calm=true)(hi:PI X tg iter wi)(hg:PG X tg g)(hb:PSs X body tb)
  (hs:∀x,foldedSetIterable iter X.env x=pure x:=by intro _;rfl):PS X (.For tg iter body [] pos) (zE wi g tb):=by
 intro pins s σ H D I h
 refine wpAny_For (thn (hi pins s σ H _ I h) fun v s1 h1=>thn h1 fun itv s2 h2=>?_) hs
 obtain⟨it,fp,tn,J,H2,e,I2,T,st2,f2,W,⟨m0,w0⟩,turn⟩:=h2
 subst e
 -- what stays true of the iterator's objects through the loop
 have stat:∀{H':Hp},(∀b∈fp,H' b=none)->∀b∈fp,Pz X pins H' b:=fun hn b hb=>⟨hn b hb,(f2 b hb).2⟩
 refine codeAny_forLoop_any (fun n s'=>∃i σ' H',Inv X pins σ' H' s'/\tn i s'.heap/\(∀b∈fp,H' b=none)/\W i n σ' H') ?_ m0 ⟨0,σ,H2,I2,st2,fun b hb=>(f2 b hb).1,w0⟩
 rintro n s3 ⟨i,σ3,H3,I3,st3,fr3,w3⟩
 rcases turn i n σ3 H3 w3 with ⟨stop,qn⟩|⟨go,N,hN,step⟩
 .refine U5n hp (thn (T.done X rfl rfl rfl hc i pins s3 σ3 H3 X.xe I3 (stat fr3) st3 stop) fun r s4 ⟨hr,I4⟩=>?_)
  subst hr
  exact U7j ⟨σ3,H3,I4,qn⟩
 .refine U5n hp (thn (T.item X rfl rfl rfl hc i pins s3 σ3 H3 X.xe I3 (stat fr3) st3 go) fun r s4 ⟨u,hr,h4⟩=>?_)
  subst hr
  refine U5n hp (thn h4 fun _ s5 ⟨x,H5,I5,r5,y5,st5,fr5⟩=>?_)
  have I5':=I5.pinned (stat fr5) (T.obj _ _ st5)
  refine U5n hp (thn (hg _ s5 σ3 H5 x u _ I5' r5 (step x H5 y5)) fun _ s6 ⟨σ6,H6,I6,q6⟩=>?_)
  refine U5n hp (thn (hb _ s6 σ6 H6 _ I6 q6) fun f s7 q7=>?_)
  have again:∀{σ7:St} {H7:Hp},Inv X (pins++Mp fp s5.heap) σ7 H7 s7->N σ7 H7->∃m,m<n/\∃i σ' H',Inv X pins σ' H' s7/\tn i s7.heap/\(∀b∈fp,H' b=none)/\W i m σ' H':=fun {σ7 H7} I7 n7=>by
   obtain⟨m',hm,w7⟩:=hN σ7 H7 n7
   refine⟨m',hm,i+1,σ7,H7,I7.QW,T.keep _ _ _ st5 fun b hb o e=>(I7.pin (b,o) (U1h _ (U1h _ (Nv hb e)))).1,fun b hb=>?_,w7⟩
   obtain⟨o,e,d⟩:=T.obj _ _ st5 b hb
   exact(I7.pin (b,o) (U1h _ (U1h _ (Nv hb e)))).2.1
  cases f with
  |next=>obtain⟨σ7,H7,I7,n7⟩:=q7;exact again I7 n7
  |cont=>obtain⟨σ7,H7,I7,n7⟩:=q7;exact again I7 n7
  |brk=>obtain⟨σ7,H7,I7,q7⟩:=q7;exact⟨σ7,H7,I7.QW,q7⟩
  |ret v=>obtain⟨x7,σ7,H7,I7,r7,q7⟩:=q7;exact⟨x7,σ7,H7,I7.QW,r7,q7⟩
end
end L2
namespace L2
open PySem PySem.Spec PyProof.Rows
abbrev R2:=V->V->Hp->VK->Prop
def OpR(X:Cx)(f:Value->Value->Sem Value)(r:R2):Prop :=
 ∀(pins:List (Addr×Obj))(s:Shared)(σ:St)(H:Hp)(x y:V)(v u:Value)(Q:VK),Inv X pins σ H s->RelV x v->RelV y u->r x y H Q ->
  wpAny (model X.prog X.w) X.A (f v u) (EP X pins σ Q) X.xe s
def UnR(X:Cx)(f:Value->Sem Value)(r:V->Hp->VK->Prop):Prop :=
 ∀(pins:List (Addr×Obj))(s:Shared)(σ:St)(H:Hp)(x:V)(v:Value)(Q:VK),Inv X pins σ H s->RelV x v->r x H Q ->
  wpAny (model X.prog X.w) X.A (f v) (EP X pins σ Q) X.xe s
def Dn(X:Cx)(f:Value)(r:List V->Hp->VK->Prop):Prop :=
 ∀(pins:List (Addr×Obj))(s:Shared)(σ:St)(H:Hp)(xs:List V)(us:List Value)(Q:VK),Inv X pins σ H s->Vals xs us->r xs H Q ->
  wpAny (model X.prog X.w) X.A (call f us) (EP X pins σ Q) X.xe s
def tOp(r:R2)(ta tb:TE):TE:=fun σ H Q=>ta σ H fun x H1=>tb σ H1 fun y H2=>r x y H2 Q
def tUn(r:V->Hp->VK->Prop)(ta:TE):TE:=fun σ H Q=>ta σ H fun x H1=>r x H1 Q
def rI(C:Int->Int->Prop)(g:Int->Int->V):R2:=fun x y H Q=>∃i j,x=.int i/\y=.int j/\C i j/\Q (g i j) H
def rI0(g:Int->Int->V):R2:=fun x y H Q=>∃i j,x=.int i/\y=.int j/\Q (g i j) H
def rU(g:Int->V):V->Hp->VK->Prop:=fun x H Q=>∃i,x=.int i/\Q (g i) H
section
variable{X:Cx}{a b c:Expr}{ta tb tc:TE}{pos:Pos}
theorem bY(ha:PE X a ta)(hb:PE X b tb){pins:List (Addr×Obj)}{s:Shared}{σ:St}{H:Hp}{R:V->V->Hp->Prop}(I:Inv X pins σ H s)
  (h:ta σ H fun x H1=>tb σ H1 fun y H2=>R x y H2) {Q:Value->Shared->Prop} {f:Value->Value->Sem Value}
  (hf:∀v u s2 x y H2,Inv X pins σ H2 s2->RelV x v->RelV y u->R x y H2->wpAny (model X.prog X.w) X.A (f v u) Q X.xe s2) :
  wpAny (model X.prog X.w) X.A (eval a X.env) (fun v s₁=>wpAny (model X.prog X.w) X.A (eval b X.env) (fun u s₂=>wpAny (model X.prog X.w) X.A (f v u) Q X.xe s₂) X.xe s₁) X.xe s:=by
 refine thn (ha pins s σ H _ I h) fun v s1 ⟨x,H1,I1,r1,q1⟩=>?_
 refine thn (hb pins s1 σ H1 _ I1 q1) fun u s2 ⟨y,H2,I2,r2,q2⟩=>?_
 exact hf v u s2 x y H2 I2 r1 r2 q2
theorem xZ{op:Operator}{r:R2}(ho:OpR X (binaryOp op) r)(ha:PE X a ta)(hb:PE X b tb):PE X (.BinOp a op b pos) (tOp r ta tb):=by
 intro pins s σ H Q I h
 exact wpAny_BinOp (bY ha hb I h fun v u s2 x y H2 I2 rx ry q=>ho pins s2 σ H2 x y v u Q I2 rx ry q)
theorem xY{op:UnaryOp}{r:V->Hp->VK->Prop}(ho:UnR X (unaryOp op) r)(ha:PE X a ta):PE X (.UnaryOp op a pos) (tUn r ta):=by
 intro pins s σ H Q I h
 exact UnaryOp_ (thn (ha pins s σ H _ I h) fun v s1 ⟨x,H1,I1,r1,q1⟩=>ho pins s1 σ H1 x v Q I1 r1 q1)
theorem opI{f:Value->Value->Sem Value}{C:Int->Int->Prop}{g:Int->Int->Int}
  (rule:∀(i j:Int)(t u:Tok)(s:Shared)(Q:Value->Shared->Prop)(E:Value->Shared->Prop),C i j->Q (.int (g i j) s.toks) { s with toks:=s.toks+1 }->wpAny (model X.prog X.w) X.A (f (.int i t) (.int j u)) Q E s) :
  OpR X f (rI C fun i j=>.int (g i j)):=by
 intro pins s σ H x y v u Q I rx ry h
 obtain⟨i,j,rfl,rfl,hc,q⟩:=h
 obtain⟨t,rfl⟩:=rx
 obtain⟨t',rfl⟩:=ry
 exact rule i j t t' s _ _ hc ⟨.int (g i j),H,I.tok _,⟨_,rfl⟩,q⟩
theorem tV{f:Value->Value->Sem Value}{g:Int->Int->Int}
  (rule:∀(i j:Int)(t u:Tok)(s:Shared)(Q:Value->Shared->Prop)(E:Value->Shared->Prop),Q (.int (g i j) s.toks) { s with toks:=s.toks+1 }->wpAny (model X.prog X.w) X.A (f (.int i t) (.int j u)) Q E s) :
  OpR X f (rI0 fun i j=>.int (g i j)):=by
 intro pins s σ H x y v u Q I rx ry h
 obtain⟨i,j,rfl,rfl,q⟩:=h
 obtain⟨t,rfl⟩:=rx
 obtain⟨t',rfl⟩:=ry
 exact rule i j t t' s _ _ ⟨.int (g i j),H,I.tok _,⟨_,rfl⟩,q⟩
theorem bU{f:Value->Value->Sem Value}{g:Int->Int->Bool}
  (rule:∀(i j:Int)(t u:Tok)(s:Shared)(Q:Value->Shared->Prop)(E:Value->Shared->Prop),Q (.bool (g i j)) s->wpAny (model X.prog X.w) X.A (f (.int i t) (.int j u)) Q E s) :
  OpR X f (rI0 fun i j=>.bl (g i j)):=by
 intro pins s σ H x y v u Q I rx ry h
 obtain⟨i,j,rfl,rfl,q⟩:=h
 obtain⟨t,rfl⟩:=rx
 obtain⟨t',rfl⟩:=ry
 exact rule i j t t' s _ _ ⟨.bl (g i j),H,I,rfl,q⟩
def jN(i j:Int):Prop:=0<=j/\j<=1000000/\i.natAbs<2^64
def Xm(i j:Int):Prop:=(-(2^64)<i/\i<2^64)∨(-(2^64)<j/\j<2^64)
theorem Xm.ok{i j:Int}(h:Xm i j):IntMulOk i j:=by
 rcases h with ⟨h1,h2⟩|⟨h1,h2⟩
 .exact .of_left (intBits_le_64 h1 h2)
 .exact .of_right (intBits_le_64 h1 h2)
theorem uz:OpR X (binaryOp .Add) (rI0 fun i j=>.int (i+j)):=tV fun _ _ _ _ _ _ _ q=>add_int q
theorem Hi:OpR X (binaryOp .Sub) (rI0 fun i j=>.int (i-j)):=tV fun _ _ _ _ _ _ _ q=>sub_int q
theorem uw:OpR X (binaryOp .Mult) (rI Xm fun i j=>.int (i*j)):=opI fun _ _ _ _ _ _ _ hc q=>mul_int q hc.ok
theorem LK:OpR X (binaryOp .Mod) (rI (fun _ j=>0<j) fun i j=>.int (i%j)):=opI fun i j _ _ _ _ _ hc q=>by
 have h1:(0:Int)<j:=hc
 exact mod_int' (by omega) (by rw[Int.fmod_eq_emod_of_nonneg i (by omega)];exact q)
theorem K1:OpR X (binaryOp .Pow) (rI jN fun i j=>.int (i^j.toNat)):=opI fun _ _ _ _ _ _ _ hc q=>pow_int_small hc.1 hc.2.1 hc.2.2 q
theorem unI{f:Value->Sem Value}{g:Int->Int}
  (rule:∀(i:Int)(t:Tok)(s:Shared)(Q:Value->Shared->Prop)(E:Value->Shared->Prop),Q (.int (g i) s.toks) { s with toks:=s.toks+1 }->wpAny (model X.prog X.w) X.A (f (.int i t)) Q E s) :
  UnR X f (rU fun i=>.int (g i)):=by
 intro pins s σ H x v Q I rx h
 obtain⟨i,rfl,q⟩:=h
 obtain⟨t,rfl⟩:=rx
 exact rule i t s _ _ ⟨.int (g i),H,I.tok _,⟨_,rfl⟩,q⟩
theorem Ja:UnR X (unaryOp .USub) (rU fun i=>.int (-i)):=unI fun _ _ _ _ _ q=>neg_int q
end
def sZ:V->V->Bool
 |.non,.non=>true|.non,.int _=>true|.int _,.non=>true|.non,.bl _=>true|.bl _,.non=>true|.non,.str _=>true|.str _,.non=>true
 |.int _,.int _=>true|.bl _,.bl _=>true|.str _,.str _=>true|.byt _,.byt _=>true
 |.int _,.str _=>true|.str _,.int _=>true|.bl _,.str _=>true|.str _,.bl _=>true
 |_,_=>false
def rEq:R2:=fun x y H Q=>sZ x y=true/\Q (.bl (decide (x=y))) H
def rNe:R2:=fun x y H Q=>sZ x y=true/\Q (.bl (!decide (x=y))) H
theorem bI{i j:Int}:decide (V.int i=V.int j)=(i==j):=by
 rw[U26]
 simp
theorem fB{i j:Bool}:decide (V.bl i=V.bl j)=(i==j):=by
 rw[U26]
 simp
theorem bH{i j:Str}:decide (V.str i=V.str j)=(i==j):=by
 rw[U26]
 simp
theorem bJ{i j:Array UInt8}:decide (V.byt i=V.byt j)=(i.toList==j.toList):=by
 rw[U26]
 cases i
 cases j
 simp
section
variable{X:Cx}{a b c:Expr}{ta tb tc:TE}{pos:Pos}
theorem Dg{pins:List (Addr×Obj)}{σ:St}{H:Hp}{s:Shared}{Q:VK}{k k':Bool}(I:Inv X pins σ H s)(q:Q (.bl k) H)(e:k=k'):EP X pins σ Q (.bool k') s:=by
 subst e
 exact⟨.bl k,H,I,rfl,q⟩
theorem yD:OpR X (compareOp .Eq) rEq:=by
 intro pins s σ H x y v u Q I rx ry h
 obtain⟨hs,q⟩:=h
 cases x with
 |non =>
  cases rx
  cases y with
  |non=>cases ry;exact PySem.EqNone.eq_none_none (Dg I q (by simp))
  |bl j=>cases ry;exact PySem.EqNone.eq_none_bool (Dg I q (by simp))
  |int j=>obtain⟨t',rfl⟩:=ry;exact PySem.EqNone.eq_none_int (Dg I q (by simp))
  |str j=>obtain⟨t',rfl⟩:=ry;exact PySem.EqNone.eq_none_str (Dg I q (by simp))
  |_=>exact absurd (show false=true from hs) U1d
 |bl i =>
  cases rx
  cases y with
  |non=>cases ry;exact PySem.EqNone.eq_bool_none (Dg I q (by simp))
  |bl j=>cases ry;exact eq_bool (Dg I q fB)
  |str j=>obtain⟨t',rfl⟩:=ry;exact PySem.EqMixed.eq_bool_str (Dg I q (by simp))
  |_=>exact absurd (show false=true from hs) U1d
 |int i =>
  obtain⟨t,rfl⟩:=rx
  cases y with
  |non=>cases ry;exact PySem.EqNone.eq_int_none (Dg I q (by simp))
  |int j=>obtain⟨t',rfl⟩:=ry;exact eq_int (Dg I q bI)
  |str j=>obtain⟨t',rfl⟩:=ry;exact PySem.EqMixed.eq_int_str (Dg I q (by simp))
  |_=>exact absurd (show false=true from hs) U1d
 |str i =>
  obtain⟨t,rfl⟩:=rx
  cases y with
  |non=>cases ry;exact PySem.EqNone.eq_str_none (Dg I q (by simp))
  |bl j=>cases ry;exact PySem.EqMixed.eq_str_bool (Dg I q (by simp))
  |int j=>obtain⟨t',rfl⟩:=ry;exact PySem.EqMixed.eq_str_int (Dg I q (by simp))
  |str j=>obtain⟨t',rfl⟩:=ry;exact eq_str (Dg I q bH)
  |_=>exact absurd (show false=true from hs) U1d
 |byt i =>
  obtain⟨t,rfl⟩:=rx
  cases y with
  |byt j=>obtain⟨t',rfl⟩:=ry;exact PySem.W.eq_bytes (Dg I q bJ)
  |_=>exact absurd (show false=true from hs) U1d
 |_=>cases y<;>exact absurd (show false=true from hs) U1d
theorem yC:OpR X (compareOp .NotEq) rNe:=by
 intro pins s σ H x y v u Q I rx ry h
 obtain⟨hs,q⟩:=h
 cases x with
 |non =>
  cases rx
  cases y with
  |non=>cases ry;exact PySem.EqNone.ne_none_none (Dg I q (by simp))
  |bl j=>cases ry;exact PySem.EqNone.ne_none_bool (Dg I q (by simp))
  |int j=>obtain⟨t',rfl⟩:=ry;exact PySem.EqNone.ne_none_int (Dg I q (by simp))
  |str j=>obtain⟨t',rfl⟩:=ry;exact PySem.EqNone.ne_none_str (Dg I q (by simp))
  |_=>exact absurd (show false=true from hs) U1d
 |bl i =>
  cases rx
  cases y with
  |non=>cases ry;exact PySem.EqNone.ne_bool_none (Dg I q (by simp))
  |bl j=>cases ry;exact ne_bool (Dg I q (congrArg not fB))
  |str j=>obtain⟨t',rfl⟩:=ry;exact PySem.EqMixed.ne_bool_str (Dg I q (by simp))
  |_=>exact absurd (show false=true from hs) U1d
 |int i =>
  obtain⟨t,rfl⟩:=rx
  cases y with
  |non=>cases ry;exact PySem.EqNone.ne_int_none (Dg I q (by simp))
  |int j=>obtain⟨t',rfl⟩:=ry;exact ne_int (Dg I q (congrArg not bI))
  |str j=>obtain⟨t',rfl⟩:=ry;exact PySem.EqMixed.ne_int_str (Dg I q (by simp))
  |_=>exact absurd (show false=true from hs) U1d
 |str i =>
  obtain⟨t,rfl⟩:=rx
  cases y with
  |non=>cases ry;exact PySem.EqNone.ne_str_none (Dg I q (by simp))
  |bl j=>cases ry;exact PySem.EqMixed.ne_str_bool (Dg I q (by simp))
  |int j=>obtain⟨t',rfl⟩:=ry;exact PySem.EqMixed.ne_str_int (Dg I q (by simp))
  |str j=>obtain⟨t',rfl⟩:=ry;exact ne_str (Dg I q (congrArg not bH))
  |_=>exact absurd (show false=true from hs) U1d
 |byt i =>
  obtain⟨t,rfl⟩:=rx
  cases y with
  |byt j=>obtain⟨t',rfl⟩:=ry;exact PySem.W.ne_bytes (Dg I q (congrArg not bJ))
  |_=>exact absurd (show false=true from hs) U1d
 |_=>cases y<;>exact absurd (show false=true from hs) U1d
theorem UG:OpR X (compareOp .Lt) (rI0 fun i j=>.bl (decide (i<j))):=bU fun _ _ _ _ _ _ _ q=>lt_int q
theorem n8:OpR X (compareOp .LtE) (rI0 fun i j=>.bl (decide (i<=j))):=bU fun _ _ _ _ _ _ _ q=>le_int q
theorem Nk:OpR X (compareOp .Gt) (rI0 fun i j=>.bl (decide (j<i))):=bU fun _ _ _ _ _ _ _ q=>gt_int q
theorem XQ:OpR X (compareOp .GtE) (rI0 fun i j=>.bl (decide (j<=i))):=bU fun _ _ _ _ _ _ _ q=>ge_int q
theorem OpR.or{f:Value->Value->Sem Value}{r r':R2}(h:OpR X f r)(h':OpR X f r'):OpR X f (fun x y H Q=>r x y H Q∨r' x y H Q):=by
 intro pins s σ H x y v u Q I rx ry q
 rcases q with q|q
 .exact h pins s σ H x y v u Q I rx ry q
 .exact h' pins s σ H x y v u Q I rx ry q
theorem CW(b:Expr){op:CmpOp}(h:op≠.In:=by decide)(h2:op≠.NotIn:=by decide):behindInMarks op b=false:=by
 have e1:(op==CmpOp.In)=false:=by cases op<;>first|rfl|exact absurd rfl h
 have e2:(op==CmpOp.NotIn)=false:=by cases op<;>first|rfl|exact absurd rfl h2
 cases b<;>simp[behindInMarks,e1,e2]
theorem ak{op:CmpOp}{r:R2}(ho:OpR X (compareOp op) r)(ha:PE X a ta)(hb:PE X b tb)(hm:behindInMarks op b=false):PE X (.Compare a [op] [b] pos) (tOp r ta tb):=by
 intro pins s σ H Q I h
 exact wpAny_Compare1 (bY ha hb I h fun v u s2 x y H2 I2 rx ry q=>ho pins s2 σ H2 x y v u Q I2 rx ry q) hm
def cF(t:TE):TT:=fun σ H Q=>t σ H fun x H'=>∃k,x=.bl k/\Q k H'
theorem ou{op:CmpOp}{r:R2}(ho:OpR X (compareOp op) r)(ha:PE X a ta)(hb:PE X b tb)(hm:behindInMarks op b=false):PT X (.Compare a [op] [b] pos) (cF (tOp r ta tb)):=by
 intro pins s σ H Q I h
 refine wpAny_isTrue_Compare1 (thn (ha pins s σ H _ I h) fun v s1 ⟨x,H1,I1,r1,q1⟩=>thn (hb pins s1 σ H1 _ I1 q1) fun u s2 ⟨y,H2,I2,r2,q2⟩ =>
  thn (ho pins s2 σ H2 x y v u _ I2 r1 r2 q2) fun c s3 ⟨z,H3,I3,r3,k,e,q3⟩=>?_) hm
 subst e
 cases r3
 exact U3j ⟨H3,I3,q3⟩
def dh(r r':R2)(ta tb tc:TE):TE:=fun σ H Q=>ta σ H fun x H1=>tb σ H1 fun y H2=>r x y H2 fun z H3=>∃k,z=.bl k /\
 (if k=true then tc σ H3 fun w' H4=>r' y w' H4 Q else Q (.bl false) H3)
theorem jz{op op':CmpOp}{r r':R2}(ho:OpR X (compareOp op) r)(ho':OpR X (compareOp op') r')(ha:PE X a ta)(hb:PE X b tb)(hc:PE X c tc)
  (hm:lastMarks [op,op'] [b,c]=false:=by with_unfolding_all rfl):PT X (.Compare a [op,op'] [b,c] pos) (cF (dh r r' ta tb tc)):=by
 intro pins s σ H Q I h
 refine isTrue_chain (thn (ha pins s σ H _ I h) fun v s1 ⟨x,H1,I1,r1,q1⟩=>test_link (thn (hb pins s1 σ H1 _ I1 q1) fun u s2 ⟨y,H2,I2,r2,q2⟩ =>
  thn (ho pins s2 σ H2 x y v u _ I2 r1 r2 q2) fun d s3 ⟨z,H3,I3,r3,k,e,q3⟩=>?_)) hm
 subst e
 cases r3
 refine U3j ?_
 cases k with
 |false =>
  obtain⟨k',e',q'⟩:=q3
  cases e'
  exact ite_ff ⟨H3,I3,q'⟩
 |true =>
  refine ite_tt (test_last (thn (hc pins s3 σ H3 _ I3 q3) fun w' s4 ⟨z',H4,I4,r4,q4⟩=>thn (ho' pins s4 σ H4 y z' u w' _ I4 r2 r4 q4) fun d' s5 ⟨z2,H5,I5,r5,k2,e2,q5⟩=>?_))
  subst e2
  cases r5
  exact U3j ⟨H5,I5,q5⟩
theorem R8:(sizeLine:Nat)<2^63:=by rw[sizeLine_eq];decide
theorem cX:OpR X (binaryOp .Add) (fun x y H Q=>∃i j,x=.str i/\y=.str j/\i.length+j.length<=sizeLine/\Q (.str (i++j)) H):=by
 intro pins s σ H x y v u Q I rx ry h
 obtain⟨i,j,rfl,rfl,hz,q⟩:=h
 obtain⟨t,rfl⟩:=rx
 obtain⟨t',rfl⟩:=ry
 exact add_str (fun t' tk=>⟨.str (i++j),H,I.tok _,⟨_,rfl⟩,q⟩) hz
theorem vals1{x:V}{us:List Value}(r:Vals [x] us):∃u,us=[u]/\RelV x u:=by
 cases r with
 |cons r1 r2=>cases r2;exact⟨_,rfl,r1⟩
theorem vals2{x y:V}{us:List Value}(r:Vals [x,y] us):∃u w',us=[u,w']/\RelV x u/\RelV y w':=by
 cases r with
 |cons r1 r2 =>
  cases r2 with
  |cons r3 r4=>cases r4;exact⟨_,_,rfl,r1,r3⟩
theorem j5(hc:X.calm=true):Dn X (.builtin "max") (fun xs H Q=>∃i j,xs=[.int i,.int j]/\Q (.int (if j>i then j else i)) H):=by
 intro pins s σ H xs us Q I r h
 obtain⟨i,j,rfl,q⟩:=h
 obtain⟨u,w',rfl,⟨t,rfl⟩,⟨t',rfl⟩⟩:=vals2 r
 refine max_two_ints (I.ok.hd hc) fun h' tk k=>⟨_,H,I.kept k,?_,q⟩
 by_cases hj:j>i
 .rw[if_pos hj,if_pos hj];exact⟨_,rfl⟩
 .rw[if_neg hj,if_neg hj];exact⟨_,rfl⟩
theorem Ws(hc:X.calm=true):Dn X (.builtin "min") (fun xs H Q=>∃i j,xs=[.int i,.int j]/\Q (.int (if j<i then j else i)) H):=by
 intro pins s σ H xs us Q I r h
 obtain⟨i,j,rfl,q⟩:=h
 obtain⟨u,w',rfl,⟨t,rfl⟩,⟨t',rfl⟩⟩:=vals2 r
 refine min_two_ints (I.ok.hd hc) fun h' tk k=>⟨_,H,I.kept k,?_,q⟩
 by_cases hj:j<i
 .rw[if_pos hj,if_pos hj];exact⟨_,rfl⟩
 .rw[if_neg hj,if_neg hj];exact⟨_,rfl⟩
theorem Wt:Dn X (.type "int") (fun xs H Q=>(∃i,xs=[.int i]/\Q (.int i) H)∨∃k,xs=[.bl k]/\Q (.int (if k then 1 else 0)) H):=by
 intro pins s σ H xs us Q I r h
 rcases h with ⟨i,rfl,q⟩|⟨k,rfl,q⟩
 .obtain⟨u,rfl,t,rfl⟩:=vals1 r
  exact call_int_int ⟨.int i,H,I,⟨_,rfl⟩,q⟩
 .obtain⟨u,rfl,r1⟩:=vals1 r
  cases r1
  exact call_int_bool ⟨.int (if k then 1 else 0),H,I.tok _,⟨_,rfl⟩,q⟩
end
end L2
namespace L2
open PySem PySem.Spec PyProof.Rows
structure jL(h:Heap)(x dx C:Addr)(mA:Str->Option Value):Prop where
 obj:h.get? x=some (U7i C dx)
 ns:h.Ns1 dx mA
 ne:dx≠x
theorem iB{h:Heap}{dx:Addr}{mA:Str->Option Value}(n:h.Ns1 dx mA):∃od,h.get? dx=some od/\∀name,U7u name od=some (mA name):=by
 obtain⟨o,es,ep,ho,hd,hk,_,hm⟩:=n
 refine⟨o,ho,fun name=>?_⟩
 have e:=hm name
 unfold nsFind findBy at e
 rw[←Array.find?_toList] at e
 unfold U7u
 rw[hd]
 dsimp only
 split
 .rename_i y q
  rw[q] at e
  exact congrArg some e
 .rename_i q
  rw[q] at e
  have a:es.toList.any (·.refKey)=false:=by
   rw[List.any_eq_false]
   intro y hy
   obtain⟨z,t,hkey⟩:=hk y (Array.mem_toList_iff.mp hy)
   simp[DictEntry.refKey,hkey]
  have a':¬es.toList.any (·.refKey)=true:=by rw[a];exact U1d
  rw[if_neg a']
  exact congrArg some e
theorem jL.look{h:Heap}{x dx C:Addr}{mA:Str->Option Value}(I:jL h x dx C mA):∃od,PySem.W.InstAt h x (U7i C dx) C (some od)/\∀name,U7u name od=some (mA name) :=
 let ⟨od,ho,hl⟩:=iB I.ns
 ⟨od,⟨I.obj,rfl,rfl,ho⟩,hl⟩
section
variable{prog:Program}{w:World}{A:Around}{E:Value->Shared->Prop}{s:Shared}{K:U0a}{x dx C f:Addr}{mA:Str->Option Value}{name:Str}{v:Value}
end
section
variable{P:Program}{w:World}{H H':Hp}{h h':Heap}{a C dx:Addr}{fs fs':List (Str×V)}
theorem qX(hok:HOk P w H h)(e:H a=some (.ins C dx fs)):∃mA,jL h a dx C mA/\(∀f,jK (fs.lookup f) (mA f))/\PySem.Within mA (fs.map (·.1))/\fs.length<=1000/\H dx=some (.own a):=by
 obtain⟨d,z,ne,ob,mA,n,r,q⟩:=(show Ei P w H h a (.ins C dx fs) from hok a _ e)
 exact⟨mA,⟨ob,n,ne⟩,r,q,z,d⟩
end
structure Cls(K:U0a)(C:Addr):Prop where
 pg:PySem.W.plainGet K C Str.empty=true
 hd:PySem.W.hasDictIn K C=true
 po:PySem.W.plainOver K C=true
 sa:U52 K (.ref C) "__setattr__"=some (some (.builtin "object.__setattr__"))
theorem Cls.get{K:U0a}{C:Addr}(c:Cls K C)(f:Str):PySem.W.plainGet K C f=true:=c.pg
structure Con(K:U0a)(C:Addr)(f:Str)(v:V)(u:Value):Prop where
 at_:U52 K (.ref C) f=some (some u)
 rel:RelV v u
 get:PySem.W.specialIn K u "__get__"=some none
 cp:PySem.W.copiedNames.contains f=false
structure Meth(K:U0a)(C:Addr)(m:Str)(f:Addr):Prop where
 at_:U52 K (.ref C) m=some (some (.ref f))
 fn:PySem.W.isFn K (.ref f)=true
 kp:U01 K (.ref f)=true
section
variable{X:Cx}{pins:List (Addr×Obj)}{σ:St}{H:Hp}{s:Shared}{a C dx:Addr}{fs:List (Str×V)}{f:Str}{v:V}{A:Around}{E:Value->Shared->Prop}
end
section
variable{X:Cx}{o e value:Expr}{f:Str}{pos pos' tpos:Pos}{ta tv:TE}
end
section
variable{X:Cx}{pins:List (Addr×Obj)}{σ:St}{H:Hp}{s:Shared}{A:Around}{E:Value->Shared->Prop}{Q:Value->Shared->Prop}{c:Value}{b:Bool}
inductive KQ (K:U0a) (H:Hp):V->Value->Prop where
 |non:KQ K H .non (.type "NoneType")
 |bl (x:Bool):KQ K H (.bl x) (.type "bool")
 |int (i:Int):KQ K H (.int i) (.type "int")
 |str (x:Str):KQ K H (.str x) (.type "str")
 |flt (x:UInt64):KQ K H (.flt x) (.type "float")
 |lst {a:Addr} {xs:List V} (e:H a=some (.lst xs)):KQ K H (.ref a) (.type "list")
 |frz {a:Addr} {o:Obj} {xs:List V} (e:H a=some (.frz o (.lst xs))):KQ K H (.ref a) (.type "list")
 |tup {a:Addr} {xs:List V} (e:H a=some (.tup xs)):KQ K H (.ref a) (.type "tuple")
 |dK {a:Addr} {kvs:List (Key×V)} (e:H a=some (.dK kvs)):KQ K H (.ref a) (.type "dict")
 |dT {a:Addr} {kvs:List (List Key×V)} (e:H a=some (.dT kvs)):KQ K H (.ref a) (.type "dict")
 |ins {a C dx:Addr} {fs:List (Str×V)} (e:H a=some (.ins C dx fs)) (cl:Cls K C) (ha:U52 K (.ref C) "__class__"=some (some (.builtin "object.__class__")))
   (hn:PySem.W.specialIn K (.builtin "object.__class__") "__get__"=some (some (.builtin "getset_descriptor.__get__"))) (htk:PySem.W.takesIn K (.builtin "object.__class__")=some true)
   (hm:PySem.W.mroIn K C (.type "object")=some true):KQ K H (.ref a) (.ref C)
theorem iK{x:V}{u t:Value}(I:Inv X pins σ H s)(rx:RelV x u)(ty:KQ X.K H x t)(e:U3h X.K t c=some b)(h:∀tk,Q (.bool b) { s with toks:=tk }) :
  wpAny (model X.prog X.w) A (call (.builtin "isinstance") [u,c]) Q E s:=by
 cases ty with
 |non=>cases (show u=U2r from rx);exact U27 PySem.W.kitx_none I.kIn U7c e (fun z=>nomatch z) h
 |bl y=>cases (show u=U4w y from rx);exact U27 PySem.W.kitx_bool I.kIn U7c e (fun z=>nomatch z) h
 |int i=>obtain⟨t,q⟩:=(show ∃t,u=U3r i t from rx);cases q;exact U27 PySem.W.kitx_int I.kIn U7c e (fun z=>nomatch z) h
 |str y=>obtain⟨t,q⟩:=(show ∃t,u=Value.str y t from rx);cases q;exact U27 PySem.W.kitx_str I.kIn U7c e (fun z=>nomatch z) h
 |flt y=>obtain⟨t,q⟩:=(show ∃t,u=Value.float y t from rx);cases q;exact U27 PySem.W.kitx_float I.kIn U7c e (fun z=>nomatch z) h
 |@lst a xs ea =>
  cases (show u=U2o a from rx)
  obtain⟨_,_,n,_,h1⟩:=(show Ei X.prog X.w H s.heap a (.lst xs) from I.hok a _ ea)
  exact U27 PySem.W.kitx_list I.kIn ⟨_,h1,rfl⟩ e (fun z=>nomatch z) h
 |@frz a ob xs ea =>
  cases (show u=U2o a from rx)
  obtain⟨_,_,_,n,_,h1⟩:=(show Ei X.prog X.w H s.heap a (.frz ob (.lst xs)) from I.hok a _ ea)
  exact U27 PySem.W.kitx_list I.kIn ⟨_,h1,rfl⟩ e (fun z=>nomatch z) h
 |@tup a xs ea =>
  cases (show u=U2o a from rx)
  obtain⟨_,_,_,p⟩:=(show Ei X.prog X.w H s.heap a (.tup xs) from I.hok a _ ea)
  obtain⟨o,h1,h2,_⟩:=p
  exact U27 PySem.W.kitx_tuple I.kIn ⟨o,h1,h2⟩ e (fun z=>nomatch z) h
 |@dK a kvs ea =>
  cases (show u=U2o a from rx)
  obtain⟨_,_,vs,_,p⟩:=(show Ei X.prog X.w H s.heap a (.dK kvs) from I.hok a _ ea)
  obtain⟨o,es,ep,h1,h2,_⟩:=p
  exact U27 PySem.W.kitx_dict I.kIn ⟨o,h1,h2.1⟩ e (fun z=>nomatch z) h
 |@dT a kvs ea =>
  cases (show u=U2o a from rx)
  obtain⟨_,_,xs,_,o,es,ep,h1,h2,_⟩:=(show Ei X.prog X.w H s.heap a (.dT kvs) from I.hok a _ ea)
  exact U27 PySem.W.kitx_dict I.kIn ⟨o,h1,h2.1⟩ e (fun z=>nomatch z) h
 |@ins a C dx fs ea cl ha hn htk hm =>
  cases (show u=U2o a from rx)
  obtain⟨mA,O,_⟩:=qX I.hok ea
  obtain⟨od,J,_⟩:=O.look
  exact U27 (PySem.W.kitx_own (cl.get _) cl.hd ha hn htk hm) I.kIn J e (fun z=>nomatch z) h
end
end L2
namespace L2
open PySem PySem.Spec PyProof.Rows
structure FN(k:Nat)(A:Around):Prop where
 hd:A.handled=none
 dp:A.depth+3*k+5<recursionLimit
 un:A.units+16*k+200<cLine
 gd:A.guards=some []
theorem FN.mono{j k:Nat}{A:Around}(r:FN k A)(h:j<=k):FN j A:=⟨r.hd,by have:=r.dp;omega,by have:=r.un;omega,r.gd⟩
theorem FN.deeper{k:Nat}{A:Around}(r:FN (k+1) A)(env:Env):FN k (A.deeper env) :=
 ⟨r.hd,by have:=r.dp;show A.depth+1+3*k+5<_;omega,by have:=r.un;show A.units+3+16*k+200<_;omega,r.gd⟩
theorem FN.depth{k:Nat}{A:Around}(r:FN k A):A.depth<recursionLimit:=by have:=r.dp;omega
theorem FN.units{k:Nat}{A:Around}(r:FN k A):A.units+64<cLine:=by have:=r.un;omega
def sV:TA:=fun _ H Q=>Q [] H
def mX(ta:TE)(tr:TA):TA:=fun σ H Q=>ta σ H fun x H1=>tr σ H1 fun xs H2=>Q (x::xs) H2
section
variable{X:Cx}{e:Expr}{es:List Expr}{te:TE}{t:TA}{pos:Pos}
theorem Ug:PA X [] sV:=fun _ _ _ _ H Q I h=>Calls.spliced_nil ⟨[],H,I,.nil,h⟩
theorem Rp(ha:PE X e te)(hr:PA X es t)(hs:starEach (e::es) X.env=(false,eval e X.env)::starEach es X.env:=by rfl):PA X (e::es) (mX te t):=by
 intro pos pins s σ H Q I h
 rw[hs]
 show wpAny _ _ (spliced ((false,eval e X.env)::backTo pos (starEach es X.env))) _ _ s
 refine Calls.spliced_cons (thn (ha pins s σ H _ I h) fun u s1 ⟨x,H1,I1,r1,q1⟩=>?_)
 exact thn (hr pos pins s1 σ H1 _ I1 q1) fun us s2 ⟨xs,H2,I2,r2,q2⟩=>⟨x::xs,H2,I2,.cons r1 r2,q2⟩
def sU(t:TA):TE:=fun σ H Q=>t σ H fun xs H1=>xs.length<=sizeLine/\∀p,H1 p=none->Q (.ref p) (upd H1 p (.tup xs))
def zA(t:TA):TE:=fun σ H Q=>t σ H fun xs H1=>xs.length<=sizeLine/\∀p,H1 p=none->Q (.ref p) (upd H1 p (.lst xs))
theorem ud{x1}(h:PA X es t):PE X (.Tuple es x1 pos) (sU t):=by
 intro pins s σ H Q I hq
 refine wpAny_Tuple_spliced (thn (h pos pins s σ H _ I hq) fun us s1 ⟨xs,H1,I1,r,z,q⟩=>⟨by rw[←r.length];exact z,?_⟩)
 have hf:H1 s1.heap.objs.size=none:=I1.hok.fresh (U0o _)
 refine⟨.ref s1.heap.objs.size,upd H1 s1.heap.objs.size (.tup xs),I1.laid (t':=s1.toks) (fun b u e=>U0c _ e) (U0o _) ?_,rfl,q _ hf⟩
 exact⟨z,us,r,⟨_,U0w _ rfl,rfl,_,rfl⟩⟩
theorem eF(h:PA X es t):PE X (.List es pos) (zA t):=by
 intro pins s σ H Q I hq
 refine wpAny_List_spliced (thn (h pos pins s σ H _ I hq) fun us s1 ⟨xs,H1,I1,r,z,q⟩=>⟨by rw[←r.length];exact z,?_⟩)
 have hf:H1 s1.heap.objs.size=none:=I1.hok.fresh (U0o _)
 refine⟨.ref s1.heap.objs.size,upd H1 s1.heap.objs.size (.lst xs),I1.laid (t':=s1.toks) (fun b u e=>U0c _ e) (U0o _) ?_,rfl,q _ hf⟩
 exact⟨z,us,0,r,U0w _ rfl⟩
end
abbrev Sp:=List V->Hp->VK->XK->Prop
abbrev CXT:=List Env->Hp->Shared->XK->Value->Shared->Prop
structure bw(P:Program)(w:World)(K:U0a)(mg:Str->Option Value)(base:Heap)(A:Around)(outer:List Env)(s:Shared)(H:Hp):Prop where
 frames:A.frames=some outer
 mod:Mod K mg base
 bs:∀b o,base.get? b=some o->s.heap.get? b=some o/\H b=none
 bsz:base.objs.size<=s.heap.objs.size
 OJ:s.heap.FunFrames base outer
 frf:∀b∈frs outer,H b=none
 hok:HOk P w H s.heap
 bare:AllBare s.gens
 sy:H sysModules=none
def CE(outer:List Env)(P:Program)(w:World)(H:Hp)(s:Shared)(Q:VK)(u:Value)(s':Shared):Prop :=
 ∃v H',s'.os=s.os/\AllBare s'.gens/\Un (frs outer) [] H H' s.heap s'.heap/\HOk P w H' s'.heap/\RelV v u/\Q v H'
def CR(CX:CXT)(outer:List Env)(P:Program)(w:World)(H:Hp)(s:Shared)(Q:VK)(E:XK)(r:Result)(s':Shared):Prop :=
 match r with
 |.ok (.ret u)=>CE outer P w H s Q u s'
 |.ok _=>False
 |.error e=>CX outer H s E e s'
structure DG(P:Program)(w:World)(K:U0a)(mg:Str->Option Value)(base:Heap)(CX:CXT)(k:Nat)(f:Addr)(fd:FuncData)(ps:List Str)(sp:Sp):Prop where
 len:∀vs H Q E,sp vs H Q E->vs.length=ps.length
 run:∀(A:Around)(outer:List Env)(s:Shared)(H:Hp)(args:Args)(us:List Value)(vs:List V)(Q:VK)(E:XK),FN k A->bw P w K mg base A outer s H->BindsTo s fd args (ps.zip us)->Vals vs us->sp vs H Q E ->
  codeAny (model P w) A (.call (.ref f) args) (CR CX outer P w H s Q E) s
theorem DG.mono{P:Program}{w:World}{K:U0a}{mg:Str->Option Value}{base:Heap}{CX:CXT}{j k:Nat}{f:Addr}{fd:FuncData}{ps:List Str}{sp:Sp}(F:DG P w K mg base CX j f fd ps sp)(h:j<=k) :
  DG P w K mg base CX k f fd ps sp:=⟨F.len,fun A outer s H args us vs Q E hr=>F.run A outer s H args us vs Q E (hr.mono h)⟩
theorem DG.imp{P:Program}{w:World}{K:U0a}{mg:Str->Option Value}{base:Heap}{CX:CXT}{k:Nat}{f:Addr}{fd:FuncData}{ps:List Str}{sp sp':Sp}(F:DG P w K mg base CX k f fd ps sp)
  (h:∀vs H Q E,sp' vs H Q E->sp vs H Q E):DG P w K mg base CX k f fd ps sp' :=
 ⟨fun vs H Q E q=>F.len vs H Q E (h _ _ _ _ q),fun A outer s H args us vs Q E hr he hb hv hs=>F.run A outer s H args us vs Q E hr he hb hv (h _ _ _ _ hs)⟩
section
variable{X:Cx}{pins:List (Addr×Obj)}{σ:St}{H:Hp}{s s':Shared}
theorem Inv.env0(I:Inv X pins σ H s):bw X.prog X.w X.K X.mg X.base X.A X.stack s H :=
 ⟨I.ok.frames,I.ok.mod,I.bs,U06 I.ok.bsz I.sz,I.stack,I.aQ,I.hok,I.bare,I.T6⟩
theorem Inv.after{Q:VK}{u:Value}(I:Inv X pins σ H s)(h:CE X.stack X.prog X.w H s Q u s'):EP X pins σ Q u s':=by
 obtain⟨v,H',os,bare,un,hok,r,q⟩:=h
 obtain⟨hh,g,d,t,os'⟩:=s'
 obtain rfl:os'=s.os:=os
 exact⟨v,H',I.call (h':=hh) (g':=g) (d':=d) (t':=t) (ch:=[]) un hok bare (fun b z=>absurd z (by simp)),r,q⟩
end
def mY(sp:Sp)(dvs:List V)(E:XK)(t:TA):TE:=fun σ H Q=>t σ H fun vs H1=>sp (vs++dvs) H1 Q E
def Binds(K:U0a)(fd:FuncData)(ps:List Str)(ds:List Value):Prop :=
 ∀(s:Shared)(us:List Value),K.In s.heap->(us++ds).length=ps.length->BindsTo s fd ⟨us,[]⟩ (ps.zip (us++ds))
theorem Binds.all{K:U0a}{fd:FuncData}{ps:List Str}(h:∀us:List Value,us.length=ps.length->bindArgs fd ⟨us,[]⟩=pure (ps.zip us)):Binds K fd ps []:=fun s us _ hl=>by
 rw[U2k] at hl ⊢
 exact .of_eq (h us hl)
def Passes(CX:CXT)(X:Cx)(E:XK):Prop:=∀(pins:List (Addr×Obj))(σ:St)(H:Hp)(s:Shared)(e:Value)(s':Shared),Inv X pins σ H s->CX X.stack H s E e s'->X.xe e s'
section
variable{X:Cx}{CX:CXT}{k:Nat}{f C:Addr}{fd:FuncData}{ps:List Str}{sp:Sp}{dvs:List V}{ds:List Value}{E:XK}{x m:Str}{p pos apos:Pos}{e o:Expr}{es:List Expr}{ta:TE}{t:TA}
theorem uM{pins:List (Addr×Obj)}{σ:St}{H:Hp}{s:Shared}{Q:VK}{us:List Value}{vs:List V}(F:DG X.prog X.w X.K X.mg X.base CX k f fd ps sp)(hr:FN k X.A)(hb:Binds X.K fd ps ds)(hd:Vals dvs ds)(hx:Passes CX X E)
  (I:Inv X pins σ H s) (r:Vals vs us) (h:sp (vs++dvs) H Q E):wpAny (model X.prog X.w) X.A (call (.ref f) us) (EP X pins σ Q) X.xe s:=by
 have r2:Vals (vs++dvs) (us++ds):=r.append hd
 have hl:(us++ds).length=ps.length:=by rw[←r2.length];exact F.len _ _ _ _ h
 refine wpAny_call (codeAny_mono (F.run X.A X.stack s H ⟨us,[]⟩ (us++ds) (vs++dvs) Q E hr I.env0 (hb s us I.kIn hl) r2 h) fun r s' hq=>?_)
 cases r with
 |error e=>exact hx pins σ H s e s' I hq
 |ok fl =>
  cases fl with
  |ret u=>exact I.after hq
  |next=>exact U4e hq
  |brk=>exact U4e hq
  |cont=>exact U4e hq
theorem pL(F:DG X.prog X.w X.K X.mg X.base CX k f fd ps sp)(hr:FN k X.A)(hg:Gl X x)(hm:X.mg x=some (.ref f))(hk:U01 X.K (.ref f)=true)(hb:Binds X.K fd ps ds)(hd:Vals dvs ds)(hx:Passes CX X E)
  (ha:PA X (e::es) t) (hdb:(x==("__debug__":Str))=false:=by decide) (he:starEach (e::es) X.env=(false,eval e X.env)::starEach es X.env:=by rfl) (hpl:(backTo pos (starEach es X.env)).any (·.1)=false:=by rfl) :
  PE X (.Call (.Name x p) (e::es) [] pos) (mY sp dvs E t):=by
 intro pins s σ H Q I h
 refine U5r (bA I hg hm ?_ hdb)
 refine PySem.W.callWith_K (h₀:=X.base) I.ok.mod.kin hk (thn (ha pos pins s σ H _ I h) fun us s1 ⟨vs,H1,I1,r,q⟩=>⟨I1.kIn,?_⟩) he hpl
 exact uM F hr hb hd hx I1 r q
structure Mk(K:U0a)(C f:Addr):Prop where
 makes:PySem.W.makesIn K C=true
 init:U52 K (.ref C) "__init__"=some (some (.ref f))
 fn:PySem.W.isFn K (.ref f)=true
 kp:U01 K (.ref C)=true
end
section
variable{X:Cx}{CX:CXT}{k:Nat}{f C:Addr}{fd:FuncData}{ps ks:List Str}{sp:Sp}{E:XK}{x m:Str}{p pos apos kpos:Pos}{e o:Expr}{es:List Expr}{kws:List Keyword}{te ta:TE}{t tk:TA}{nm:Option Str}
structure Jah(K:U0a)(fd:FuncData)(ps ks:List Str)(g:List Value->List Value->List Value)(gV:List V->List V->List V):Prop where
 to:∀(s:Shared)(us ws:List Value),K.In s.heap->(g us ws).length=ps.length->BindsTo s fd ⟨us,ks.zip ws⟩ (ps.zip (g us ws))
 rel:∀{vs:List V} {us:List Value} {zs:List V} {ws:List Value},Vals vs us->Vals zs ws->Vals (gV vs zs) (g us ws)
variable{g:List Value->List Value->List Value}{gV:List V->List V->List V}
end
structure CK(N P:List Str)(sc:Scope):Prop where
 kind:sc.kind=.function
 co:sc.isCoroutine=false
 gen:sc.isGenerator=false
 nd:N.Nodup
 pre:N.take P.length=P
 par:∀x∈P,sc.names.lookup x=some .local∨sc.names.lookup x=some .cell
 nofree:∀y∈sc.names,y.2≠.free
theorem Wu{kindOf:Str->Option NameKind}{x:Str}:∀{binds:List (Str×Value)} {m:Str->Option Value},(∀v,(x,v) ∉ binds)->bindL kindOf binds m x=m x
 |[],_,_=>rfl
 |(n,v)::r,m,h=>by
  unfold bindL
  rw[Wu fun w hw=>h w (U0t _ hw)]
  split
  .have:x≠n:=by rintro rfl;exact h v U0u
   simp[this]
  .rfl
theorem Ww{kindOf:Str->Option NameKind}{x:Str}:∀{binds:List (Str×Value)} {m:Str->Option Value},(∀v,(x,v) ∉ binds)->bindC kindOf binds m x=m x
 |[],_,_=>rfl
 |(n,v)::r,m,h=>by
  unfold bindC
  rw[Ww fun w hw=>h w (U0t _ hw)]
  split
  .rfl
  .have:x≠n:=by rintro rfl;exact h v U0u
   simp[this]
theorem Wv{kindOf:Str->Option NameKind}{x:Str}{v:Value}:∀{P:List Str} {vs:List Value} {i:Nat} {m:Str->Option Value},P.Nodup->P[i]?=some x->vs[i]?=some v->kindOf x=some .local ->
  bindL kindOf (P.zip vs) m x=some v
 |[],_,_,_,_,h,_,_=>by simp at h
 |_::_,[],_,_,_,_,h,_=>by simp at h
 |p::P,w::vs,0,m,nd,h1,h2,hk=>by
  simp at h1 h2;subst h1;subst h2
  show bindL kindOf ((p,w)::P.zip vs) m p=_
  unfold bindL
  rw[Wu fun v hv=>(U5o.mp nd).1 (U34 hv).1,if_pos hk]
  simp
 |p::P,w::vs,i+1,m,nd,h1,h2,hk=>by
  show bindL kindOf ((p,w)::P.zip vs) m x=_
  unfold bindL
  exact Wv (i:=i) (U5o.mp nd).2 (by simpa using h1) (by simpa using h2) hk
theorem Wx{kindOf:Str->Option NameKind}{x:Str}{v:Value}:∀{P:List Str} {vs:List Value} {i:Nat} {m:Str->Option Value},P.Nodup->P[i]?=some x->vs[i]?=some v->kindOf x≠some .local ->
  bindC kindOf (P.zip vs) m x=some v
 |[],_,_,_,_,h,_,_=>by simp at h
 |_::_,[],_,_,_,_,h,_=>by simp at h
 |p::P,w::vs,0,m,nd,h1,h2,hk=>by
  simp at h1 h2;subst h1;subst h2
  show bindC kindOf ((p,w)::P.zip vs) m p=_
  unfold bindC
  rw[Ww fun v hv=>(U5o.mp nd).1 (U34 hv).1,if_neg hk]
  simp
 |p::P,w::vs,i+1,m,nd,h1,h2,hk=>by
  show bindC kindOf ((p,w)::P.zip vs) m x=_
  unfold bindC
  exact Wx (i:=i) (U5o.mp nd).2 (by simpa using h1) (by simpa using h2) hk
def start(N:List Str)(vs:List V):St:=vs.map some++U05 (N.length-vs.length) none
def Qy(CX:CXT)(P:Program)(w:World)(K:U0a)(mg:Str->Option Value)(base:Heap)(N:List Str)(qual:Str)(scope:Scope)(f:Addr)(cd:Value)(A:Around)(outer:List Env)(s:Shared)(H:Hp)(E:XK):Cx where
 prog:=P
 w:=w
 K:=K
 mg:=mg
 base:=base
 A:=A.deeper (envOfC qual scope s.heap.objs.size f cd)
 N:=N
 s₀:=s
 H₀:=H
 env:=envOfC qual scope s.heap.objs.size f cd
 outer:=outer
 stack:=envOfC qual scope s.heap.objs.size f cd::outer
 ex:=[]
 calm:=true
 fn:=fun _=>true
 pn:=[]
 xe:=fun e s'=>wpAny (model P w) (A.deeper (envOfC qual scope s.heap.objs.size f cd)) (leaving (envOfC qual scope s.heap.objs.size f cd) e) (fun _ s''=>CX outer H s E e s'') (fun e' s''=>CX outer H s E e' s'') s'
theorem Z0{sc:Scope}{n:Nat}{x:Str}(h:sc.names.lookup x=some .cell):∃c,(cellsFrom n sc.names []).lookup x=some c:=by
 have q:=U6 sc.names n [] (.inl h)
 exact U4l.mp q
theorem iR{CX:CXT}{P:Program}{w:World}{K:U0a}{mg:Str->Option Value}{base:Heap}{N ps:List Str}{qual:Str}{scope:Scope}{f:Addr}{cd:Value}{A:Around}{outer:List Env}{s s1:Shared}{H:Hp}{E:XK}{us:List Value}{vs:List V}
  (S:CK N ps scope) (hd:A.handled=none) (e0:bw P w K mg base A outer s H) (hl:vs.length=ps.length) (r:Vals vs us)
  (x:InCallC s s.heap.objs.size (bindL (envOfC qual scope s.heap.objs.size f cd).kindOf (ps.zip us) fun _=>none) (cellsFrom (s.heap.objs.size+1) scope.names []) (bindC (envOfC qual scope s.heap.objs.size f cd).kindOf (ps.zip us) fun _=>none) s1) :
  Inv (Qy CX P w K mg base N qual scope f cd A outer s H E) [] (start N vs) H s1:=by
 have hpl:ps.length<=N.length:=by have:=congrArg U5f S.pre;rw[U19] at this;omega
 obtain⟨h1,tk,rfl,hk⟩:=x.done
 have noA:∀b:Addr,b ∉ (Qy CX P w K mg base N qual scope f cd A outer s H E).ex:=fun b z=>absurd (show b∈([]:List Addr) from z) (by simp)
 refine⟨⟨e0.mod,S.kind,rfl,rfl,U0o _,fun y z c h1 h2=>?_,fun y hy=>?_,fun y c _ h=>?_,fun _=>hd,Around.frames_deeper e0.frames,.inr ⟨rfl,rfl⟩,fun b z=>absurd z (noA b),e0.bs,e0.bsz,fun b _ _=>noA b,fun b z=>absurd z (noA b),e0.OJ,e0.frf,e0.sy⟩,
  rfl,e0.bare,Un.kept hk,⟨_,x.toInCall.ns,fun i y v h1 h2 h3=>?_⟩,fun y c h=>⟨_,x.cell y c h⟩,e0.hok.fresh (U0o _),fun y c h=>?_,fun p hp=>absurd (show p∈([]:List (Addr×Obj)) from hp) (by simp),e0.hok.kept hk,?_⟩
 .exact name_of_addr x.apart (U23 h1) (U23 h2)
 .have hy:scope.names.lookup y=some .cell∨scope.names.lookup y=some .free:=hy
  rcases hy with hy|hy
  .exact Z0 hy
  .exact absurd rfl (S.nofree _ (U23 hy))
 .exact U2q (x.above y c (U23 h))
 .have hi:i<vs.length:=by
   unfold start at h2
   by_cases hi:i<vs.length
   .exact hi
   .rw[U2g (by simpa using hi)] at h2
    rw[U4t] at h2
    split at h2<;>cases h2
  have ha:vs[i]?=some v:=by
   unfold start at h2
   rw[U1g (by simpa using hi),U0y] at h2
   cases e:vs[i]? with
   |none=>rw[e] at h2;cases h2
   |some a=>rw[e] at h2;cases h2;rfl
  obtain⟨u,hu,rv⟩:=r.get ha
  have hp:ps[i]?=some y:=by
   rw[←S.pre,List.getElem?_take_of_lt (by omega)];exact h1
  have ndP:ps.Nodup:=by rw[←S.pre];exact S.nd.sublist (List.take_sublist _ _)
  refine⟨u,rv,?_⟩
  rcases S.par y (U18 hp) with k|k
  .exact .inl ⟨k,Wv ndP hp hu k⟩
  .obtain⟨c,e⟩:=Z0 (n:=s.heap.objs.size+1) k
   refine .inr ⟨.inl k,c,e,?_⟩
   have q:=x.cell y c e
   rw[Wx ndP hp hu (by show scope.names.lookup y≠_;rw[k];decide)] at q
   exact q
 .exact e0.hok.fresh (U2q (x.above y c (U23 h)))
 .unfold start
  show _=N.length
  rw[U0n,U0j,U2a]
  omega
theorem yO{CX:CXT}{P:Program}{w:World}{K:U0a}{mg:Str->Option Value}{base:Heap}{k:Nat}{f:Addr}{name qual:Str}{params:Arguments}{body:List Stmt}{scope:Scope}{dV kV doc pm cdv ct oc:Value}{an od:Option Addr}
  {osl:Array (Option Value)} {N ps:List Str} {sp:Sp} (lk:K.lookup f=some ⟨oc,od,.func (U08 name qual params body scope dV kV doc pm an cdv ct),osl⟩) (hcd:U02 K cdv qual=true) (S:CK N ps scope)
  (len:∀vs H Q E,sp vs H Q E->vs.length=ps.length)
  (hbody:∀(A:Around)(outer:List Env)(s:Shared)(H:Hp)(vs:List V)(Q:VK)(E:XK),FN k (A.deeper (envOfC qual scope s.heap.objs.size f cdv))->sp vs H Q E ->
   ∃t,PSs (Qy CX P w K mg base N qual scope f cdv A outer s H E) body t/\t { nx:=fun _ H'=>Q .non H',rt:=Q } (start N vs) H) :
  DG P w K mg base CX (k+1) f (U08 name qual params body scope dV kV doc pm an cdv ct) ps sp:=by
 refine⟨len,fun A outer s H args us vs Q E hr e0 hb r hsp=>?_⟩
 have hl:=len _ _ _ _ hsp
 have KX:K.In s.heap:=e0.mod.kin.keeps fun b o e=>(e0.bs b o e).1
 have lim:s.heap.NoLimit:=e0.mod.nolimit.keeps fun b o e=>(e0.bs b o e).1
 have hkind:∀y∈ps.zip us,scope.names.lookup y.1=some .local∨(scope.names.lookup y.1=some .cell/\((cellsFrom (s.heap.objs.size+1) scope.names []).lookup y.1).isSome=true):=fun⟨n,v⟩ hy=>by
  rcases S.par n (U34 hy).1 with q|q
  .exact .inl q
  .exact .inr ⟨q,U6 _ _ _ (.inl q)⟩
 refine codeAny_call_function hr.depth (KX _ _ lk) rfl S.co S.gen rfl (PySem.W.codeRec_of KX hcd) (hb _ _ _ _ ?_)
 refine wpAny_newFunctionEnv_cells S.kind hkind fun env he s1 x=>?_
 subst he
 refine⟨lim.keeps x.toInCall.keep,codeAny_func ?_⟩
 obtain⟨t,ht,hq⟩:=hbody A outer s H vs Q E (hr.deeper _) hsp
 have I:Inv (Qy CX P w K mg base N qual scope f cdv A outer s H E) [] (start N vs) H s1:=iR S hr.hd e0 hl r x
 refine U51 (ht [] s1 (start N vs) H _ I hq) (fun fl s' hs=>?_) fun e s' hs=>hs
 have fin:∀{σ':St} {H':Hp} {v:V} {u:Value},Inv (Qy CX P w K mg base N qual scope f cdv A outer s H E) [] σ' H' s'->RelV v u->Q v H'->CE outer P w H s Q u s' :=
  fun {σ' H' v u} J rv q=>⟨v,H',J.os,J.bare,J.base,J.hok,rv,q⟩
 cases fl with
 |ret u =>
  obtain⟨v,σ',H',J,rv,q⟩:=hs
  exact fin J rv q
 |next =>
  obtain⟨σ',H',J,q⟩:=hs
  exact fin (v:=V.non) (u:=U2r) J rfl q
 |brk =>
  obtain⟨_,_,_,q⟩:=hs
  exact U4e q
 |cont =>
  obtain⟨_,_,_,q⟩:=hs
  exact U4e q
end L2
namespace L2
open PySem PySem.Spec PyProof.Rows
section
variable{X:Cx}{x:Str}{p pos:Pos}{e:Expr}{es:List Expr}{t:TA}{id T:String}{r:List V->Hp->VK->Prop}
def tCB(r:List V->Hp->VK->Prop)(t:TA):TE:=fun σ H Q=>t σ H fun vs H1=>r vs H1 Q
theorem YQ(hc:Dn X (.builtin id) r)(hg:Gl X x)(hm:X.mg x=none)(hv:bootBuiltins x=some (.builtin id))(ha:PA X (e::es) t)(hn:x≠"__name__":=by decide)(hdb:(x==("__debug__":Str))=false:=by decide)
  (he:starEach (e::es) X.env=(false,eval e X.env)::starEach es X.env:=by rfl) (hpl:(backTo pos (starEach es X.env)).any (·.1)=false:=by rfl):PE X (.Call (.Name x p) (e::es) [] pos) (tCB r t):=by
 intro pins s σ H Q I h
 refine U5r (LQ I hg hm hv ?_ hn hdb)
 exact PyProof.Rows.callWith_builtin1 (thn (ha pos pins s σ H _ I h) fun us s1 ⟨vs,H1,I1,r1,q1⟩=>hc pins s1 σ H1 vs us Q I1 r1 q1) he hpl
theorem Kq(hc:Dn X (.type T) r)(hg:Gl X x)(hm:X.mg x=none)(hv:bootBuiltins x=some (.type T))(ha:PA X (e::es) t)(hn:x≠"__name__":=by decide)(hdb:(x==("__debug__":Str))=false:=by decide)
  (he:starEach (e::es) X.env=(false,eval e X.env)::starEach es X.env:=by rfl) (hpl:(backTo pos (starEach es X.env)).any (·.1)=false:=by rfl):PE X (.Call (.Name x p) (e::es) [] pos) (tCB r t):=by
 intro pins s σ H Q I h
 refine U5r (LQ I hg hm hv ?_ hn hdb)
 exact U2v (thn (ha pos pins s σ H _ I h) fun us s1 ⟨vs,H1,I1,r1,q1⟩=>hc pins s1 σ H1 vs us Q I1 r1 q1) he hpl
end
end L2
namespace HT
open PySem PyProof.Rows
section
open PySem.SeqAt
open PySem.AutoSeq1 (wpAny_loadPart')
open PySem.MeetsSeq PySem.MeetsSeq2 PySem.MeetsSeq3
end
section
variable{prog:Program}{w:World}{A:Around}{E:Value->Shared->Prop}{s:Shared}
theorem rE{t b:Addr}{vs ws:List Value}{Q:Value->Shared->Prop}(ht:IsTup s.heap t vs.toArray)(hb:IsTup s.heap b ws.toArray)(hv:vs≠[])
  (h1:ws=[]->Q (.ref t) s) (h2:ws≠[]->Q (.ref s.heap.objs.size) { s with heap:=s.heap.push { cls:=.type "tuple",data:=.seq (vs++ws).toArray } })
  (hsz:vs.length+ws.length<=sizeLine):wpAny (model prog w) A (binaryOp .Add (.ref t) (.ref b)) Q E s:=by
 obtain⟨⟨cls,dd,data,sl⟩,ho,hc,n,hd⟩:=id ht
 obtain⟨⟨cls2,dd2,data2,sl2⟩,ho2,hc2,n2,hd2⟩:=id hb
 simp only at hc hd hc2 hd2
 subst hc hd hc2 hd2
 have e:vs.toArray++ws.toArray=(vs++ws).toArray:=by simp
 by_cases hw:ws=[]
 .exact concat_meets ⟨_,ho,rfl⟩ ⟨_,ho2,rfl⟩ noFill_tuple_add seq_tuple_add U6a U55 (U5s _ _)
   (tuple_addW1 t b vs.toArray ws.toArray n n2 dd dd2 sl sl2 (by simpa using hv) (by simp[hw])) ⟨ho,ho2,h1 hw⟩
 .refine concat_meets ⟨_,ho,rfl⟩ ⟨_,ho2,rfl⟩ noFill_tuple_add seq_tuple_add U6a U55 (U5s _ _)
   (tuple_addW2 t b vs.toArray ws.toArray n n2 dd dd2 sl sl2 (by simpa using hv) (by simpa using hw) (by rw[U0r,U0r];exact hsz)) ⟨ho,ho2,?_⟩
  rw[e]
  exact h2 hw
def sIx(n d:Nat):Option Int->Nat
 |none=>d
 |some v=>if v<0 then (v+(n:Int)).toNat else min v.toNat n
theorem uL(n d:Nat)(hd:d<=n)(o:Option Int):sIx n d o<=n:=by
 cases o with
 |none=>exact hd
 |some v =>
  show(if v<0 then (v+(n:Int)).toNat else min v.toNat n)<=n
  by_cases hv:v<0
  .rw[if_pos hv];omega
  .rw[if_neg hv];exact Nat.min_le_right _ _
theorem bK(v:Int)(n d:Nat):(if v<0 then max (v+(n:Int)) 0 else min v (n:Int))=((sIx n d (some v):Nat):Int):=by
 show(if v<0 then max (v+(n:Int)) 0 else min v (n:Int))=(((if v<0 then (v+(n:Int)).toNat else min v.toNat n):Nat):Int)
 by_cases hv:v<0
 .simp only[if_pos hv];omega
 .simp only[if_neg hv];omega
theorem dY(lo hi:Option Int)(n:Nat):U5p lo hi 1 (n:Int)=(((sIx n 0 lo:Nat):Int),((sIx n n hi:Nat):Int)):=by
 have h1:¬((1:Int)<0):=by omega
 unfold U5p
 simp only[h1,if_false]
 refine Prod.ext ?_ ?_
 .cases lo with
  |none=>rfl
  |some v=>exact bK v n 0
 .cases hi with
  |none=>rfl
  |some v=>exact bK v n n
theorem cU(i j:Nat):U4f (i:Int) (j:Int) 1=j-i:=by
 unfold U4f
 have h1:(1:Int)>0:=by omega
 simp only[h1,if_true,Int.ediv_one]
 split<;>omega
theorem Uu{v:Value}{o:Option Int}{Q:Option Int->Shared->Prop}(p:IsPart v o)(h:Q o s):wpAny (model prog w) A (Builtin.Slice.slicePartIndex v) Q E s:=by
 cases p with
 |none=>exact slicePart_none h
 |int i t=>exact slicePart_int h
theorem Oz{sl:Addr}{vl vu:Value}{lo hi:Option Int}{n:Nat}{Q:Int×Int×Nat->Shared->Prop}(hs:s.heap.IsSliceOf sl vl vu .none)(pl:IsPart vl lo)(pu:IsPart vu hi)
  (h:Q (((sIx n 0 lo:Nat):Int),1,sIx n n hi-sIx n 0 lo) s):wpAny (model prog w) A (Builtin.Slice.sliceApplied (.ref sl) (pure (n:Int))) Q E s:=by
 obtain⟨os,hos,hcs,hds⟩:=id hs
 unfold Builtin.Slice.sliceApplied Builtin.Slice.sliceFields
 refine U0 (U0 (U2h hos hds (x:=vl) rfl (U0 (U2h hos hds (x:=vu) rfl (U0 (U2h hos hds (x:=.none) rfl (U0f ?_)))))))
 refine U0 (slicePart_none ?_)
 show wpAny _ _ (if ((1:Int)==0)=true then _ else _) _ _ s
 rw[if_neg (by decide)]
 refine U0 (Uu pl (U0 (Uu pu (U0 (U0f ?_)))))
 show wpAny _ _ (match U5p lo hi 1 (n:Int) with|(lo,hi)=>pure (lo,(1:Int),U4f lo hi 1)) _ _ s
 rw[dY lo hi n]
 show wpAny _ _ (pure (((sIx n 0 lo:Nat):Int),(1:Int),U4f ((sIx n 0 lo:Nat):Int) ((sIx n n hi:Nat):Int) 1)) _ _ s
 rw[cU]
 exact U0f h
theorem kO(xs:Array Value)(i k:Nat):((U0h k).filterMap fun(m:Nat)=>xs[((i:Int)+(m:Int)*1).toNat]?).toArray=((xs.toList.drop i).take k).toArray:=by
 have e:(fun(m:Nat)=>xs[((i:Int)+(m:Int)*1).toNat]?)=fun m=>xs[i+m]?:=by
  funext m
  have:((i:Int)+(m:Int)*1).toNat=i+m:=by omega
  rw[this]
 rw[e]
 have:=pick_run xs i k
 rw[U4y] at this
 have e2:((fun x=>xs[x]?)∘fun x=>i+x)=fun m=>xs[i+m]?:=rfl
 rw[e2] at this
 rw[this]
theorem SJ{t sl:Addr}{items:Array Value}{vl vu:Value}{lo hi:Option Int}{Q:Value->Shared->Prop}(ht:IsTup s.heap t items)(hs:s.heap.IsSliceOf sl vl vu .none)(pl:IsPart vl lo)(pu:IsPart vu hi)
  (hw:¬(sIx items.size 0 lo=0/\sIx items.size items.size hi=items.size))
  (h:Q (.ref s.heap.objs.size) { s with heap:=s.heap.push { cls:=.type "tuple",data:=.seq ((items.toList.drop (sIx items.size 0 lo)).take (sIx items.size items.size hi-sIx items.size 0 lo)).toArray } })
  (hsz:items.size<=sizeLine):wpAny (model prog w) A (getItem (.ref t) (.ref sl)) Q E s:=by
 have htake:sizeOk (.seq ((items.toList.drop (sIx items.size 0 lo)).take (sIx items.size items.size hi-sIx items.size 0 lo)).toArray):=by
  show((items.toList.drop (sIx items.size 0 lo)).take (sIx items.size items.size hi-sIx items.size 0 lo)).toArray.size<=sizeLine
  rw[U0r,U19,U6f,U1q]
  omega
 have hj:sIx items.size items.size hi<=items.size:=uL _ _ (U0o _) hi
 obtain⟨os,hos,hcs,hds⟩:=id hs
 have hTs:s.TypeIs (.ref sl) "slice":=⟨os,hos,hcs⟩
 unfold getItem
 try with_reducible refine U2p ?_
 first|refine U0 (U0f ?_)|skip
 refine U0 (wpAny_sequenceKey ht.typeIs (by decide) ?_)
 refine U0 (wpAny_callSpecial?_slot (name:=U3e "__getitem__") ht.typeIs U2y
  (U2l U2y ht.typeIs entry_tuple_getitem ?_ (args_tuple_getitem _ _)))
 show wpAny _ _ (Builtin.Tuple.tupleItemsOf (.ref t) >>= _) _ _ s
 refine U0 (tupleItemsOf_ ht ?_)
 refine U0 (U5t hTs ?_)
 rw[if_pos (by decide)]
 refine U0 (Oz hs pl pu ?_)
 have hno:¬((((sIx items.size 0 lo:Nat):Int)==0&&(1:Int)==1&&(sIx items.size items.size hi-sIx items.size 0 lo)==items.size)=true):=by
  intro q
  rw[U00,U00] at q
  have q1:((sIx items.size 0 lo:Nat):Int)=0:=eq_of_beq q.1.1
  have q2:sIx items.size items.size hi-sIx items.size 0 lo=items.size:=eq_of_beq q.2
  exact hw ⟨by omega,by omega⟩
 show wpAny _ _ (if (((sIx items.size 0 lo:Nat):Int)==0&&(1:Int)==1&&(sIx items.size items.size hi-sIx items.size 0 lo)==items.size)=true then _ else _) _ _ s
 rw[if_neg hno,kO]
 first
  |exact U0 (m:=U4m _) (U2f (U0f ⟨_,rfl,U0f h⟩) htake)
  |exact U0 (m:=U4m _) (U2f (U0 (U0f (U0f ⟨_,rfl,U0f h⟩))) htake)
  |exact U0 (U0 (m:=U4m _) (U2f (U0f (U0f ⟨_,rfl,U0f h⟩)) htake))
  |exact U0 (U0 (m:=U4m _) (U2f (U0f ⟨_,rfl,U0f h⟩) htake))
end
end HT
namespace L2
open PySem PySem.Spec PyProof.Rows
abbrev TO:=St->Hp->(Option Int->Hp->Prop)->Prop
def PO(X:Cx)(e:Option Expr)(t:TO):Prop :=
 ∀(pins:List (Addr×Obj))(s:Shared)(σ:St)(H:Hp)(Q:Option Int->Hp->Prop),Inv X pins σ H s->t σ H Q ->
  wpAny (model X.prog X.w) X.A (evalPart e X.env) (fun u s'=>∃o H',Inv X pins σ H' s'/\IsPart u o/\Q o H') X.xe s
def o8:TO:=fun _ H Q=>Q none H
def xJ(t:TE):TO:=fun σ H Q=>t σ H fun x H1=>∃i,x=.int i/\Q (some i) H1
theorem intsAre_of{ns:List Int}:∀{us:List Value},Vals (ns.map V.int) us->IntsAre us ns:=by
 induction ns with
 |nil=>intro us r;rw[U1e] at r;cases r;exact .nil
 |cons n ns ih =>
  intro us r
  rw[U0m] at r
  cases r with
  |cons r1 r2 =>
   obtain⟨t,e⟩:=r1
   subst e
   exact .cons n t (ih r2)
section
variable{X:Cx}{e:Expr}{te:TE}{lo hi:Option Expr}{tl th:TO}{pos p2:Pos}
theorem pG:PO X none o8:=by
 intro pins s σ H Q I h
 rw[evalPart_none]
 exact U0f ⟨none,H,I,.none,h⟩
theorem pF(h:PE X e te):PO X (some e) (xJ te):=by
 intro pins s σ H Q I hw
 rw[evalPart_some]
 refine thn (h pins s σ H _ I hw) fun u s1 ⟨x,H1,I1,r1,q1⟩=>?_
 obtain⟨i,rfl,q⟩:=q1
 obtain⟨t,rfl⟩:=r1
 exact⟨some i,H1,I1,.int i t,q⟩
def SlR(X:Cx)(r:V->Option Int->Option Int->Hp->VK->Prop):Prop :=
 ∀(pins:List (Addr×Obj))(s:Shared)(σ:St)(H:Hp)(x:V)(v vl vu:Value)(lo hi:Option Int)(sl:Addr)(Q:VK),Inv X pins σ H s->RelV x v->s.heap.IsSliceOf sl vl vu .none->IsPart vl lo->IsPart vu hi->r x lo hi H Q ->
  ∃T id,typeLookup (.type T) "__getitem__"=pure (some (.builtin id))/\s.TypeIs v T/\wpAny (model X.prog X.w) X.A (getItem v (.ref sl)) (EP X pins σ Q) X.xe s
theorem SlR.or{r r':V->Option Int->Option Int->Hp->VK->Prop}(h:SlR X r)(h':SlR X r'):SlR X (fun x lo hi H Q=>r x lo hi H Q∨r' x lo hi H Q):=by
 intro pins s σ H x v vl vu lo hi sl Q I rx hs pl pu q
 rcases q with q|q
 .exact h pins s σ H x v vl vu lo hi sl Q I rx hs pl pu q
 .exact h' pins s σ H x v vl vu lo hi sl Q I rx hs pl pu q
def tSl(r:V->Option Int->Option Int->Hp->VK->Prop)(te:TE)(tl th:TO):TE:=fun σ H Q=>te σ H fun x H1=>tl σ H1 fun l H2=>th σ H2 fun u H3=>r x l u H3 Q
theorem kY{r:V->Option Int->Option Int->Hp->VK->Prop}(hr:SlR X r)(he:PE X e te)(hl:PO X lo tl)(hu:PO X hi th):PE X (.Subscript e (.Slice lo hi none p2) pos) (tSl r te tl th):=by
 intro pins s σ H Q I h
 refine Subscript_ (thn (he pins s σ H _ I h) fun v s1 ⟨x,H1,I1,r1,q1⟩=>?_)
 refine wpAny_Slice (thn (hl pins s1 σ H1 _ I1 q1) fun vl s2 ⟨l,H2,I2,pl,q2⟩=>thn (hu pins s2 σ H2 _ I2 q2) fun vu s3 ⟨u,H3,I3,pu,q3⟩=>?_)
 rw[evalPart_none]
 refine U0f ?_
 have I4:Inv X pins σ H3 { s3 with heap:=s3.heap.push { cls:=.type "slice",data:=.fields #[vl,vu,.none] } }:=I3.kept (t':=s3.toks) fun b ob q=>U0c _ q
 obtain⟨T,id,hT,ht,hg⟩:=hr pins { s3 with heap:=s3.heap.push { cls:=.type "slice",data:=.fields #[vl,vu,.none] } } σ H3 x v vl vu l u s3.heap.objs.size Q I4 r1 (U63 ..) pl pu q3
 show wpAny (model X.prog X.w) X.A (subscriptTail e (.Slice lo hi none p2) v (.ref s3.heap.objs.size)) (EP X pins σ Q) X.xe { s3 with heap:=s3.heap.push { cls:=.type "slice",data:=.fields #[vl,vu,.none] } }
 exact tail_any (ops:=[.ref s3.heap.objs.size,v]) ht hT hg (by with_unfolding_all rfl)
def Kr(xs:List V)(lo hi:Option Int):List V:=(xs.drop (HT.sIx xs.length 0 lo)).take (HT.sIx xs.length xs.length hi-HT.sIx xs.length 0 lo)
theorem T3(xs:List V)(lo hi:Option Int):(Kr xs lo hi).length<=xs.length:=by
 unfold Kr
 rw[U19,U6f]
 omega
def zF(K:U0a):V->Option Int->Option Int->Hp->VK->Prop:=fun x lo hi H Q=>∃a xs,x=.ref a/\SqT K H a xs /\
 ¬(HT.sIx xs.length 0 lo=0/\HT.sIx xs.length xs.length hi=xs.length)/\∀p,H p=none->Q (.ref p) (upd H p (.tup (Kr xs lo hi)))
theorem uJ:SlR X (zF X.K):=by
 intro pins s σ H x v vl vu lo hi sl Q I rx hs pl pu h
 obtain⟨a,xs,rfl,hx,hw,q⟩:=h
 cases rx
 obtain⟨its,r,ht,hz⟩:=I.tuple hx
 have hlen:its.toArray.size=xs.length:=by rw[U0r];exact r.length.symm
 refine⟨"tuple",_,U2y.lookup,ht.typeIs,?_⟩
 refine HT.SJ ht hs pl pu (by rw[hlen];exact hw) ?_ (by rw[hlen];exact hz)
 rw[hlen]
 refine⟨.ref s.heap.objs.size,_,I.laid (t':=s.toks) (o:=.tup (Kr xs lo hi)) (fun b ob q=>U0c _ q) (U0o _) ?_,rfl,q _ (I.hok.fresh (U0o _))⟩
 exact⟨U06 (T3 xs lo hi) hz,_,(r.drop (HT.sIx xs.length 0 lo)).take (HT.sIx xs.length xs.length hi-HT.sIx xs.length 0 lo),U62 _ _⟩
def xU(K:U0a):R2:=fun x y H Q=>∃a b xs ys,x=.ref a/\y=.ref b/\SqT K H a xs/\SqT K H b ys/\xs≠[]/\xs.length+ys.length<=sizeLine /\
 (ys=[]->Q (.ref a) H)/\(ys≠[]->∀p,H p=none->Q (.ref p) (upd H p (.tup (xs++ys))))
theorem Vals.Rt{xs:List V}{us:List Value}(r:Vals xs us):us=[]↔xs=[]:=by
 cases r with
 |nil=>simp
 |cons _ _=>simp
theorem pP:OpR X (binaryOp .Add) (xU X.K):=by
 intro pins s σ H x y v u Q I rx ry h
 obtain⟨a,b,xs,ys,rfl,rfl,ha,hb,hx,hz,q1,q2⟩:=h
 cases rx
 cases ry
 obtain⟨its,r1,p1,_⟩:=I.tuple ha
 obtain⟨its2,r2,p2,_⟩:=I.tuple hb
 refine HT.rE p1 p2 (fun z=>hx (r1.Rt.mp z)) (fun z=>⟨.ref a,H,I,rfl,q1 (r2.Rt.mp z)⟩) (fun z=>?_) (by rw[←r1.length,←r2.length];exact hz)
 refine⟨.ref s.heap.objs.size,_,I.laid (t':=s.toks) (o:=.tup (xs++ys)) (fun b ob q=>U0c _ q) (U0o _) ?_,rfl,q2 (fun w=>z (r2.Rt.mpr w)) _ (I.hok.fresh (U0o _))⟩
 exact⟨by rw[U0n];exact hz,_,r1.append r2,U62 _ _⟩
end
end L2
namespace L2
open PySem PySem.Spec PyProof.Rows
def ixN(n:Nat)(i:Int):Option Nat:=if 0<=i then (if i<n then some i.toNat else none) else if -(n:Int)<=i then some (i+n).toNat else none
def atI{α:Type}(xs:List α)(i:Int):Option α:=(ixN xs.length i).bind fun j=>xs[j]?
theorem bC{n:Nat}{i:Int}{j:Nat}(h:ixN n i=some j):seqIndex? i n=some j/\j<n/\-(n:Int)<=i/\i<n:=by
 unfold ixN at h
 by_cases h0:0<=i
 .rw[if_pos h0] at h
  by_cases h1:i<n
  .rw[if_pos h1] at h
   have e:i.toNat=j:=U09 h
   exact⟨by rw[seqIndex_of h0 h1,e],by omega,by omega,h1⟩
  .rw[if_neg h1] at h;cases h
 .rw[if_neg h0] at h
  by_cases h1:-(n:Int)<=i
  .rw[if_pos h1] at h
   have e:(i+n).toNat=j:=U09 h
   exact⟨by rw[seqIndex_neg (by omega) h1,e],by omega,h1,by omega⟩
  .rw[if_neg h1] at h;cases h
theorem Vw{α:Type}{xs:List α}{i:Int}{v:α}(h:atI xs i=some v):∃j,seqIndex? i xs.length=some j/\xs[j]?=some v/\j<xs.length/\-(xs.length:Int)<=i/\i<xs.length:=by
 unfold atI at h
 cases e:ixN xs.length i with
 |none=>rw[e] at h;cases h
 |some j =>
  rw[e] at h
  obtain⟨h1,h2,h3,h4⟩:=bC e
  exact⟨j,h1,h,h2,h3,h4⟩
theorem Kh{α:Type}{xs:List α}{j:Nat}{v:α}(h:xs[j]?=some v):atI xs (j:Int)=some v:=by
 have hj:j<xs.length:=(U0l.mp h).1
 have e:ixN xs.length (j:Int)=some j:=by
  unfold ixN
  rw[if_pos (by omega),if_pos (by omega)];simp
 unfold atI;rw[e];exact h
theorem Qh{α:Type}(xs:List α)(v:α):atI (xs++[v]) (-1)=some v:=by
 have hl:(xs++[v]).length=xs.length+1:=by simp
 have e:ixN (xs++[v]).length (-1)=some xs.length:=by
  unfold ixN
  rw[hl,if_neg (by decide),if_pos (by omega)]
  congr 1
  omega
 unfold atI
 rw[e]
 show(xs++[v])[xs.length]?=some v
 simp
def S6(b:Expr):Prop:=∀o i,subscripted b false o i=operate [o,i] (getItem o i)
def IxR(X:Cx)(r:R2):Prop :=
 ∀(value slice:Expr)(pins:List (Addr×Obj))(s:Shared)(σ:St)(H:Hp)(x y:V)(v u:Value)(Q:VK),Inv X pins σ H s->RelV x v->RelV y u->r x y H Q ->
  subscripted slice false v u=operate [v,u] (getItem v u)->wpAny (model X.prog X.w) X.A (subscriptTail value slice v u) (EP X pins σ Q) X.xe s
def MtR(X:Cx)(id:String)(r:V->List V->Hp->VK->Prop):Prop :=
 ∀(pins:List (Addr×Obj))(s:Shared)(σ:St)(H:Hp)(x:V)(xs:List V)(v:Value)(us:List Value)(Q:VK),Inv X pins σ H s->RelV x v->Vals xs us->r x xs H Q ->
  wpAny (model X.prog X.w) X.A (call (.builtin id) (v::us)) (EP X pins σ Q) X.xe s
section
variable{X:Cx}{a b:Expr}{ta tb:TE}{pos:Pos}
theorem IxR.or{r r':R2}(h:IxR X r)(h':IxR X r'):IxR X (fun x y H Q=>r x y H Q∨r' x y H Q):=by
 intro value slice pins s σ H x y v u Q I rx ry q hs
 rcases q with q|q
 .exact h value slice pins s σ H x y v u Q I rx ry q hs
 .exact h' value slice pins s σ H x y v u Q I rx ry q hs
theorem xg{r:R2}(hr:IxR X r)(ha:PE X a ta)(hb:PE X b tb)(hs:S6 b):PE X (.Subscript a b pos) (tOp r ta tb):=by
 intro pins s σ H Q I h
 exact Subscript_ (bY ha hb I h fun v u s2 x y H2 I2 rx ry q=>hr a b pins s2 σ H2 x y v u Q I2 rx ry q (hs _ _))
def tQ(K:U0a):R2:=fun x y H Q=>∃p xs i v,x=.ref p/\y=.int i/\SqL K H p xs/\atI xs i=some v/\Q v H
def tM(K:U0a):R2:=fun x y H Q=>∃p xs i v,x=.ref p/\y=.int i/\SqT K H p xs/\atI xs i=some v/\Q v H
def tO:R2:=fun x y H Q=>∃z i c,x=.str z/\y=.int i/\z.length<=sizeLine/\atI z.cps.toList i=some c/\Q (.str ⟨#[c]⟩) H
theorem qR:IxR X (tQ X.K):=by
 intro value slice pins s σ H x y v u Q I rx ry h hs
 obtain⟨p,xs,i,z,rfl,rfl,hq,he,q⟩:=h
 cases rx
 obtain⟨t,rfl⟩:=ry
 obtain⟨its,r,pl,hz⟩:=I.list hq
 obtain⟨j,h1,h2,h3,h4,h5⟩:=Vw he
 obtain⟨w,ew,rw'⟩:=r.get h2
 have hl:=r.length
 have hn:=R8
 have fin:EP X pins σ Q w s:=⟨z,H,I,rw',q⟩
 by_cases h0:0<=i
 .have hj:i.toNat=j:=by
   rw[seqIndex_of h0 h5] at h1
   exact U09 h1
  exact item_listR pl.isList h0 (by omega) (by rw[hj];simpa using ew) fin hs
 .have hj:(i+(its.toArray.size:Int)).toNat=j:=by
   rw[seqIndex_neg (by omega) h4] at h1
   rw[U0r,←hl]
   exact U09 h1
  exact subscriptTail_builtinR (x:=w) pl.isList.typeIs slot_list_getitem.lookup
   (wpAny_getItem_list_neg (Q:=fun r s'=>r=w/\EP X pins σ Q r s') pl.isList (by omega) (by rw[U0r]<;>omega) (by omega) (by rw[hj];simpa using ew) ⟨rfl,fin⟩) hs
theorem vU:IxR X (tM X.K):=by
 intro value slice pins s σ H x y v u Q I rx ry h hs
 obtain⟨p,xs,i,z,rfl,rfl,hq,he,q⟩:=h
 cases rx
 obtain⟨t,rfl⟩:=ry
 obtain⟨its,r,pl,hz⟩:=I.tuple hq
 obtain⟨j,h1,h2,h3,h4,h5⟩:=Vw he
 obtain⟨w,ew,rw'⟩:=r.get h2
 have hl:=r.length
 have hn:=R8
 have fin:EP X pins σ Q w s:=⟨z,H,I,rw',q⟩
 exact subscriptTail_builtinR (x:=w) pl.typeIs slot_tuple_getitem.lookup
  (getItem_tuple (j:=j) (Q:=fun r s'=>r=w/\EP X pins σ Q r s') pl (by omega) (by omega) (by rw[U0r,←hl];exact h1) (by simpa using ew) ⟨rfl,fin⟩) hs
theorem vV:IxR X tO:=by
 intro value slice pins s σ H x y v u Q I rx ry h hs
 obtain⟨z,i,c,rfl,rfl,hz,he,q⟩:=h
 obtain⟨t,rfl⟩:=rx
 obtain⟨t',rfl⟩:=ry
 obtain⟨j,h1,h2,h3,h4,h5⟩:=Vw he
 have hl:z.cps.toList.length=z.length:=by simp[Str.length]
 rw[hl] at h1 h4 h5
 have hn:=R8
 exact tail_any (typeIs_str s z t) slot_str_getitem.lookup (getItem_str (c:=c) (by
  have e1:decide (i < -(2^63:Int))=false:=decide_eq_false (by omega)
  have e2:decide (i≥2^63)=false:=decide_eq_false (by omega)
  rw[e1,e2,Bool.or_false]) (by rw[h1];simpa using h2) ⟨.str ⟨#[c]⟩,H,I.tok _,⟨_,rfl⟩,q⟩) hs
def rIx(K:U0a):R2:=fun x y H Q=>tQ K x y H Q∨tM K x y H Q∨tO x y H Q
theorem BP:IxR X (rIx X.K):=qR.or (vU.or vV)
theorem d7(its:List Value)(n j:Nat)(u:Value):U2j (·.setIfInBounds j u) { cls:=.type "list",data:=.seq its.toArray n }={ cls:=.type "list",data:=.seq (its.set j u).toArray n }:=by
 simp[U2j]
theorem Inv.lst{pins:List (Addr×Obj)}{σ:St}{H:Hp}{s:Shared}{p:Addr}{xs:List V}(I:Inv X pins σ H s)(h:H p=some (.lst xs)) :
  ∃(its:List Value)(n:Nat),Vals xs its/\s.heap.get? p=some { cls:=.type "list",data:=.seq its.toArray n }/\xs.length<=sizeLine:=by
 obtain⟨z,its,n,r,e⟩:=I.hok p _ h
 exact⟨its,n,r,e,z⟩
theorem Inv.vD{pins:List (Addr×Obj)}{σ:St}{H:Hp}{s:Shared}{p:Addr}{xs ys:List V}{its its':List Value}{n n':Nat}{f:Obj->Obj}(I:Inv X pins σ H s)(h:H p=some (.lst xs))
  (ho:s.heap.get? p=some { cls:=.type "list",data:=.seq its.toArray n }) (hf:f { cls:=.type "list",data:=.seq its.toArray n }={ cls:=.type "list",data:=.seq its'.toArray n' }) (r:Vals ys its') (hz:ys.length<=sizeLine) (t:Nat) :
  Inv X pins σ (upd H p (.lst ys)) { s with heap:=s.heap.update p f,toks:=t }:=by
 have e:(s.heap.update p f).get? p=some { cls:=.type "list",data:=.seq its'.toArray n' }:=by
  rw[U2i f ho (by rw[hf]<;>rfl),hf]
 refine I.write (x:=p) (e:=p) (by rw[h];trivial) (.inl rfl) (fun b u hb q=>(U1i _ _ (U1w hb)).trans q) ⟨_,e⟩ ?_
 exact⟨hz,its',n',r,e⟩
def xQ:V->V->V->Hp->(Hp->Prop)->Prop:=fun o i v H Q=>∃p xs k j,o=.ref p/\i=.int k/\H p=some (.lst xs)/\ixN xs.length k=some j/\Q (upd H p (.lst (xs.set j v)))
theorem set_list:u5 X xQ:=by
 intro pins s σ H o i v ov iv u Q I ro ri rv h
 obtain⟨p,xs,k,j,rfl,rfl,hp,hj,q⟩:=h
 cases ro
 obtain⟨t,rfl⟩:=ri
 obtain⟨its,n,r,ho,hz⟩:=I.lst hp
 obtain⟨h1,h2,h3,h4⟩:=bC hj
 have hl:=r.length
 have hn:=R8
 have I':Inv X pins σ (upd H p (.lst (xs.set j v))) { s with heap:=s.heap.update p (U2j (·.setIfInBounds j u)) } :=
  I.vD hp ho (d7 its n j u) (r.set rv j) (by rw[U3v];exact hz) s.toks
 by_cases h0:0<=k
 .have hk:k.toNat=j:=by
   rw[seqIndex_of h0 h4] at h1
   exact U09 h1
  exact PySem.W.ki_setAt ho h0 (by omega) (by rw[U0r,←hl];exact h4) (by rw[hk];exact⟨_,I',q⟩)
 .have hk:(k+(its.toArray.size:Int)).toNat=j:=by
   rw[seqIndex_neg (by omega) h3] at h1
   rw[U0r,←hl]
   exact U09 h1
  exact PySem.W.ki_setBack ho (by omega) (by rw[U0r,←hl];exact h3) (by omega) (by rw[hk];exact⟨_,I',q⟩)
theorem Z7(lo hi:Option Int)(n:Nat):(sliceBounds lo hi none n).1=((HT.sIx n 0 lo:Nat):Int)/\(sliceBounds lo hi none n).2.1=((HT.sIx n n hi:Nat):Int)/\(sliceBounds lo hi none n).2.2=1:=by
 refine⟨?_,?_,rfl⟩
 .cases lo with
  |none=>simp[sliceBounds,HT.sIx]
  |some i =>
   simp only[sliceBounds,HT.sIx,Option.getD_none,show(1:Int)>0 by decide,if_true]
   by_cases h:i<0
   .simp only[h,if_true]<;>omega
   .simp only[h,if_false]<;>omega
 .cases hi with
  |none=>simp[sliceBounds,HT.sIx]
  |some i =>
   simp only[sliceBounds,HT.sIx,Option.getD_none,show(1:Int)>0 by decide,if_true]
   by_cases h:i<0
   .simp only[h,if_true]<;>omega
   .simp only[h,if_false]<;>omega
theorem X4(its:List Value)(lo hi:Option Int):slicePick its.toArray lo hi none=((its.drop (HT.sIx its.length 0 lo)).take (HT.sIx its.length its.length hi-HT.sIx its.length 0 lo)).toArray:=by
 obtain⟨h1,h2,h3⟩:=Z7 lo hi its.toArray.size
 unfold slicePick
 rw[h1,h2,h3]
 simp only[sliceRange_one,pick_run,U0r]<;>rfl
def tE(K:U0a):V->Option Int->Option Int->Hp->VK->Prop:=fun x lo hi H Q=>∃a xs,x=.ref a/\SqL K H a xs/\∀p,H p=none->Q (.ref p) (upd H p (.lst (Kr xs lo hi)))
theorem oE:SlR X (tE X.K):=by
 intro pins s σ H x v vl vu lo hi sl Q I rx hs pl pu h
 obtain⟨a,xs,rfl,hx,q⟩:=h
 cases rx
 obtain⟨its,r,ht,hz⟩:=I.list hx
 have hlen:=r.length
 refine⟨"list",_,slot_list_getitem.lookup,ht.isList.typeIs,?_⟩
 refine U5u ht.isList hs pl pu .none (by simp) ?_ (by rw[U0r]<;>omega)
 rw[X4,←hlen]
 refine⟨.ref s.heap.objs.size,_,I.laid (t':=s.toks) (o:=.lst (Kr xs lo hi)) (fun b ob q=>U0c _ q) (U0o _) ?_,rfl,q _ (I.hok.fresh (U0o _))⟩
 exact⟨U06 (T3 xs lo hi) hz,_,0,(r.drop (HT.sIx xs.length 0 lo)).take (HT.sIx xs.length xs.length hi-HT.sIx xs.length 0 lo),U0w _ rfl⟩
theorem Dw:Dn X (.builtin "len") (fun xs H Q=>∃p ys,xs=[.ref p]/\(SqL X.K H p ys∨SqT X.K H p ys)/\Q (.int ys.length) H):=by
 intro pins s σ H xs us Q I r h
 obtain⟨p,ys,rfl,hq,q⟩:=h
 obtain⟨u,rfl,rx⟩:=vals1 r
 cases rx
 have hn:=R8
 rcases hq with hq|hq
 .obtain⟨its,r',pl,hz⟩:=I.list hq
  have hlen:=r'.length
  exact Calls.call_len_list pl.isList (by simp only[U0r]<;>omega) ⟨.int ys.length,H,I.tok _,⟨s.toks+1,by rw[U0r,hlen]⟩,q⟩
 .obtain⟨its,r',pl,hz⟩:=I.tuple hq
  have hlen:=r'.length
  exact len_tuple pl (by simp only[U0r]<;>omega) ⟨.int ys.length,H,I.tok _,⟨s.toks+1,by rw[U0r,hlen]⟩,q⟩
theorem Dn.or{f:Value}{r r':List V->Hp->VK->Prop}(h:Dn X f r)(h':Dn X f r'):Dn X f (fun xs H Q=>r xs H Q∨r' xs H Q):=by
 intro pins s σ H xs us Q I rs q
 rcases q with q|q
 .exact h pins s σ H xs us Q I rs q
 .exact h' pins s σ H xs us Q I rs q
theorem Rg:Dn X (.type "list") (fun xs H Q=>∃p ys,xs=[.ref p]/\(SqL X.K H p ys∨SqT X.K H p ys)/\∀l,H l=none->Q (.ref l) (upd H l (.lst ys))):=by
 intro pins s σ H xs us Q I r h
 obtain⟨p,ys,rfl,hq,q⟩:=h
 obtain⟨u,rfl,rx⟩:=vals1 r
 cases rx
 have fin:∀(its:List Value),Vals ys its->ys.length<=sizeLine->∀(h':Heap)(c':Nat),(∀b o',s.heap.get? b=some o'->h'.get? b=some o') ->
   h'.get? s.heap.objs.size=some { cls:=.type "list",dict:=none,data:=.seq its.toArray c',slots:=#[] }->EP X pins σ Q (.ref s.heap.objs.size) { s with heap:=h' }:=fun its r' hz h' c' kp e =>
  ⟨.ref s.heap.objs.size,_,I.laid (t':=s.toks) kp (U0o _) (show Ei X.prog X.w _ h' _ (.lst ys) from ⟨hz,its,c',r',e⟩),rfl,q _ (I.hok.fresh (U0o _))⟩
 rcases hq with hq|hq
 .obtain⟨its,r',pl,hz⟩:=I.list hq
  have hlen:=r'.length
  obtain⟨o,ho,hc,n,hd⟩:=pl.isList
  exact call_list_seq p (.inl rfl) ho hc hd (fun h' c' kp e=>fin its r' hz h' c' kp e) (by simp only[U0r]<;>omega)
 .obtain⟨its,r',pl,hz⟩:=I.tuple hq
  have hlen:=r'.length
  obtain⟨o,ho,hc,n,hd⟩:=pl
  exact call_list_seq p (.inr rfl) ho hc hd (fun h' c' kp e=>fin its r' hz h' c' kp e) (by simp only[U0r]<;>omega)
theorem Ni:Dn X (.type "tuple") (fun xs H Q=>∃p ys,xs=[.ref p]/\((SqL X.K H p ys/\∀l,H l=none->Q (.ref l) (upd H l (.tup ys)))∨(SqT X.K H p ys/\Q (.ref p) H))):=by
 intro pins s σ H xs us Q I r h
 obtain⟨p,ys,rfl,h⟩:=h
 obtain⟨u,rfl,rx⟩:=vals1 r
 cases rx
 rcases h with ⟨hq,q⟩|⟨hq,q⟩
 .obtain⟨its,r',pl,hz⟩:=I.list hq
  have hlen:=r'.length
  refine call_tuple_list pl.isList (fun h' kp=>?_) (by simp only[U0r]<;>omega)
  have I1:Inv X pins σ H { s with heap:=h' }:=I.kept (t':=s.toks) kp
  have I2:Inv X pins σ (upd H h'.objs.size (.tup ys)) { s with heap:=h'.push { cls:=.type "tuple",data:=.seq its.toArray } } :=
   I1.laid (t':=s.toks) (fun b o e=>U0c _ e) (U0o _) (show Ei X.prog X.w _ _ _ (.tup ys) from ⟨hz,its,r',U62 _ _⟩)
  exact⟨.ref h'.objs.size,_,I2,rfl,q _ (I1.hok.fresh (U0o _))⟩
 .obtain⟨its,r',pl,hz⟩:=I.tuple hq
  exact call_tuple_same pl ⟨.ref p,H,I,rfl,q⟩
def tyV(K:U0a)(T:String)(x:V)(H:Hp):Prop:=match x with
 |.str _=>T="str"
 |.int _=>T="int"
 |.ref p=>(T="list"/\∃xs,SqL K H p xs)∨(T="tuple"/\∃o,K.lookup p=some o/\o.cls=.type "tuple"/\o.dict=none) ∨
   (T="dict"/\((∃kvs,H p=some (.dK kvs))∨∃kvs,H p=some (.dT kvs)))∨(T="set"/\∃S n,H p=some (.set S n))
 |_=>False
theorem dZ{pins:List (Addr×Obj)}{σ:St}{H:Hp}{s:Shared}{T:String}{x:V}{v:Value}(I:Inv X pins σ H s)(r:RelV x v)(ty:tyV X.K T x H) :
  s.TypeIs v T/\∀a,v=.ref a->∃ob,s.heap.get? a=some ob/\ob.dict=none:=by
 cases x with
 |str z =>
  obtain⟨t,rfl⟩:=r
  cases (show T="str" from ty)
  exact⟨typeIs_str s z t,fun _ e=>nomatch e⟩
 |int i =>
  obtain⟨t,rfl⟩:=r
  cases (show T="int" from ty)
  exact⟨typeIs_int s i t,fun _ e=>nomatch e⟩
 |ref p =>
  cases r
  rcases ty with ⟨rfl,xs,hq⟩|⟨rfl,o,hk,hc,hd⟩|⟨rfl,hk⟩|⟨rfl,S,n,hk⟩
  .obtain⟨its,_,pl,_⟩:=I.list hq
   refine⟨pl.isList.typeIs,fun a e=>?_⟩
   cases e
   obtain⟨o,n,e,c,hd,_⟩:=pl
   exact⟨o,e,hd⟩
  .refine⟨⟨o,I.kIn p o hk,hc⟩,fun a e=>?_⟩
   cases e
   exact⟨o,I.kIn _ o hk,hd⟩
  .have z:∃o,s.heap.get? p=some o/\o.ExactDict:=by
    rcases hk with ⟨kvs,hk⟩|⟨kvs,hk⟩
    .obtain⟨_,_,_,_,o,_,_,e,ex,_⟩:=I.hok p _ hk
     exact⟨o,e,ex⟩
    .obtain⟨_,_,_,_,o,_,_,e,ex,_⟩:=I.hok p _ hk
     exact⟨o,e,ex⟩
   obtain⟨o,e,ex⟩:=z
   refine⟨⟨o,e,ex.1⟩,fun a e2=>?_⟩
   cases e2
   exact⟨o,e,ex.2.1⟩
  .obtain⟨o,_,_,_,e,ex,_⟩:=I.hok p _ hk
   refine⟨⟨o,e,ex.1⟩,fun a e2=>?_⟩
   cases e2
   exact⟨o,e,ex.2.1⟩
 |_=>exact U4e ty
def sW(K:U0a)(T:String)(r:V->List V->Hp->VK->Prop)(to:TE):TE:=fun σ H Q=>to σ H fun x H1=>tyV K T x H1/\r x [] H1 Q
def tBM(K:U0a)(T:String)(r:V->List V->Hp->VK->Prop)(to:TE)(t:TA):TE:=fun σ H Q=>to σ H fun x H1=>tyV K T x H1/\t σ H1 fun xs H2=>r x xs H2 Q
variable{o e:Expr}{es:List Expr}{to:TE}{t:TA}{name:Str}{apos cpos:Pos}{T id:String}{r:V->List V->Hp->VK->Prop}
theorem um(pa:PlainAttrs T)(slot:Slot T name id)(hty:typeOf (.builtin id)=pure (.type "method_descriptor"))(hm:MtR X id r)(ho:PE X o to)
  (hbase:attributeBase o name X.env (eval o X.env)=eval o X.env:=by rfl) (hline:(apos.endLine==cpos.line)=true:=by rfl):PE X (.Call (.Attribute o name apos) [] [] cpos) (sW X.K T r to):=by
 intro pins s σ H Q I h
 refine wpAny_Call_method0_late hbase hline (thn (ho pins s σ H _ I h) fun v s1 ⟨x,H1,I1,r1,ty,q1⟩=>?_)
 obtain⟨h1,h2⟩:=dZ I1 r1 ty
 exact⟨T,id,pa,slot,hty,h1,h2,Calls.callWith_builtin rfl (PySem.evalArgs_none (hm pins s1 σ H1 x [] v [] Q I1 r1 .nil q1))⟩
theorem xq(pa:PlainAttrs T)(slot:Slot T name id)(hty:typeOf (.builtin id)=pure (.type "method_descriptor"))(hm:MtR X id r)(ho:PE X o to)(ha:PA X (e::es) t)
  (hbase:attributeBase o name X.env (eval o X.env)=eval o X.env:=by rfl)
  (hfew:((backTo cpos (starEach (e::es) X.env)).all (fun x=>!x.1)&&(backToKw cpos (keywordEach [] X.env)).all (fun x=>x.1.isSome)
   && decide ((e::es).length+([]:List Keyword).length+(if ([]:List Keyword).isEmpty then 0 else 1)<30))=true:=by rfl)
  (hline:(apos.endLine==cpos.line)=true:=by rfl) (hs:starEach (e::es) X.env=(false,eval e X.env)::starEach es X.env:=by rfl) (hplain:(backTo cpos (starEach es X.env)).any (·.1)=false:=by rfl) :
  PE X (.Call (.Attribute o name apos) (e::es) [] cpos) (tBM X.K T r to t):=by
 intro pins s σ H Q I h
 refine wpAny_Call_method_late hbase hfew hline rfl (thn (ho pins s σ H _ I h) fun v s1 ⟨x,H1,I1,r1,ty,q1⟩=>?_)
 obtain⟨h1,h2⟩:=dZ I1 r1 ty
 refine⟨T,id,pa,slot,hty,h1,h2,?_⟩
 have hA:=ha cpos pins s1 σ H1 _ I1 q1
 rw[hs] at hA ⊢
 refine Calls.callWith_builtin (by show(false||(backTo cpos (starEach es X.env)).any (·.1))=false;rw[hplain]<;>rfl) (Calls.evalArgs_plain ?_)
 exact thn hA fun us s2 ⟨vs,H2,I2,r2,q2⟩=>hm pins s2 σ H2 x vs v us Q I2 r1 r2 q2
/- xs.append(e), list.index on a module's tuple .. are MtR facts of 06m -/
end
end L2
namespace L2
open PySem PySem.Spec PyProof.Rows
def MtM(X:Cx)(id:String)(r:V->List V->Hp->VK->Prop):Prop :=
 ∀(pins:List (Addr×Obj))(s:Shared)(σ:St)(H:Hp)(x:V)(xs:List V)(v:Value)(us:List Value)(Q:VK),Inv X pins σ H s->RelV x v->Vals xs us->r x xs H Q ->
  wpAny (model X.prog X.w) X.A (call (.builtin id) (v::us)) (EP X pins σ Q) X.xe s
theorem Vals.one:∀{x:V} {us:List Value},Vals [x] us->∃u,us=[u]/\RelV x u
 |_,_,.cons r .nil=>⟨_,rfl,r⟩
theorem Vals.zero:∀{us:List Value},Vals [] us->us=[]
 |_,.nil=>rfl
theorem Vals.dropLast{xs:List V}{us:List Value}(h:Vals xs us):Vals xs.dropLast us.dropLast:=by
 induction h with
 |nil=>exact .nil
 |cons r t ih =>
  cases t with
  |nil=>exact .nil
  |cons q t'=>exact .cons r ih
theorem Vals.eraseIdx:∀{xs:List V} {us:List Value} (i:Nat),Vals xs us->Vals (xs.eraseIdx i) (us.eraseIdx i)
 |_,_,_,.nil=>.nil
 |_,_,0,.cons _ t=>t
 |_,_,i+1,.cons r t=>.cons r (Vals.eraseIdx i t)
theorem Vals.rep{xs:List V}{us:List Value}(h:Vals xs us):∀k:Nat,Vals (U05 k xs).flatten (U05 k us).flatten
 |0=>.nil
 |k+1=>by
  rw[U0s,U0s,U4c,U4c]
  exact Vals.append h (Vals.rep h k)
theorem dN{α:Type}(l:List α):l.eraseIdx (l.length-1)=l.dropLast:=by
 induction l with
 |nil=>rfl
 |cons a r ih =>
  cases r with
  |nil=>rfl
  |cons b r =>
   have e:(a::b::r).length-1=((b::r).length-1)+1:=by
    have h1:(a::b::r).length=r.length+2:=rfl
    have h2:(b::r).length=r.length+1:=rfl
    omega
   rw[e,List.eraseIdx_cons_succ,ih]
   all_goals rfl
theorem WY{α:Type}:∀(l:List α)(i:Nat),(l.eraseIdx i).length<=l.length
 |[],_=>U0o _
 |_::_,0=>U44 _
 |_::r,i+1=>Nat.succ_le_succ (WY r i)
theorem foldl_rep(its:List Value):∀(k:Nat)(acc:List Value),
  U6k (fun x1 x2=>x1++x2) acc.toArray (U05 k its.toArray)=(acc++(U05 k its).flatten).toArray
 |0,acc=>by simp
 |k+1,acc=>by
  have e:acc.toArray++its.toArray=(acc++its).toArray:=by simp
  have e2:(acc++its)++(U05 k its).flatten=acc++(U05 (k+1) its).flatten:=by
   rw[U0s,U4c,U56]
  rw[←e2,←foldl_rep its k (acc++its),←e,U0s,U1v]
section
variable{X:Cx}{pins:List (Addr×Obj)}{σ:St}{H:Hp}{s:Shared}{l b:Addr}{xs ys zs:List V}
theorem Inv.bV{its its':List Value}{n:Nat}{f:Array Value->Array Value}{t':Nat}(I:Inv X pins σ H s)(hH:H l=some (.lst xs))
  (e:s.heap.get? l=some { cls:=.type "list",data:=.seq its.toArray n }) (hf:f its.toArray=its'.toArray) (hv:Vals ys its') (hz:ys.length<=sizeLine) :
  Inv X pins σ (upd H l (.lst ys)) { s with heap:=s.heap.update l (U2j f),toks:=t' }:=by
 have q:=PySem.IsL.update e f
 rw[hf] at q
 refine I.write (x:=l) (e:=l) (by rw[hH];exact trivial) (.inl rfl) (fun b' u hb hu=>(U1i s.heap (U2j f) (U1w hb)).trans hu) ⟨_,q⟩ ?_
 exact⟨hz,its',_,hv,q⟩
theorem Inv.tX{its:List Value}{t':Nat}(I:Inv X pins σ H s)(hv:Vals ys its)(hz:ys.length<=sizeLine) :
  Inv X pins σ (upd H s.heap.objs.size (.lst ys)) { s with heap:=s.heap.push { cls:=.type "list",data:=.seq its.toArray },toks:=t' } :=
 I.laid (fun _ _ q=>U0c _ q) (U0o _) ⟨hz,its,0,hv,U0w _ rfl⟩
theorem Inv.fresh(I:Inv X pins σ H s):H s.heap.objs.size=none:=I.hok.fresh (U0o _)
theorem Inv.Qx(I:Inv X pins σ H s)(hH:H l=some (.lst xs)):xs.length<=sizeLine/\∃(its:List Value)(n:Nat),Vals xs its/\xs.length=its.length/\s.heap.get? l=some { cls:=.type "list",data:=.seq its.toArray n }:=by
 obtain⟨z,its,n,r,e⟩:=I.hok l _ hH
 exact⟨z,its,n,r,r.length,e⟩
theorem YW{n:Nat}(h:n<=sizeLine):U4n n=false:=by
 unfold U4n
 exact decide_eq_false (by omega)
end
section
variable{X:Cx}
def aX:V->List V->Hp->VK->Prop:=fun x vs H Q=>∃l xs y,x=.ref l/\vs=[y]/\H l=some (.lst xs)/\xs.length<sizeLine/\Q .non (upd H l (.lst (xs++[y])))
theorem Fw:MtM X "list.append" aX:=by
 intro pins s σ H x vs v us Q I rx rv h
 obtain⟨l,xs,y,rfl,rfl,hH,hz,q⟩:=h
 cases rx
 obtain⟨u,rfl,ru⟩:=rv.one
 obtain⟨z,its,n,r,hl,e⟩:=I.Qx hH
 refine call_meets F.slot_list_append ⟨_,e,rfl⟩ F.entry_list_append (F.args_list_append_2 _ _) (PySem.list_append l its.toArray n u (by rw[U0r];omega)) ⟨e,?_⟩
 refine⟨.non,_,I.bV (its':=its++[u]) hH e (by simp) (r.append (.cons ru .nil)) ?_,rfl,q⟩
 rw[U0n,U3s]
 omega
def oV:V->List V->Hp->VK->Prop:=fun x vs H Q=>∃l b xs zs,x=.ref l/\vs=[.ref b]/\H l=some (.lst xs)/\H b=some (.lst zs)/\xs.length+zs.length<=sizeLine/\Q .non (upd H l (.lst (xs++zs)))
theorem yg:MtM X "list.extend" oV:=by
 intro pins s σ H x vs v us Q I rx rv h
 obtain⟨l,b,xs,zs,rfl,rfl,hH,hB,hz,q⟩:=h
 cases rx
 obtain⟨u,rfl,ru⟩:=rv.one
 cases ru
 obtain⟨z,its,n,r,hl,e⟩:=I.Qx hH
 obtain⟨z2,its2,n2,r2,hl2,e2⟩:=I.Qx hB
 have hsz:its.toArray.size+its2.toArray.size<=sizeLine:=by rw[U0r,U0r];omega
 have hlong:¬(!its.toArray.isEmpty&&U4n (its.toArray.size+its2.toArray.size))=true:=by
  rw[YW hsz,Bool.and_false]
  exact U1d
 refine call_meets F.slot_list_extend ⟨_,e,rfl⟩ F.entry_list_extend (F.args_list_extend_2 _ _)
  (AutoSeq1.list_extend_list_list_0 l its.toArray n b its2.toArray n2 hlong (by rw[U0r];omega) (by omega)) ⟨e,e2,?_⟩
 refine⟨.non,_,I.bV (its':=its++its2) hH e (by simp) (r.append r2) ?_,rfl,q⟩
 rw[U0n]
 omega
def tL:V->List V->Hp->VK->Prop:=fun x vs H Q=>∃l xs y,x=.ref l/\vs=[]/\H l=some (.lst xs)/\xs[xs.length-1]?=some y/\Q y (upd H l (.lst xs.dropLast))
theorem vB:MtM X "list.pop" tL:=by
 intro pins s σ H x vs v us Q I rx rv h
 obtain⟨l,xs,y,rfl,rfl,hH,hy,q⟩:=h
 cases rx
 have hus:=rv.zero
 subst hus
 obtain⟨z,its,n,r,hl,e⟩:=I.Qx hH
 obtain⟨u,hu,ru⟩:=r.get hy
 have hy':its.toArray[its.toArray.size-1]?=some u:=by
  show its.toArray[its.length-1]?=some u
  rw[←U2w,←hl]
  exact hu
 refine call_meets F.slot_list_pop ⟨_,e,rfl⟩ F.entry_list_pop (F.args_list_pop_1 _) (MeetsSeq.list_pop_last l its.toArray n u hy' (by rw[U0r];omega)) ⟨e,?_⟩
 refine⟨y,_,I.bV (its':=its.dropLast) hH e ?_ r.dropLast ?_,ru,q⟩
 .show its.toArray.eraseIdxIfInBounds (its.toArray.size-1)=its.dropLast.toArray
  rw[U0r,List.eraseIdxIfInBounds_toArray,dN]
 .rw[U5]
  omega
def dz:V->List V->Hp->VK->Prop:=fun x vs H Q=>∃l xs i k y,x=.ref l/\vs=[.int i]/\H l=some (.lst xs)/\-(2^63)<=i/\i<2^63/\seqIndex? i xs.length=some k/\xs[k]?=some y/\Q y (upd H l (.lst (xs.eraseIdx k)))
theorem lC:MtM X "list.pop" dz:=by
 intro pins s σ H x vs v us Q I rx rv h
 obtain⟨l,xs,i,k,y,rfl,rfl,hH,h1,h2,hk,hy,q⟩:=h
 cases rx
 obtain⟨u,rfl,ru⟩:=rv.one
 obtain⟨t,rfl⟩:=ru
 obtain⟨z,its,n,r,hl,e⟩:=I.Qx hH
 obtain⟨w,hw,rw'⟩:=r.get hy
 refine call_meets F.slot_list_pop ⟨_,e,rfl⟩ F.entry_list_pop (F.args_list_pop_2 _ _)
  (MeetsSeq.list_pop_at l its.toArray n i t k w (fitsIndex_both h1 h2) (by rw[U0r,←hl];exact hk) (by rw[←U2w];exact hw) (by rw[U0r];omega)) ⟨e,?_⟩
 refine⟨y,_,I.bV (its':=its.eraseIdx k) hH e ?_ (r.eraseIdx k) ?_,rw',q⟩
 .show its.toArray.eraseIdxIfInBounds k=(its.eraseIdx k).toArray
  rw[List.eraseIdxIfInBounds_toArray]
 .have:=WY xs k
  omega
def tU:R2:=fun x y H Q=>∃l b xs zs,x=.ref l/\y=.ref b/\H l=some (.lst xs)/\H b=some (.lst zs)/\xs.length+zs.length<=sizeLine/\∀p,H p=none->Q (.ref p) (upd H p (.lst (xs++zs)))
theorem uy:OpR X (binaryOp .Add) tU:=by
 intro pins s σ H x y v u Q I rx ry h
 obtain⟨l,b,xs,zs,rfl,rfl,hH,hB,hz,q⟩:=h
 cases rx
 cases ry
 obtain⟨z,its,n,r,hl,e⟩:=I.Qx hH
 obtain⟨z2,its2,n2,r2,hl2,e2⟩:=I.Qx hB
 refine PySem.P.add_list e e2 ?_ (by rw[U0r,U0r];omega)
 have ea:its.toArray++its2.toArray=(its++its2).toArray:=by simp
 rw[ea]
 exact⟨.ref _,_,I.tX (t':=s.toks) (r.append r2) (by rw[U0n];omega),rfl,q _ I.fresh⟩
def tK:R2:=fun x y H Q=>∃l k xs,x=.ref l/\y=.int k/\H l=some (.lst xs)/\-(2^63)<=k/\k<2^63/\xs.length*k.toNat<=sizeLine /\
 ∀p,H p=none->Q (.ref p) (upd H p (.lst (U05 k.toNat xs).flatten))
theorem len_rep{α:Type}(xs:List α)(k:Nat):(U05 k xs).flatten.length=k*xs.length:=by
 induction k with
 |zero=>simp
 |succ k ih=>rw[U0s,U4c,U0n,ih,Nat.succ_mul,Nat.add_comm]
theorem uq:OpR X (binaryOp .Mult) tK:=by
 intro pins s σ H x y v u Q I rx ry h
 obtain⟨l,k,xs,rfl,rfl,hH,h1,h2,hz,q⟩:=h
 cases rx
 obtain⟨t,rfl⟩:=ry
 obtain⟨z,its,n,r,hl,e⟩:=I.Qx hH
 have hlen:its.toArray.size*k.toNat<=sizeLine:=by rw[U0r,←hl];exact hz
 have hcap:¬its.toArray.size*k.toNat>(2^63-1)/8:=by
  have:(sizeLine:Nat)<=(2^63-1)/8:=by decide
  omega
 have hfit:¬(!Builtin.List.listFitsIndex k)=true:=by
  rw[fitsIndex_both h1 h2]
  exact U1d
 have hlong:¬U4n (its.toArray.size*k.toNat)=true:=by
  rw[YW hlen]
  exact U1d
 have hnew:U6k (fun x1 x2=>x1++x2) #[] (U05 (if its.toArray.isEmpty=true then 0 else k.toNat) its.toArray)=(U05 k.toNat its).flatten.toArray:=by
  have f0:∀m:Nat,U6k (fun x1 x2=>x1++x2) #[] (U05 m its.toArray)=(U05 m its).flatten.toArray:=fun m=>by
   have:=foldl_rep its m []
   rw[U11] at this
   exact this
  rw[f0]
  cases its with
  |nil=>simp
  |cons a r'=>rw[if_neg (by simp)]
 refine wpAny_binaryOp_repeat_ref (T:="list") (U:="int") (by decide) ⟨_,e,rfl⟩ (fun s'=>typeIs_int s' k t) noFill_list_mul F.fills_int_mul F.slot_int_rmul repeat_list F.slot_int_index.lookup
  (call_meets F.slot_int_rmul (typeIs_int s k t) F.entry_int_rmul (F.args_int_rmul_2 _ _) (int___rmul___int_list k t l its.toArray n)
   ⟨e,rfl,⟨_,e,rfl⟩,call_meets F.slot_list_mul ⟨_,e,rfl⟩ F.entry_list_mul (F.args_list_mul_2 _ _) (AutoListH.list___mul___list_int_3 l its.toArray n k t hfit hcap hlong) ⟨e,?_⟩⟩)
 rw[hnew]
 exact⟨.ref _,_,I.tX (t':=s.toks) (r.rep k.toNat) (by rw[len_rep,U7d];exact hz),rfl,q _ I.fresh⟩
end
section
variable{prog:Program}{w:World}{A:Around}{E:Value->Shared->Prop}{s:Shared}
set_option maxRecDepth 100000 in
end
section
variable{X:Cx}
end
end L2
namespace Att
open PySem PySem.W PySem.Calls PyProof.Rows
theorem Va{P:Params}{h:Heap}:∀(ns:List Int)(vs:List Value),WellAll P h vs (ns.map WData.int)->IntsAre vs ns:=by
 intro ns
 induction ns with
 |nil =>
  intro vs w
  rw[U1e] at w
  cases w
  exact .nil
 |cons n ns ih =>
  intro vs w
  rw[U0m] at w
  cases w with
  |cons a b =>
   cases a
   exact .cons _ _ (ih _ b)
theorem gC{l:OpenLaw}{n:Nat}(hn:l.most=some n){P:Params}{h:Heap}{args:List WData}{vals:List Value}
  (hpre:l.row.toRowW.claim.pre args=true) (hwl:WellAll P h vals args) :
  ∃a vs ns,vals=[U2o a]/\args=[WData.list (ns.map WData.int)]/\h.get? a=some { cls:=.type "list",data:=.seq vs.toArray }/\IntsAre vs ns/\ns.length<=n:=by
 have hsh:WShape.hasAll [] args [.list .int]=true:=(pre_splitW hpre).1
 have hc:l.pre.holds [] { args:=args }=true:=(pre_splitW hpre).2
 obtain⟨d,r,rfl,h1,h2⟩:=hasAllW_cons hsh
 obtain rfl:=hasAllW_nil h2
 obtain⟨xs,rfl,h3⟩:=hasW_list h1
 obtain⟨ns,rfl⟩:=items_int h3
 have hlen:ns.length<=n:=by
  unfold OpenLaw.pre at hc
  have h4:(WTm.not (.lt (.lit (.int (n:Int))) (.len (.arg 0)))).holds [] { args:=[.list (ns.map .int)] }=true:=by
   have h4:=(holds_andW hc).1
   rw[hn] at h4
   exact h4
  have h5:=condW_of h4 (w_not (w_lt w_lit (w_len_list (w_arg rfl))))
  rw[U0j] at h5
  refine Nat.le_of_not_lt fun q=>?_
  have q':(n:Int)<((ns.length:Nat):Int):=by omega
  first
   |(rw[decide_eq_true q'] at h5;exact absurd h5 (by decide))
   |(simp at h5;omega)
 cases hwl with
 |cons w1 w2 =>
  cases w2
  cases w1 with
  |list ho hall=>exact⟨_,_,ns,rfl,rfl,ho,Va ns _ hall,hlen⟩
theorem gO(l:OpenLaw)(args:List WData):l.row.toRowW.claim.post args (.bool true) args=true :=
 postW_of (r:=l.row.toRowW) (X:=(true==true))
  (show WShape.has [] (.bool true) .bool=true by first|rfl|decide|simp[WShape.has,WShape.arms,WShape.armsAll])
  (show(WTm.eq .res (.lit (.bool true))).value [] { args:=args,res:=some (.bool true),after:=args }=some (.bool (true==true)) from w_eq_bool (w_res rfl) w_lit) rfl
theorem d8{R:WRecords}{cl:Str->Option Addr}{h:Heap}{a:Addr}{ds:List WData}{as:List Addr}(r:ReadsAllW R cl h [.ref a] [.list ds] as)(lo:∀b∈as,(b==sysModules)=false):a≠sysModules:=by
 cases r with
 |cons r1 _ =>
  cases r1 with
  |list _ _ _ _=>exact fun z=>by have:=lo a (by simp);rw[z] at this;simp at this
theorem aD{l:OpenLaw}{n:Nat}{q:Program}{loose:List Str}{XP:(Str->Option Value)->Heap->Prop}{YP:World->Heap->Prop}{d:DefRec}
  (hn:l.most=some n) (hdf:d.params.defaults=[])
  (call:∀(w:World)(s₀ s₁:Shared)(mg mb:Str->Option Value)(fa:Addr)(o:Obj)(pm cd doc:Value)(a:Addr)(vs:List Value)(ns:List Int),
   Ground q loose [] XP w s₀ mg mb s₁.heap->YP w s₁.heap ->
   s₁.heap.get? fa=some o->o.data=.func (docDef d.name d.params d.body d.scope pm cd doc)->s₁.heap.CodeRec cd d.name->mg d.name=some (.ref fa) ->
   s₁.heap.get? a=some { cls:=.type "list",data:=.seq vs.toArray }->IntsAre vs ns->ns.length<=n->a≠sysModules->s₁.gens=#[] ->
   codeAny (model l.prog w) callerA (.call (.ref fa) ⟨[.ref a],[]⟩) (fun r s'=>r=.ok (.ret (.bool true))/\OldK s₁.heap s'.heap/\s'.os=s₁.os/\AllBare s'.gens) s₁) :
  WalkO q loose XP YP l.row.toRowW d [] (fun f vs=>U7x f vs):=by
 intro w s₀ s₁ mg mb G Y fa o pm cd doc dV kV ho hd hcd hD hmg hg args vals as hpre hlay hrd hwl hlo
 obtain rfl:dV=.none:=Dflts.none hD hdf
 obtain rfl:kV=.none:=Dflts.noKw hD
 obtain⟨a,vs,ns,rfl,rfl,hobj,hints,hlen⟩:=gC hn hpre hwl
 refine enter_call (codeAny_mono (call w s₀ s₁ mg mb fa o pm cd doc a vs ns G Y ho (fd_plain hd) hcd hmg hobj hints hlen (d8 hrd hlo) hg) fun r s' hq=>?_)
 obtain⟨rfl,h2,h3,h4⟩:=hq
 exact⟨.inl ⟨.bool true,.bool true,[],rfl,fun _=>rfl,.bool true,gO l _,fun _=>⟨U68,fun _ hm=>(nomatch hm)⟩⟩,h2,h3,h4⟩
section
variable{prog:Program}{w:World}{A:Around}{E:Value->Shared->Prop}{s:Shared}{K:Frag}
end
end Att
namespace L2
open PySem PySem.Spec PyProof.Rows
theorem RD:∀{vs:List Value} {ns:List Int},IntsAre vs ns->Vals (ns.map V.int) vs
 |_,_,.nil=>.nil
 |_,_,.cons n t h=>.cons ⟨t,rfl⟩ (RD h)
def Only(H:Hp):Prop:=∀b,H b=none∨∃o xs,H b=some (.frz o (.lst xs))
theorem lN{P:Program}{w:World}{K:U0a}{mg mb:Str->Option Value}{CX:CXT}{k:Nat}{fa a:Addr}{fd:FuncData}{x:Str}{sp:Sp}{s₁:Shared}{vs:List Value}{ns:List Int}
  (KX:K.In s₁.heap) (hns:s₁.heap.Ns mainGlobals mg) (hb:s₁.heap.Ns builtinsNs mb) (hbb:∀x:Str,x≠"__name__"->mb x=bootBuiltins x) (hlim:s₁.heap.NoLimit) (hg:s₁.gens=#[])
  (ha:s₁.heap.get? a=some { cls:=.type "list",data:=.seq vs.toArray }) (hi:IntsAre vs ns) (hl:ns.length<=sizeLine) (hasy:a≠sysModules) (hr:FN k callerA)
  (F:∀base:Heap,K.In base->base.Ns mainGlobals mg->DG P w K mg base CX k fa fd [x] sp) (hbind:∀(s:Shared)(u:Value),BindsTo s fd ⟨[u],[]⟩ [(x,u)])
  (hsp:∀H:Hp,Only H->SqL K H a (ns.map V.int)->sp [.ref a] H (fun v _=>v=.bl true) fun _ _ _=>False)
  (hCX:∀H e s',CX [] H s₁ (fun _ _ _=>False) e s'->False) :
  codeAny (model P w) callerA (.call (.ref fa) ⟨[.ref a],[]⟩) (fun r s'=>r=.ok (.ret (.bool true))/\OldK s₁.heap s'.heap/\s'.os=s₁.os/\AllBare s'.gens) s₁:=by
 have rv:=RD hi
 have lenV:=hi.length
 -- from an abstract heap in which nothing but the script may be tracked
 have core:∀H:Hp,Only H->SqL K H a (ns.map V.int)->HOk P w H s₁.heap->(∀b,H b≠none->b=a)->(H a≠none->K.lookup a=none) ->
   codeAny (model P w) callerA (.call (.ref fa) ⟨[.ref a],[]⟩) (fun r s'=>r=.ok (.ret (.bool true))/\OldK s₁.heap s'.heap/\s'.os=s₁.os/\AllBare s'.gens) s₁:=by
  intro H hO hS hok hA hK
  have base_of:∀{b:Addr} {o:Obj},s₁.heap.get? b=some o->H b=none->(QT s₁.heap H).get? b=some o:=fun e n=>m9 e n
  have noA:∀{b:Addr} {o:Obj} {es:Array DictEntry} {ep:Nat},s₁.heap.get? b=some o->o.data=.dict es ep->H b=none:=fun {b o es ep} e d=>by
   cases q:H b with
   |none=>rfl
   |some u =>
    have e':b=a:=hA b (by rw[q];simp)
    subst e'
    rw[ha] at e;cases e
    have d':Data.seq vs.toArray _=Data.dict es ep:=d
    cases d'
  have nsK:∀{b:Addr} {m:Str->Option Value},s₁.heap.Ns b m->(QT s₁.heap H).Ns b m:=fun {b m} ⟨o,es,ep,e,d,r⟩=>⟨o,es,ep,base_of e (noA e d),d,r⟩
  have hKb:K.In (QT s₁.heap H):=fun b o e=>base_of (KX b o e) (by
   cases q:H b with
   |none=>rfl
   |some u =>
    have e':b=a:=hA b (by rw[q];simp)
    subst e'
    rw[hK (by rw[q];simp)] at e;cases e)
  have hM:Mod K mg (QT s₁.heap H):=⟨hKb,nsK hns,⟨mb,nsK hb,hbb⟩,let ⟨mc,h1,h2⟩:=hlim;⟨mc,nsK h1,h2⟩⟩
  have e0:bw P w K mg (QT s₁.heap H) callerA [] s₁ H:=⟨rfl,hM,fun b o e=>pR e,U72 (iU _ _),trivial,fun b hb=>absurd (show b∈([]:List Addr) from hb) (by simp),hok,.of_eq hg,Classical.byContradiction fun z=>hasy (hA _ z).symm⟩
  refine codeAny_mono ((F _ hKb (nsK hns)).run callerA [] s₁ H ⟨[.ref a],[]⟩ [.ref a] [.ref a] _ _ hr e0 (hbind s₁ (.ref a)) (.cons rfl .nil) (hsp H hO hS)) fun r s' h=>?_
  cases r with
  |error e=>exact(hCX H e s' h).elim
  |ok fl =>
   cases fl with
   |next=>exact U4e h
   |brk=>exact U4e h
   |cont=>exact U4e h
   |ret u =>
    obtain⟨v,H',os,bare,un,hok',r',q⟩:=h
    have q':v=.bl true:=q
    subst q'
    obtain rfl:u=U4w true:=r'
    refine⟨rfl,OldK.of_keep fun b o e=>?_,os,bare⟩
    cases q:H b with
    |none=>exact un.keep b o e q (by intro z;exact absurd (show b∈([]:List Addr) from z) (by simp)) (by simp)
    |some u =>
     rcases hO b with z|⟨ob,xs,z⟩
     .rw[q] at z;cases z
     .have z2:=un.frzs b ob _ z
      obtain⟨e1,_⟩:=hok b _ z
      obtain⟨e2,_⟩:=hok' b _ z2
      rw[e] at e1;cases e1
      exact e2
 cases hk:K.lookup a with
 |some o =>
  -- the script is one of the module's own objects
  have e:=KX a o hk
  rw[ha] at e
  cases e
  refine core (fun _=>none) (fun _=>.inl rfl) (.inr ⟨_,vs.toArray,_,hk,rfl,rfl,rfl,by rw[U0r,lenV];exact hl,by simpa using rv⟩) (fun b u z=>by have z':(none:Option HO)=some u:=z;cases z') (fun b z=>absurd rfl z) fun z=>absurd rfl z
 |none =>
  refine core (fun b=>if b=a then some (.frz { cls:=.type "list",data:=.seq vs.toArray } (.lst (ns.map V.int))) else none) (fun b=>?_) (.inl (.inr ⟨{ cls:=.type "list",data:=.seq vs.toArray },if_pos rfl⟩)) (fun b u z=>?_) (fun b z=>?_) fun _=>hk
  .by_cases hb:b=a
   .exact .inr ⟨_,_,if_pos hb⟩
   .exact .inl (if_neg hb)
  .by_cases hb:b=a
   .have z':=(if_pos hb).symm.trans z
    cases z'
    subst hb
    exact⟨ha,by rw[U0j];exact hl,vs,_,rv,ha⟩
   .have z':=(if_neg hb).symm.trans z
    cases z'
  .by_cases hb:b=a
   .exact hb
   .exact absurd (if_neg hb) z
end L2
namespace L2
open PySem PySem.Spec PyProof.Rows
abbrev KOf{K:U0a}{h:Heap}(_:K.In h):U0a:=K
theorem walk_of{l:U6l}{n k:Nat}{q:Program}{loose:List Str}{XP:(Str->Option Value)->Heap->Prop}{YP:World->Heap->Prop}{d:DefRec}{K:Params->U0a}{CX:World->CXT}{sp:World->Sp}{x:Str}
  (hn:l.most=some n) (hn2:n<=sizeLine) (hdf:d.params.defaults=[]) (hr:FN k callerA)
  (hY:∀(w:World)(h:Heap),YP w h->(K w.params).In h)
  (F:∀(w:World)(mg:Str->Option Value)(fa:Addr)(h:Heap),(K w.params).In h->h.Ns mainGlobals mg->mg d.name=some (.ref fa) ->
   ∃fd:FuncData,(∀(s:Shared)(u:Value),BindsTo s fd ⟨[u],[]⟩ [(x,u)]) /\
    ∀base:Heap,(K w.params).In base->base.Ns mainGlobals mg->DG l.prog w (K w.params) mg base (CX w) k fa fd [x] (sp w))
  (hsp:∀(w:World)(H:Hp)(a:Addr)(ns:List Int),ns.length<=n->Only H->SqL (K w.params) H a (ns.map V.int)->sp w [.ref a] H (fun v _=>v=.bl true) fun _ _ _=>False)
  (hCX:∀(w:World)(H:Hp)(s:Shared)(e:Value)(s':Shared),CX w [] H s (fun _ _ _=>False) e s'->False) :
  U7z q loose XP YP l.row.toRowW d [] (fun f vs=>U7x f vs):=by
 refine Att.aD hn hdf fun w s₀ s₁ mg mb fa o pm cd doc a vs ns G Y ho hd hcd hmg hobj hints hlen hasy hg=>?_
 have KX:=hY w _ Y
 obtain⟨fd,hb,hF⟩:=F w mg fa _ KX G.T.g hmg
 exact lN KX G.T.g G.T.b G.T.builtins G.T.nolimit hg hobj hints (U06 hlen hn2) hasy hr hF hb (fun H hO hS=>hsp w H a ns hlen hO hS) fun H e s'=>hCX w H s₁ e s'
theorem jR{l:U6l}{n k:Nat}{q:Program}{loose:List Str}{XP:(Str->Option Value)->Heap->Prop}{YP:World->Heap->Prop}{d:DefRec}{K:Params->U0a}{CX:CXT}{sp:U0a->Sp}{x:Str}
  (hn:l.most=some n) (hn2:n<=sizeLine) (hdf:d.params.defaults=[]) (hr:FN k callerA)
  (hY:∀(w:World)(h:Heap),YP w h->(K w.params).In h)
  (F:∀(w:World)(mg:Str->Option Value)(fa:Addr)(h:Heap),(K w.params).In h->h.Ns mainGlobals mg->mg d.name=some (.ref fa) ->
   ∃fd:FuncData,(∀(s:Shared)(u:Value),BindsTo s fd ⟨[u],[]⟩ [(x,u)]) /\
    ∀base:Heap,(K w.params).In base->base.Ns mainGlobals mg->DG l.prog w (K w.params) mg base CX k fa fd [x] (sp (K w.params)))
  (hsp:∀(K:U0a)(H:Hp)(a:Addr)(ns:List Int),ns.length<=n->Only H->SqL K H a (ns.map V.int)->sp K [.ref a] H (fun v _=>v=.bl true) fun _ _ _=>False)
  (hCX:∀(H:Hp)(s:Shared)(e:Value)(s':Shared),CX [] H s (fun _ _ _=>False) e s'->False) :
  U7z q loose XP YP l.row.toRowW d [] (fun f vs=>U7x f vs) :=
 walk_of (K:=K) (CX:=fun _=>CX) (sp:=fun w=>sp (K w.params)) hn hn2 hdf hr hY F (fun w H a ns h1 h2 h3=>hsp (K w.params) H a ns h1 h2 h3) fun _ H s e s'=>hCX H s e s'
end L2
/- THE LAST THEOREM (shape; LID, My.* are yours):
   My.Adr: a structure of the addresses that your layer names (classes, functions); My.Txt K t: a structure (Prop) of the equations over K;
   My.txt_mk : {K} {implicit addresses ..} (e1 : nsIn K mainGlobals "law" = some (some (.ref f))) (e2 : K.lookup f = some ⟨oc, od, .func (fnOf "law" "law" params body scope dV kV doc pm an cdv ct), sl⟩) (e3 : codeIn K cdv "law" = true) .. : ∃ t, My.Txt K t

set_option maxRecDepth 100000 in
set_option maxHeartbeats 0 in
theorem PySem.Challenge.cw_LID_holds : PySem.Challenge.rw_LID.Holds := by
  w_on; o_law; k_head; (case hw => w_witness2)
  k_fill
  refine L2.walk_of (l := PySem.Challenge.rw_LID) (n := 63) (k := 40) (x := "script") (CX := fun w => ..) (sp := fun _ => My.sp_law) rfl (by decide) rfl ⟨rfl, by decide, by decide⟩ (fun w h Y => PySem.W.kIn_of Y) ?F ?S ?C
  case F =>
    intro w mg fa h KX G hmg
    have T : ∃ t, My.Txt (L2.KOf KX) t := by
      dsimp only [L2.KOf]                          -- K must stand as «<heap const> w.params» for k_is
      refine' My.txt_mk ?e1 ?e2 ?e3 ..
      (case e1 => PySem.W.k_is)                    -- in the order: a name -> its address -> its object -> its parts
      (case e2 => PySem.W.k_is)
      ..
    obtain ⟨t, T⟩ := T
    have e0 := hmg.symm.trans (PySem.W.mg_of KX G T.law)
    cases e0                                       -- fa is the law's own address
    exact ⟨_, fun s u => .of_eq rfl, fun base kb nb => My.law_fn T kb nb⟩     -- if «.of_eq rfl» comes too early: refine' ⟨_, ?b, fun base kb nb => My.law_fn T kb nb⟩; exact fun s u => .of_eq rfl
  case S => exact fun w H a ns hl hO hS => ..
  case C => exact ..
(the tactic k_is has no namespace: write k_is) -/
namespace L2
open PySem PySem.Spec PyProof.Rows
def CJ(s:Stmt):Arguments:=match s with
 |.FunctionDef _ a _ _ _ _ _ _ _ _=>a
 |_=>{ posonlyargs:=[],args:=[],vararg:=none,kwonlyargs:=[],kw_defaults:=[],kwarg:=none,defaults:=[] }
def Bv(s:Stmt):List Stmt:=match s with
 |.FunctionDef _ _ b _ _ _ _ _ _ _=>b
 |_=>[]
def Al(s:Stmt):Scope:=match s with
 |.FunctionDef _ _ _ _ _ _ sc _ _ _=>sc
 |_=>{ kind:=.function,names:=[],isGenerator:=false,isCoroutine:=false }
abbrev CX0:CXT:=fun _ _ _ _ _ _=>False
abbrev E0:XK:=fun _ _ _=>False
theorem xu{X:Cx}:Passes CX0 X E0:=fun _ _ _ _ _ _ _ h=>h.elim
structure Fun(K:U0a)(x qual:Str)(st:Stmt)(f:Addr)(fd:FuncData):Prop where
 ex:∃(oc:Value)(od:Option Addr)(kV doc pm:Value)(an:Option Addr)(cdv ct:Value)(osl:Array (Option Value)),
  fd=U08 x qual (CJ st) (Bv st) (Al st) .none kV doc pm an cdv ct/\K.lookup f=some ⟨oc,od,.func fd,osl⟩/\U02 K cdv qual=true
 kp:U01 K (.ref f)=true
section
variable{P:Program}{w:World}{K:U0a}{mg:Str->Option Value}{base:Heap}
theorem Fun.ok{x qual:Str}{st:Stmt}{f:Addr}{fd:FuncData}{N ps:List Str}{k:Nat}{sp:Sp}(F:Fun K x qual st f fd)(S:CK N ps (Al st))(len:∀vs H Q E,sp vs H Q E->vs.length=ps.length)
  (hbody:∀(cdv:Value)(A:Around)(outer:List Env)(s:Shared)(H:Hp)(vs:List V)(Q:VK)(E:XK),FN k (A.deeper (envOfC qual (Al st) s.heap.objs.size f cdv))->sp vs H Q E ->
   ∃t,PSs (Qy CX0 P w K mg base N qual (Al st) f cdv A outer s H E).nox (Bv st) t/\t { nx:=fun _ H'=>Q .non H',rt:=Q } (start N vs) H):DG P w K mg base CX0 (k+1) f fd ps sp:=by
 obtain⟨oc,od,kV,doc,pm,an,cdv,ct,osl,rfl,lk,hcd⟩:=F.ex
 refine yO lk hcd S len fun A outer s H vs Q E hr hsp=>?_
 obtain⟨t,h,q⟩:=hbody cdv A outer s H vs Q E hr hsp
 exact⟨t,h.nox,q⟩
theorem Fun.binds{x qual:Str}{st:Stmt}{f:Addr}{fd:FuncData}{ps:List Str}(F:Fun K x qual st f fd)
  (h:∀(kV doc pm:Value)(an:Option Addr)(cdv ct:Value)(us:List Value),us.length=ps.length->bindArgs (U08 x qual (CJ st) (Bv st) (Al st) .none kV doc pm an cdv ct) ⟨us,[]⟩=pure (ps.zip us)):Binds K fd ps []:=by
 obtain⟨oc,od,kV,doc,pm,an,cdv,ct,osl,rfl,lk,hcd⟩:=F.ex
 exact .all (h kV doc pm an cdv ct)
theorem DW{x qual:Str}{st:Stmt}{f:Addr}{oc:Value}{od an:Option Addr}{osl:Array (Option Value)}{kV doc pm cdv ct:Value}(l:K.lookup f=some ⟨oc,od,.func (U08 x qual (CJ st) (Bv st) (Al st) .none kV doc pm an cdv ct),osl⟩)
  (c:U02 K cdv qual=true) (k:U01 K (.ref f)=true):Fun K x qual st f (U08 x qual (CJ st) (Bv st) (Al st) .none kV doc pm an cdv ct):=⟨⟨oc,od,kV,doc,pm,an,cdv,ct,osl,rfl,l,c⟩,k⟩
end
theorem W9{n:Nat}(h:n<=1000):n<sizeLine:=U4z h (by decide)
section
variable{X:Cx}
end
def Same(H H':Hp):Prop:=∀b o,H b=some o->H' b=some o
theorem Same.refl(H:Hp):Same H H:=fun _ _ h=>h
theorem Same.free{H H':Hp}(e:Same H H'){l:Addr}(h:H' l=Option.none):H l=Option.none:=by
 cases q:H l with
 |none=>rfl
 |some o =>
  rw[e l o q] at h
  cases h
end L2
end
section
namespace SetP
open PySem
def KR(xs:Array Nat):Prop:=xs.toList.Pairwise (·<·)
theorem jw:KR #[]:=U68
theorem cT(n:Nat):KR (Array.range n):=by
 unfold KR
 rw[Array.toList_range]
 exact List.pairwise_lt_range
theorem KR.lt{xs:Array Nat}(h:KR xs){i k:Nat}(hik:i<k)(hk:k<xs.size):xs.getD i 0<xs.getD k 0:=by
 have q:=U5q.mp h i k (by rw[U1q];omega) (by rw[U1q];exact hk) hik
 rw[U28,U28,U2b (by omega),U2b hk]
 simpa using q
theorem KR.le{xs:Array Nat}(h:KR xs){i k:Nat}(hik:i<=k)(hk:k<xs.size):xs.getD i 0<=xs.getD k 0:=by
 rcases Nat.lt_or_eq_of_le hik with z|z
 .exact U2q (h.lt z hk)
 .rw[z];exact U0o _
theorem Vr{xs:Array Nat}{j:Nat}(h:KR xs):∀(fuel lo hi:Nat),lo<=hi->hi<=xs.size->hi-lo<=fuel->(∀i,i<lo->xs.getD i 0<j)->(∀i,hi<=i->i<xs.size->j<=xs.getD i 0) ->
  U48 xs j fuel lo hi<=xs.size/\(∀i,i<U48 xs j fuel lo hi->xs.getD i 0<j)/\∀i,U48 xs j fuel lo hi<=i->i<xs.size->j<=xs.getD i 0
 |0,lo,hi,h1,h2,h3,h4,h5=>by
  have e:lo=hi:=by omega
  subst e
  unfold U48
  exact⟨h2,h4,h5⟩
 |fuel+1,lo,hi,h1,h2,h3,h4,h5=>by
  unfold U48
  by_cases hlt:lo<hi
  .rw[if_pos hlt]
   have hm:(lo+hi)/2<hi:=by omega
   have hl:lo<=(lo+hi)/2:=by omega
   have e:xs.getD ((lo+hi)/2) j=xs.getD ((lo+hi)/2) 0:=by
    rw[U28,U28,U2b (by omega)]
    rfl
   dsimp only
   rw[e]
   by_cases hc:xs.getD ((lo+hi)/2) 0<j
   .rw[if_pos hc]
    exact Vr h fuel _ hi (by omega) h2 (by omega) (fun i hi'=>U4z (h.le (by omega) (by omega)) hc) h5
   .rw[if_neg hc]
    exact Vr h fuel lo _ (by omega) (by omega) (by omega) h4 (fun i hi' hs=>U06 (Nat.le_of_not_lt hc) (h.le hi' hs))
  .rw[if_neg hlt]
   have e:lo=hi:=by omega
   subst e
   exact⟨h2,h4,h5⟩
theorem Qq{xs:Array Nat}{j:Nat}(h:KR xs):U1u xs j<=xs.size/\(∀i,i<U1u xs j->xs.getD i 0<j)/\∀i,U1u xs j<=i->i<xs.size->j<=xs.getD i 0:=by
 unfold U1u
 exact Vr h xs.size 0 xs.size (U3u _) (U0o _) (by omega) (fun i hi=>absurd hi (U7k _)) fun i h1 h2=>absurd h2 (by omega)
theorem VG{xs:Array Nat}(h:KR xs){i:Nat}(hi:i<xs.size):U1u xs (xs.getD i 0+1)=i+1:=by
 obtain⟨a,b,c⟩:=Qq (j:=xs.getD i 0+1) h
 generalize U1u xs (xs.getD i 0+1)=r at a b c
 rcases Nat.lt_trichotomy r (i+1) with z|z|z
 .have:=c i (by omega) hi;omega
 .exact z
 .have h1:=b (i+1) z
  have h2:xs.getD i 0<xs.getD (i+1) 0:=h.lt (U6g i) (by omega)
  omega
theorem VF{xs:Array Nat}(h:KR xs):U1u xs 0=0:=by
 obtain⟨a,b,c⟩:=Qq (j:=0) h
 generalize U1u xs 0=r at a b c
 cases r with
 |zero=>rfl
 |succ r=>exact absurd (b 0 (by omega)) (U7k _)
theorem Zj{xs:Array Nat}{j:Nat}(h:KR xs)(hn:xs[U1u xs j]?≠some j):KR (SetTable.insertAt xs (U1u xs j) j):=by
 obtain⟨a,b,c⟩:=Qq (j:=j) h
 unfold KR
 rw[SetTable.toList_insertAt]
 generalize U1u xs j=p at a b c hn
 have getT:∀i,i<xs.size->xs.toList[i]?=some (xs.getD i 0):=fun i hi=>by
  rw[U2w,U28,U2b hi];rfl
 refine U3w.mpr ⟨h.sublist (List.take_sublist _ _),U1l.mpr ⟨fun y hy=>?_,h.sublist (List.drop_sublist _ _)⟩,fun x hx y hy=>?_⟩
 .obtain⟨i,hi⟩:=U35.mp hy
  rw[List.getElem?_drop] at hi
  have hlt:p+i<xs.size:=by
   have:=(U0l.mp hi).1
   rwa [U1q] at this
  rw[getT _ hlt] at hi
  have e:=U09 hi
  have h1:=c (p+i) (U1o _ _) hlt
  rw[←e]
  rcases Nat.lt_or_eq_of_le h1 with z|z
  .exact z
  .exfalso
   have hp:p<xs.size:=by omega
   have h2:=c p (U0o _) hp
   have h3:=h.le (U1o p i) hlt
   have h4:xs.getD p 0=j:=by omega
   apply hn
   have:=getT p hp
   rw[U2w] at this
   rw[this,h4]
 .have hxj:x<j:=by
   obtain⟨i,hi⟩:=U35.mp hx
   have hip:i<p:=by
    have:=(U0l.mp hi).1
    rw[U19] at this;omega
   rw[List.getElem?_take_of_lt hip] at hi
   have hlt:i<xs.size:=by
    have:=(U0l.mp hi).1
    rwa [U1q] at this
   rw[getT _ hlt] at hi
   rw[←U09 hi]
   exact b i hip
  rcases U0q.mp hy with z|z
  .rw[z];exact hxj
  .obtain⟨i,hi⟩:=U35.mp z
   rw[List.getElem?_drop] at hi
   have hlt:p+i<xs.size:=by
    have:=(U0l.mp hi).1
    rwa [U1q] at this
   rw[getT _ hlt] at hi
   rw[←U09 hi]
   exact U0v hxj (c (p+i) (U1o _ _) hlt)
def Off(t:SetTable)(j:Nat):Prop:=t.place[U1u t.place j]?≠some j
theorem Sd{t:SetTable}{j:Nat}(h:∀i,t.slot j≠.live i):Off t j:=fun e=>by
 apply h (U1u t.place j)
 unfold SetTable.slot
 dsimp only
 rw[e]
 simp
theorem RK{t:SetTable}{f:Nat->Int}{h:Int}{j:Nat}{d:Option Nat}:∀(fuel:Nat)(p:SetTable.Probe),(∀d,p.dummy=some d->Off t d)->U69 t f h fuel p=some (.empty j d)->Off t j/\∀d',d=some d'->Off t d'
 |0,_,_,e=>by unfold U69 at e;cases e
 |fuel+1,p,hp,e=>by
  unfold U69 at e
  cases hs:t.slot p.j with
  |empty =>
   rw[hs] at e
   have e':=U09 e
   cases e'
   exact⟨Sd (fun i z=>by rw[hs] at z;exact SetTable.Slot.noConfusion z),hp⟩
  |dummy =>
   rw[hs] at e
   refine RK fuel _ (fun d' hd=>?_) e
   have hd':(t.advance { p with dummy:=some p.j }).dummy=some p.j:=by
    unfold SetTable.advance;dsimp only;split<;>rfl
   rw[hd'] at hd
   cases hd
   exact Sd fun i z=>by rw[hs] at z;cases z
  |live i =>
   rw[hs] at e
   dsimp only at e
   split at e
   .cases e
   .refine RK fuel _ (fun d' hd=>hp d' ?_) e
    rw[←hd]
    unfold SetTable.advance
    split<;>rfl
theorem ZX{t:SetTable}{h:Int}{j:Nat}{b:Bool}(e:t.freeSlot h=some (j,b)):Off t j:=by
 unfold SetTable.freeSlot at e
 split at e
 .rename_i j' d q
  unfold U6y at q
  obtain⟨o1,o2⟩:=RK _ _ (fun d hd=>by unfold SetTable.probeStart at hd;cases hd) q
  have e':=U09 e
  cases d with
  |none=>cases e';exact o1
  |some d=>cases e';exact o2 _ rfl
 .cases e
def TabOk(L:Bool)(t:SetTable):Prop:=KR t.place/\t.led=L
theorem TabOk.fresh(L:Bool)(f m:Nat):TabOk L (.fresh f m L):=⟨jw,rfl⟩
theorem TabOk.standIn{L:Bool}{t:SetTable}(h:TabOk L t)(n:Nat):TabOk L (t.standIn n):=⟨cT n,h.2⟩
theorem TabOk.orStandIn{L:Bool}{t:SetTable}(h:TabOk L t)(n:Nat):TabOk L (t.orStandIn n):=by
 unfold SetTable.orStandIn
 split
 .exact h
 .exact h.standIn n
theorem TabOk.ni{L:Bool}{t:SetTable}(h:TabOk L t)(b:Bool):TabOk L { t with plain:=b }:=h
theorem dD{L:Bool}{t:SetTable}(h:TabOk L t)(es:Array (Int×Value))(k:Int)(x:Value):TabOk L (layNew t es k x).2.1:=by
 unfold layNew
 split
 .rename_i slot wasDummy q
  exact TabOk.orStandIn (t:=(t.put slot).1) ⟨Zj h.1 (ZX q),h.2⟩ _
 .exact h.standIn _
theorem Tc{α:Type}(g:Nat->Option α):∀l:List Nat,U6m ((l.filterMap fun j=>(g j).map (j,·)).map (·.1)) l
 |[]=>U6m.slnil
 |j::r=>by
  rw[U5h]
  cases hg:g j with
  |none=>exact(Tc g r).cons j
  |some a=>exact(Tc g r).cons_cons j
theorem ZD{L:Bool}{t:SetTable}(h:TabOk L t)(es:Array (Int×Value))(n:Nat):TabOk L (relayAll t es n).2.1:=by
 unfold relayAll
 split
 .rename_i t' order q
  dsimp only
  split
  .unfold SetTable.relaid SetTable.laid at q
   cases ho:SetTable.layClean (SetTable.sizeAbove n-1) (es.map (·.1)) with
   |none=>rw[ho] at q;cases q
   |some owner =>
    rw[ho] at q
    have q':=U09 q
    cases q'
    refine⟨?_,h.2⟩
    show U6c (·<·) (U73 _).toList
    exact List.pairwise_lt_range.sublist (Tc (fun j=>owner.getD j none) _)
  .exact h.standIn _
 .exact h.standIn _
end SetP
end
section
set_option maxRecDepth 100000
namespace SetP
open PySem PyProof.Rows
abbrev PX(w:World):Bool:=!(w.params.followText "set-order")
structure SetT(prog:Program)(w:World)(h:Heap)(a:Addr)(ds:List Int):Prop where
 nd:ds.Nodup
 ex:∃o es ep t,h.get? a=some o/\o.ExactSet/\o.data=.set es ep t/\ElemsOf (intKind prog w) es.toList/\(∀k,decide (k∈ds)=true↔∃e∈es.toList,(intKind prog w).is k e.2=true) /\
  es.size<scanBound/\t.fits es.size=true/\es.size=ds.length/\TabOk (PX w) t
def Gk(ds:List Int)(k:Int):List Int:=if k∈ds then ds else ds++[k]
theorem Tw{ds:List Int}(h:ds.Nodup)(k:Int):(Gk ds k).Nodup:=by
 unfold Gk
 split
 .exact h
 .rename_i hk
  exact List.nodup_append.mpr ⟨h,by simp,fun a ha b hb=>by rw[U03] at hb;subst hb;rintro rfl;exact hk ha⟩
theorem WX{ds:List Int}{k j:Int}:j∈Gk ds k↔j∈ds∨j=k:=by
 unfold Gk
 split
 .rename_i hk
  exact⟨.inl,fun z=>z.elim id fun e=>e ▸ hk⟩
 .rw[U1k,U03]
theorem j9(ds:List Int)(k:Int):(Gk ds k).length<=ds.length+1:=by
 unfold Gk
 split
 .omega
 .rw[U0n,U3s];omega
section
variable{prog:Program}{w:World}{A:Around}{E:Value->Shared->Prop}{s:Shared}
theorem SetT.sameBut{h h':Heap}{a:Addr}{ds:List Int}(x:SetT prog w h a ds)(hs:∀o,h.get? a=some o->h'.get? a=some o):SetT prog w h' a ds:=by
 obtain⟨nd,o,es,ep,t,e,r⟩:=x
 exact⟨nd,o,es,ep,t,hs o e,r⟩
theorem SetT.stored{h:Heap}{a:Addr}{o:Obj}{es es':Array (Int×Value)}{ep:Nat}{t t':SetTable}{ds:List Int}(ho:h.get? a=some o)(hex:o.ExactSet)(hd:o.data=.set es ep t)(nd:ds.Nodup)
  (hel:ElemsOf (intKind prog w) es'.toList) (hm:∀k,decide (k∈ds)=true↔∃e∈es'.toList,(intKind prog w).is k e.2=true) (hb:es'.size<scanBound) (hf:t'.fits es'.size=true) (hn:es'.size=ds.length) (ht:TabOk (PX w) t') :
  (h.update a (Obj.putSet es' t')).get? a=some { o with data:=.set es' (ep+1) t' }/\SetT prog w (h.update a (Obj.putSet es' t')) a ds:=by
 obtain⟨g,_⟩:=SetOf_store (knd:=intKind prog w) ho hex hd hel hm hb hf
 exact⟨g,nd,_,es',ep+1,t',g,hex,rfl,hel,hm,hb,hf,hn,ht⟩
theorem Wz{g:Bool->Sem Unit}(hg:∀(b:Bool)(s₁:Shared)(Q':Unit->Shared->Prop),Q' () s₁->wpAny (model prog w) A (g b) Q' E s₁)
  {a:Addr} {o:Obj} {es es1:Array (Int×Value)} {ep:Nat} {t t2:SetTable} {ds:List Int} (ho:s.heap.get? a=some o) (hex:o.ExactSet) (hd:o.data=.set es ep t) (nd:ds.Nodup)
  (hel:ElemsOf (intKind prog w) es1.toList) (hm:∀k,decide (k∈ds)=true↔∃e∈es1.toList,(intKind prog w).is k e.2=true) (hb:es1.size<scanBound) (hf:t2.fits es1.size=true) (hn:es1.size=ds.length) (ht:TabOk (PX w) t2)
  {dummy:Bool} {R:Option Bool->Shared->Prop} (h:∀h',U07 a s.heap h'->SetT prog w h' a ds->R (some true) { s with heap:=h' }) :
  wpAny (model prog w) A (do
    storeSet a es1 t2
    if (!dummy&&t2.tooFull)=true then do
      g (relayAll t2 es1 (U4i es1.size)).2.2
      storeSet a (relayAll t2 es1 (U4i es1.size)).1 (relayAll t2 es1 (U4i es1.size)).2.1
      pure (some true)
     else pure (some true)) R E s:=by
 obtain⟨g1,T1⟩:=SetT.stored (prog:=prog) (w:=w) ho hex hd nd hel hm hb hf hn ht
 have sb1:=U12 s.heap a (Obj.putSet es1 t2)
 refine U0 (wpAny_storeSet_of ho hd ?_ (fits_of_scanBound hb))
 split
 .have p:=relayAll_perm t2 es1 (U4i es1.size)
  have f:=relayAll_fits t2 es1 (U4i es1.size)
  have tb:=ZD ht es1 (U4i es1.size)
  generalize relayAll t2 es1 (U4i es1.size)=RR at p f tb
  obtain⟨es2,t3,gave⟩:=RR
  have sz:es2.size=es1.size:=by simpa using p.length_eq
  have T2:=SetT.stored (prog:=prog) (w:=w) (es':=es2) (t':=t3) g1 hex rfl nd (hel.perm p) (fun k=>(hm k).trans ⟨fun⟨e,he,q⟩=>⟨e,p.mem_iff.mpr he,q⟩,fun⟨e,he,q⟩=>⟨e,p.mem_iff.mp he,q⟩⟩)
   (by rw[sz];exact hb) f (by rw[sz];exact hn) tb
  refine U0 (hg _ _ _ (U0 (wpAny_storeSet_of g1 rfl ?_ (fits_of_scanBound (by show es2.size<_;rw[sz];exact hb)))))
  exact U0f (h _ (sb1.trans (U12 _ a _)) T2.2)
 .exact U0f (h _ sb1 T1)
theorem aF{a:Addr}{ds:List Int}{k:Int}{t0:Tok}{Q:Bool->Shared->Prop}(hS:SetT prog w s.heap a ds)(room:ds.length+1<scanBound)
  (h:∀b h',U07 a s.heap h'->SetT prog w h' a (Gk ds k)->Q b { s with heap:=h' }):wpAny (model prog w) A (setAddHashed a (.int k t0) ((intKind prog w).hash k)) Q E s:=by
 obtain⟨nd,o,es,ep,t,ho,hex,hd,hel,hm,hb,hf,hn,ht⟩:=hS
 have hkey:(intKind prog w).is k (.int k t0)=true:=intKind_is prog w k t0
 have hsc:(U3r k t0).scannable=true:=rfl
 unfold setAddHashed setAddHashedIn
 refine U2p (U0 (U4d ho hd hf ?_))
 dsimp only
 rw[byScan_of hsc hb hel,if_pos rfl]
 unfold setAddByScan
 refine U0 (U0 (U4x (U0 (wpAny_setScan_of hkey ho hd hf hel ?_))))
 cases hr:List.findIdx? (fun e=>(intKind prog w).is k e.2) es.toList with
 |some j =>
  obtain⟨hj,hpj,_⟩:=List.findIdx?_eq_some_iff_getElem.mp hr
  have hk:k∈ds:=of_decide_eq_true ((hm k).mpr ⟨es.toList[j],U1s hj,hpj⟩)
  refine U0f (U0f ?_)
  have q:=h false s.heap (U07.refl a s.heap) (by
   have e:Gk ds k=ds:=by unfold Gk;rw[if_pos hk]
   rw[e];exact⟨nd,o,es,ep,t,ho,hex,hd,hel,hm,hb,hf,hn,ht⟩)
  cases s;exact q
 |none =>
  have hk:k ∉ ds:=fun z=>by
   obtain⟨e,he,hp⟩:=(hm k).mp (decide_eq_true z)
   have q:=List.findIdx?_eq_none_iff.mp hr e he
   rw[hp] at q;cases q
  have eA:Gk ds k=ds++[k]:=by unfold Gk;rw[if_neg hk]
  have p:=layNew_perm t es ((intKind prog w).hash k) (.int k t0)
  have f:=layNew_fits t es ((intKind prog w).hash k) (.int k t0)
  have tb:=dD ht es ((intKind prog w).hash k) (.int k t0)
  generalize layNew t es ((intKind prog w).hash k) (.int k t0)=LL at p f tb
  obtain⟨es1,t1,dummy,gave⟩:=LL
  dsimp only at p f tb ⊢
  rw[Array.toList_push] at p
  have hel1:ElemsOf (intKind prog w) es1.toList:=(hel.push hkey hsc).perm p
  have sz:es1.size=(Gk ds k).length:=by
   have q:=p.length_eq
   rw[U1q,U0n,U3s,U1q] at q
   rw[q,eA,U0n,U3s,hn]
  have hm1:∀j,decide (j∈Gk ds k)=true↔∃e∈es1.toList,(intKind prog w).is j e.2=true:=fun j=>by
   rw[←mem_push_iff (S:=fun k'=>decide (k'∈ds)) hkey hm p j]
   simp only[decide_eq_true_eq,U7l,WX]
  have hb1:es1.size<scanBound:=by rw[sz,eA,U0n,U3s];exact room
  refine U0 ?_
  have gw:∀(b:Bool)(s₁:Shared)(Q':Unit->Shared->Prop),Q' () s₁->wpAny (model prog w) A (match b with|true=>rule "set.scan.the-table-gave-way"|false=>pure ()) Q' E s₁:=fun b s₁ Q' q=>by
   cases b
   .exact U0f q
   .exact U4x q
  refine gw _ _ _ ?_
  split
  .refine U0 ?_
   rw[hashByValue_scannable 8 hsc]
   refine U0f (Wz gw ho hex hd (Tw nd k) hel1 hm1 hb1 ?_ sz ?_ fun h' sb T=>U0f (h true h' sb T))
   .split
    .exact f
    .exact SetTable.fits_plain_off f
   .split
    .exact tb
    .exact tb.ni false
  .refine U0 (U0f ?_)
   rw[if_pos rfl]
   exact Wz gw ho hex hd (Tw nd k) hel1 hm1 hb1 f sz tb fun h' sb T=>U0f (h true h' sb T)
end
end SetP
end
section
set_option maxRecDepth 100000
namespace SetP
open PySem PyProof.Rows
theorem Wk:entryFor table "set.update.loop"=some Builtin.«set.update.loop»:=entryFor_of_tree (by kernel_rfl)
theorem RL:plainId "set.update.loop"=true:=by decide +kernel
def once(ns:List Int):List Int:=ns.foldl Gk []
theorem gZ(ns:List Int)(k:Int):once (ns++[k])=Gk (once ns) k:=by unfold once;rw[U3z];rfl
theorem Ol:∀(ns:List Int),(once ns).Nodup/\(once ns).length<=ns.length/\∀j,j∈once ns↔j∈ns:=by
 intro ns
 have all:∀(ns ds:List Int),ds.Nodup->(ns.foldl Gk ds).Nodup/\(ns.foldl Gk ds).length<=ds.length+ns.length/\∀j,j∈ns.foldl Gk ds↔j∈ds∨j∈ns:=by
  intro ns
  induction ns with
  |nil=>intro ds h;exact⟨h,by simp,fun j=>by simp⟩
  |cons n r ih =>
   intro ds h
   obtain⟨a,b,c⟩:=ih (Gk ds n) (Tw h n)
   refine⟨a,?_,fun j=>?_⟩
   .have:=j9 ds n
    rw[U1v,U0i];omega
   .rw[U1v,c j,WX,U0q]
    constructor
    .rintro((z|z)|z)
     .exact .inl z
     .exact .inr (.inl z)
     .exact .inr (.inr z)
    .rintro(z|z|z)
     .exact .inl (.inl z)
     .exact .inl (.inr z)
     .exact .inr z
 obtain⟨a,b,c⟩:=all ns [] List.nodup_nil
 exact⟨a,by rw[U1a,U7e] at b;exact b,fun j=>by rw[show once ns=ns.foldl Gk [] from rfl,c j];simp⟩
section
variable{prog:Program}{w:World}{A:Around}{E:Value->Shared->Prop}{s:Shared}
theorem jT{R:Result->Shared->Prop}{S I l:Addr}{items:Array Value}{ns:List Int}(hh:A.handled=none)(hi:IntsAre items.toList ns)(hb:items.size+1<scanBound)(hSI:S≠I)(hSl:S≠l)(hIl:I≠l) :
  ∀(k i:Nat)(s:Shared),items.size-i=k->i<=items.size->s.heap.IsListIter I l i->s.heap.IsList l items->SetT prog w s.heap S (once (ns.take i)) ->
   (∀h' tk,(∀b o,b≠S->b≠I->s.heap.get? b=some o->h'.get? b=some o)->SetT prog w h' S (once ns)->R (.ok (.ret .none)) { s with heap:=h',toks:=tk }) ->
   codeAny (model prog w) A (.builtin "set.update.loop" ⟨[.ref S,.ref I],[]⟩) R s:=by
 have hlen:items.size=ns.length:=by have:=hi.length;simpa using this
 intro k
 induction k with
 |zero =>
  intro i s hk hi' it il T hR
  have e:i=items.size:=by omega
  subst e
  refine codeAny_builtin Wk ?_
  rw[U3i RL _]
  show wpAny _ A.in1 (pyNext (.ref I) >>= _) _ _ s
  refine U0 (wpAny_pyNext_list_end hh it il (by simp) fun h' eb=>?_)
  show wpAny _ A.in1 (ret U2r) _ _ _
  refine U0f (hR h' s.toks (fun b o _ hbI q=>eb b o hbI q) ?_)
  rw[U6b (by omega)] at T
  exact T.sameBut fun o q=>eb S o hSI q
 |succ k ih =>
  intro i s hk hi' it il T hR
  have hlt:i<items.size:=by omega
  refine codeAny_builtin Wk ?_
  rw[U3i RL _]
  show wpAny _ A.in1 (pyNext (.ref I) >>= _) _ _ s
  refine U0 (wpAny_pyNext_list_item it il (x:=items[i]) (by simp[hlt]) fun h1 it1 sb1=>?_)
  have hn:i<ns.length:=by omega
  obtain⟨t0,hv⟩:∃t0,items[i]=.int ns[i] t0:=by
   have all:∀{vs:List Value} {ms:List Int},IntsAre vs ms->∀(j:Nat)(h1:j<vs.length)(h2:j<ms.length),∃t0,vs[j]=.int ms[j] t0:=by
    intro vs ms r
    induction r with
    |nil=>intro j h1;simp at h1
    |cons n t _ ih=>intro j h1 h2;cases j with
     |zero=>exact⟨t,rfl⟩
     |succ j=>exact ih j (by simpa using h1) (by simpa using h2)
   have q:=all hi i (by simpa using hlt) hn
   simpa using q
  rw[hv]
  show wpAny _ A.in1 (holding [U3r ns[i] t0] (setAdd S (.int ns[i] t0)) >>= _) _ _ _
  have T1:SetT prog w h1 S (once (ns.take i)):=T.sameBut fun o q=>(sb1.2 S hSI).trans q
  have il1:h1.IsList l items:=by
   obtain⟨o,ho,r⟩:=il
   exact⟨o,(sb1.2 l hIl.symm).trans ho,r⟩
  refine U0 (U2p ?_)
  unfold setAdd
  refine U2p (U0 ((intKind prog w).pyHash (k:=ns[i]) (intKind_is _ _ _ _) ?_))
  have room:(once (ns.take i)).length+1<scanBound:=by
   have q:=(Ol (ns.take i)).2.1
   rw[U19] at q
   omega
  refine aF (s:={ s with heap:=h1,toks:=s.toks+1 }) T1 room fun b h2 sb2 T2=>?_
  have T2':SetT prog w h2 S (once (ns.take (i+1))):=by
   rw[List.take_succ_eq_append_getElem hn,gZ];exact T2
  refine U0f ⟨plainId_quiet RL _,ih (i+1) _ (by omega) hlt ?_ ?_ T2' fun h' tk hk' T'=>?_⟩
  .obtain⟨o,ho,r⟩:=it1
   exact⟨o,(sb2.2 I hSI.symm).trans ho,r⟩
  .obtain⟨o,ho,r⟩:=il1
   exact⟨o,(sb2.2 l hSl.symm).trans ho,r⟩
  .exact hR h' tk (fun c o hcS hcI q=>hk' c o hcS hcI ((sb2.2 c hcS).trans ((sb1.2 c hcI).trans q))) T'
theorem yE(a:Value){Q₁:Value->Shared->Prop}
  (h:Q₁ (.ref s.heap.objs.size) { s with heap:=s.heap.push { cls:=.type "set",dict:=none,data:=.set #[] 0 (.fresh 0 0 (PX w)) } }) :
  codeAny (model prog w) A (.call (.builtin "set.__new__") ⟨[.type "set",a],[]⟩) (wants Q₁ E) s:=by
 refine codeAny_of_tree ?_
 have hck:checkBuiltinCall "set.__new__" ⟨[.type "set",a],[]⟩=pure ():=by kernel_rfl
 show wpAny _ A.in1 (checkBuiltinCall "set.__new__" ⟨[.type "set",a],[]⟩ >>= fun _=>again (.builtin "set.__new__" ⟨[.type "set",a],[]⟩)) _ _ s
 rw[hck]
 refine U0 (U0f (U0f ⟨plainId_quiet F.plain_set_new _,codeAny_builtin F.entry_set_new ?_⟩))
 rw[U3i F.plain_set_new _]
 have hsub:=sub_set_self
 unfold Builtin.«set.__new__» Builtin.Frozenset.newClass
 obtain⟨hp,g,d,tk,os⟩:=s
 dsimp only
 wp_walk
 refine U4o (U0f ?_)
 simp only[newObj]
 exact U0 (wpAny_alloc (U0f (U0f h)))
theorem m6{M:Model}{self a:Value}{Q:Unit->Shared->Prop}(hT:s.TypeIs self "set")(hQ:Q () s):wpAny M A (checkBuiltinCall "set.__init__" ⟨[self,a],[]⟩) Q E s:=by
 simp only[checkBuiltinCall,kind_set_init,split_set_init,sig_set_init]
 refine U0 (U5a hT sub_set_self ?_)
 simp only[U5d,U1y,if_false]
 unfold Bind.checkArgs
 dsimp only
 refine U0 (m:=Bind.printed "set" true _ _) (printed_name (by decide) ?_)
 refine U0 (m:=Bind.printed "*" false _ _) (printed_star (self:=self) rfl hT fun short=>?_)
 have one:(if (U57.self==U57.none)=true then [self,a].length else [self,a].length-1)=1:=by
  have z:(U57.self==U57.none)=false:=by decide
  simp[z]
 rw[one]
 simp only[U1e]
 have z1:(U4b==U4b)=true:=by decide
 have z2:(U4b==U33.posOrKw)=false:=by decide
 have z3:(U4b==U33.varPos)=false:=by decide
 have fine:Bind.check ⟨.positional,"set","*",.self,[⟨"iterable",.posOnly,false⟩]⟩ "set" short 1 []=pure ():=by
  simp[Bind.check,Bind.checkCount,Bind.isPositional,z1,z2,z3]
 rw[fine]
 exact U0f hQ
set_option maxHeartbeats 3200000 in
theorem oG{l:Addr}{items:Array Value}{ns:List Int}{Q:Value->Shared->Prop}(hh:A.handled=none)(hl:s.heap.IsList l items)(hi:IntsAre items.toList ns)(hb:items.size+1<scanBound)
  (h:∀h' tk,(∀b o,s.heap.get? b=some o->h'.get? b=some o)->SetT prog w h' s.heap.objs.size (once ns)->Q (.ref s.heap.objs.size) { s with heap:=h',toks:=tk }) :
  wpAny (model prog w) A (call (.type "set") [.ref l]) Q E s:=by
 have hmade:=U4p.made
 have hsub:=U4p.sub
 have h1:=U4p.notType
 have h2:=U4p.canCreate
 have hct:checkTypeCall "set" ⟨[.ref l],[]⟩=pure ():=by kernel_rfl
 obtain⟨c,tl,hmro⟩:=U4p.mro
 refine wpAny_call (codeAny_of_tree ?_)
 show wpAny _ _ (callAny (.type "set") ⟨[.ref l],[]⟩) _ _ s
 refine U0f ⟨Code.quiet_builtin _ (by decide +kernel),codeAny_builtin F.entry_type_call ?_⟩
 rw[Around.under_plain (weight_type_call_type "set" [.ref l] []) rfl]
 repeat (any_goals (first|assumption|wp_step))
 refine codeAny_mono (yE (.ref l) (E:=E) (Q₁:=fun obj s₁=>obj=.ref s.heap.objs.size/\s₁={ s with heap:=s.heap.push { cls:=.type "set",dict:=none,data:=.set #[] 0 (.fresh 0 0 (PX w)) } }) ⟨rfl,rfl⟩) fun r s₁ hr=>?_
 cases r with
 |error e=>exact hr
 |ok fl =>
  cases fl with
  |ret obj =>
   obtain⟨rfl,rfl⟩:=hr
   generalize hg1:s.heap.push { cls:=.type "set",dict:=none,data:=.set #[] 0 (.fresh 0 0 (PX w)) }=g1
   have e1:g1.get? s.heap.objs.size=some { cls:=.type "set",dict:=none,data:=.set #[] 0 (.fresh 0 0 (PX w)) }:=hg1 ▸ U0w _ rfl
   have k1:∀b o,s.heap.get? b=some o->g1.get? b=some o:=fun b o q=>hg1 ▸ U0c _ q
   have z1:g1.objs.size=s.heap.objs.size+1:=by rw[←hg1,U2m]
   have hT:U6d { s with heap:=g1 } (.ref s.heap.objs.size) "set":=⟨_,e1,rfl⟩
   have hli:=U4p.init.lookup
   have hbi:=U4p.init.bind (.ref s.heap.objs.size)
   repeat (any_goals (first|assumption|wp_step))
   refine codeAny_mono (codeAny_call_builtin (R:=wants (fun r s₂=>r=.none/\∃h' tk,s₂={ s with heap:=h',toks:=tk }/\(∀b o,s.heap.get? b=some o->h'.get? b=some o)/\SetT prog w h' s.heap.objs.size (once ns)) E)
    U4p.init.plain F.entry_set_init (m6 hT ?_)) fun r₂ s₂ hr₂=>?_
   .obtain⟨ol,hol,hcl,nl,hdl⟩:=hl
    obtain⟨ocls,odict,odata,oslots⟩:=ol
    simp only at hcl hdl
    subst hcl hdl
    have q1:g1.get? l=some { cls:=.type "list",dict:=odict,data:=.seq items nl,slots:=oslots }:=k1 _ _ hol
    have il:g1.IsList l items:=⟨_,q1,rfl,nl,rfl⟩
    have hlS:l<s.heap.objs.size:=U0p hol
    have hs1:isSubtype (.type "list") (.type "set")=pure false:=by rw[isSubtype_type];kernel_rfl
    have hs2:isSubtype (.type "list") (.type "frozenset")=pure false:=by rw[isSubtype_type];kernel_rfl
    have hs3:(U3m "list"==U3m "dict")=false:=by decide
    unfold Builtin.«set.__init__» noKeywords Builtin.Frozenset.updateFrom
    generalize hPI:pyIter=PI
    wp_walk
    subst hPI
    refine U58 il (U0 (wpAny_runValue ?_))
    have n1:s.heap.objs.size≠g1.objs.size:=by rw[z1];exact U0z (U6g _)
    have n2:s.heap.objs.size≠l:=U1x hlS
    have n3:g1.objs.size≠l:=by rw[z1];exact U1x (U3b hlS)
    refine jT (l:=l) (items:=items) (by simpa using hh) hi hb n1 n2 n3 (items.size-0) 0 _ (by omega) (U3u _) ⟨_,U0w _ rfl,rfl,rfl⟩ ?_ ?_ ?_
    .obtain⟨o,ho,r⟩:=il
     exact⟨o,U0c _ ho,r⟩
    .refine⟨List.nodup_nil,_,#[],0,_,U0c _ e1,⟨rfl,rfl,rfl⟩,rfl,fun e he=>by simp at he,fun k=>by simp[once],by decide,by rfl,rfl,TabOk.fresh _ _ _⟩
    .intro h' tk hk T
     show wpAny _ _ _ _ _ _
     refine U0f ?_
     show wpAny _ _ (ret U2r) _ _ _
     refine U0f ⟨rfl,h',tk,rfl,fun b o q=>?_,T⟩
     have hb':=U0p q
     exact hk b o (U0z hb') (by rw[z1];exact U0z (U3b hb')) (U0c _ (k1 b o q))
   .cases r₂ with
    |error e=>exact hr₂
    |ok fl₂ =>
     cases fl₂ with
     |ret r =>
      obtain⟨rfl,h',tk,rfl,hk,T⟩:=hr₂
      repeat (any_goals (first|assumption|wp_step))
      exact h h' tk hk T
     |_=>exact hr₂.elim
  |_=>exact hr.elim
end
end SetP
end
section
set_option maxRecDepth 100000
namespace SetP
open PySem PyProof.Rows
theorem Qo{α:Type}:∀(l:List α)(i:Nat)(h:i<l.length),(l[i]::l.eraseIdx i).Perm l
 |[],i,h=>absurd h (by simp)
 |x::r,0,_=>U6z _
 |x::r,i+1,h=>(U4h.swap x _ _).trans (U7w x (Qo r i (by simpa using h)))
theorem SQ:∀{ds ns:List Int},ds.Nodup->(∀k,k∈ds->k∈ns)->ns.length<=ds.length->ns.Perm ds
 |[],ns,_,_,h=>by
  have e:ns=[]:=U29.mp (by simpa using h)
  rw[e]
 |d::r,ns,nd,sub,h=>by
  have hd:d∈ns:=sub d U0u
  have p:=List.perm_cons_erase hd
  obtain⟨h1,h2⟩:=U5o.mp nd
  refine p.trans (U7w d (SQ h2 (fun k hk=>?_) ?_))
  .have hne:k≠d:=fun e=>h1 (e ▸ hk)
   exact(List.mem_erase_of_ne hne).mpr (sub k (U0t _ hk))
  .rw[List.length_erase_of_mem hd]
   rw[U0i] at h
   omega
theorem aZ{α:Type}(next:Nat->Nat):∀(fuel k:Nat)(left:List α)(out:Array α),left.length=fuel->(pickOrder.go next fuel k left out).toList.Perm (out.toList++left)
 |0,_,left,out,h=>by
  have e:left=[]:=U29.mp h
  subst e
  unfold pickOrder.go
  simp
 |fuel+1,k,left,out,h=>by
  unfold pickOrder.go
  have hi:next k%left.length<left.length:=Nat.mod_lt _ (by omega)
  rw[U0g hi]
  dsimp only
  refine(aZ next fuel (k+1) _ _ (by rw[List.length_eraseIdx_of_lt hi];omega)).trans ?_
  rw[Array.toList_push,U56]
  exact U4h.append_left _ (Qo _ _ hi)
theorem gR{α:Type}(next:Nat->Nat)(xs:Array α):(pickOrder next xs).toList.Perm xs.toList:=by
 unfold pickOrder
 simpa using aZ next xs.size 0 xs.toList #[] (by simp)
section
variable{M:Model}{A:Around}{E:Value->Shared->Prop}
theorem dU{src:Source}{n:Nat}{s:Shared}{Q:Nat->Shared->Prop}(hn:n≠0)(h:∀i d',i<n->Q i { s with drawn:=d' }):wpAny M A (choose src n) Q E s :=
 fun _ _ _=>⟨hn,h _ _ (Nat.mod_lt _ (Nat.pos_of_ne_zero hn))⟩
theorem Qv{α:Type}:∀(n:Nat)(xs:List α)(s:Shared)(Q:List α->Shared->Prop),xs.length<=n->(∀ys d',ys.Perm xs->Q ys { s with drawn:=d' })->wpAny M A (drawOrder n xs) Q E s
 |0,xs,s,Q,h,q=>by
  have e:xs=[]:=U29.mp (by omega)
  subst e
  unfold drawOrder
  exact U0f (q [] s.drawn (U6z _))
 |n+1,[],s,Q,h,q=>by
  unfold drawOrder
  exact U0f (q [] s.drawn (U6z _))
 |n+1,x::xs,s,Q,h,q=>by
  unfold drawOrder
  refine U0 (dU (by simp) fun i d' hi=>?_)
  rw[U0g hi]
  dsimp only
  refine U0 (Qv n _ _ _ (by rw[List.length_eraseIdx_of_lt hi];simp at h ⊢;omega) fun ys d'' p=>U0f (q _ d'' ?_))
  exact(U7w _ p).trans (Qo _ _ hi)
end
theorem Fj:Slot "set_iterator" "__next__" "set_iterator.__next__" :=
 .of (owner:="set_iterator") (n:="__next__") (by rw[typeLookup_type,builtinLookup_eq_fast];kernel_rfl) (by decide +kernel) (by decide +kernel) (by decide +kernel)
  (by first|exact .inl (by decide +kernel)|exact .inr (by decide +kernel)) (by rw[isSubtype_type];kernel_rfl)
theorem PK:entryFor table "set_iterator.__next__"=some Builtin.«set_iterator.__next__»:=entryFor_of_tree (by kernel_rfl)
theorem Pu(a:Value):argsOk "set_iterator.__next__" ⟨[a],[]⟩:=by unfold argsOk;kernel_rfl
theorem W0:entryFor table "set.__iter__"=some Builtin.«frozenset.__iter__» :=
 entryFor_alias (id':="frozenset.__iter__") (by kernel_rfl) rfl (by decide +kernel) (by kernel_rfl)
def K4(first:Value)(i:Nat)(S:Addr)(n ep:Nat):Obj:={ cls:=.type "set_iterator",data:=.fields #[first,.int i 0,.ref S,.int n 0,.int ep 0] }
inductive Road (w:World) (h:Heap) (es:Array (Int×Value)) (ep:Nat) (t:SetTable) (S it T:Addr) (vs:List Value) (i:Nat):Value->Prop
 |text (k:Int):w.params.followText "set-order"=true->(∀(j:Nat),vs[j]?=((pickOrder (w.params.setOrder S ep) es)[j]?).map fun(e:Int×Value)=>e.2)->Road w h es ep t S it T vs i (.int k 0)
 |plain:w.params.followText "set-order"=false->(!t.plain&&decide (es.size>1))=false->TabOk true t->(∀(j:Nat),vs[j]?=(es[j]?).map fun(e:Int×Value)=>e.2)->Road w h es ep t S it T vs i (.int ((if i=0 then 0 else t.place.getD (i-1) 0+1:Nat):Int) 0)
 |drawn (ps:List Nat):T≠it->h.get? T=some { cls:=.type "tuple",data:=.seq (ps.map fun(p:Nat)=>rawInt p).toArray 0 }->(∀p∈ps,p<es.size)->(∀(j:Nat),vs[j]?=(ps[j]?).bind fun p=>(es[p]?).map fun(e:Int×Value)=>e.2)->Road w h es ep t S it T vs i (.ref T)
structure Np(w:World)(h:Heap)(it S T:Addr)(vs:List Value)(i:Nat):Prop where
 ne:it≠S
 ex:∃o es ep t first,h.get? S=some o/\o.data=.set es ep t/\t.fits es.size=true/\vs.length=es.size/\h.get? it=some (K4 first i S es.size ep)/\Road w h es ep t S it T vs i first
section
variable{prog:Program}{w:World}{A:Around}{E:Value->Shared->Prop}{s:Shared}
theorem Np.keep{h h':Heap}{it S T:Addr}{vs:List Value}{i:Nat}(x:Np w h it S T vs i)(k:∀b∈[it,S,T],∀o,h.get? b=some o->h'.get? b=some o):Np w h' it S T vs i:=by
 obtain⟨ne,o,es,ep,t,first,a,b,c,d,e,r⟩:=x
 refine⟨ne,o,es,ep,t,first,k S (by simp) _ a,b,c,d,k it (by simp) _ e,?_⟩
 cases r with
 |text k1 z1 z2=>exact .text k1 z1 z2
 |plain z1 z2 z3 z4=>exact .plain z1 z2 z3 z4
 |drawn ps z1 z2 z3 z4=>exact .drawn ps z1 (k T (by simp) _ z2) z3 z4
theorem vW{S:Addr}{ds:List Int}{Q:Value->Shared->Prop}(hS:SetT prog w s.heap S ds)
  (h:∀h' d' it T vs,(∀b o,s.heap.get? b=some o->h'.get? b=some o)->s.heap.objs.size<=it->(T=S∨s.heap.objs.size<=T)->Np w h' it S T vs 0->(∃ns,IntsAre vs ns/\ns.Perm ds)->Q (.ref it) { s with heap:=h',drawn:=d' }) :
  wpAny (model prog w) A (pyIter (.ref S)) Q E s:=by
 obtain⟨nd,o,es,ep,t,ho,hex,hd,hel,hm,hb,hf,hn,ht⟩:=hS
 have hT:s.TypeIs (.ref S) "set":=⟨o,ho,hex.1⟩
 have hlt:=U0p ho
 -- the members as ints
 have intsV:∀(l:List (Int×Value)),ElemsOf (intKind prog w) l->∃ns,IntsAre (l.map (·.2)) ns/\∀k,k∈ns↔∃e∈l,(intKind prog w).is k e.2=true:=by
  intro l
  induction l with
  |nil=>intro _;exact⟨[],.nil,fun k=>by simp⟩
  |cons e r ih =>
   intro he
   obtain⟨ns,a,b⟩:=ih he.tail
   obtain⟨⟨k0,hk0,_⟩,_⟩:=he.head
   obtain⟨t0,e0⟩:=Value.isInt_shape (show Value.isInt k0 e.2=true from hk0)
   refine⟨k0::ns,by rw[U0m,e0];exact .cons k0 t0 a,fun k=>?_⟩
   rw[U0q,b k]
   constructor
   .rintro(z|⟨e',he',q⟩)
    .exact⟨e,U0u,by rw[z];exact hk0⟩
    .exact⟨e',U0t _ he',q⟩
   .rintro⟨e',he',q⟩
    rcases U0q.mp he' with z|z
    .subst z;exact .inl ((intKind prog w).inj _ _ _ q hk0)
    .exact .inr ⟨e',z,q⟩
 -- any order of the members is the ints in some order
 have fin:∀(l:List (Int×Value)),l.Perm es.toList->∃ns,IntsAre (l.map (·.2)) ns/\ns.Perm ds:=fun l p=>by
  obtain⟨ns,a,b⟩:=intsV l (hel.perm p)
  refine⟨ns,a,?_⟩
  have hsub:ds ⊆ ns:=fun k hk=>(b k).mpr (by
   obtain⟨e,he,q⟩:=(hm k).mp (decide_eq_true hk)
   exact⟨e,p.mem_iff.mpr he,q⟩)
  have hle:ns.length<=ds.length:=by
   have q1:(l.map (·.2)).length=ns.length:=IntsAre.length a
   rw[U0j] at q1
   exact U72 (by rw[←q1,p.length_eq,U1q,hn])
  exact SQ nd (fun k hk=>hsub hk) hle
 refine U7 hT F.slot_set_iter (U2l F.slot_set_iter hT W0 ?_ (F.args_set_iter_1 _))
 unfold Builtin.«frozenset.__iter__» Builtin.Frozenset.slot0 slotArgs
 simp only[U7f,U5d,U1y,↓reduceIte,bind_assoc,U1a,bne_self_eq_false]
 unfold Builtin.Frozenset.addrOf Builtin.Frozenset.sizeOf
 refine U0 (U0f ?_)
 try dsimp only
 refine U0 (U0f ?_)
 refine U0 (U0 (U6s ho hd hf (U0f ?_)))
 unfold setDrawn setsByText
 simp only[bind_assoc]
 refine U0 (U4d ho hd hf ?_)
 refine U0 (U4o ?_)
 refine U0 (U0f (U0 (U0f ?_)))
 show wpAny (model prog w) A.in1 (if (!(w.params.followText "set-order")&&(!t.plain&&decide (es.size>1)))=true then _ else _) _ _ s
 have len2:∀(ps:List Nat),ps.Perm (U0h es.size)->((ps.filterMap fun p=>es[p]?)).Perm es.toList/\∀(j:Nat),((ps.filterMap fun p=>es[p]?).map (·.2))[j]?=(ps[j]?).bind fun p=>(es[p]?).map fun(e:Int×Value)=>e.2:=fun ps p=>by
  refine⟨(p.filterMap _).trans (by rw[filterMap_getElem?_range]),?_⟩
  have all:∀(ps:List Nat),(∀p∈ps,p<es.size)->∀(j:Nat),((ps.filterMap fun p=>es[p]?).map (·.2))[j]?=(ps[j]?).bind fun p=>(es[p]?).map fun(e:Int×Value)=>e.2:=by
   intro ps
   induction ps with
   |nil=>intro _ j;simp
   |cons q r ih =>
    intro hq j
    have hq':q<es.size:=hq q U0u
    rw[U25 (b:=es[q]) (by simp[hq'])]
    cases j with
    |zero=>simp[hq']
    |succ j=>simpa using ih (fun p hp=>hq p (U0t _ hp)) j
  exact all ps fun q hq=>U1n.mp (p.mem_iff.mp hq)
 split
 .rename_i hc
  refine U0 (Qv es.size (U0h es.size) s _ (by simp) fun ps d' p=>?_)
  obtain⟨p1,p2⟩:=len2 ps p
  refine U0 (U2f ?_ ?_)
  .refine U0 (wpAny_setEpoch_of (U0c _ ho) hd hf ?_)
   refine U0 (U2f (U0f ⟨_,rfl,"set_iterator",_,⟨_,U0w _ rfl,rfl⟩,Fj.lookup,?_⟩))
   refine h _ d' _ s.heap.objs.size ((ps.filterMap fun p=>es[p]?).map (·.2)) (fun b o' e=>U0c _ (U0c _ e)) ?_ (.inr (U0o _)) ?_ (fin _ p1)
   .show s.heap.objs.size<=(s.heap.push _).objs.size
    rw[U2m];exact U44 _
   .refine⟨?_,o,es,ep,t,_,U0c _ (U0c _ ho),hd,hf,?_,U0w _ rfl,.drawn ps ?_ (U0c _ (U0w _ rfl)) (fun q hq=>U1n.mp (p.mem_iff.mp hq)) p2⟩
    .show(s.heap.push _).objs.size≠S
     rw[U2m];exact U1x (U3b hlt)
    .rw[U0j,p1.length_eq,U1q]
    .show s.heap.objs.size≠(s.heap.push _).objs.size
     rw[U2m];exact U0z (U6g _)
  .show _<=sizeLine
   rw[U0r,U0j,p.length_eq,U24]
   exact fits_of_scanBound hb
 .rename_i hc
  refine U0 (U0f (U0 (wpAny_setEpoch_of ho hd hf ?_)))
  refine U0 (U2f (U0f ⟨_,rfl,"set_iterator",_,⟨_,U0w _ rfl,rfl⟩,Fj.lookup,?_⟩))
  by_cases ht':w.params.followText "set-order"=true
  .have pp:=gR (w.params.setOrder S ep) es
   have q:=h (s.heap.push (K4 (rawInt 0) 0 S es.size ep)) s.drawn s.heap.objs.size S ((pickOrder (w.params.setOrder S ep) es).toList.map (·.2)) (fun b o' e=>U0c _ e) (U0o _) (.inl rfl)
    ⟨U1x hlt,o,es,ep,t,_,U0c _ ho,hd,hf,by rw[U0j,pp.length_eq,U1q],U0w _ rfl,.text 0 ht' fun j=>by rw[U0y,U2w]⟩ (fin _ pp)
   exact q
  .have hf':w.params.followText "set-order"=false:=by simpa using ht'
   have hL:PX w=true:=by show(!_)=true;rw[hf'];rfl
   rw[hL] at ht
   have hdr:(!t.plain&&decide (es.size>1))=false:=by
    rw[hf'] at hc
    simpa using hc
   have q:=h (s.heap.push (K4 (rawInt 0) 0 S es.size ep)) s.drawn s.heap.objs.size S (es.toList.map (·.2)) (fun b o' e=>U0c _ e) (U0o _) (.inl rfl)
    ⟨U1x hlt,o,es,ep,t,_,U0c _ ho,hd,hf,by rw[U0j,U1q],U0w _ rfl,.plain hf' hdr ht fun j=>by rw[U0y,U2w]⟩ (fin _ (U6z _))
   exact q
end
end SetP
end
section
set_option maxRecDepth 100000
namespace SetP
open PySem PyProof.Rows
section
variable{prog:Program}{w:World}{A:Around}{E:Value->Shared->Prop}{s:Shared}
theorem Ux(first x:Value)(i:Nat)(S:Addr)(n ep:Nat):U31 (·.setIfInBounds 0 x) (K4 first i S n ep)=K4 x i S n ep:=rfl
theorem dH(first:Value)(i:Nat)(S:Addr)(n ep:Nat):U31 (·.setIfInBounds 1 (rawInt ((i:Int)+1))) (K4 first i S n ep)=K4 first (i+1) S n ep:=rfl
theorem RT{S:Addr}{o:Obj}{es:Array (Int×Value)}{ep slot given:Nat}{t:SetTable}{Q:Option (Value×Nat)->Shared->Prop}(ho:s.heap.get? S=some o)(hd:o.data=.set es ep t)(hf:t.fits es.size=true)
  (z:w.params.followText "set-order"=true) (h:Q (((pickOrder (w.params.setOrder S ep) es)[given]?).map fun e=>(e.2,slot)) s):wpAny (model prog w) A (setNext S slot given ep) Q E s:=by
 unfold setNext
 refine U0 (U4d ho hd hf ?_)
 unfold setsByText
 refine U0 (U0 (U4o (U0f ?_)))
 show wpAny _ _ (if (w.params.followText "set-order")=true then _ else _) _ _ s
 rw[if_pos z]
 show wpAny _ _ (if (ep != ep)=true then _ else _) _ _ s
 rw[if_neg (by simp)]
 unfold setWalk
 refine U0 (U0 (U4d ho hd hf ?_))
 unfold setsByText
 refine U0 (U0 (U4o (U0f ?_)))
 show wpAny _ _ (if (w.params.followText "set-order")=true then _ else _) _ _ s
 rw[if_pos z]
 exact U0 (U4o (U0f (U0f h)))
theorem Qs{S:Addr}{o:Obj}{es:Array (Int×Value)}{ep slot given:Nat}{t:SetTable}{Q:Option (Value×Nat)->Shared->Prop}(ho:s.heap.get? S=some o)(hd:o.data=.set es ep t)(hf:t.fits es.size=true)
  (z:w.params.followText "set-order"=false) (z2:(!t.plain&&decide (es.size>1))=false) (z3:t.led=true)
  (h:Q (match es[U1u t.place slot]?,t.place[U1u t.place slot]? with|some (_,x),some j=>some (x,j+1)|_,_=>none) s):wpAny (model prog w) A (setNext S slot given ep) Q E s:=by
 unfold setNext
 refine U0 (U4d ho hd hf ?_)
 unfold setsByText
 refine U0 (U0 (U4o (U0f ?_)))
 show wpAny _ _ (if (w.params.followText "set-order")=true then _ else _) _ _ s
 rw[if_neg (by rw[z];simp)]
 show wpAny _ _ (if (!t.plain&&decide (es.size>1))=true then _ else _) _ _ s
 rw[if_neg (by rw[z2];simp)]
 refine U0 ?_
 show wpAny _ _ (if (!t.led&&!es.isEmpty)=true then _ else _) _ _ s
 rw[if_neg (by rw[z3];simp)]
 exact U0f (U0f h)
theorem cu{it S T:Addr}{vs:List Value}{i:Nat}{v:Value}{Q:Option Value->Shared->Prop}(x:Np w s.heap it S T vs i)(hv:vs[i]?=some v)
  (h:∀h',U07 it s.heap h'->Np w h' it S T vs (i+1)->Q (some v) { s with heap:=h' }):wpAny (model prog w) A (pyNext (.ref it)) Q E s:=by
 obtain⟨ne,o,es,ep,t,first,ho,hd,hf,hl,hi,r⟩:=x
 have hT:s.TypeIs (.ref it) "set_iterator":=⟨_,hi,rfl⟩
 unfold pyNext
 refine U0 (U5e (wpAny_callSpecial?_slot (name:=U3e "__next__") hT Fj (U2l Fj hT PK ?_ (Pu _))))
 unfold Builtin.«set_iterator.__next__» slotArgs
 simp only[U7f,U5d,U1y,↓reduceIte,U1a,bne_self_eq_false]
 refine U0 (U0f ?_)
 refine U0 (wpAny_fieldsOf hi rfl ?_)
 show wpAny _ _ (setEntries S >>= _) _ _ s
 refine U0 (U6s ho hd hf ?_)
 show wpAny _ _ (if ((es.size:Int) != (es.size:Int))=true then _ else _) _ _ s
 rw[if_neg (by simp)]
 have lt:i<vs.length:=(U0l.mp hv).1
 have upd1:∀{h1:Heap} {f1:Value},h1.get? it=some (K4 f1 i S es.size ep)->(h1.update it (U31 (·.setIfInBounds 1 (rawInt ((i:Int)+1))))).get? it=some (K4 f1 (i+1) S es.size ep):=fun {h1 f1} e=>by
  rw[←dH f1 i S es.size ep];exact U2i _ e rfl
 have upd0:∀{h1:Heap} {f1 y:Value},h1.get? it=some (K4 f1 i S es.size ep)->(h1.update it (U31 (·.setIfInBounds 0 y))).get? it=some (K4 y i S es.size ep):=fun {h1 f1 y} e=>by
  rw[←Ux f1 y i S es.size ep];exact U2i _ e rfl
 cases r with
 |text k z1 z2 =>
  show wpAny _ _ (setNext S k.toNat i ep >>= _) _ _ s
  refine U0 (RT ho hd hf z1 ?_)
  have q:=z2 i
  rw[hv] at q
  cases hp:(pickOrder (w.params.setOrder S ep) es)[i]? with
  |none=>rw[hp] at q;cases q
  |some e =>
   rw[hp] at q
   have q':v=e.2:=U09 q
   subst q'
   refine U0 (U3a hi rfl (by simp) (U0 (U3a (upd0 hi) rfl (by simp) (U0f ⟨_,rfl,U0f (h _ ((U12 ..).trans (U12 ..)) ⟨ne,o,es,ep,t,_,?_,hd,hf,hl,upd1 (upd0 hi),.text _ z1 z2⟩)⟩))))
   rw[U1i _ _ ne,U1i _ _ ne];exact ho
 |plain z1 z2 z3 z4 =>
  show wpAny _ _ (setNext S (Int.toNat ((if i=0 then 0 else t.place.getD (i-1) 0+1:Nat):Int)) i ep >>= _) _ _ s
  rw[U3c]
  refine U0 (Qs ho hd hf z1 z2 z3.2 ?_)
  have psz:t.place.size=es.size:=by
   have q:=hf
   simp only[SetTable.fits,U00,beq_iff_eq] at q
   exact q.1
  have hb:U1u t.place (if i=0 then 0 else t.place.getD (i-1) 0+1)=i:=by
   cases i with
   |zero=>rw[if_pos rfl];exact VF z3.1
   |succ i=>rw[if_neg (by omega)];exact VG z3.1 (by omega)
  rw[hb]
  have q:=z4 i
  rw[hv] at q
  have hie:i<es.size:=by omega
  have hip:i<t.place.size:=by omega
  rw[U2b hie] at q ⊢
  rw[U2b hip]
  have q':v=es[i].2:=U09 q
  subst q'
  show wpAny _ _ (setField (.ref it) 0 (rawInt ((t.place[i]+1:Nat):Int)) >>= _) _ _ s
  refine U0 (U3a hi rfl (by simp) (U0 (U3a (upd0 hi) rfl (by simp) (U0f ⟨_,rfl,U0f (h _ ((U12 ..).trans (U12 ..)) ⟨ne,o,es,ep,t,_,?_,hd,hf,hl,upd1 (upd0 hi),?_⟩)⟩))))
  .rw[U1i _ _ ne,U1i _ _ ne];exact ho
  .have e:t.place[i]=t.place.getD (i+1-1) 0:=by
    rw[U28,Nat.add_sub_cancel,U2b hip];rfl
   have rr:∀hp:Heap,Road w hp es ep t S it T vs (i+1) (.int ((t.place[i]+1:Nat):Int) 0):=fun hp=>by
    have r1:Road w hp es ep t S it T vs (i+1) (.int ((if i+1=0 then 0 else t.place.getD (i+1-1) 0+1:Nat):Int) 0):=.plain z1 z2 z3 z4
    rw[if_neg (by omega),←e] at r1
    exact r1
   exact rr _
 |drawn ps z1 z2 z3 z4 =>
  show wpAny _ _ (seqItems? (.ref T) >>= _) _ _ s
  refine U0 (U2z z2 rfl ?_)
  have q:=z4 i
  rw[hv] at q
  cases hp:ps[i]? with
  |none=>rw[hp] at q;cases q
  |some p =>
   rw[hp] at q
   have hlt:p<es.size:=z3 p (U18 hp)
   have q2:some v=(es[p]?).map fun(e:Int×Value)=>e.2:=q
   rw[U2b hlt] at q2
   have q':v=es[p].2:=U09 q2
   subst q'
   have hg:((ps.map fun(p:Nat)=>rawInt p).toArray)[i]?=some (rawInt p):=by
    rw[U6i,U0y,hp];rfl
   show wpAny _ _ (match ((ps.map fun(p:Nat)=>rawInt p).toArray)[(i:Int).toNat]? with|some (.int place _)=>_|some _=>_|none=>_) _ _ s
   rw[U3c,hg]
   show wpAny _ _ (setNextDrawn S p ep >>= _) _ _ s
   unfold setNextDrawn
   refine U0 (U0 (U4d ho hd hf ?_))
   show wpAny _ _ (if (ep != ep)=true then _ else _) _ _ s
   rw[if_neg (by simp)]
   dsimp only
   rw[U2b hlt]
   refine U0f ?_
   refine U0 (U3a hi rfl (by simp) (U0f ⟨_,rfl,U0f (h _ (U12 ..) ⟨ne,o,es,ep,t,_,?_,hd,hf,hl,upd1 hi,.drawn ps z1 ?_ z3 z4⟩)⟩))
   .rw[U1i _ _ ne];exact ho
   .rw[U1i _ _ z1.symm];exact z2
theorem gn{it S T:Addr}{vs:List Value}{Q:Option Value->Shared->Prop}(hh:A.handled=none)(x:Np w s.heap it S T vs vs.length)
  (h:∀h',U5g it s.heap h'->Q none { s with heap:=h' }):wpAny (model prog w) A (pyNext (.ref it)) Q E s:=by
 obtain⟨ne,o,es,ep,t,first,ho,hd,hf,hl,hi,r⟩:=x
 have hT:s.TypeIs (.ref it) "set_iterator":=⟨_,hi,rfl⟩
 unfold pyNext
 refine U0 (U5e (wpAny_callSpecial?_slot (name:=U3e "__next__") hT Fj (U2l Fj hT PK ?_ (Pu _))))
 unfold Builtin.«set_iterator.__next__» slotArgs
 simp only[U7f,U5d,U1y,↓reduceIte,U1a,bne_self_eq_false]
 refine U0 (U0f ?_)
 refine U0 (wpAny_fieldsOf hi rfl ?_)
 show wpAny _ _ (setEntries S >>= _) _ _ s
 refine U0 (U6s ho hd hf ?_)
 show wpAny _ _ (if ((es.size:Int) != (es.size:Int))=true then _ else _) _ _ s
 rw[if_neg (by simp)]
 have stop:∀{s1:Shared},U5g it s.heap s1.heap->s1={ s with heap:=s1.heap }->wpAny (model prog w) A.in1 (newExc (.type "StopIteration") [] >>= fun e=>(raiseNew e:Sem Fin)) (fun fin s'=>∃v,fin=.done (.ret v)/\wpAny (model prog w) A (pure (some v)) Q E s')
   (fun e s'=>wpAny (model prog w) A (do if ←isInstance e (.type "StopIteration") then pure none else throw e) Q E s') s1:=fun {s1} eb es1=>by
  refine U0 ?_
  simp only[newExc,newTuple]
  refine U0 (U2f ?_ (by size_fits))
  refine U0 (m:=firstArgMember _ _) (wpAny_of_eq (a:=U2r) (by first|rfl|(simp only[firstArgMember];rfl)) ?_)
  refine U2f ?_ (by size_fits)
  simp only[raiseNew]
  refine U0 (wpAny_handled ?_)
  rw[show A.in1.handled=none from hh]
  refine U0 (U0f (wpAny_throw ?_))
  refine U0 (U5a (T:="StopIteration") (b:=true) ⟨_,U0w _ rfl,rfl⟩ isSubtype_stop ?_)
  rw[if_pos rfl,es1]
  exact U0f (h _ ((eb.push _).push _))
 cases r with
 |text k z1 z2 =>
  show wpAny _ _ (setNext S k.toNat vs.length ep >>= _) _ _ s
  refine U0 (RT ho hd hf z1 ?_)
  have q:=z2 vs.length
  rw[U36 (U0o _)] at q
  cases hp:(pickOrder (w.params.setOrder S ep) es)[vs.length]? with
  |some e=>rw[hp] at q;cases q
  |none =>
   refine U0 (U3a hi rfl (by simp) ?_)
   exact stop (s1:={ s with heap:=s.heap.update it (U31 (·.setIfInBounds 2 U2r)) }) (U12 ..).extBut rfl
 |plain z1 z2 z3 z4 =>
  generalize hsl:(if vs.length=0 then 0 else t.place.getD (vs.length-1) 0+1:Nat)=sl
  show wpAny _ _ (setNext S (Int.toNat (sl:Int)) vs.length ep >>= _) _ _ s
  rw[U3c]
  refine U0 (Qs ho hd hf z1 z2 z3.2 ?_)
  have psz:t.place.size=es.size:=by
   have q:=hf
   simp only[SetTable.fits,U00,beq_iff_eq] at q
   exact q.1
  have hb:U1u t.place sl=vs.length:=by
   rw[←hsl]
   generalize vs.length=n at hl
   cases n with
   |zero=>rw[if_pos rfl];exact VF z3.1
   |succ i=>rw[if_neg (by omega)];exact VG z3.1 (by omega)
  rw[hb,hl,Array.getElem?_eq_none (U0o _)]
  refine U0 (U3a hi rfl (by simp) ?_)
  exact stop (s1:={ s with heap:=s.heap.update it (U31 (·.setIfInBounds 2 U2r)) }) (U12 ..).extBut rfl
 |drawn ps z1 z2 z3 z4 =>
  show wpAny _ _ (seqItems? (.ref T) >>= _) _ _ s
  refine U0 (U2z z2 rfl ?_)
  have q:=z4 vs.length
  rw[U36 (U0o _)] at q
  have hg:((ps.map fun(p:Nat)=>rawInt p).toArray)[vs.length]?=none:=by
   rw[U6i,U0y]
   cases hp:ps[vs.length]? with
   |none=>rfl
   |some p =>
    rw[hp] at q
    have hlt:p<es.size:=z3 p (U18 hp)
    have q2:none=(es[p]?).map fun(e:Int×Value)=>e.2:=q
    rw[U2b hlt] at q2
    cases q2
  show wpAny _ _ (match ((ps.map fun(p:Nat)=>rawInt p).toArray)[(vs.length:Int).toNat]? with|some (.int place _)=>_|some _=>_|none=>_) _ _ s
  rw[U3c,hg]
  refine U0 (U3a hi rfl (by simp) ?_)
  have e0:(s.heap.update it (U31 (·.setIfInBounds 0 (rawInt 0)))).get? it=some (K4 (rawInt 0) vs.length S es.size ep):=by
   rw[←Ux (.ref T) (rawInt 0) vs.length S es.size ep];exact U2i _ hi rfl
  refine U0 (U3a e0 rfl (by simp) ?_)
  exact stop (s1:={ s with heap:=(s.heap.update it (U31 (·.setIfInBounds 0 (rawInt 0)))).update it (U31 (·.setIfInBounds 2 U2r)) }) ((U12 ..).trans (U12 ..)).extBut rfl
end
end SetP
end
section
set_option maxRecDepth 100000
namespace SetP
open PySem PyProof.Rows
theorem Pq:Slot "set_iterator" "__iter__" "set_iterator.__iter__" :=
 .of (owner:="set_iterator") (n:="__iter__") (by rw[typeLookup_type,builtinLookup_eq_fast];kernel_rfl) (by decide +kernel) (by decide +kernel) (by decide +kernel)
  (by first|exact .inl (by decide +kernel)|exact .inr (by decide +kernel)) (by rw[isSubtype_type];kernel_rfl)
theorem U9:entryFor table "set_iterator.__iter__"=some Builtin.«dict_keyiterator.__iter__» :=
 entryFor_alias (id':="dict_keyiterator.__iter__") (by kernel_rfl) rfl (by decide +kernel) (by kernel_rfl)
theorem Vb(a:Value):argsOk "set_iterator.__iter__" ⟨[a],[]⟩:=by unfold argsOk;kernel_rfl
theorem dB:typeLookup (.type "set") "__len__"=pure (some (.builtin "set.__len__")):=F.slot_set_len.lookup
section
variable{prog:Program}{w:World}{A:Around}{E:Value->Shared->Prop}{s:Shared}
theorem nY(hh:A.handled=none)(it S T:Addr)(vs:List Value):Walks prog w A it [it,S,T] [it] vs.length (fun i v=>vs[i]?=some v) (fun i h=>Np w h it S T vs i) where
 sub:=fun b hb=>by simp at hb;subst hb;simp
 frame:=fun i h h' x k=>x.keep fun b hb o e=>k b hb o e
 item:=fun i s Q E hi x hQ=>by
  have hv:vs[i]?=some vs[i]:=U0g hi
  exact cu x hv fun h' sb x'=>hQ _ h' s.toks hv x' fun b o hb e=>(sb.2 b (by simpa using hb)).trans e
 done:=fun s Q E x hQ=>gn hh x fun h' eb=>hQ h' s.toks fun b o hb e=>eb b o (by simpa using hb) e
 self:=fun i s Q E x hQ=>by
  obtain⟨_,o,es,ep,t,first,_,_,_,_,hi,_⟩:=x
  have hT:s.TypeIs (.ref it) "set_iterator":=⟨_,hi,rfl⟩
  refine U7 hT Pq (U2l Pq hT U9 ?_ (Vb _))
  show wpAny _ _ (ret (.ref it)) _ _ s
  exact U0f ⟨_,rfl,"set_iterator",_,hT,Fj.lookup,hQ⟩
theorem vY{S:Addr}{Q:Bool->Shared->Prop}(hT:s.TypeIs (.ref S) "set")(h:Q false s):wpAny (model prog w) A (U49 (.ref S)) Q E s:=by
 unfold U49
 refine U0 (U7m hT dB ?_)
 have hs:splitId "set.__len__"=some ("set","__len__"):=by decide +kernel
 dsimp only
 rw[hs]
 dsimp only
 refine U0 (U5a hT sub_set_self ?_)
 simp only[U5d,U1y,if_false]
 refine U0 (U5t hT ?_)
 exact U0f h
theorem iy{S:Addr}{ds:List Int}{Q:List Value->Shared->Prop}(hh:A.handled=none)(hS:SetT prog w s.heap S ds)(h64:ds.length<64)
  (h:∀h' d' tk vs ns,(∀b o,s.heap.get? b=some o->h'.get? b=some o)->IntsAre vs ns->ns.Perm ds->Q vs { s with heap:=h',drawn:=d',toks:=tk }):wpAny (model prog w) A (collect (.ref S)) Q E s:=by
 obtain⟨o,ho,hex⟩:∃o,s.heap.get? S=some o/\o.ExactSet:=by
  obtain⟨_,o,es,ep,t,ho,hex,_⟩:=hS
  exact⟨o,ho,hex⟩
 have hlt:=U0p ho
 unfold collect
 refine U0 (wpAny_runValue (codeAny_builtin F.entry_proto_collect ?_))
 rw[U3i F.plain_proto_collect _]
 show wpAny _ A.in1 (newList [] >>= fun l=>again (.builtin "list.__iadd__" ⟨[l,.ref S],[]⟩)) _ _ s
 refine U0 (U2f (U0f ⟨plainId_quiet F.plain_list_iadd _,codeAny_builtin F.entry_list_iadd ?_⟩))
 rw[U3i F.plain_list_iadd _]
 generalize hL:s.heap.objs.size=L
 generalize hg:s.heap.push { cls:=.type "list",dict:=none,data:=.seq ([]:List Value).toArray }=g
 have k1:∀b o,s.heap.get? b=some o->g.get? b=some o:=fun b o e=>hg ▸ U0c _ e
 have hLg:g.get? L=some { cls:=.type "list",data:=.seq ([]:List Value).toArray }:=hg ▸ hL ▸ U0w _ rfl
 have hsz:g.objs.size=L+1:=by rw[←hg,U2m,hL]
 have hLS:L≠S:=by rw[←hL];exact U1x hlt
 have hT:U6d { s with heap:=g } (.ref S) "set":=⟨o,k1 _ _ ho,hex.1⟩
 show wpAny _ A.in1 (U3l (.ref L) (.ref S) (.ref L)) _ _ _
 unfold U3l
 refine U0 (U5t hT ?_)
 have h1:U4q (.ref L) (.ref S)=false:=by simp[U4q,hLS]
 have h2:(U3m "set"==U3m "list")=false:=by decide
 have h3:(U3m "set"==U3m "tuple")=false:=by decide
 simp only[h1,h2,h3,Bool.or_false,U1y,if_false]
 refine U0 (vW (s:={ s with heap:=g }) (hS.sameBut fun o e=>k1 _ _ e) fun g2 d2 it T vs k2 hit hTT x ⟨ns,hi,hp⟩=>?_)
 have hT2:U6d { s with heap:=g2,drawn:=d2 } (.ref S) "set":=⟨o,k2 _ _ (k1 _ _ ho),hex.1⟩
 refine U0 (U2p (vY hT2 ?_))
 have hit':L<it:=by
  have hit2:g.objs.size<=it:=hit
  omega
 show wpAny _ A.in1 (rule "list.extend.makes-room" >>= fun _=>Builtin.List.listTouch (.ref L) >>= fun _=>again (.builtin "list.extend.loop" ⟨[.ref L,.ref it,.ref L],[]⟩)) _ _ _
 refine U0 (U4x (U0 ?_))
 have e1:=k2 _ _ hLg
 show wpAny _ A.in1 (updateSeq L (·.push .none) >>= fun _=>updateSeq L (·.pop)) _ _ _
 refine U0 (U40 e1 rfl ?_)
 have e2:=U2i (U2j (·.push U2r)) e1 rfl
 refine U40 e2 rfl ?_
 have e3:=U2i (U2j (·.pop)) e2 rfl
 have oth:∀b o,b≠L->g2.get? b=some o->((g2.update L (U2j (·.push U2r))).update L (U2j (·.pop))).get? b=some o:=fun b o hb e=>(U1i _ _ (U1w hb)).trans ((U1i _ _ (U1w hb)).trans e)
 have hvn:vs.length=ns.length:=IntsAre.length hi
 have hv64:vs.length<64:=by rw[hvn,hp.length_eq];exact h64
 have hz:vs.length<=sizeLine:=by rw[sizeLine_eq];omega
 have nin:L ∉ [it,S,T]:=fun z=>by
  simp only[U0q,U1f,or_false] at z
  rcases z with z|z|z
  .omega
  .exact hLS z
  .rcases hTT with q|q
   .exact hLS (z.trans q)
   .have q':g.objs.size<=T:=q
    omega
 have W:=(nY (prog:=prog) (w:=w) (A:=A.in1) (by simpa using hh) it S T vs).toS
 have x3:Np w ((g2.update L (U2j (·.push U2r))).update L (U2j (·.pop))) it S T vs 0:=x.keep fun b hb o e=>oth b o (fun z=>nin (z ▸ hb)) e
 refine U0f ⟨plainId_quiet F.plain_extend_loop _,codeAny_extend_loopS W hz L nin _ vs.length 0 _ _ _ (by omega) (U3u _) x3 e3 (ItemsOf.nil _) fun s' acc c hm hS' hacc=>?_⟩
 show wpAny _ A (load L >>= _) _ _ s'
 refine U0 (wpAny_load hS' ?_)
 have eacc:acc.toList=vs:=by
  apply List.ext_getElem?
  intro j
  rw[U2w]
  cases hj:acc[j]? with
  |some v=>exact(hacc.2 j v hj).symm
  |none =>
   have:acc.size<=j:=by simpa using hj
   rw[hacc.1] at this
   exact(U36 this).symm
 obtain⟨h',g',d',tk,os'⟩:=s'
 have q1:g'=s.gens:=hm.gens
 have q2:os'=s.os:=hm.os
 subst q1 q2
 refine U0f ?_
 show Q acc.toList _
 rw[eacc]
 refine h h' d' tk vs ns (fun b o e=>hm.heap b o ?_ (oth b o ?_ (k2 _ _ (k1 _ _ e)))) hi hp
 .have hb:b<L:=by rw[←hL];exact U0p e
  intro z
  rcases U0q.mp z with z|z
  .exact absurd z (U0z hb)
  .exact absurd (U03.mp z) (U0z (U20 hb hit'))
 .exact U0z (by rw[←hL];exact U0p e)
theorem VH{h:Heap}{a:Addr}{vs:List Value}{n:Nat}{out:Array Value}(ho:h.get? a=some (seqObj "list" vs.toArray n)):∃n',(sortedHeap h a vs out).get? a=some (seqObj "list" out n'):=by
 unfold sortedHeap
 have q1:=get?_update_seq ho (fun _=>#[])
 exact⟨_,get?_update_seq (U0c _ (U0c _ q1)) (fun _=>out)⟩
theorem Tz{h:Heap}{a b:Addr}{vs:List Value}{out:Array Value}{o:Obj}(hb:b≠a)(ho:h.get? b=some o):(sortedHeap h a vs out).get? b=some o:=by
 unfold sortedHeap
 rw[U1i _ _ (U1w hb)]
 exact U0c _ (U0c _ ((U1i _ _ (U1w hb)).trans ho))
theorem je{S:Addr}{ds:List Int}{Q:Value->Shared->Prop}(hh:A.handled=none)(hS:SetT prog w s.heap S ds)(h64:ds.length<64)
  (h:∀h' d' tk l vs ns n,(∀b o,s.heap.get? b=some o->h'.get? b=some o)->(∀b o,s.heap.get? b=some o->b<l)->h'.get? l=some { cls:=.type "list",data:=.seq vs n }->IntsAre vs.toList ns->ns.Perm ds->ns.Pairwise (·<=·)->Q (.ref l) { s with heap:=h',drawn:=d',toks:=tk }) :
  wpAny (model prog w) A (call (.builtin "sorted") [.ref S]) Q E s:=by
 refine Calls.call_function_entry kind_sorted plain_sorted entry_sorted (args_sorted1 _) ?_
 unfold Builtin.«sorted»
 refine U0 (m:=checkCount "sorted" 1 1 _) (U0f ?_)
 refine U0 (iy (A:=A.in1) (by simpa using hh) hS h64 fun h1 d1 t1 vs ns k1 hi hp=>?_)
 have hv64:vs.length<64:=by rw[show vs.length=ns.length from IntsAre.length hi,hp.length_eq];exact h64
 refine U0 (wpAny_newList ?_)
 have hoL:(h1.push (seqObj "list" vs.toArray 0)).get? h1.objs.size=some (seqObj "list" vs.toArray 0):=U0w _ rfl
 show wpAny _ _ _ _ _ { s with heap:=h1.push (seqObj "list" vs.toArray 0),drawn:=d1,toks:=t1 }
 refine U0 (U2p (U2l slot_list_sort ⟨_,hoL,rfl⟩ entry_list_sort (list_sort_tree hoL hi hv64 fun out ns' a1 a2 a3=>⟨_,rfl,?_⟩) (args_list_sort _)))
 refine U0f ⟨_,rfl,?_⟩
 have old:∀b o,s.heap.get? b=some o->b≠h1.objs.size:=fun b o e=>U0z (U0p (k1 b o e))
 obtain⟨n',e'⟩:=VH (out:=out) hoL
 refine h _ d1 t1 h1.objs.size out ns' n' (fun b o e=>Tz (old b o e) (U0c _ (k1 b o e))) (fun b o e=>U0p (k1 b o e)) e' a1 (a2.trans hp) a3
end
end SetP
end
section
namespace L2
open PySem PySem.Spec PyProof.Rows
def PTs(X:Cx)(ifs:List Expr)(t:TT):Prop :=
 ∀(pins:List (Addr×Obj))(s:Shared)(σ:St)(H:Hp)(Q:Bool->Hp->Prop),Inv X pins σ H s->t σ H Q ->
  wpAny (model X.prog X.w) X.A (forIn ifs true fun c r=>if r=true then do let ok ←isTrue c X.env (eval c X.env);pure (U6n ok) else pure (U6n r)) (TP X pins σ Q) X.xe s
def G3:TT:=fun _ H Q=>Q true H
theorem oZ{X:Cx}:PTs X [] G3:=fun _ _ _ H _ I h=>U0f ⟨H,I,h⟩
theorem oY{X:Cx}{c:Expr}{t:TT}(h:PT X c t):PTs X [c] t:=by
 intro pins s σ H Q I hw
 rw[U37]
 simp only[if_true]
 refine U0 (U0 (thn (h pins s σ H Q I hw) fun b s1 hb=>U0f ?_))
 show wpAny _ _ (pure b) _ _ _
 exact U0f hb
def Low(k:Nat)(g:TG):Prop:=∀x σ H Q,g x σ H Q->g x σ H fun σ' H'=>Q σ' H'/\σ'.length=σ.length/\∀j,k<=j->σ'[j]?=σ[j]?
def Xl(k:Nat)(g:TGs):Prop:=∀x σ H Q,g x σ H Q->g x σ H fun σ' H'=>Q σ' H'/\σ'.length=σ.length/\∀j,k<=j->σ'[j]?=σ[j]?
theorem lG{k i:Nat}(h:i<k):Low k (Xa i):=fun x σ H Q q =>
 ⟨q,U3v ..,fun j hj=>U21 (by omega)⟩
theorem qC{k:Nat}:Xl k jF:=fun _ _ _ _ ⟨e,q⟩=>⟨e,q,rfl,fun _ _=>rfl⟩
theorem lH{k:Nat}{t:TG}{u:TGs}(ht:Low k t)(hu:Xl k u)(mono:∀x σ H Q Q',(∀σ' H',Q σ' H'->Q' σ' H')->t x σ H Q->t x σ H Q')
  (monoU:∀x σ H Q Q',(∀σ' H',Q σ' H'->Q' σ' H')->u x σ H Q->u x σ H Q'):Xl k (cL t u):=fun x σ H Q ⟨v,r,e,q⟩=>by
 refine⟨v,r,e,mono v σ H _ _ (fun σ1 H1 z=>?_) (ht v σ H _ q)⟩
 obtain⟨z1,z2,z3⟩:=z
 exact monoU r σ1 H1 _ _ (fun σ2 H2 y=>⟨y.1,y.2.1.trans z2,fun j hj=>(y.2.2 j hj).trans (z3 j hj)⟩) (hu r σ1 H1 _ z1)
theorem pZ{K:U0a}{n k:Nat}{t:TGs}(h:Xl k t):Low k (jE K n t):=fun x σ H Q ⟨a,xs,e,hs,hl,q⟩=>⟨a,xs,e,hs,hl,h xs σ H Q q⟩
def compLook(sc:Scope)(N N2:List Str)(k:Nat)(caps:List Nat)(scope:Scope):Bool :=
 decide (scope.kind=.function)&&scope.names.all (fun y=>decide (y.2≠.cell)||decide (scope.names.lookup y.1=some .cell))&&scope.names.all (fun y=>decide (y.2≠.local)||decide (scope.names.lookup y.1=some .local)) &&
 scope.names.all (fun y=>decide (y.2≠.free)||decide (sc.names.lookup y.1=some .cell)||decide (sc.names.lookup y.1=some .free))&&decide N2.Nodup&&decide (N2.length=k+caps.length) &&
 (U0h caps.length).all fun j=>match caps[j]?,N2[k+j]? with
  |some i,some y=>decide (N[i]?=some y)&&decide (scope.names.lookup y=some .free)
  |_,_=>false
structure Eb(sc:Scope)(N N2:List Str)(k:Nat)(caps:List Nat)(scope:Scope):Prop where
 kind:scope.kind=.function
 one:∀y∈scope.names,y.2=.cell->scope.names.lookup y.1=some .cell
 loc:∀y∈scope.names,y.2=.local->scope.names.lookup y.1=some .local
 free:∀y∈scope.names,y.2=.free->sc.names.lookup y.1=some .cell∨sc.names.lookup y.1=some .free
 nd:N2.Nodup
 len:N2.length=k+caps.length
 cap:∀j i,caps[j]?=some i->∃y,N2[k+j]?=some y/\N[i]?=some y/\scope.names.lookup y=some .free
theorem Eb.of{sc:Scope}{N N2:List Str}{k:Nat}{caps:List Nat}{scope:Scope}(h:compLook sc N N2 k caps scope=true):Eb sc N N2 k caps scope:=by
 unfold compLook at h
 simp only[U00,U3,U7l,decide_eq_true_eq] at h
 obtain⟨⟨⟨⟨⟨⟨h1,h2⟩,h3⟩,h4⟩,h5⟩,h6⟩,h7⟩:=h
 refine⟨h1,fun y hy e=>?_,fun y hy e=>?_,fun y hy e=>?_,h5,h6,fun j i e=>?_⟩
 .rcases h2 y hy with z|z
  .exact absurd e z
  .exact z
 .rcases h3 y hy with z|z
  .exact absurd e z
  .exact z
 .rcases h4 y hy with (z|z)|z
  .exact absurd e z
  .exact .inl z
  .exact .inr z
 .have hj:j∈U0h caps.length:=U1n.mpr (U0l.mp e).1
  have q:=h7 j hj
  rw[e] at q
  cases hy:N2[k+j]? with
  |none=>rw[hy] at q;exact absurd q (by simp)
  |some y =>
   rw[hy] at q
   simp only[U00,decide_eq_true_eq] at q
   exact⟨y,rfl,q.1,q.2⟩
theorem RW{env:Env}:∀{names:List (Str×NameKind)} {x:Str},names.lookup x=some .free ->
  (names.map fun(n,k)=>if (k==U2n&&env.scope.kind==.function&&env.kindOf n==some .cell) then (n,U3n) else (n,k)).lookup x=some .cell ∨
  (names.map fun(n,k)=>if (k==U2n&&env.scope.kind==.function&&env.kindOf n==some .cell) then (n,U3n) else (n,k)).lookup x=some .free
 |[],_,h=>by simp at h
 |(n,k)::r,x,h=>by
  have ih:=@RW env r x
  show U7r x ((if (k==U2n&&env.scope.kind==.function&&env.kindOf n==some .cell)=true then (n,U3n) else (n,k))::_)=_∨U7r x ((if (k==U2n&&env.scope.kind==.function&&env.kindOf n==some .cell)=true then (n,U3n) else (n,k))::_)=_
  cases hx:x==n with
  |true =>
   simp only[U16,hx] at h
   cases h
   by_cases hc:(U2n==U2n&&env.scope.kind==.function&&env.kindOf n==some .cell)=true
   .rw[if_pos hc];left;simp only[U16,hx]
   .rw[if_neg hc];right;simp only[U16,hx]
  |false =>
   simp only[U16,hx] at h
   by_cases hc:(k==U2n&&env.scope.kind==.function&&env.kindOf n==some .cell)=true
   .rw[if_pos hc];simp only[U16,hx];exact ih h
   .rw[if_neg hc];simp only[U16,hx];exact ih h
theorem RX{env:Env}:∀{names:List (Str×NameKind)} {x:Str},
  ((names.map fun(n,k)=>if (k==U2n&&env.scope.kind==.function&&env.kindOf n==some .cell) then (n,U3n) else (n,k)).lookup x=some .cell ∨
   (names.map fun(n,k)=>if (k==U2n&&env.scope.kind==.function&&env.kindOf n==some .cell) then (n,U3n) else (n,k)).lookup x=some .free)->names.lookup x=some .free∨names.lookup x=some .cell
 |[],_,h=>by simp at h
 |(n,k)::r,x,h=>by
  have ih:=@RX env r x
  cases hx:x==n with
  |true =>
   simp only[U16,hx]
   by_cases hf:k=.free
   .rw[hf];exact .inl rfl
   .have hkf:(k==U2n)=false:=by
     cases k<;>first|rfl|exact absurd rfl hf
    simp only[U0m,hkf,U7t,U1y,if_false,U16,hx] at h
    rcases h with z|z
    .exact .inr z
    .exact absurd (U09 z) hf
  |false =>
   simp only[U16,hx]
   refine ih ?_
   have h':U7r x ((if (k==U2n&&env.scope.kind==.function&&env.kindOf n==some .cell)=true then (n,U3n) else (n,k))::U7y _ r)=some .cell∨U7r x ((if (k==U2n&&env.scope.kind==.function&&env.kindOf n==some .cell)=true then (n,U3n) else (n,k))::U7y _ r)=some .free:=h
   by_cases hcc:(k==U2n&&env.scope.kind==.function&&env.kindOf n==some .cell)=true
   .rw[if_pos hcc] at h';simp only[U16,hx] at h';exact h'
   .rw[if_neg hcc] at h';simp only[U16,hx] at h';exact h'
theorem Iz:∀(names:List (Str×NameKind))(n:Nat)(acc:List (Str×Addr)),cellsFrom n names acc=cellsFrom n names []++acc
 |[],_,_=>rfl
 |(x,k)::r,n,acc=>by
  unfold cellsFrom
  split
  .rw[Iz r (n+1) ((x,n)::acc),Iz r (n+1) [(x,n)],U56];rfl
  .exact Iz r n acc
theorem Nh:∀(names:List (Str×NameKind))(n:Nat){x:Str}{c:Addr},(x,c)∈cellsFrom n names []->(x,U3n)∈names
 |[],_,_,_,h=>by simp[cellsFrom] at h
 |(y,k)::r,n,x,c,h=>by
  unfold cellsFrom at h
  split at h
  .rename_i hk
   rw[Iz] at h
   rcases U1k.mp h with z|z
   .exact U0t _ (Nh r (n+1) z)
   .have z':(x,c)=(y,n):=by simpa using z
    have hk':k=.cell:=by simpa using hk
    cases z'
    rw[hk'];exact U0u
  .exact U0t _ (Nh r n h)
theorem d9{cs ds:List (Str×Addr)}{x:Str}{c:Addr}(h:(cs++ds).lookup x=some c):cs.lookup x=some c∨(cs.lookup x=none/\ds.lookup x=some c):=by
 rw[U41] at h
 cases e:cs.lookup x with
 |none=>rw[e] at h;exact .inr ⟨rfl,h⟩
 |some d=>rw[e] at h;exact .inl h
theorem Zv{M:Model}{A:Around}{E:Value->Shared->Prop}{s:Shared}{scope:Scope}{globals:Addr}{cl:List (Str×Addr)}{qual:Str}{env:Env}{Q:Env->Shared->Prop}
  (hQ:∀h':Heap,h'.Ns s.heap.objs.size (fun _=>none)->(∀b o,s.heap.get? b=some o->h'.get? b=some o)->CellsOk h' (s.heap.objs.size+1) (cellsFrom (s.heap.objs.size+1) scope.names []) ->
   Q { scope,locals:=s.heap.objs.size,globals,cells:=cellsFrom (s.heap.objs.size+1) scope.names []++cl,qual,func:=none,code:=env.code,frame:=env.frame,builtins:=env.builtins } { s with heap:=h' }) :
  wpAny M A (newFunctionEnv scope globals cl [] qual none .none (some env)) Q E s:=by
 simp only[newFunctionEnv,Option.isSome_some,if_true]
 refine U0 (wpAny_alloc ?_)
 refine U0 (wpAny_layCells _ (fun name kind cells=>by cases hkc:kind==U3n<;>simp[hkc]) _ _ _ _ ?_)
 rw[show({ s with heap:=s.heap.push { cls:=.type "dict",data:=.dict #[] } }:Shared).heap.objs.size=s.heap.objs.size+1 from U2m ..]
 have ok:=cellsFrom_ok scope.names (s.heap.push { cls:=.type "dict",data:=.dict #[] }) (s.heap.objs.size+1) [] ⟨fun _ _ hm=>(nomatch hm),U68⟩ (by rw[U2m];exact U0o _)
 rw[U2m] at ok
 rw[Iz]
 refine U0 ?_
 rw[U53]
 refine U0f (U0f (hQ _ ?_ ?_ ok))
 .exact(Heap.Ns.new s.heap (.type "dict")).keeps (pushCells_keeps _ _)
 .exact fun b o e=>pushCells_keeps _ _ b o (U0c _ e)
theorem V8{scope:Scope}{env:Env}(h:∀y∈scope.names,y.2=.free->∃c,env.cells.lookup y.1=some c) :
  ∃cl,closureFor scope env=pure cl/\(∀x c,cl.lookup x=some c->env.cells.lookup x=some c)/\∀x,scope.names.lookup x=some .free->∃c,cl.lookup x=some c:=by
 have all:∀(names:List (Str×NameKind))(cs:List (Str×Addr)),(∀y∈names,y.2=.free->∃c,env.cells.lookup y.1=some c)->(∀x c,cs.lookup x=some c->env.cells.lookup x=some c) ->
   ∃cl,(forIn names cs (fun(x:Str×NameKind) (cs:List (Str×Addr))=>(match x with
     |(name,kind)=>if (kind==U2n)=true then (cellOf env name >>= fun a=>pure (U6n ((name,a)::cs))) else pure (U6n cs):Sem (ForInStep (List (Str×Addr)))) ):Sem (List (Str×Addr)))=pure cl /\
    (∀x c,cl.lookup x=some c->env.cells.lookup x=some c)/\(∀x c,cs.lookup x=some c->∃c',cl.lookup x=some c')/\∀x,names.lookup x=some .free->∃c,cl.lookup x=some c:=by
  intro names
  induction names with
  |nil=>intro cs _ hc;exact⟨cs,rfl,hc,fun x c e=>⟨c,e⟩,fun x e=>by simp at e⟩
  |cons y r ih =>
   intro cs hy hc
   obtain⟨n,kd⟩:=y
   by_cases hk:kd=.free
   .subst hk
    obtain⟨c,hcn⟩:=hy (n,.free) U0u rfl
    have hc':∀x c',((n,c)::cs).lookup x=some c'->env.cells.lookup x=some c':=fun x c' e=>by
     rw[U16] at e
     cases hx:x==n with
     |true =>
      rw[hx] at e
      have hxn:x=n:=by simpa using hx
      rw[hxn,hcn];exact e
     |false=>rw[hx] at e;exact hc x c' e
    obtain⟨cl,e1,e2,e3,e4⟩:=ih ((n,c)::cs) (fun z hz=>hy z (U0t _ hz)) hc'
    refine⟨cl,?_,e2,fun x c' e=>?_,fun x e=>?_⟩
    .rw[U37]
     have hb:(U2n==U2n)=true:=rfl
     simp only[hb,if_true,cellOf,hcn,pure_bind]
     exact e1
    .by_cases hx:(x==n)=true
     .exact e3 x c (by rw[U16,hx])
     .have hx':(x==n)=false:=by simpa using hx
      exact e3 x c' (by rw[U16,hx'];exact e)
    .rw[U16] at e
     cases hx:x==n with
     |true=>exact e3 x c (by rw[U16,hx])
     |false=>rw[hx] at e;exact e4 x e
   .have hb:(kd==U2n)=false:=by
     cases kd<;>first|rfl|exact absurd rfl hk
    obtain⟨cl,e1,e2,e3,e4⟩:=ih cs (fun z hz=>hy z (U0t _ hz)) hc
    refine⟨cl,?_,e2,e3,fun x e=>?_⟩
    .rw[U37]
     simp only[hb,U1y,if_false,pure_bind]
     exact e1
    .rw[U16] at e
     cases hx:x==n with
     |true=>rw[hx] at e;exact absurd (U09 e) hk
     |false=>rw[hx] at e;exact e4 x e
 obtain⟨cl,e1,e2,_,e4⟩:=all scope.names [] h (fun x c e=>by simp at e)
 refine⟨cl,?_,e2,e4⟩
 unfold closureFor
 rw[←bind_pure (pure cl:Sem _),←e1]
abbrev Ea(X:Cx)(N2:List Str)(scope:Scope)(cl:List (Str×Addr))(C:Addr)(s:Shared)(H:Hp)(ex:List Addr):Cx :=
 { X with N:=N2,s₀:=s,H₀:=H,env:=compEnvC scope cl C X.env,outer:=X.stack,ex:=ex,fn:=fun x=>decide (scope.names.lookup x=some .cell),pn:=[],xe:=fun _ _=>False }
def Jv(k:Nat)(caps:List Nat)(σ:St):St:=U05 k none++caps.map fun j=>(σ[j]?).join
def yS(J:It)(k:Nat)(caps:List Nat)(σ:St)(g:TG)(tt:TT)(te:TE)(Q:VK)(H1:Hp):Prop:=∃W:Nat->Nat->List V->Hp->Prop,(∃m,W 0 m [] H1)/\∀i m ys H,W i m ys H ->
 (J.stop i H/\∀p,H p=none->Q (.ref p) (upd H p (.lst ys))) ∨
 (J.go i H/\ys.length<sizeLine/\∀x H',J.yld i H x H'->g x (Jv k caps σ) H' fun σ2 H2=>tt σ2 H2 fun b H3 =>
  if b=true then te σ2 H3 fun v H4=>∃m',m'<m/\W (i+1) m' (ys++[v]) H4 else ∃m',m'<m/\W (i+1) m' ys H3)
def cH(k:Nat)(caps:List Nat)(wi:TI)(g:TG)(tt:TT)(te:TE):TE:=fun σ H Q=>wi σ H fun J H1=>yS J k caps σ g tt te Q H1
theorem bL{k:Nat}{caps:List Nat}{σ:St}{i:Nat}{v:V}(h:(Jv k caps σ)[i]?=some (some v)):∃j a,i=k+j/\caps[j]?=some a/\σ[a]?=some (some v):=by
 unfold Jv at h
 by_cases hi:i<k
 .rw[U1g (by simpa using hi),U4t,if_pos hi] at h
  cases h
 .rw[U2g (by simpa using hi),U2a,U0y] at h
  cases e:caps[i-k]? with
  |none=>rw[e] at h;cases h
  |some a =>
   rw[e] at h
   have h':(σ[a]?).join=some v:=U09 h
   refine⟨i-k,a,by omega,e,?_⟩
   cases e2:σ[a]? with
   |none=>rw[e2] at h';cases h'
   |some o =>
    rw[e2] at h'
    cases o with
    |none=>cases h'
    |some v' =>
     have h'':some v'=some v:=h'
     rw[h'']
theorem Mf{a b n:Nat}(h1:a<n)(h2:n<=b):a≠b:=by omega
section
variable{X:Cx}{pins:List (Addr×Obj)}{σ:St}
theorem Inv.but{H:Hp}{s:Shared}{C:Addr}{h':Heap}(I:Inv X pins σ H s)(hb:U07 C s.heap h')(hn:H C=none)(hL:C≠X.env.locals)(h1:X.s₀.heap.objs.size<=C)(h2:∀x c,X.env.cells.lookup x=some c->c≠C)(h3:∀p∈X.pn++pins,p.1≠C) :
  Inv X pins σ H { s with heap:=h' }:=I.turned (t':=s.toks) (fun b o hne e=>(hb.2 b hne).trans e) hn hL (.inr h1) h2 h3
theorem V7{s2:Shared}{H2:Hp}{elt tg iter:Expr}{ifs:List Expr}{scope:Scope}{pos:Pos}{N2:List Str}{k:Nat}{caps:List Nat}{cl:List (Str×Addr)}{g:TG}{tt:TT}{te:TE}{E:Value->Shared->Prop}
  {it:Addr} {fp:List Addr} {tn:Nat->Heap->Prop} {J:It} {RR:Value->Addr->Result->Shared->Prop} {Qe:List V->Hp->Prop} {W:Nat->Nat->List V->Hp->Prop} {m0:Nat}
  (hc:X.calm=true) (hS:Eb X.env.scope X.N N2 k caps scope) (hlow:Low k g)
  (hcl:∀x c,cl.lookup x=some c->X.env.cells.lookup x=some c) (hcf:∀x,scope.names.lookup x=some .free->∃c,cl.lookup x=some c)
  (hb:∀(cl:List (Str×Addr))(C:Addr)(s:Shared)(H:Hp)(ex:List Addr),PG (Ea X N2 scope cl C s H ex) tg g/\PTs (Ea X N2 scope cl C s H ex) ifs tt/\PE (Ea X N2 scope cl C s H ex) elt te)
  (I2:Inv X pins σ H2 s2) (T:Turn X.prog X.w X.K tg J fp it tn) (st2:tn 0 s2.heap) (f2:∀b∈fp,Pz X pins H2 b) (w0:W 0 m0 [] H2)
  (turn:∀i m ys H,W i m ys H->(J.stop i H/\Qe ys H) ∨
   (J.go i H/\ys.length<sizeLine/\∀x H',J.yld i H x H'->g x (Jv k caps σ) H' fun σ2 H2=>tt σ2 H2 fun b H3 =>
    if b=true then te σ2 H3 fun v H4=>∃m',m'<m/\W (i+1) m' (ys++[v]) H4 else ∃m',m'<m/\W (i+1) m' ys H3))
  (hRR:∀D C s' H' ys,s2.heap.objs.size<=D->s2.heap.objs.size<=C->C≠D->H' D=none->H' C=none->Inv X pins σ (upd H' D (.lst ys)) s'->(∃m,s'.heap.Ns C m)->Qe ys H'->RR (.ref D) C (.ok .next) s') :
  wpAny (model X.prog X.w) X.A (newList []) (fun acc s₃=>wpAny (model X.prog X.w) X.A (newFunctionEnv scope X.env.globals cl [] X.env.qual none .none (some X.env)) (fun cenv s₄ =>
   codeAny (model X.prog X.w) X.A (.compStart (.ListComp elt [⟨tg,iter,ifs,0⟩] scope pos) 0 (.ref it) acc { cenv with scope:=relabel scope X.env }) (RR acc cenv.locals) s₄) E s₃) E s2:=by
 refine U2f (Zv fun h₁ hns₁ kp cok=>?_)
 dsimp only at hns₁ kp cok ⊢
 generalize hH3:s2.heap.push { cls:=.type "list",dict:=none,data:=.seq ([]:List Value).toArray }=H3 at hns₁ kp cok ⊢
 have hC:H3.objs.size=s2.heap.objs.size+1:=by rw[←hH3,U2m]
 generalize hDD:s2.heap.objs.size=D at hC
 generalize hCC:H3.objs.size=C at hns₁ cok hC ⊢
 have hDC:D≠C:=by omega
 have szD:s2.heap.objs.size<=D:=U72 hDD
 have szC:s2.heap.objs.size<=C:=by rw[hDD,hC];exact U44 _
 have below:∀b o,s2.heap.get? b=some o->b≠C/\b≠D:=fun b o e=>⟨Mf (U0p e) szC,Mf (U0p e) szD⟩
 have old:∀b o,s2.heap.get? b=some o->h₁.get? b=some o:=fun b o e=>kp b o (hH3 ▸ U0c _ e)
 have hacc:h₁.get? D=some { cls:=.type "list",data:=.seq ([]:List Value).toArray 0 }:=kp _ _ (hH3 ▸ hDD ▸ U0w _ rfl)
 have f2h:∀b∈fp,∃o,s2.heap.get? b=some o:=fun b hbf=>let ⟨o,e,_⟩:=T.obj 0 _ st2 b hbf;⟨o,e⟩
 -- the block's context
 have okc:∀x c,X.env.cells.lookup x=some c->∃o,s2.heap.get? c=some o:=fun x c e=>let ⟨_,o,ho,_⟩:=I2.cell x c e;⟨o,ho⟩
 have oMem:∀x c,(cellsFrom (C+1) scope.names []).lookup x=some c->C+1<=c/\h₁.IsCell c none/\scope.names.lookup x=some .cell:=fun x c e=>by
  have m:=U23 e
  exact⟨(cok.empty x c m).2,(cok.empty x c m).1,hS.one _ (Nh _ _ m) rfl⟩
 have oHas:∀x,scope.names.lookup x=some .cell->∃c,(cellsFrom (C+1) scope.names []).lookup x=some c:=fun x e=>U4l.mp (U6 scope.names (C+1) [] (.inl e))
 have oApart:=cok.apart
 generalize cellsFrom (C+1) scope.names []=own at oMem oHas oApart ⊢
 have hcs:∀x c,(own++cl).lookup x=some c->(C+1<=c/\h₁.IsCell c none/\own.lookup x=some c)∨X.env.cells.lookup x=some c:=fun x c e=>by
  rcases d9 e with z|z
  .exact .inl ⟨(oMem x c z).1,(oMem x c z).2.1,z⟩
  .exact .inr (hcl x c z.2)
 have hlt:∀x c,X.env.cells.lookup x=some c->c<s2.heap.objs.size:=fun x c e=>let ⟨o,ho⟩:=okc x c e;U0p ho
 have OK:(Ea X N2 scope (own++cl) C s2 H2 fp).Ok:=by
  refine⟨I2.ok.mod,hS.kind,I2.ok.glob,I2.ok.blt,?_,fun x y c h1 h2=>?_,fun x hx=>?_,fun x c hf h1=>?_,I2.ok.hd,I2.ok.frames,.inl rfl,fun b hbf=>?_,I2.bs,
   U06 I2.ok.bsz I2.sz,fun b o e hbf=>?_,fun b hbf hb'=>?_,I2.stack,I2.aQ,I2.T6⟩
  .exact szC
  .rcases hcs x c h1 with z|z
   .rcases hcs y c h2 with z'|z'
    .exact name_of_addr oApart (U23 z.2.2) (U23 z'.2.2)
    .exact absurd (hlt y c z') (Nat.not_lt.mpr (U06 szC (U06 (U44 _) z.1)))
   .rcases hcs y c h2 with z'|z'
    .exact absurd (hlt x c z) (Nat.not_lt.mpr (U06 szC (U06 (U44 _) z'.1)))
    .exact I2.ok.inj x y c z z'
  .rcases RX (env:=X.env) hx with z|z
   .obtain⟨c,e⟩:=hcf x z
    show ∃c,(own++cl).lookup x=some c
    rw[U41]
    cases q:own.lookup x with
    |none=>exact⟨c,e⟩
    |some d=>exact⟨d,rfl⟩
   .obtain⟨c,e⟩:=oHas x z
    exact⟨c,by show(own++cl).lookup x=some c;rw[U41,e];rfl⟩
  .obtain⟨d,e⟩:=oHas x (of_decide_eq_true hf)
   have h1':(own++cl).lookup x=some c:=h1
   rw[U41,e] at h1'
   have e2:d=c:=U09 h1'
   rw[←e2]
   exact U06 szC (U06 (U44 _) (oMem x d e).1)
  .obtain⟨o,e⟩:=f2h b hbf
   refine⟨(below b o e).1,fun x c h1=>?_⟩
   rcases hcs x c h1 with z|z
   .exact fun w=>absurd (U0p e) (by rw[←w];exact Nat.not_lt.mpr (U06 szC (U06 (U44 _) z.1)))
   .exact(f2 b hbf).2.2.2.2.1 x c z
  .rcases(f2 b hbf).2.2.2.1 with z|z
   .exact I2.ok.noex b o e z
   .exact absurd (U0v (U0p (I2.ok.bs b o e).1) z) (U30 _)
  .rcases U0q.mp (I2.R6 b hb') with z|z
   .exact(f2 b hbf).2.1 z
   .exact(f2 b hbf).2.2.1 z
 have fresh:∀a,s2.heap.objs.size<=a->H2 a=none:=fun a ha=>I2.hok.fresh ha
 have I4:∀tk,Inv (Ea X N2 scope (own++cl) C s2 H2 fp) [(D,{ cls:=.type "list",data:=.seq ([]:List Value).toArray 0 })] (Jv k caps σ) H2 { s2 with heap:=h₁,toks:=tk }:=fun tk=>by
  refine⟨OK,rfl,I2.bare,Un.kept old,⟨_,hns₁,fun i x v e1 e2 e3=>?_⟩,fun x c e=>?_,fresh C szC,fun x c e=>?_,fun p hp=>?_,I2.hok.kept old,?_⟩
  .obtain⟨j,a,rfl,ha,hv⟩:=bL e2
   obtain⟨y,y1,y2,y3⟩:=hS.cap j a ha
   have e1':N2[k+j]?=some x:=e1
   rw[y1] at e1';cases e1'
   have hk:X.env.scope.names.lookup x=some .cell∨X.env.scope.names.lookup x=some .free:=hS.free (x,.free) (U23 y3) rfl
   obtain⟨m',_,hl⟩:=id I2.loc
   obtain⟨u,ru,lk⟩:=hl a x v y2 hv (hk.elim (fun z=>.inr (.inl z)) fun z=>.inr (.inr z))
   refine⟨u,ru,.inr ⟨RW y3,?_⟩⟩
   rcases lk with ⟨kk,_⟩|⟨_,c,e,z⟩
   .have kk':X.env.scope.names.lookup x=some .local:=kk
    rw[kk'] at hk
    rcases hk with z|z<;>cases z
   .obtain⟨c',e'⟩:=hcf x y3
    have e'':=hcl x c' e'
    rw[e] at e'';cases e''
    obtain⟨o,ho,hd⟩:=z
    refine⟨c,?_,o,old c o ho,hd⟩
    show(own++cl).lookup x=some c
    rw[U41]
    cases q:own.lookup x with
    |none=>exact e'
    |some d=>have:=(oMem x d q).2.2;rw[y3] at this;cases this
  .rcases hcs x c e with z|z
   .exact⟨none,z.2.1⟩
   .obtain⟨v,o,ho,hd⟩:=I2.cell x c z
    exact⟨v,o,old c o ho,hd⟩
  .rcases hcs x c e with z|z
   .exact fresh c (U06 szC (U06 (U44 _) z.1))
   .exact I2.freeC x c z
  .have hp':p∈[(D,({ cls:=.type "list",data:=.seq ([]:List Value).toArray 0 }:Obj))]:=hp
   have e:p=(D,({ cls:=.type "list",data:=.seq ([]:List Value).toArray 0 }:Obj)):=by simpa using hp'
   subst e
   exact⟨hacc,fresh D szD,hDC,fun z=>by
    rcases U0q.mp (I2.R6 D z) with z|z
    .exact Mf I2.lt szD z.symm
    .exact I2.jC szD z,fun v z=>by cases z⟩
  .show(Jv k caps σ).length=N2.length
   unfold Jv
   rw[U0n,U2a,U0j,hS.len]
 -- the loop
 obtain⟨hg,ht,he⟩:=hb (own++cl) C s2 H2 fp
 have loop:∀s₃:Shared,Inv (Ea X N2 scope (own++cl) C s2 H2 fp) [(D,{ cls:=.type "list",data:=.seq ([]:List Value).toArray 0 })] (Jv k caps σ) H2 s₃->tn 0 s₃.heap ->
   codeAny (model X.prog X.w) X.A (.compLoop (.ListComp elt [⟨tg,iter,ifs,0⟩] scope pos) 0 (.ref it) (.ref D) (compEnvC scope (own++cl) C X.env)) (RR (.ref D) C) s₃:=by
  intro s₃ I₃ st₃
  refine codeAny_loop rfl (fun n s'=>∃i ys its nn H',Inv (Ea X N2 scope (own++cl) C s2 H2 fp) [(D,{ cls:=.type "list",data:=.seq (its:List Value).toArray nn })] (Jv k caps σ) H' s'/\Vals ys its/\tn i s'.heap/\(∀b∈fp,H' b=none)/\ys.length<=sizeLine/\W i n ys H') ?_ m0
   ⟨0,[],[],0,H2,I₃,.nil,st₃,fun b hbf=>(f2 b hbf).1,U3u _,w0⟩
  rintro n s5 ⟨i,ys,its,nn,H5,I5,rv,st5,fr5,hz,w5⟩
  show wpAny _ X.A ((compTurn (.ListComp elt [⟨tg,iter,ifs,0⟩] scope pos) 0 (.ref it) (.ref D) (compEnvC scope (own++cl) C X.env)).onRaise (fun x=>do noteFrame x (compEnvC scope (own++cl) C X.env);theTreesLotGoes x)) _ _ s5
  refine wpAny_noted ?_
  rw[compTurn_list]
  refine U0 (U65 (U0 ?_))
  have fpok:∀{H':Hp} {o:Obj},(∀b∈fp,H' b=none)->∀b∈fp,Pz (Ea X N2 scope (own++cl) C s2 H2 fp) [(D,o)] H' b:=fun {H' o} hn b hbf=>by
   obtain⟨ob,e⟩:=f2h b hbf
   refine⟨hn b hbf,(below b ob e).1,OK.exfs b hbf,.inl hbf,(OK.exf b hbf).2,fun p hp z=>?_⟩
   have hp':p∈[(D,o)]:=hp
   have e':p=(D,o):=by simpa using hp'
   subst e'
   exact(below b ob e).2 z.symm
  rcases turn i n ys H5 w5 with ⟨stop,qn⟩|⟨go,hz2,step⟩
  .refine thn (T.done (Ea X N2 scope (own++cl) C s2 H2 fp) rfl rfl rfl hc i _ s5 _ H5 _ I5 (fpok fr5) st5 stop) fun r s6 ⟨hr,I6⟩=>?_
   subst hr
   refine U0f ?_
   obtain⟨pe,pn,pne,pnf,_⟩:=I6.pin (D,{ cls:=.type "list",data:=.seq its.toArray nn }) (U1h _ (U03.mpr rfl))
   have hD:H5 D=none:=pn
   have hCn:H5 C=none:=I6.free
   refine hRR D C s6 H5 ys szD szC (U1w hDC) hD hCn ?_ ?_ qn
   .have un:Un (frs X.stack) fp H2 (upd H5 D (.lst ys)) s2.heap s6.heap:=by
     have u:=I6.base
     refine⟨u.keep,u.slot,fun b o e n1 n2=>?_,u.there,fun b xs e=>?_,fun b o u' e=>?_,fun b ps e=>?_,fun n=>by rw[Bu (U0z (U0v I2.bZ szD))];exact u.sy n⟩
     .rw[Bu (below b o e).2];exact u.free b o e n1 n2
     .rw[Bu (Du (u.tups b xs e) hD)];exact u.tups b xs e
     .rw[Bu (Du (u.frzs b o u' e) hD)];exact u.frzs b o u' e
     .obtain⟨more,q⟩:=u.tbls b ps e
      exact⟨more,by rw[Bu (Du q hD)];exact q⟩
    refine I2.call' I6.os un (fun b u e=>?_) I6.bare (fun b hbf=>⟨(f2 b hbf).2.2.2.1,(f2 b hbf).2.1,(f2 b hbf).2.2.2.2.1,(f2 b hbf).2.2.2.2.2⟩)
    by_cases hbd:b=D
    .subst hbd
     rw[Ce] at e;cases e
     exact⟨hz,its,nn,rv,pe⟩
    .rw[Bu hbd] at e
     exact(I6.hok b u e).stay (fun _ _ _ q=>q) (fun c q=>by rw[Bu (Du q hD)];exact q) fun c xs q=>by rw[Bu (Du q hD)];exact q
   .obtain⟨m,hn,_⟩:=I6.loc
    exact⟨m,hn⟩
  .refine thn (T.item (Ea X N2 scope (own++cl) C s2 H2 fp) rfl rfl rfl hc i _ s5 _ H5 _ I5 (fpok fr5) st5 go) fun r s6 ⟨u,hr,h6⟩=>?_
   subst hr
   refine U0 (thn h6 fun _ s7 ⟨x,H7,I7,r7,y7,st7,fr7⟩=>?_)
   have I7':=I7.pinned (fpok fr7) (T.obj _ _ st7)
   refine U0 (U51 (hg _ s7 _ H7 x u _ I7' r7 (hlow _ _ _ _ (step x H7 y7))) (fun _ s8 ⟨σ8,H8,I8,q8,ql,qk⟩=>?_) fun _ _ z=>z.elim)
   have wk:∀{pl:List (Addr×Obj)} {H9:Hp} {s9:Shared},Inv (Ea X N2 scope (own++cl) C s2 H2 fp) pl σ8 H9 s9->Inv (Ea X N2 scope (own++cl) C s2 H2 fp) pl (Jv k caps σ) H9 s9:=fun {pl H9 s9} I9 =>
    I9.weak ql.symm fun i v e=>by
     obtain⟨j,a,rfl,_,_⟩:=bL e
     rw[qk (k+j) (U1o _ _)];exact e
   have pinD:∀{pl:List (Addr×Obj)} {σ9:St} {H9:Hp} {s9:Shared},Inv (Ea X N2 scope (own++cl) C s2 H2 fp) (((D,({ cls:=.type "list",data:=.seq its.toArray nn }:Obj))::[])++pl) σ9 H9 s9->s9.heap.get? D=some { cls:=.type "list",data:=.seq its.toArray nn }/\H9 D=none:=fun {pl σ9 H9 s9} I9=>by
    obtain⟨e1,e2,_⟩:=I9.pin (D,_) (U1h _ (U3g _ (U03.mpr rfl)))
    exact⟨e1,e2⟩
   have stn:∀{pl:List (Addr×Obj)} {σ9:St} {H9:Hp} {s9:Shared},Inv (Ea X N2 scope (own++cl) C s2 H2 fp) (pl++Mp fp s7.heap) σ9 H9 s9->tn (i+1) s9.heap/\∀b∈fp,H9 b=none:=fun {pl σ9 H9 s9} I9=>by
    refine⟨T.keep _ _ _ st7 fun b hbf o e=>(I9.pin (b,o) (U1h _ (U1h _ (Nv hbf e)))).1,fun b hbf=>?_⟩
    obtain⟨o,e,d⟩:=T.obj _ _ st7 b hbf
    exact(I9.pin (b,o) (U1h _ (U1h _ (Nv hbf e)))).2.1
   refine U0 (U51 (ht _ s8 σ8 H8 _ I8 q8) (fun ok s9 ⟨H9,I9,q9⟩=>?_) fun _ _ z=>z.elim)
   cases ok with
   |false =>
    obtain⟨m',hm,w9⟩:=(by simpa using q9:∃m',m'<n/\W (i+1) m' ys H9)
    refine U0f ⟨rfl,m',hm,i+1,ys,its,nn,H9,wk I9.QW,rv,(stn I9).1,(stn I9).2,hz,w9⟩
   |true =>
    have q9':te σ8 H9 fun v H4=>∃m',m'<n/\W (i+1) m' (ys++[v]) H4:=by simpa using q9
    refine U0 (U0 (U51 (he _ s9 σ8 H9 _ I9 q9') (fun y s10 ⟨v,H10,I10,r10,q10⟩=>U0 ?_) fun _ _ z=>z.elim))
    obtain⟨m',hm,w10⟩:=q10
    obtain⟨eD,nD⟩:=pinD I10
    have hl:=rv.length
    refine call_meets F.slot_list_append ⟨_,eD,rfl⟩ F.entry_list_append (F.args_list_append_2 _ _) (PySem.list_append D its.toArray nn y (by rw[U0r];omega)) ⟨eD,?_⟩
    refine U0f (U0f ⟨rfl,m',hm,?_⟩)
    obtain⟨n2,qD⟩:∃n2,(s10.heap.update D (U2j fun z=>z.push y)).get? D=some { cls:=.type "list",data:=.seq (its++[y]).toArray n2 }:=by
     have q0:=PySem.IsL.update eD (fun z=>z.push y)
     have hf:its.toArray.push y=(its++[y]).toArray:=by simp
     rw[hf] at q0
     exact⟨_,q0⟩
    have J0:Inv (Ea X N2 scope (own++cl) C s2 H2 fp) (Mp fp s7.heap) (Jv k caps σ) H10 s10:=wk (I10.Ro fun p hp=>I10.pin p (U1h _ (U1h _ hp)))
    have J1:Inv (Ea X N2 scope (own++cl) C s2 H2 fp) (Mp fp s7.heap) (Jv k caps σ) H10 { s10 with heap:=s10.heap.update D (U2j fun z=>z.push y),toks:=s10.toks }:=by
     refine J0.turned (fun b o hne e=>(U1i s10.heap _ (U1w hne)).trans e) nD hDC (.inr szD) (fun x c e z=>?_) fun p hp z=>?_
     .rcases hcs x c e with y|y
      .have:=y.1
       rw[z] at this
       omega
      .obtain⟨o,ho⟩:=okc x c y
       exact(below c o ho).2 z
     .have hp':p∈Mp fp s7.heap:=hp
      obtain⟨ob,e⟩:=f2h p.1 (WW hp').1
      exact(below p.1 ob e).2 z
    have J2:Inv (Ea X N2 scope (own++cl) C s2 H2 fp) [(D,{ cls:=.type "list",data:=.seq (its++[y]).toArray n2 })] (Jv k caps σ) H10 { s10 with heap:=s10.heap.update D (U2j fun z=>z.push y),toks:=s10.toks }:=by
     refine J1.Ro fun p hp=>?_
     have e:p=(D,{ cls:=.type "list",data:=.seq (its++[y]).toArray n2 }):=U03.mp hp
     subst e
     exact⟨qD,nD,hDC,fun z=>by
      rcases U0q.mp (I2.R6 D z) with z|z
      .exact Mf I2.lt szD z.symm
      .exact I2.jC szD z,fun v z=>by cases z⟩
    refine⟨i+1,ys++[v],its++[y],_,H10,J2,rv.append (.cons r10 .nil),?_,(stn I10).2,?_,w10⟩
    .refine T.keep _ _ _ (stn I10).1 fun b hbf o e=>?_
     obtain⟨ob,e'⟩:=f2h b hbf
     exact(U1i s10.heap _ (U1w (below b ob e').2)).trans e
    .rw[U0n,U3s];omega
 have st1:tn 0 h₁:=T.keep _ _ _ st2 fun b hbf o e=>old b o e
 exact codeAny_compStart_list (loop _ (I4 _) st1) (T.self X.A 0 _ _ _ st1 (loop _ (I4 _) st1))
theorem pK{elt tg iter:Expr}{ifs:List Expr}{scope:Scope}{pos:Pos}{N2:List Str}{k:Nat}{caps:List Nat}{wi:TI}{g:TG}{tt:TT}{te:TE}
  (hc:X.calm=true) (hS:Eb X.env.scope X.N N2 k caps scope) (hlow:Low k g) (hi:PI X tg iter wi)
  (hb:∀(cl:List (Str×Addr))(C:Addr)(s:Shared)(H:Hp)(ex:List Addr),PG (Ea X N2 scope cl C s H ex) tg g/\PTs (Ea X N2 scope cl C s H ex) ifs tt/\PE (Ea X N2 scope cl C s H ex) elt te)
  (hs:∀x,foldedSetIterable iter X.env x=pure x:=by intro _;rfl):PE X (.ListComp elt [⟨tg,iter,ifs,0⟩] scope pos) (cH k caps wi g tt te):=by
 intro pins s σ H Q I h
 rw[eval_ListComp]
 obtain⟨cl,hcl0,hcl,hcf⟩:=V8 (scope:=scope) (env:=X.env) fun y hy e=>I.ok.has y.1 (hS.free y hy e)
 refine wpAny_comprehension_free (use:=none) rfl hs hcl0 hS.kind hS.loc ?_
 refine thn (hi pins s σ H _ I h) fun v s1 h1=>thn h1 fun itv s2 h2=>?_
 obtain⟨it,fp,tn,J,H2,e,I2,T,st2,f2,W,⟨m0,w0⟩,turn⟩:=h2
 subst e
 refine V7 (RR:=fun acc C=>compPost (model X.prog X.w) X.A X.xe none (EP X pins σ Q) acc C) (Qe:=fun ys H=>∀p,H p=none->Q (.ref p) (upd H p (.lst ys))) hc hS hlow hcl hcf hb I2 T st2 f2 w0 turn ?_
 intro D C s' H' ys hD hC hDC nD nC I' hn q
 obtain⟨m,hn⟩:=hn
 refine⟨m,hn,fun h' hsb=>⟨.ref D,_,?_,rfl,q D nD⟩⟩
 refine I'.but hsb (by rw[Bu hDC];exact nC) (fun z=>?_) (U06 I2.sz hC) (fun x c e z=>?_) fun p hp z=>?_
 .exact Mf I2.lt hC z.symm
 .obtain⟨v,o,ho,_⟩:=I2.cell x c e
  exact Mf (U0p ho) hC z
 .exact Mf (U0p (I2.pin p hp).1) hC z
def xG(i:Nat)(t:TE):TS:=fun D σ H=>t σ H fun v H1=>D.nx (σ.set i (some v)) H1
theorem aY{elt tg iter:Expr}{ifs:List Expr}{scope:Scope}{pos py spos:Pos}{N2:List Str}{k i:Nat}{y:Str}{caps:List Nat}{wi:TI}{g:TG}{tt:TT}{te:TE}
  (hc:X.calm=true) (hN:X.N.Nodup) (hi':X.N[i]?=some y) (hS:Eb X.env.scope X.N N2 k caps scope) (hlow:Low k g) (hi:PI X tg iter wi)
  (hb:∀(cl:List (Str×Addr))(C:Addr)(s:Shared)(H:Hp)(ex:List Addr),PG (Ea X N2 scope cl C s H ex) tg g/\PTs (Ea X N2 scope cl C s H ex) ifs tt/\PE (Ea X N2 scope cl C s H ex) elt te)
  (hx:X.env.scope.names.lookup y=some .local:=by rfl) (hsw:swapsWith (.ListComp elt [⟨tg,iter,ifs,0⟩] scope pos) (some (.Name y py)) spos.line X.env=pure true:=by rfl)
  (hs:∀x,foldedSetIterable iter X.env x=pure x:=by intro _;rfl):PS X (.Assign [.Name y py] (.ListComp elt [⟨tg,iter,ifs,0⟩] scope pos) spos) (xG i (cH k caps wi g tt te)):=by
 intro pins s σ H D0 I h
 obtain⟨cl,hcl0,hcl,hcf⟩:=V8 (scope:=scope) (env:=X.env) fun y hy e=>I.ok.has y.1 (hS.free y hy e)
 rw[exec_Assign_Name_used _ _ _ _ hsw]
 refine U0 (U65 (U0 ?_))
 show wpAny _ X.A (do let _ ←comprehension (.ListComp elt [⟨tg,iter,ifs,0⟩] scope pos) scope X.env _ (newList []) false (eval iter X.env) (some (assign (.Name y py) X.env))) _ _ s
 refine U0 (U51 (wpAny_comprehension_free (use:=some (assign (.Name y py) X.env)) (Q:=fun _ s'=>SP X pins D0 .next s') rfl hs hcl0 hS.kind hS.loc ?_) (fun _ s' hq=>U0f (U0f hq)) fun _ _ e=>e)
 refine thn (hi pins s σ H _ I h) fun v s1 h1=>thn h1 fun itv s2 h2=>?_
 obtain⟨it,fp,tn,J,H2,e,I2,T,st2,f2,W,⟨m0,w0⟩,turn⟩:=h2
 subst e
 refine V7 (RR:=fun acc C=>compPost (model X.prog X.w) X.A X.xe (some (assign (.Name y py) X.env)) (fun _ s'=>SP X pins D0 .next s') acc C)
  (Qe:=fun ys H=>∀p,H p=none->D0.nx (σ.set i (some (.ref p))) (upd H p (.lst ys))) hc hS hlow hcl hcf hb I2 T st2 f2 w0 turn ?_
 intro D C s' H' ys hD hC hDC nD nC I' hn q
 obtain⟨m,hn⟩:=hn
 show wpAny _ X.A (assign (.Name y py) X.env (.ref D)) _ _ _
 refine wpAny_assign_Name (W6 (v:=.ref D) I' hN hi' (.inl hx) rfl (fun s'' I'' ⟨a,hsb,ha⟩=>?_) (.inr hx))
 have hLC:C≠X.env.locals:=fun z=>Mf I2.lt hC z.symm
 have hcC:∀x c,X.env.cells.lookup x=some c->c≠C:=fun x c e z=>by
  obtain⟨v,o,ho,_⟩:=I2.cell x c e
  exact Mf (U0p ho) hC z
 have haC:C≠a:=by
  rcases ha with z|z
  .rw[z];exact hLC
  .exact fun e=>hcC y a z e.symm
 refine⟨m,hn.sameBut hsb haC,fun h' hsb'=>?_⟩
 refine⟨_,_,I''.but hsb' (by rw[Bu hDC];exact nC) hLC (U06 I2.sz hC) hcC fun p hp z=>?_,q D nD⟩
 exact Mf (U0p (I2.pin p hp).1) hC z
end
end L2
end
section
namespace L2
open PySem PySem.Spec PyProof.Rows
theorem Ei.obj{P:Program}{w:World}{H:Hp}{h:Heap}{a:Addr}{o:HO}(x:Ei P w H h a o):∃ob,h.get? a=some ob:=by
 cases o with
 |lst xs=>obtain⟨_,_,_,_,e⟩:=x;exact⟨_,e⟩
 |tup xs=>obtain⟨_,_,_,ob,e,_⟩:=x;exact⟨ob,e⟩
 |dK kvs=>obtain⟨_,_,_,_,o,_,_,e,_⟩:=x;exact⟨o,e⟩
 |dT kvs=>obtain⟨_,_,_,_,o,_,_,e,_⟩:=x;exact⟨o,e⟩
 |set S n=>obtain⟨o,_,_,_,e,_⟩:=x;exact⟨o,e⟩
 |ins C dx fs=>obtain⟨_,_,_,e,_⟩:=x;exact⟨_,e⟩
 |own y=>exact x
 |xd fs=>obtain⟨_,⟨o,_,_,e,_⟩,_⟩:=x;exact⟨o,e⟩
 |rng lo hi=>obtain⟨_,_,_,e⟩:=x;exact⟨_,e⟩
 |frz ob u=>obtain⟨e,_⟩:=x;exact⟨_,e⟩
 |tbl ps=>exact⟨_,x⟩
 |met f y=>exact⟨_,x⟩
 |ext φ=>obtain⟨_,e,_⟩:=x;exact e
section
variable{X:Cx}{pins:List (Addr×Obj)}{σ:St}{H:Hp}{s:Shared}
theorem Inv.ao(I:Inv X pins σ H s){a:Addr}(h:s.heap.get? a=none):H a=none:=by
 cases q:H a with
 |none=>rfl
 |some o =>
  obtain⟨ob,e⟩:=(I.hok a o q).obj
  rw[h] at e;cases e
theorem Inv.laidN{a:Addr}{o:HO}{h':Heap}{d':Drawn}{t':Nat}(I:Inv X pins σ H s)(k:∀b u,s.heap.get? b=some u->h'.get? b=some u)(hn:s.heap.get? a=none)(hsy:sysModules≠a)(new:Ei X.prog X.w (upd H a o) h' a o) :
  Inv X pins σ (upd H a o) { s with heap:=h',drawn:=d',toks:=t' }:=by
 have hH:=I.ao hn
 have ne:∀b u,s.heap.get? b=some u->b≠a:=fun b u e z=>by rw[z,hn] at e;cases e
 refine I.step (g':=s.gens) (ch:=[]) (fun _ z=>nomatch z) (fun b u _ _ _ e _=>k b u e) (fun b u _ _ _ e _=>⟨u.slots,k b u e⟩) (fun b u _ e n=>by rw[Bu (ne b u e)];exact n) (fun b u _ e=>⟨u,k b u e⟩)
  (fun b xs e=>by rw[Bu (Du e hH)];exact e) (fun b u xs e=>by rw[Bu (Du e hH)];exact e) (fun b ps e=>⟨#[],by rw[Bu (Du e hH),e];simp⟩) (fun m hm=>?_) (fun b u e=>?_) I.bare (fun n=>by rw[Bu hsy];exact n)
 .obtain⟨ob,es,ep,e,r⟩:=hm
  exact⟨ob,es,ep,k _ _ e,r⟩
 .by_cases hb:b=a
  .subst hb;rw[Ce] at e;cases e;exact new
  .rw[Bu hb] at e
   exact(I.hok b u e).stay (fun c v _ q=>k c v q) (fun c q=>by rw[Bu (Du q hH)];exact q) fun c xs q=>by rw[Bu (Du q hH)];exact q
end
def Xf(P:Program)(w:World)(a:Addr)(ds:List Int):HO:=.ext fun h=>SetP.SetT P w h a ds
theorem oH{P:Program}{w:World}{H:Hp}{h:Heap}{a:Addr}{ds:List Int}(x:SetP.SetT P w h a ds):Ei P w H h a (Xf P w a ds) :=
 ⟨x,(by obtain⟨_,o,_,_,_,e,_⟩:=x;exact⟨o,e⟩),fun h1 h2 y k=>y.sameBut k⟩
section
variable{X:Cx}
theorem mJ(hc:X.calm=true):Dn X (.type "set") (fun xs H Q=>∃p ns,xs=[.ref p]/\SqL X.K H p (ns.map V.int)/\ns.length<1000/\∀a,H a=none->Q (.ref a) (upd H a (Xf X.prog X.w a (SetP.once ns)))):=by
 intro pins s σ H xs us Q I r h
 obtain⟨p,ns,rfl,hq,hl,q⟩:=h
 obtain⟨u,rfl,rx⟩:=vals1 r
 cases rx
 obtain⟨its,rv,pl,hz⟩:=I.list hq
 have hlen:=rv.length
 rw[U0j] at hlen
 refine SetP.oG (I.ok.hd hc) pl.isList (by simpa using intsAre_of rv) (by rw[U0r,←hlen];unfold scanBound;omega) fun h' tk k T=>?_
 have hn:s.heap.get? s.heap.objs.size=none:=Heap.get?_none_of_le (U0o _)
 exact⟨.ref s.heap.objs.size,_,I.laidN (d':=s.drawn) (t':=tk) k hn (U0z I.bZ) (oH T),rfl,q _ (I.hok.fresh (U0o _))⟩
theorem W2(hc:X.calm=true):Dn X (.builtin "sorted") (fun xs H Q=>∃(a:Addr)(ds:List Int),xs=[.ref a]/\H a=some (Xf X.prog X.w a ds)/\ds.length<64 /\
  ∀(l:Addr)(ns:List Int),H l=none->ns.Perm ds->ns.Pairwise (·<=·)->Q (.ref l) (upd H l (.lst (ns.map V.int)))):=by
 intro pins s σ H xs us Q I r h
 obtain⟨a,ds,rfl,hH,hl,q⟩:=h
 obtain⟨u,rfl,rx⟩:=vals1 r
 cases rx
 obtain⟨T,_,_⟩:=(show Ei X.prog X.w H s.heap a (Xf X.prog X.w a ds) from I.hok a _ hH)
 refine SetP.je (I.ok.hd hc) T hl fun h' d' tk l vs ns n k hb e hi hp hs=>?_
 have hn:s.heap.get? l=none:=by
  cases q:s.heap.get? l with
  |none=>rfl
  |some o=>exact absurd (hb l o q) (U30 _)
 have hsy:sysModules≠l:=by
  obtain⟨o,_,_,e,_⟩:=I.ok.mod.glob
  exact U0z (U20 (by decide:(1:Nat)<3) (hb _ _ (I.bk _ _ e)))
 have hlen:ns.length<64:=by rw[hp.length_eq];exact hl
 refine⟨.ref l,_,I.laidN (d':=d') (t':=tk) (o:=.lst (ns.map V.int)) k hn hsy ⟨?_,vs.toList,n,RD hi,by simpa using e⟩,rfl,q l ns (I.ao hn) hp hs⟩
 rw[U0j]
 exact U2q (W9 (by omega))
theorem Zd{prog:Program}{w:World}{A:Around}{bs:List Bool}{its:List Value}(r:Vals (bs.map V.bl) its):TruthOf prog w A (fun i v=>its.toArray[i]?=some v) (fun i=>bs.getD i false):=by
 intro i v s Q E hP h
 rw[U6i] at hP
 have hlen:=r.length
 rw[U0j] at hlen
 have hi:i<bs.length:=by rw[hlen];exact(U0l.mp hP).1
 obtain⟨u,e,ru⟩:=r.get (i:=i) (x:=.bl bs[i]) (by rw[U0y,U0g hi];rfl)
 rw[e] at hP;cases hP
 have ru':v=U4w bs[i]:=ru
 subst ru'
 have e2:bs.getD i false=bs[i]:=by rw[U0k,U0g hi];rfl
 have h:Q (bs.getD i false) s:=h
 rw[e2] at h
 exact U3j h
theorem all_range(bs:List Bool):(U0h bs.length).all (fun i=>bs.getD i false)=bs.all id:=by
 rw[U26,U3,U3]
 constructor
 .intro h b hb
  obtain⟨i,hi⟩:=U35.mp hb
  have q:=h i (U1n.mpr (U0l.mp hi).1)
  rw[U0k,hi] at q
  exact q
 .intro h i hi
  have hi':=U1n.mp hi
  rw[U0k,U0g hi']
  exact h _ (U1s hi')
theorem Z1(hc:X.calm=true):Dn X (.builtin "all") (fun xs H Q=>∃(p:Addr)(bs:List Bool),xs=[.ref p]/\SqL X.K H p (bs.map V.bl)/\Q (.bl (bs.all id)) H):=by
 intro pins s σ H xs us Q I r h
 obtain⟨p,bs,rfl,hq,q⟩:=h
 obtain⟨u,rfl,rx⟩:=vals1 r
 cases rx
 obtain⟨its,rv,pl,hz⟩:=I.list hq
 have hlen:=rv.length
 rw[U0j] at hlen
 have hl:=pl.isList
 have hlt:p<s.heap.objs.size:=by obtain⟨o,ho,_⟩:=hl;exact U0p ho
 refine call_all_walk (U58 hl ?_)
 refine⟨s.heap.objs.size,[s.heap.objs.size,p],[s.heap.objs.size],its.toArray.size,_,_,fun i=>bs.getD i false,rfl,Walks.list (by simpa using I.ok.hd hc) s.heap.objs.size p (U0z hlt) its.toArray,⟨⟨_,U0w _ rfl,rfl,rfl⟩,hl.push _⟩,Zd rv,fun h' tk k=>?_⟩
 refine⟨.bl (bs.all id),H,I.kept (h':=h') (t':=tk) fun b o e=>k b o (fun z=>?_) (U0c _ e),?_,q⟩
 .exact absurd (U03.mp z) (U0z (U0p e))
 .show U4w _=U4w _
  rw[U0r,←hlen,all_range]
theorem Cr{K:U0a}{a b:String}{r:Bool}(h:(if (U3m a==U3m b)=true then some true else if PySem.W.kitMeta b=true then (PySem.fastBuiltinMro a).map (·.contains (.type b)) else none)=some r):U3h K (.type a) (.type b)=some r:=h
theorem aB:Dn X (.builtin "isinstance") (fun xs H Q=>∃(x:V)(T:String)(t:Value)(b:Bool),xs=[x,.ty T]/\KQ X.K H x t/\U3h X.K t (.type T)=some b/\Q (.bl b) H):=by
 intro pins s σ H xs us Q I r h
 obtain⟨x,T,t,b,rfl,ty,e,q⟩:=h
 obtain⟨u,w',rfl,rx,rt⟩:=vals2 r
 cases (show w'=U3m T from rt)
 exact iK I rx ty e fun tk=>⟨.bl b,H,I.tok tk,rfl,q⟩
theorem aA:Dn X (.type "range") (fun xs H Q=>∃(n:Int),xs=[.int n]/\∀p,H p=none->Q (.ref p) (upd H p (.rng 0 n))):=by
 intro pins s σ H xs us Q I r h
 obtain⟨n,rfl,q⟩:=h
 obtain⟨u,rfl,rx⟩:=vals1 r
 obtain⟨t,rfl⟩:=(show ∃t,u=U3r n t from rx)
 exact call_range_1 ⟨.ref s.heap.objs.size,_,I.laid (o:=.rng 0 n) (fun _ _ e=>U0c _ e) (U0o _) ⟨_,_,_,U0w _ rfl⟩,rfl,q _ (I.hok.fresh (U0o _))⟩
theorem Zz:Dn X (.type "range") (fun xs H Q=>∃(a b:Int),xs=[.int a,.int b]/\∀p,H p=none->Q (.ref p) (upd H p (.rng a b))):=by
 intro pins s σ H xs us Q I r h
 obtain⟨a,b,rfl,q⟩:=h
 obtain⟨u,w',rfl,rx,ry⟩:=vals2 r
 obtain⟨t,rfl⟩:=(show ∃t,u=U3r a t from rx)
 obtain⟨t',rfl⟩:=(show ∃t,w'=U3r b t from ry)
 exact call_range_2 ⟨.ref s.heap.objs.size,_,I.laid (o:=.rng a b) (fun _ _ e=>U0c _ e) (U0o _) ⟨_,_,_,U0w _ rfl⟩,rfl,q _ (I.hok.fresh (U0o _))⟩
def upTo(lo:Int)(n:Nat):List Int:=(U0h n).map fun(i:Nat)=>lo+i
theorem W3(hc:X.calm=true):Dn X (.type "list") (fun xs H Q=>∃(r:Addr)(lo hi:Int),xs=[.ref r]/\H r=some (.rng lo hi)/\-(2^62)<=lo/\lo<2^62/\-(2^62)<=hi/\hi<2^62/\(hi-lo).toNat<=1000 /\
  ∀l,H l=none->Q (.ref l) (upd H l (.lst ((upTo lo (hi-lo).toNat).map V.int)))):=by
 intro pins s σ H xs us Q I rr h
 obtain⟨r,lo,hi,rfl,hH,h1,h2,h3,h4,h5,q⟩:=h
 obtain⟨u,rfl,rx⟩:=vals1 rr
 cases rx
 obtain⟨t,u,v,e⟩:=(show Ei X.prog X.w H s.heap r (.rng lo hi) from I.hok r _ hH)
 have hsz:U32 lo hi 1=(((hi-lo).toNat:Nat):Int):=by rw[rangeSize_one];split<;>omega
 refine call_list_range (a:=lo) (b:=hi) (c:=1) (I.ok.hd hc) e (small_one h1 h2 h3 h4) hsz (by omega) fun h' tk acc c k eS hacc=>?_
 refine⟨.ref s.heap.objs.size,_,I.laid (o:=.lst ((upTo lo (hi-lo).toNat).map V.int)) (t':=tk) k (U0o _) ⟨?_,acc.toList,c,?_,by simpa using eS⟩,rfl,q _ (I.hok.fresh (U0o _))⟩
 .unfold upTo
  rw[U0j,U0j,U24]
  exact U2q (W9 h5)
 .have gen:∀(l:List Value)(j:Nat),(∀(i:Nat)(v:Value),l[i]?=some v->∃t,v=U3r (lo+((i+j:Nat):Int)) t)->Vals (((U76 j l.length).map fun(i:Nat)=>lo+i).map V.int) l:=by
   intro l
   induction l with
   |nil=>intro j _;exact .nil
   |cons x r ih =>
    intro j hx
    obtain⟨t,e⟩:=hx 0 x rfl
    subst e
    rw[U0i,List.range'_succ]
    refine .cons ⟨t,by simp⟩ (ih (j+1) fun i v hv=>?_)
    obtain⟨t',e'⟩:=hx (i+1) v (by simpa using hv)
    exact⟨t',by rw[e',show i+1+j=i+(j+1) by omega]⟩
  have q2:=gen acc.toList 0 fun i v hv=>by
   obtain⟨t',e'⟩:=hacc.2 i v (by simpa using hv)
   exact⟨t',by rw[e'];simp⟩
  have el:acc.toList.length=(hi-lo).toNat:=by simpa using hacc.1
  rw[el,←List.range_eq_range'] at q2
  exact q2
end
end L2
end
section
namespace L2
open PySem PySem.Spec PyProof.Rows
mutual
inductive Tr (N:Addr->Prop) (H:Hp):V->PyData->Prop
 |non:Tr N H .non .none
 |bl (b:Bool):Tr N H (.bl b) (.bool b)
 |int (i:Int):Tr N H (.int i) (.int i)
 |str (x:Str):Tr N H (.str x) (.str x)
 |lst {a:Addr} {xs:List V} {ds:List PyData}:N a->H a=some (.lst xs)->Kw N H xs ds->Tr N H (.ref a) (.list ds)
 |tup {a:Addr} {xs:List V} {ds:List PyData}:N a->H a=some (.tup xs)->Kw N H xs ds->Tr N H (.ref a) (.tuple ds)
 |dct {a:Addr}:N a->H a=some (.dK [])->Tr N H (.ref a) (.dict [])
inductive Kw (N:Addr->Prop) (H:Hp):List V->List PyData->Prop
 |nil:Kw N H [] []
 |cons {x:V} {d:PyData} {xs:List V} {ds:List PyData}:Tr N H x d->Kw N H xs ds->Kw N H (x::xs) (d::ds)
end
section
variable{N N':Addr->Prop}{H H':Hp}
end
section
variable{N:Addr->Prop}{P:Program}{w:World}{H:Hp}{h:Heap}
mutual
theorem Tr.reads(ok:HOk P w H h)(hs:H sysModules=none):∀{v:V} {d:PyData},Tr N H v d->∀u,RelV v u->∃as,Reads h u d as/\sysModules ∉ as
 |_,_,.non,u,r=>⟨[],by cases (show u=U2r from r);exact .none,by simp⟩
 |_,_,.bl b,u,r=>⟨[],by cases (show u=U4w b from r);exact .bool b,by simp⟩
 |_,_,.int i,u,r=>by obtain⟨t,rfl⟩:=(show ∃t,u=U3r i t from r);exact⟨[],.int i t,by simp⟩
 |_,_,.str x,u,r=>by obtain⟨t,rfl⟩:=(show ∃t,u=Value.str x t from r);exact⟨[],.str x t,by simp⟩
 |_,_,.lst (a:=a) (xs:=xs) (ds:=ds) _ hH t,u,r=>by
  cases (show u=U2o a from r)
  obtain⟨_,its,n,rv,e⟩:=(show Ei P w H h a (.lst xs) from ok a _ hH)
  obtain⟨as,ra,na⟩:=Kw.reads ok hs t its rv
  refine⟨a::as,.list e rfl rfl (by simpa using ra),fun z=>?_⟩
  rcases U0q.mp z with z|z
  .rw[z] at hs;rw[hs] at hH;cases hH
  .exact na z
 |_,_,.tup (a:=a) (xs:=xs) (ds:=ds) _ hH t,u,r=>by
  cases (show u=U2o a from r)
  obtain⟨_,its,rv,ob,e,c,n,d⟩:=(show Ei P w H h a (.tup xs) from ok a _ hH)
  obtain⟨as,ra,na⟩:=Kw.reads ok hs t its rv
  exact⟨as,.tuple e c d (by simpa using ra),na⟩
 |_,_,.dct (a:=a) _ hH,u,r=>by
  cases (show u=U2o a from r)
  obtain⟨_,y,vs,kv,o,es,ep,e,ex,d,el⟩:=(show Ei P w H h a (.dK []) from ok a _ hH)
  cases kv
  have e0:es.toList=[]:=by
   have q:Pairs (Vp P w) es.toList []:=el.2.1
   generalize es.toList=l at q
   cases q
   rfl
  refine⟨[a],.dict (as:=[]) (bs:=[]) e ex.1 d (by rw[e0];exact .nil) (by rw[e0];exact .nil),fun z=>?_⟩
  have z':=U03.mp z
  rw[←z'] at y
  simp at y
theorem Kw.reads(ok:HOk P w H h)(hs:H sysModules=none):∀{xs:List V} {ds:List PyData},Kw N H xs ds->∀us,Vals xs us->∃as,ReadsAll h us ds as/\sysModules ∉ as
 |_,_,.nil,us,r=>by cases r;exact⟨[],.nil,by simp⟩
 |_,_,.cons t ts,us,r=>by
  cases r with
  |cons rx rr =>
   obtain⟨as,ra,na⟩:=Tr.reads ok hs t _ rx
   obtain⟨bs,rb,nb⟩:=Kw.reads ok hs ts _ rr
   exact⟨as++bs,.cons ra rb,fun z=>(U1k.mp z).elim na nb⟩
end
end
section
variable{X:Cx}
theorem j4{k:Nat}(hr:FN k X.A):Dn X (.builtin "repr") (fun xs H Q=>∃(N:Addr->Prop)(a:Addr)(d:PyData),xs=[.ref a]/\Tr N H (.ref a) d/\d.showable=true/\d.depth<=60/\d.shown.length<=sizeLine/\Q (.str d.shown) H):=by
 intro pins s σ H xs us Q I r h
 obtain⟨N,a,d,rfl,t,h1,h2,h3,q⟩:=h
 obtain⟨u,rfl,rx⟩:=vals1 r
 cases rx
 obtain⟨as,ra,na⟩:=t.reads I.hok I.T6 (.ref a) rfl
 have hu:=hr.un
 exact repr_of_reads' ra h1 (fun _=>na) hr.gd (by omega) (fun _ _ e=>e) (fun h' u tk k=>⟨.str d.shown,H,I.kept (h':=h') (t':=tk) k,⟨u,rfl⟩,q⟩) h3
theorem ux{k:Nat}(hr:FN k X.A):OpR X (compareOp .Eq) (fun x y H Q=>∃(N N':Addr->Prop)(d e:PyData),Tr N H x d/\Tr N' H y e/\U2u d=true/\U2u e=true/\Q (.bl (U6o d e)) H):=by
 intro pins s σ H x y v u Q I rx ry h
 obtain⟨N,N',d,e,t1,t2,s1,s2,q⟩:=h
 obtain⟨as,ra,_⟩:=t1.reads I.hok I.T6 v rx
 obtain⟨bs,rb,_⟩:=t2.reads I.hok I.T6 u ry
 exact SeqAt.compareEq_shaped ra rb s1 s2 hr.units ⟨.bl _,H,I,rfl,q⟩
theorem ur{k:Nat}(hr:FN k X.A):OpR X (compareOp .NotEq) (fun x y H Q=>∃(N N':Addr->Prop)(d e:PyData),Tr N H x d/\Tr N' H y e/\U2u d=true/\U2u e=true/\Q (.bl (!PyData.eqv d e)) H):=by
 intro pins s σ H x y v u Q I rx ry h
 obtain⟨N,N',d,e,t1,t2,s1,s2,q⟩:=h
 obtain⟨as,ra,_⟩:=t1.reads I.hok I.T6 v rx
 obtain⟨bs,rb,_⟩:=t2.reads I.hok I.T6 u ry
 exact SeqAt.compareNe_shaped ra rb s1 s2 hr.units ⟨.bl _,H,I,rfl,q⟩
end
end L2
end
section
namespace HT
open PySem PySem.Spec PyProof.Rows
section
variable{prog:Program}{w:World}{A:Around}{E:Value->Shared->Prop}{s:Shared}
theorem mH{t b:Addr}{ws:List Value}{Q:Value->Shared->Prop}(ht:IsTup s.heap t ([]:List Value).toArray)(hb:IsTup s.heap b ws.toArray)(h:Q (.ref b) s):wpAny (model prog w) A (binaryOp .Add (.ref t) (.ref b)) Q E s:=by
 obtain⟨⟨c1,d1,x1,sl1⟩,ho,hc,n,hd⟩:=id ht
 obtain⟨⟨c2,d2,x2,sl2⟩,ho2,hc2,n2,hd2⟩:=id hb
 simp only at hc hd hc2 hd2
 subst hc hd hc2 hd2
 exact concat_meets ⟨_,ho,rfl⟩ ⟨_,ho2,rfl⟩ noFill_tuple_add seq_tuple_add U6a U55 (U5s _ _) (tuple_addW0 t b _ ws.toArray n n2 d1 d2 sl1 sl2 (by simp)) ⟨ho,ho2,h⟩
theorem Ze{t sl:Addr}{items:Array Value}{vl vu:Value}{lo hi:Option Int}{Q:Value->Shared->Prop}(ht:IsTup s.heap t items)(hs:s.heap.IsSliceOf sl vl vu .none)(pl:IsPart vl lo)(pu:IsPart vu hi)
  (hw:sIx items.size 0 lo=0/\sIx items.size items.size hi=items.size) (h:Q (.ref t) s):wpAny (model prog w) A (getItem (.ref t) (.ref sl)) Q E s:=by
 obtain⟨os,hos,hcs,hds⟩:=id hs
 have hTs:s.TypeIs (.ref sl) "slice":=⟨os,hos,hcs⟩
 unfold getItem
 try with_reducible refine U2p ?_
 first|refine U0 (U0f ?_)|skip
 refine U0 (wpAny_sequenceKey ht.typeIs (by decide) ?_)
 refine U0 (wpAny_callSpecial?_slot (name:=U3e "__getitem__") ht.typeIs U2y (U2l U2y ht.typeIs entry_tuple_getitem ?_ (args_tuple_getitem _ _)))
 show wpAny _ _ (Builtin.Tuple.tupleItemsOf (.ref t) >>= _) _ _ s
 refine U0 (tupleItemsOf_ ht (U0 (U5t hTs ?_)))
 rw[if_pos (by decide)]
 refine U0 (Oz hs pl pu ?_)
 have yes:(((sIx items.size 0 lo:Nat):Int)==0&&(1:Int)==1&&(sIx items.size items.size hi-sIx items.size 0 lo)==items.size)=true:=by
  rw[hw.1,hw.2];simp
 show wpAny _ _ (if (((sIx items.size 0 lo:Nat):Int)==0&&(1:Int)==1&&(sIx items.size items.size hi-sIx items.size 0 lo)==items.size)=true then _ else _) _ _ s
 rw[if_pos yes]
 unfold Builtin.Tuple.tupleIsExact
 refine U0 (U0 (U5t ht.typeIs (U0f ?_)))
 rw[if_pos (by decide)]
 exact U0 (U4x (U0f ⟨_,rfl,U0f h⟩))
end
end HT
namespace L2
open PySem PySem.Spec PyProof.Rows
theorem DQ{H:Hp}{p:Addr}(h:H p=none)(o:HO):Same H (upd H p o):=fun b u q=>by rw[Bu (Du q h)];exact q
theorem dR(xs:List V)(lo hi:Option Int)(h:HT.sIx xs.length 0 lo=0/\HT.sIx xs.length xs.length hi=xs.length):Kr xs lo hi=xs:=by
 unfold Kr
 rw[h.1,h.2,U54,Nat.sub_zero,U3p]
section
variable{X:Cx}
theorem pQ:OpR X (binaryOp .Add) (fun x y H Q=>∃(a b:Addr)(xs ys:List V),x=.ref a/\y=.ref b/\H a=some (.tup xs)/\H b=some (.tup ys)/\xs.length+ys.length<=sizeLine/\∀p H',Same H H'->H' p=some (.tup (xs++ys))->Q (.ref p) H'):=by
 intro pins s σ H x y v u Q I rx ry h
 obtain⟨a,b,xs,ys,rfl,rfl,ha,hb,hz,q⟩:=h
 by_cases hx:xs=[]
 .subst hx
  cases rx
  cases ry
  obtain⟨its,r1,p1,_⟩:=I.tuple (SqT.of ha)
  obtain⟨its2,r2,p2,_⟩:=I.tuple (SqT.of hb)
  cases r1
  exact HT.mH p1 p2 ⟨.ref b,H,I,rfl,q b H (Same.refl H) hb⟩
 .refine pP pins s σ H _ _ v u Q I rx ry ⟨a,b,xs,ys,rfl,rfl,SqT.of ha,SqT.of hb,hx,hz,fun z=>?_,fun _ p hp=>q p _ (DQ hp _) Ce⟩
  subst z
  exact q a H (Same.refl H) (by rw[U2k];exact ha)
theorem oA:SlR X (fun x lo hi H Q=>∃(a:Addr)(xs:List V),x=.ref a/\H a=some (.tup xs)/\∀p H',Same H H'->H' p=some (.tup (Kr xs lo hi))->Q (.ref p) H'):=by
 intro pins s σ H x v vl vu lo hi sl Q I rx hs pl pu h
 obtain⟨a,xs,rfl,ha,q⟩:=h
 by_cases hw:HT.sIx xs.length 0 lo=0/\HT.sIx xs.length xs.length hi=xs.length
 .cases rx
  obtain⟨its,r,ht,hz⟩:=I.tuple (SqT.of ha)
  have hlen:its.toArray.size=xs.length:=by rw[U0r];exact r.length.symm
  refine⟨"tuple",_,U2y.lookup,ht.typeIs,?_⟩
  exact HT.Ze ht hs pl pu (by rw[hlen];exact hw) ⟨.ref a,H,I,rfl,q a H (Same.refl H) (by rw[dR xs lo hi hw];exact ha)⟩
 .exact uJ pins s σ H _ v vl vu lo hi sl Q I rx hs pl pu ⟨a,xs,rfl,SqT.of ha,hw,fun p hp=>q p _ (DQ hp _) Ce⟩
theorem lA{d:Addr}{D:List (PyData×PyData)}(hT:∀h,X.K.In h->IntTab X.prog X.w h d D):OpR X (compareOp .In) (fun x y H Q=>∃(i:Int),x=.int i/\y=.ref d/\Q (.bl (lookup (.int i) D).isSome) H):=by
 intro pins s σ H x y v u Q I rx ry h
 obtain⟨i,rfl,rfl,q⟩:=h
 obtain⟨t,rfl⟩:=(show ∃t,v=U3r i t from rx)
 cases ry
 exact in_intTab (hT _ I.kIn) ⟨.bl _,H,I.tok _,rfl,q⟩
theorem sS{P:Program}{w:World}{K:U0a}{d:Addr}{ep:Nat}{h1 h2 h3 k1 k2 k3 v1 v2 v3:Int}{t1 t2 t3 u1 u2 u3:Tok}(hd:(d==sysModules)=false)
  (l:K.lookup d=some { cls:=.type "dict",data:=.dict #[⟨h1,.int k1 t1,.int v1 u1⟩,⟨h2,.int k2 t2,.int v2 u2⟩,⟨h3,.int k3 t3,.int v3 u3⟩] ep })
  (e1:h1=hashInt k1) (e2:h2=hashInt k2) (e3:h3=hashInt k3) (nd:[k1,k2,k3].Nodup):∀h,K.In h->IntTab P w h d [(.int k1,.int v1),(.int k2,.int v2),(.int k3,.int v3)]:=by
 intro h kin
 refine⟨hd,[(k1,.int v1 u1),(k2,.int v2 u2),(k3,.int v3 u3)],⟨_,_,ep,kin _ _ l,⟨rfl,rfl,rfl⟩,rfl,?_,?_,nd⟩,?_⟩
 .intro e he
  simp only[List.mem_toArray,U0q,U1f,or_false] at he
  rcases he with z|z|z
  .subst z;exact⟨k1,intKind_is P w k1 t1,e1⟩
  .subst z;exact⟨k2,intKind_is P w k2 t2,e2⟩
  .subst z;exact⟨k3,intKind_is P w k3 t3,e3⟩
 .exact .cons (intKind_is P w k1 t1) rfl (.cons (intKind_is P w k2 t2) rfl (.cons (intKind_is P w k3 t3) rfl .nil))
 .exact .cons (.int v1 u1) (.cons (.int v2 u2) (.cons (.int v3 u3) .nil))
end
end L2
end
section
namespace L2
open PySem PySem.Spec PyProof.Rows
def Cal(P:Program)(w:World)(K:U0a)(mg:Str->Option Value)(base:Heap)(x:Str)(k:Nat)(ps:List Str)(sp:Sp):Prop :=
 ∃f fd,DG P w K mg base CX0 k f fd ps sp/\Binds K fd ps []/\U01 K (.ref f)=true/\mg x=some (.ref f)
section
variable{X:Cx}
theorem Qc{x:Str}{k k':Nat}{ps:List Str}{sp:Sp}{e:Expr}{es:List Expr}{t:TA}{p pos:Pos}(c:Cal X.prog X.w X.K X.mg X.base x k ps sp)(hr:FN k' X.A)(hk:k<=k')(hg:Gl X x)(ha:PA X (e::es) t)
  (hdb:(x==("__debug__":Str))=false:=by decide) (he:starEach (e::es) X.env=(false,eval e X.env)::starEach es X.env:=by rfl) (hpl:(backTo pos (starEach es X.env)).any (·.1)=false:=by rfl) :
  PE X (.Call (.Name x p) (e::es) [] pos) (mY sp [] E0 t):=by
 obtain⟨f,fd,F,b,kp,m⟩:=c
 exact pL (F.mono hk) hr hg m kp b .nil xu ha hdb he hpl
theorem Oj:OpR X (binaryOp .FloorDiv) (rI (fun _ j=>0<j/\j<2^64) fun i j=>.int (i/j)):=opI fun i j _ _ _ _ _ hc q=>by
 rw[←Int.fdiv_eq_ediv_of_nonneg _ (U74 hc.1)] at q
 refine floordiv_int (Int.ne_of_gt hc.1) q (.inl (PyProof.noPylong_of_log2 ?_))
 have h1:j.natAbs<2^64:=by omega
 have h2:j.natAbs≠0:=by omega
 exact U20 ((Nat.log2_lt h2).mpr h1) (by decide)
end
theorem Ih:bootBuiltins "len"=some (.builtin "len"):=by decide +kernel
theorem Hs:bootBuiltins "isinstance"=some (.builtin "isinstance"):=by decide +kernel
theorem fD:bootBuiltins "all"=some (.builtin "all"):=by decide +kernel
theorem j7:bootBuiltins "sorted"=some (.builtin "sorted"):=by decide +kernel
theorem fC:bootBuiltins "min"=some (.builtin "min"):=by decide +kernel
theorem wG:bootBuiltins "max"=some (.builtin "max"):=by decide +kernel
theorem bM:bootBuiltins "repr"=some (.builtin "repr"):=by decide +kernel
theorem wF:bootBuiltins "set"=some (.type "set"):=by decide +kernel
theorem Ry:bootBuiltins "list"=some (.type "list"):=by decide +kernel
theorem MK:bootBuiltins "tuple"=some (.type "tuple"):=by decide +kernel
theorem mL:bootBuiltins "range"=some (.type "range"):=by decide +kernel
theorem Xx:bootBuiltins "int"=some (.type "int"):=by decide +kernel
theorem rF:bootBuiltins "bool"=some (.type "bool"):=by decide +kernel
def Tq:List Str:=["len","isinstance","all","sorted","min","max","abs","repr","set","list","tuple","range","int","bool","str"]
def Blt(mg:Str->Option Value):Prop:=∀x∈Tq,mg x=none
theorem Blt.is{mg:Str->Option Value}(b:Blt mg)(x:Str)(h:Tq.contains x=true:=by decide +kernel):mg x=none:=b x (List.contains_iff_mem.mp h)
def tyName:PyData->String
 |.none=>"NoneType"
 |.bool _=>"bool"
 |.int _=>"int"
 |.str _=>"str"
 |.list _=>"list"
 |.tuple _=>"tuple"
 |.dict _=>"dict"
theorem Tr.ty{N:Addr->Prop}{K:U0a}{H:Hp}{v:V}{d:PyData}(t:Tr N H v d):KQ K H v (.type (tyName d)):=by
 cases t with
 |non=>exact .non
 |bl b=>exact .bl b
 |int i=>exact .int i
 |str x=>exact .str x
 |lst _ h _=>exact .lst h
 |tup _ h _=>exact .tup h
 |dct _ h=>exact .dK h
def Xh(T:String)(d:PyData):Bool:=match T with
 |"int"=>(match d with|.int _=>true|.bool _=>true|_=>false)
 |"bool"=>(match d with|.bool _=>true|_=>false)
 |"tuple"=>(match d with|.tuple _=>true|_=>false)
 |"list"=>(match d with|.list _=>true|_=>false)
 |_=>false
theorem qM{K:U0a}(d:PyData):U3h K (.type (tyName d)) (.type "int")=some (Xh "int" d):=by
 cases d with
 |none=>exact Cr (a:="NoneType") (r:=false) (by decide +kernel)
 |bool _=>exact Cr (a:="bool") (r:=true) (by decide +kernel)
 |int _=>exact Cr (a:="int") (r:=true) (by decide +kernel)
 |str _=>exact Cr (a:="str") (r:=false) (by decide +kernel)
 |list _=>exact Cr (a:="list") (r:=false) (by decide +kernel)
 |tuple _=>exact Cr (a:="tuple") (r:=false) (by decide +kernel)
 |dict _=>exact Cr (a:="dict") (r:=false) (by decide +kernel)
theorem lQ{K:U0a}(d:PyData):U3h K (.type (tyName d)) (.type "bool")=some (Xh "bool" d):=by
 cases d with
 |none=>exact Cr (a:="NoneType") (r:=false) (by decide +kernel)
 |bool _=>exact Cr (a:="bool") (r:=true) (by decide +kernel)
 |int _=>exact Cr (a:="int") (r:=false) (by decide +kernel)
 |str _=>exact Cr (a:="str") (r:=false) (by decide +kernel)
 |list _=>exact Cr (a:="list") (r:=false) (by decide +kernel)
 |tuple _=>exact Cr (a:="tuple") (r:=false) (by decide +kernel)
 |dict _=>exact Cr (a:="dict") (r:=false) (by decide +kernel)
theorem kit_tuple{K:U0a}(d:PyData):U3h K (.type (tyName d)) (.type "tuple")=some (Xh "tuple" d):=by
 cases d with
 |none=>exact Cr (a:="NoneType") (r:=false) (by decide +kernel)
 |bool _=>exact Cr (a:="bool") (r:=false) (by decide +kernel)
 |int _=>exact Cr (a:="int") (r:=false) (by decide +kernel)
 |str _=>exact Cr (a:="str") (r:=false) (by decide +kernel)
 |list _=>exact Cr (a:="list") (r:=false) (by decide +kernel)
 |tuple _=>exact Cr (a:="tuple") (r:=true) (by decide +kernel)
 |dict _=>exact Cr (a:="dict") (r:=false) (by decide +kernel)
theorem lO{K:U0a}(d:PyData):U3h K (.type (tyName d)) (.type "list")=some (Xh "list" d):=by
 cases d with
 |none=>exact Cr (a:="NoneType") (r:=false) (by decide +kernel)
 |bool _=>exact Cr (a:="bool") (r:=false) (by decide +kernel)
 |int _=>exact Cr (a:="int") (r:=false) (by decide +kernel)
 |str _=>exact Cr (a:="str") (r:=false) (by decide +kernel)
 |list _=>exact Cr (a:="list") (r:=true) (by decide +kernel)
 |tuple _=>exact Cr (a:="tuple") (r:=false) (by decide +kernel)
 |dict _=>exact Cr (a:="dict") (r:=false) (by decide +kernel)
end L2
end
section
namespace L2
open PySem PySem.Spec PyProof.Rows
def QK:PyData->Bool
 |.none=>true
 |.bool _=>true
 |.int i=>decide (i.natAbs<10^41)
 |.str x=>decide (x.length<=30)&&x.cps.toList.all fun c=>decide (c<16^8)
 |.dict kvs=>kvs.isEmpty
 |_=>false
def fit:List Nat->PyData->Bool
 |w::ws,.list xs=>decide (xs.length<=w)&&xs.all (fit ws)
 |w::ws,.tuple xs=>decide (xs.length<=w)&&xs.all (fit ws)
 |_,d=>QK d
def bnd:List Nat->Nat
 |[]=>400
 |w::ws=>w*(bnd ws+2)+400
theorem au{d:PyData}(h:QK d=true):d.showable=true/\d.depth<=1/\d.shown.length<=400:=by
 cases d with
 |none=>exact⟨rfl,by simp[U3f],by decide⟩
 |bool b=>exact⟨rfl,by simp[U3f],by cases b<;>decide⟩
 |int i =>
  have hi:i.natAbs<10^41:=of_decide_eq_true h
  refine⟨?_,by simp[U3f],?_⟩
  .simp only[U6p,decide_eq_true_eq]
   by_cases h0:i.natAbs=0
   .rw[h0];decide
   .exact U20 ((Nat.log2_lt h0).mpr (U20 hi (by decide:10^41<2^137))) (by decide)
  .have q:=int_text_length_le10 (k:=41) (by decide) hi
   have e:(U5v (.int i)).length=(toString i).length:=by
    show(U3e (toString i)).length=_
    exact PySem.ofString_length _
   rw[e];omega
 |str x =>
  simp only[QK,U00,decide_eq_true_eq,U3] at h
  refine⟨rfl,by simp[U3f],?_⟩
  have q:=StrLaws.reprText_len x h.2
  simp only[U5v]
  have:=h.1
  omega
 |list xs=>cases h
 |tuple xs=>cases h
 |dict kvs =>
  cases kvs with
  |nil=>exact⟨rfl,by simp[U3f,PyData.depthKv],by decide⟩
  |cons a r=>cases h
theorem Vs{ws:List Nat}(ih:∀d,fit ws d=true->d.showable=true/\d.depth<=ws.length+1/\d.shown.length<=bnd ws):∀xs:List PyData,xs.all (fit ws)=true ->
  PyData.showableAll xs=true/\U38 xs<=ws.length+1/\((U42 xs).map (·.length)).sum+2*(U42 xs).length<=xs.length*(bnd ws+2)
 |[],_=>⟨rfl,by simp[U38],by simp[U42]⟩
 |x::r,h=>by
  rw[U4v,U00] at h
  obtain⟨a1,a2,a3⟩:=ih x h.1
  obtain⟨b1,b2,b3⟩:=Vs ih r h.2
  refine⟨by simp[PyData.showableAll,a1,b1],by simp only[U38];omega,?_⟩
  simp only[U42,U0m,U3o,U0i]
  rw[show(r.length+1)*(bnd ws+2)=r.length*(bnd ws+2)+(bnd ws+2) from Nat.succ_mul _ _]
  omega
theorem eZ:∀(ws:List Nat)(d:PyData),fit ws d=true->d.showable=true/\d.depth<=ws.length+1/\d.shown.length<=bnd ws
 |[],d,h=>by
  have h':QK d=true:=by
   cases d<;>exact h
  obtain⟨a,b,c⟩:=au h'
  exact⟨a,b,c⟩
 |w::ws,d,h=>by
  have ih:=eZ ws
  have leaf:QK d=true->d.showable=true/\d.depth<=(w::ws).length+1/\d.shown.length<=bnd (w::ws):=fun h'=>by
   obtain⟨a,b,c⟩:=au h'
   refine⟨a,by rw[U0i];omega,U06 c ?_⟩
   unfold bnd;omega
  cases d with
  |list xs =>
   simp only[fit,U00,decide_eq_true_eq] at h
   obtain⟨a,b,c⟩:=Vs ih xs h.2
   refine⟨by simpa [U6p] using a,by simp only[U3f,U0i];omega,?_⟩
   have q:=listText_len_le (U42 xs)
   have m:=U5b (bnd ws+2) h.1
   simp only[U5v,bnd]
   omega
  |tuple xs =>
   simp only[fit,U00,decide_eq_true_eq] at h
   obtain⟨a,b,c⟩:=Vs ih xs h.2
   refine⟨by simpa [U6p] using a,by simp only[U3f,U0i];omega,?_⟩
   have q:=tupleText_len_le (U42 xs)
   have m:=U5b (bnd ws+2) h.1
   simp only[U5v,bnd]
   omega
  |none=>exact leaf h
  |bool b=>exact leaf h
  |int i=>exact leaf h
  |str x=>exact leaf h
  |dict kvs=>exact leaf h
def Nx(n:Nat)(Pv:Nat->List V->Hp->Prop)(i:Nat)(ys:List V)(H:Hp):Prop:=∃m',m'<n-i/\(m'=n-(i+1)/\i+1<=n/\Pv (i+1) ys H)
theorem nx{n:Nat}{Pv:Nat->List V->Hp->Prop}{i:Nat}{ys:List V}{H:Hp}(hi:i<n)(p:Pv (i+1) ys H):Nx n Pv i ys H:=⟨n-(i+1),by omega,rfl,hi,p⟩
section
variable{k:Nat}{caps:List Nat}{σ:St}{g:TG}{tt:TT}{te:TE}{Q:VK}{H:Hp}
end
def Well(H:Hp)(a:Addr):Prop:=∃x y:Int,H a=some (.lst [.int x,.int y])
end L2
end
section
namespace L2
open PySem PySem.Spec PyProof.Rows
section
variable{a:Addr}{H0:Hp}{σ:St}{te t1 t2:TE}{ta:TA}{d:PyData}{ds d1 d2:List PyData}{i j:Int}
end
end L2
end
section
namespace L2
open PySem PySem.Spec PyProof.Rows
section
variable{X:Cx}{K:U0a}
abbrev zH(K:U0a):List V->Hp->VK->Prop:=fun xs H Q=>∃p ys,xs=[.ref p]/\(SqL K H p ys∨SqT K H p ys)/\Q (.int ys.length) H
abbrev oU(K:U0a):List V->Hp->VK->Prop:=fun xs H Q=>∃p ys,xs=[.ref p]/\(SqL K H p ys∨SqT K H p ys)/\∀l,H l=none->Q (.ref l) (upd H l (.lst ys))
abbrev jy(K:U0a):List V->Hp->VK->Prop:=fun xs H Q=>∃p ys,xs=[.ref p]/\((SqL K H p ys/\∀l,H l=none->Q (.ref l) (upd H l (.tup ys)))∨(SqT K H p ys/\Q (.ref p) H))
theorem kZ{d:Addr}{D:List (PyData×PyData)}{x:Str}{p pos:Pos}{b:Expr}{ta tb:TE}(hT:∀h,X.K.In h->IntTab X.prog X.w h d D)(ha:PE X (.Name x p) ta)(hb:PE X b tb)(hs:S6 b)
  (hg:∀r,letTemporaryGo (.Name x p) (.ref d) r=pure ():=by intro _;with_unfolding_all rfl) :
  PE X (.Subscript (.Name x p) b pos) (tOp (fun x y H Q=>∃(i j:Int),x=.ref d/\y=.int i/\lookup (.int i) D=some (.int j)/\Q (.int j) H) ta tb):=by
 intro pins s σ H Q I h
 refine Subscript_ (bY ha hb I h fun v u s2 x y H2 I2 rx ry q=>?_)
 obtain⟨i,j,rfl,rfl,hl,q⟩:=q
 cases rx
 obtain⟨t,rfl⟩:=ry
 refine item_intTab (hT _ I2.kIn) hl (fun v fl=>?_) (hs _ _) hg
 cases fl s2.heap with
 |int _ t'=>exact⟨.int j,H2,I2.tok _,⟨t',rfl⟩,q⟩
end
end L2
end
section
namespace Bc
open PySem PySem.Spec PyProof.Rows L2
abbrev D3:List (PyData×PyData):=[(.int 1,.int 20),(.int 2,.int 10),(.int 3,.int 6)]
theorem yK(i:Int):(lookup (.int i) D3).isSome=decide (i=1∨i=2∨i=3):=by
 have same_i:∀a b:Int,same (.int a) (.int b)=decide (a=b):=fun a b=>by by_cases h:a=b<;>simp[same,h]
 simp only[lookup,same_i]
 by_cases h1:(1:Int)=i
 .subst h1;rfl
 by_cases h2:(2:Int)=i
 .subst h2;rfl
 by_cases h3:(3:Int)=i
 .subst h3;rfl
 rw[decide_eq_false h1,decide_eq_false h2,decide_eq_false h3]
 have h:¬(i=1∨i=2∨i=3):=by omega
 rw[decide_eq_false h]
 rfl
def tY:PyData->Bool
 |.tuple es=>U59 es&&decide (U38 es<=60)
 |_=>true
def lay:PyData->Bool
 |.tuple ds=>ds.all tY
 |_=>true
abbrev F3:List Nat:=[9,9,9]
def nr(a:Int):Bool:=decide (-(10^9)<=a)&&decide (a<=10^9)
def bx:PyData->Bool
 |.tuple [.int a,.int b]=>nr a&&nr b&&decide (a<b)
 |_=>false
def part(d:PyData):Bool:=fit [9,9] d&&tY d
def good(d:PyData):Bool:=fit F3 d&&lay d
end Bc
end
section
set_option maxRecDepth 100000
namespace HT
open PySem PySem.Spec PyProof.Rows
open AutoSeq1 (wpAny_loadPart')
theorem U8:fillsNumberSlot (.type "tuple") "mul"=pure false :=
 PySem.fillsNumberSlot_seq (id:="tuple.__mul__") (r:=some (.builtin "tuple.__rmul__")) U45.lookup (by decide +kernel) PySem.F.slot_tuple_rmul.lookup (by decide +kernel)
theorem gH:seqRepeat? (.type "tuple")=pure (some (.builtin "tuple.__mul__")):=by
 unfold seqRepeat?
 rw[PySem.seqSlot_of (T:="tuple") (name:="__mul__") (id:="tuple.__mul__") U45.lookup (by decide +kernel),PySem.seqSlot_of (T:="tuple") (name:="__rmul__") (id:="tuple.__rmul__") PySem.F.slot_tuple_rmul.lookup (by decide +kernel)]
 rfl
theorem ZW(a:Int)(t:Tok)(l:Addr)(items:Array Value)(n:Nat)(dd:Option Addr)(sl:Array (Option Value)) :
  Meets (Builtin.«int.__rmul__» ⟨[.int a t,.ref l],[]⟩) (fun _ R s=>s.heap.get? l=some { cls:=.type "tuple",dict:=dd,data:=.seq items n,slots:=sl }/\R (.ok (.ret Value.notImplemented)) s) :=
 .of_wp fun prog w A R s h=>by obtain⟨hp,g,d,tk,os⟩:=s;obtain⟨hl,h⟩:=h;wp_walk using wpAny_loadPart' hl;exact⟨_,rfl,h⟩
theorem jX(l:Addr)(items:Array Value)(n:Nat)(dd:Option Addr)(sl:Array (Option Value))(x:Int)(u:Tok)(hc0:¬(decide (x < -(2^63))||decide (x≥2^63))=true)(hc1:(items.isEmpty||x==1)=true) :
  Meets (Builtin.«tuple.__mul__» ⟨[.ref l,.int x u],[]⟩) (fun _ R s=>s.heap.get? l=some { cls:=.type "tuple",dict:=dd,data:=.seq items n,slots:=sl }/\R (.ok (.ret (U2o l))) { s with heap:=s.heap,toks:=s.toks }) :=
 .of_wp fun prog w A R s h=>by obtain⟨hp,g,d,tk,os⟩:=s;obtain⟨hl,h⟩:=h;have f1:=AutoSeq1.idx_int;wp_walk;refine U7n (decide_eq_false hc0) ?_;wp_walk using wpAny_loadPart' hl;exact⟨_,rfl,h⟩
theorem jW(l:Addr)(items:Array Value)(n:Nat)(dd:Option Addr)(sl:Array (Option Value))(x:Int)(u:Tok)(hc0:¬(decide (x < -(2^63))||decide (x≥2^63))=true)(hc1:¬(items.isEmpty||x==1)=true)
  (hc2:¬(decide (x<=0)||items.isEmpty)=true) (hc3:¬(items.size:Int)*x>(2^63-1)/8) (hc4:¬Builtin.Tuple.tupleTooMany ((items.size:Int)*x)=true) (hsz:(U6k (fun x1 x2=>x1++x2) #[] (U05 x.toNat items)).size<=sizeLine) :
  Meets (Builtin.«tuple.__mul__» ⟨[.ref l,.int x u],[]⟩) (fun _ R s=>s.heap.get? l=some { cls:=.type "tuple",dict:=dd,data:=.seq items n,slots:=sl }/\R (.ok (.ret (U2o s.heap.objs.size))) { s with heap:=s.heap.push { cls:=U3m "tuple",data:=Data.seq (U6k (fun x1 x2=>x1++x2) #[] (U05 x.toNat items)) },toks:=s.toks }) :=
 .of_wp fun prog w A R s h=>by obtain⟨hp,g,d,tk,os⟩:=s;obtain⟨hl,h⟩:=h;have f1:=AutoSeq1.idx_int;wp_walk;refine U7n (decide_eq_false hc0) ?_;wp_walk using wpAny_loadPart' hl;refine U7n (decide_eq_false hc3) ?_;wp_walk;exact⟨_,rfl,h⟩
section
variable{prog:Program}{w:World}{A:Around}{E:Value->Shared->Prop}{s:Shared}
theorem pU{t:Addr}{its:List Value}{k:Int}{u:Tok}{Q:Value->Shared->Prop}(ht:IsTup s.heap t its.toArray)(hne:its≠[])(h1:1<=k)(h2:k<2^60)(hz:its.length*k.toNat<=sizeLine)
  (q1:k=1->Q (.ref t) s) (q2:k≠1->Q (.ref s.heap.objs.size) { s with heap:=s.heap.push { cls:=.type "tuple",data:=.seq (U05 k.toNat its).flatten.toArray } }) :
  wpAny (model prog w) A (binaryOp .Mult (.ref t) (.int k u)) Q E s:=by
 obtain⟨⟨c1,d1,x1,sl1⟩,ho,hc,n,hd⟩:=id ht
 simp only at hc hd
 subst hc hd
 have c0:¬(decide (k < -(2^63))||decide (k≥2^63))=true:=by
  rw[decide_eq_false (by omega),decide_eq_false (by omega)];exact U1d
 have ne:its.toArray.isEmpty=false:=by cases its with|nil=>exact absurd rfl hne|cons _ _=>rfl
 have hnew:U6k (fun x1 x2=>x1++x2) #[] (U05 k.toNat its.toArray)=(U05 k.toNat its).flatten.toArray:=by
  have:=L2.foldl_rep its k.toNat []
  rw[U11] at this
  exact this
 refine wpAny_binaryOp_repeat_ref (T:="tuple") (U:="int") (by decide) ⟨_,ho,rfl⟩ (fun s'=>typeIs_int s' k u) U8 PySem.F.fills_int_mul PySem.F.slot_int_rmul gH PySem.F.slot_int_index.lookup
  (call_meets PySem.F.slot_int_rmul (typeIs_int s k u) PySem.F.entry_int_rmul (PySem.F.args_int_rmul_2 _ _) (ZW k u t its.toArray n d1 sl1) ⟨ho,rfl,⟨_,ho,rfl⟩,?_⟩)
 by_cases k1:k=1
 .exact call_meets U45 ⟨_,ho,rfl⟩ PySem.F.entry_tuple_mul (PySem.F.args_tuple_mul_2 _ _) (jX t its.toArray n d1 sl1 k u c0 (by rw[k1];simp)) ⟨ho,q1 k1⟩
 .have e:((its.toArray.size:Nat):Int)*k=((its.length*k.toNat:Nat):Int):=by
   rw[U0r,Int.natCast_mul,U6t (by omega)]
  have hs:(sizeLine:Nat)=16777216:=by decide
  refine call_meets U45 ⟨_,ho,rfl⟩ PySem.F.entry_tuple_mul (PySem.F.args_tuple_mul_2 _ _) (jW t its.toArray n d1 sl1 k u c0 ?_ ?_ ?_ ?_ ?_) ⟨ho,?_⟩
  .rw[ne];simp[k1]
  .rw[ne,decide_eq_false (by omega)];exact U1d
  .rw[e];omega
  .rw[e]
   unfold Builtin.Tuple.tupleTooMany
   rw[decide_eq_true_eq]
   omega
  .rw[hnew,U0r,L2.len_rep,U7d];exact hz
  .rw[hnew];exact q2 k1
end
end HT
namespace L2
open PySem PySem.Spec PyProof.Rows
abbrev mZ:R2:=fun x y H Q=>∃(a:Addr)(k:Int)(xs:List V),x=.ref a/\y=.int k/\H a=some (.tup xs)/\xs≠[]/\1<=k/\k<2^60/\xs.length*k.toNat<=sizeLine/\∀p H',Same H H'->H' p=some (.tup (U05 k.toNat xs).flatten)->Q (.ref p) H'
section
variable{X:Cx}
theorem pO:OpR X (binaryOp .Mult) mZ:=by
 intro pins s σ H x y v u Q I rx ry h
 obtain⟨a,k,xs,rfl,rfl,ha,hne,k1,k2,hz,q⟩:=h
 cases rx
 obtain⟨t,rfl⟩:=ry
 obtain⟨its,r1,p1,_⟩:=I.tuple (SqT.of ha)
 refine HT.pU p1 (fun z=>hne (r1.Rt.mp z)) k1 k2 (by rw[←r1.length];exact hz) (fun e=>?_) (fun e=>?_)
 .refine⟨.ref a,H,I,rfl,q a H (Same.refl H) ?_⟩
  rw[e]
  simpa using ha
 .refine⟨.ref s.heap.objs.size,_,I.laid (t':=s.toks) (o:=.tup (U05 k.toNat xs).flatten) (fun b ob q=>U0c _ q) (U0o _) ?_,rfl,q _ _ (DQ (I.hok.fresh (U0o _)) _) Ce⟩
  exact⟨by rw[len_rep,U7d];exact hz,_,r1.rep k.toNat,U62 _ _⟩
end
section
variable{X:Cx}
theorem VB{k:Nat}(hr:FN k X.A):Dn X (.builtin "repr") (fun xs H Q=>∃(N:Addr->Prop)(v:V)(d:PyData),xs=[v]/\Tr N H v d/\d.showable=true/\d.depth<=60/\d.shown.length<=sizeLine/\Q (.str d.shown) H):=by
 intro pins s σ H xs us Q I r h
 obtain⟨N,v,d,rfl,t,h1,h2,h3,q⟩:=h
 have onRef:∀b,v=.ref b->wpAny (model X.prog X.w) X.A (call (.builtin "repr") us) (EP X pins σ Q) X.xe s:=fun b e=>by
  subst e
  exact j4 hr pins s σ H _ us Q I r ⟨N,b,d,rfl,t,h1,h2,h3,q⟩
 cases t with
 |lst _ _ _=>exact onRef _ rfl
 |tup _ _ _=>exact onRef _ rfl
 |dct _ _=>exact onRef _ rfl
 |non =>
  obtain⟨u,rfl,rx⟩:=vals1 r
  cases (show u=U2r from rx)
  exact PySem.P.repr_of_none ⟨.str "None",H,I.tok _,⟨_,rfl⟩,q⟩
 |bl b =>
  obtain⟨u,rfl,rx⟩:=vals1 r
  cases (show u=U4w b from rx)
  exact PySem.P.repr_of_bool ⟨.str (if b then "True" else "False"),H,I.tok _,⟨_,rfl⟩,q⟩
 |int i =>
  obtain⟨u,rfl,rx⟩:=vals1 r
  obtain⟨t,rfl⟩:=rx
  exact PySem.P.repr_of_int (by simpa [U6p] using h1) ⟨.str (toString i),H,I.tok _,⟨_,rfl⟩,q⟩
 |str x =>
  obtain⟨u,rfl,rx⟩:=vals1 r
  obtain⟨t,rfl⟩:=rx
  exact PySem.P.repr_of_str ⟨.str (reprText x),H,I.tok _,⟨_,rfl⟩,q⟩ h3
end
section
variable{a:Addr}{H0:Hp}{σ:St}{te t1 t2:TE}{ta:TA}{d:PyData}{ds d1 d2:List PyData}{i j:Int}{K:U0a}
end
structure Wq(a q:Addr)(bs:List V)(H:Hp):Prop where
 w:Well H a
 at_:H q=some (.lst bs)
 ne:q≠a
section
variable{a q p:Addr}{bs:List V}{H H':Hp}
abbrev mq:R2:=fun x y H Q=>∃(a b:Addr)(xs ys:List V),x=.ref a/\y=.ref b/\H a=some (.tup xs)/\H b=some (.tup ys)/\xs.length+ys.length<=sizeLine/\∀p H',Same H H'->H' p=some (.tup (xs++ys))->Q (.ref p) H'
abbrev tG:V->Option Int->Option Int->Hp->VK->Prop:=fun x lo hi H Q=>∃(a:Addr)(xs:List V),x=.ref a/\H a=some (.tup xs)/\∀p H',Same H H'->H' p=some (.tup (Kr xs lo hi))->Q (.ref p) H'
end
end L2
end
section
namespace L2
open PySem PySem.Spec PyProof.Rows
end L2
namespace Bc
open PySem PySem.Spec PyProof.Rows L2
def vC:PyData->Nat
 |.int 1=>20
 |.int 2=>10
 |.int 3=>6
 |_=>0
def zR(n:Nat):PyData->Bool
 |.tuple es=>decide (es.length=n)&&es.all bx
 |_=>false
end Bc
end
section
namespace L2
open PySem PySem.Spec PyProof.Rows
theorem Inv.Vm{X:Cx}{pins:List (Addr×Obj)}{σ:St}{H:Hp}{s:Shared}{h':Heap}{t':Nat}{fp:List Addr}(I:Inv X pins σ H s)(k:∀b o,b ∉ fp->s.heap.get? b=some o->h'.get? b=some o)(hf:∀b∈fp,Pz X pins H b) :
  Inv X pins σ H { s with heap:=h',toks:=t' }:=by
 have nit:∀b u,H b=some u->b ∉ fp:=fun b u e z=>by
  have:=(hf b z).1
  rw[this] at e
  cases e
 refine I.step (g':=s.gens) (d':=s.drawn) (ch:=fp) (fun b hb=>?_) (fun b o _ _ hc e _=>k b o hc e) (fun b o _ _ hc e _=>⟨o.slots,k b o hc e⟩) (fun _ _ _ _ n=>n) (fun b o hc e=>⟨o,k b o hc e⟩) (fun _ _ e=>e) (fun _ _ _ e=>e)
  (fun b ps e=>⟨#[],by rw[e];simp⟩) (fun m hm=>?_) (fun b u e=>?_) I.bare id
 .obtain⟨_,a2,_,a4,a5,a6⟩:=hf b hb
  exact⟨a4,a2,a5,a6⟩
 .obtain⟨o,es,ep,ho,r⟩:=hm
  exact⟨o,es,ep,k _ o (fun z=>(hf _ z).2.1 rfl) ho,r⟩
 .refine(I.hok b u e).stay (fun c v hc q=>k c v ?_ q) (fun _ q=>q) fun _ _ q=>q
  rcases hc with z|z
  .rw[z];exact nit b u e
  .exact nit c _ z
theorem Inv.n6{X:Cx}{pins:List (Addr×Obj)}{σ:St}{H:Hp}{s:Shared}{h':Heap}{t':Nat}{fp:List Addr}{x y:V}{u v:Value}(I:Inv X pins σ H s)(rx:RelV x u)(ry:RelV y v)
  (ht:h'.get? s.heap.objs.size=some { cls:=.type "tuple",data:=.seq #[u,v] }) (k:∀b o,b ∉ fp->s.heap.get? b=some o->h'.get? b=some o) (hf:∀b∈fp,Pz X pins H b) (hlt:∀b∈fp,b<s.heap.objs.size) :
  Inv X pins σ (upd H s.heap.objs.size (.tup [x,y])) { s with heap:=h',toks:=t' }:=by
 have I1:=I.laid (h':=s.heap.push { cls:=.type "tuple",data:=.seq #[u,v] }) (t':=s.toks) (a:=s.heap.objs.size) (o:=.tup [x,y]) (fun b ob q=>U0c _ q) (U0o _)
  ⟨(by decide:2<=sizeLine),[u,v],.cons rx (.cons ry .nil),U62 _ _⟩
 refine Inv.Vm (s:={ s with heap:=s.heap.push { cls:=.type "tuple",data:=.seq #[u,v] } }) (h':=h') (t':=t') (fp:=fp) I1 (fun b o hb e=>?_) (fun b hb=>?_)
 .rcases Heap.get?_push_cases e with ⟨z1,z2⟩|z
  .rw[z1,z2]
   exact ht
  .exact k b o hb z
 .obtain⟨a1,a2,a3,a4,a5,a6⟩:=hf b hb
  exact⟨by rw[Bu (U0z (hlt b hb))];exact a1,a2,a3,a4,a5,a6⟩
def Ite(K:U0a)(a:Addr):It :=
 ⟨fun i H=>∃xs x,SqL K H a xs/\xs[i]?=some x,fun i H v H'=>∃p x,H p=none/\v=.ref p/\H'=upd H p (.tup [.int i,x])/\∀xs,SqL K H a xs->xs[i]?=some x,fun i H=>∃xs,SqL K H a xs/\xs.length<=i⟩
theorem fU{P:Program}{w:World}{K:U0a}{elts:List Expr}{x1:Nat}{pos:Pos}(a e it:Addr)(hne:e≠it) :
  Turn P w K (.Tuple elts x1 pos) (Ite K a) [e,it] e (fun i h=>(∃old,IsEnum h e it (i:Nat) old)/\h.IsListIter it a i) where
 mem:=by simp
 obj:=fun i h st b hb=>by
  obtain⟨⟨old,he⟩,o,e1,c,d⟩:=st
  simp only[U0q,U1f,or_false] at hb
  rcases hb with rfl|rfl
  .exact⟨_,he,fun v z=>by cases z⟩
  .exact⟨o,e1,fun v z=>by rw[d] at z;cases z⟩
 keep:=fun i h h' st k=>by
  obtain⟨⟨old,he⟩,hit⟩:=st
  exact⟨⟨old,k e (by simp) _ he⟩,hit.at fun o q=>k it (by simp) o q⟩
 item:=by
  intro X hP hw hK hc i pins s σ H E I hf st hg
  subst hP hw hK
  obtain⟨xs,x,hq,hx⟩:=hg
  obtain⟨its,rv,p,hz⟩:=I.list hq
  obtain⟨u,hu,ru⟩:=rv.get hx
  obtain⟨⟨old,he⟩,hit⟩:=st
  have lt1:e<s.heap.objs.size:=U0p he
  have lt2:it<s.heap.objs.size:=by obtain⟨o,q,_⟩:=hit;exact U0p q
  refine wpAny_pyNext_enum_item he hit p.isList (x:=u) (by simpa using hu) hne fun h' eo it' tp sz k=>⟨_,rfl,?_⟩
  refine wpAny_letOwnedTupleGo_enum eo fun h2 e2 sb=>?_
  have ne2:s.heap.objs.size≠e:=U1x lt1
  have J:=I.n6 (h':=h2) (t':=s.toks+1) (fp:=[e,it]) (x:=.int i) (y:=x) (u:=.int i s.toks) (v:=u) ⟨_,rfl⟩ ru (sb.extBut _ _ ne2 tp) (fun b o hb q=>by
   simp only[U0q,U1f,or_false,not_or] at hb
   exact sb.extBut _ _ hb.1 (k b o hb.1 hb.2 q)) hf (fun b hb=>by
   simp only[U0q,U1f,or_false] at hb
   rcases hb with rfl|rfl
   .exact lt1
   .exact lt2)
  refine⟨.ref s.heap.objs.size,_,J,rfl,⟨_,x,I.hok.fresh (U0o _),rfl,rfl,fun ys hy=>by rw[I.Yc hy hq];exact hx⟩,⟨⟨u,e2⟩,it'.at fun o q=>sb.extBut _ _ (U1w hne) q⟩,fun b hb=>?_⟩
  rw[Bu]
  .exact(hf b hb).1
  .simp only[U0q,U1f,or_false] at hb
   rcases hb with rfl|rfl
   .exact U0z lt1
   .exact U0z lt2
 done:=by
  intro X hP hw hK hc i pins s σ H E I hf st hg
  subst hP hw hK
  obtain⟨xs,hq,hx⟩:=hg
  obtain⟨its,rv,p,hz⟩:=I.list hq
  obtain⟨⟨old,he⟩,hit⟩:=st
  have hl:=rv.length
  exact wpAny_pyNext_enum_end (I.ok.hd hc) he hit p.isList (by simp;omega) fun h' eb=>⟨rfl,I.Vm (t':=s.toks) (fp:=[e,it]) (fun b o hb q=>eb b o (fun z=>hb (by simp[z])) q) hf⟩
 self:=fun _ _ _ _ _ st h=>by
  obtain⟨⟨old,he⟩,_⟩:=st
  exact wpAny_pyIter_enum he h
abbrev yN(K:U0a)(ta:TA):TI:=fun σ H R=>ta σ H fun vs H1=>∃a,vs=[.ref a]/\(∃xs,SqL K H1 a xs)/\R (Ite K a) H1
section
variable{X:Cx}
theorem pH{a:Expr}{ta:TA}{p pos:Pos}{elts:List Expr}{x1:Nat}{tpos:Pos}(hg:Gl X "enumerate")(hm:X.mg "enumerate"=none)(ha:PA X [a] ta)(hs:starEach [a] X.env=[(false,eval a X.env)]:=by rfl) :
  PI X (.Tuple elts x1 tpos) (.Call (.Name "enumerate" p) [a] [] pos) (yN X.K ta):=by
 intro pins s σ H R I h
 refine Call_ (LQ I hg hm (by decide +kernel:bootBuiltins "enumerate"=some (.type "enumerate")) (U2v (thn (ha pos pins s σ H _ I h) fun us s1 ⟨vs,H1,I1,r1,q1⟩=>?_) hs rfl))
 obtain⟨l,e,⟨xs,hq⟩,q⟩:=q1
 subst e
 cases r1 with
 |cons r rr =>
  cases rr
  cases r
  obtain⟨its,rv,pl,hz⟩:=I1.list hq
  refine call_enumerate_list pl.isList fun h' e1 i1 sz k=>?_
  refine wpAny_pyIter_enum e1 ?_
  refine⟨s1.heap.objs.size+1,[s1.heap.objs.size+1,s1.heap.objs.size],_,_,H1,rfl,I1.kept (t':=s1.toks) k,fU l _ _ (Nat.succ_ne_self _),⟨⟨_,e1⟩,i1⟩,fun b hb=>?_,q⟩
  have hb':s1.heap.objs.size<=b:=by
   simp only[U0q,U1f,or_false] at hb
   rcases hb with rfl|rfl<;>omega
  exact I1.Vf hb' (I1.hok.fresh hb')
end
end L2
end
section
set_option maxRecDepth 100000
namespace HT
open PySem PySem.Spec PyProof.Rows
section
variable{prog:Program}{w:World}{A:Around}{E:Value->Shared->Prop}{s:Shared}
theorem nextT{it t:Addr}{i:Nat}{ws:Array Value}{x:Value}{Q:Value->Shared->Prop}(c:s.heap.IsTupleIter it t i)(ct:s.heap.IsTuple t ws)(ex:ws[i]?=some x)
  (q:∀h',h'.IsTupleIter it t (i+1)->U07 it s.heap h'->Q x { s with heap:=h' }):wpAny (model prog w) A (U1j (.ref it)) Q E s:=by
 obtain⟨o,e0,e1,e2⟩:=id c
 obtain⟨ot,f0,_,nt,f1⟩:=ct
 unfold U1j
 refine U0 (wpAny_callSpecial?_slot (name:=U3e "__next__") c.typeIs U3q (U2l U3q c.typeIs PySem.F.entry_tuple_iterator_next ?_ (PySem.F.args_tuple_iterator_next_1 _)))
 refine(show wpAny _ _ (field (.ref it) 0 >>= _) _ _ s from U0 (U2h e0 e2 (x:=.ref t) rfl ?_))
 show wpAny _ _ (ite ((U2o t==U2r)=true) _ _) _ _ s
 rw[if_neg (by exact U1d)]
 refine(show wpAny _ _ (field (.ref it) 1 >>= _) _ _ s from U0 (U2h e0 e2 (x:=.int i 0) rfl ?_))
 refine(show wpAny _ _ (seqItems? (.ref t) >>= _) _ _ s from U0 (U2z f0 f1 ?_))
 simp only[ex,U3c]
 refine U0 (U3a e0 e2 (by simp) (U0f ⟨x,rfl,U0f (q _ ⟨_,U2i _ e0 (Obj.isFreed_of_fields (Obj.data_mapFields e2 _)),(Obj.cls_mapFields ..).trans e1,?_⟩ (U12 ..))⟩))
 rw[Obj.data_mapFields e2]
 simp[rawInt]
theorem vA{it t:Addr}{i:Nat}{ws:Array Value}{Q:Value->Shared->Prop}(ha:A.handled=none)(c:s.heap.IsTupleIter it t i)(ct:s.heap.IsTuple t ws)(ex:ws[i]?=none)
  (q:∀h' e,U5g it s.heap h'->(∃o,h'.get? e=some o/\o.cls=.type "StopIteration")->E (.ref e) { s with heap:=h' }):wpAny (model prog w) A (U1j (.ref it)) Q E s:=by
 obtain⟨o,e0,e1,e2⟩:=id c
 obtain⟨ot,f0,_,nt,f1⟩:=ct
 unfold U1j
 refine U0 (wpAny_callSpecial?_slot (name:=U3e "__next__") c.typeIs U3q (U2l U3q c.typeIs PySem.F.entry_tuple_iterator_next ?_ (PySem.F.args_tuple_iterator_next_1 _)))
 refine(show wpAny _ _ (field (.ref it) 0 >>= _) _ _ s from U0 (U2h e0 e2 (x:=.ref t) rfl ?_))
 show wpAny _ _ (ite ((U2o t==U2r)=true) _ _) _ _ s
 rw[if_neg (by exact U1d)]
 refine(show wpAny _ _ (field (.ref it) 1 >>= _) _ _ s from U0 (U2h e0 e2 (x:=.int i 0) rfl ?_))
 refine(show wpAny _ _ (seqItems? (.ref t) >>= _) _ _ s from U0 (U2z f0 f1 ?_))
 simp only[ex,U3c]
 refine U0 (U4x (U0 (U3a e0 e2 (by simp) (show wpAny _ _ (newExc (.type "StopIteration") [] >>= _) _ _ _ from U0 ?_))))
 simp only[newTuple,newExc]
 refine U0 (U2f (U0 (m:=firstArgMember _ _) (wpAny_of_eq (a:=U2r) (by first|rfl|(simp only[firstArgMember];rfl)) (U2f ?_ (by size_fits)))) (by size_fits))
 simp only[raiseNew]
 refine U0 (wpAny_handled ?_)
 rw[show A.in1.handled=none from ha]
 exact U0 (U0f (wpAny_throw (q _ _ (((U12 ..).extBut.push _).push _) ⟨_,U0w _ rfl,rfl⟩)))
theorem vp(ha:A.handled=none)(it t:Addr)(ne:t≠it)(ws:Array Value):Draws prog w A it [it,t] ws.size (fun i v=>ws[i]?=some v) (fun i h=>h.IsTupleIter it t i/\h.IsTuple t ws) where
 live:=fun _ _ st=>let ⟨o,e,_⟩:=st.1;⟨o,e⟩
 frame:=fun _ _ _ st k=>⟨st.1.at fun o e=>k it (by simp) o e,st.2.at fun o e=>k t (by simp) o e⟩
 item:=fun i s Q E hi st q=>nextT st.1 st.2 (x:=ws[i]) (by simp[hi]) fun h' c' sb=>q _ h' s.toks (by simp[hi]) ⟨c',st.2.extBut sb.extBut ne⟩ sb
 done:=fun s Q E st q=>vA ha st.1 st.2 (by simp) q
structure Apart(z TI TO i1 i2:Addr)(fp1 fp2:List Addr):Prop where
 a1:TI≠z
 a2:TO≠z
 a3:TI≠TO
 b1:∀b∈fp1,b≠z/\b≠TO/\b≠i2
 b2:∀b∈fp2,b≠z/\b≠TO/\b≠i1
 c1:i1≠z/\i1≠TO/\i1≠TI
 c2:i2≠z/\i2≠TO/\i2≠TI
 c3:i1≠i2
section
variable{z TI TO i1 i2:Addr}{fp1 fp2:List Addr}{n1 n2 k:Nat}{P1 P2:Nat->Value->Prop}{S1 S2:Nat->Heap->Prop}{a b:Value}
theorem yq{Q:Value->Shared->Prop}(D1:Draws prog w A i1 fp1 n1 P1 S1)(D2:Draws prog w A i2 fp2 n2 P2 S2)(D:Apart z TI TO i1 i2 fp1 fp2)(hZ:IsZip s.heap z TI TO .none)(hI:IsPair s.heap TI (.ref i1) (.ref i2))(hO:IsPair s.heap TO a b)
  (s1:S1 k s.heap) (s2:S2 k s.heap) (k1:k<n1) (k2:k<n2)
  (q:∀x y h' tk,P1 k x->P2 k y->IsZip h' z TI TO (rawInt s.heap.objs.size)->IsPair h' TO x y->S1 (k+1) h'->S2 (k+1) h'->IsPair h' s.heap.objs.size x y->h'.objs.size=s.heap.objs.size+1 ->
   (∀c o,c≠z->c≠TO->c≠i1->c≠i2->s.heap.get? c=some o->h'.get? c=some o)->Q (.ref s.heap.objs.size) { s with heap:=h',toks:=tk }) :
  wpAny (model prog w) A (Builtin.«zip.__next__» ⟨[.ref z],[]⟩) (fun fin s'=>∃v,fin=.done (.ret v)/\Q v s') E s:=by
 obtain⟨hp,g,d,tk0,os⟩:=s
 refine(show wpAny _ _ (field (.ref z) 2 >>= _) _ _ _ from U0 (U2h hZ rfl (x:=.bool false) rfl ?_))
 refine(show wpAny _ _ (field (.ref z) 3 >>= _) _ _ _ from U0 (U2h hZ rfl (x:=.ref TI) rfl (U0 (U2z hI rfl ?_))))
 refine(show wpAny _ _ (U13 (.ref z) >>= _) _ _ _ from U0 ?_)
 unfold U13
 refine U0 (U2h hZ rfl (x:=.none) rfl (U0f ?_))
 simp only[if_true]
 refine U0 (U4x (U0 (U2h hZ rfl (x:=.ref TO) rfl (U0 (U3t hZ (by simp) fun g1 z1 m1=>?_)))))
 replace z1:IsZip g1 z TI TO .ellipsis:=z1
 replace m1:U07 z hp g1:=m1
 refine U0 ?_
 simp only[U6h,List.zipIdx_nil,U37,U53]
 have t1:S1 k g1:=D1.frame _ _ _ s1 fun c hc o e=>m1.extBut _ _ (D.b1 c hc).1 e
 have u1:S2 k g1:=D2.frame _ _ _ s2 fun c hc o e=>m1.extBut _ _ (D.b2 c hc).1 e
 refine U0 (U0 (U6e (show wpAny _ _ (U1j (.ref i1) >>= _) _ _ _ from U0 (D1.item k ⟨g1,g,d,tk0,os⟩ _ _ k1 t1 fun x g2 tk1 px t2 m2=>U0f ?_))))
 replace m2:U07 i1 g1 g2:=m2
 have o2:IsPair g2 TO a b:=m2.extBut _ _ (U1w D.c1.2.1) (m1.extBut _ _ D.a2 hO)
 refine U0 (U2z o2 rfl (U0 (U6q o2 fun g3 o3 m3=>?_)))
 replace o3:IsPair g3 TO x b:=o3
 replace m3:U07 TO g2 g3:=m3
 have u3:S2 k g3:=D2.frame _ _ _ u1 fun c hc o e=>m3.extBut _ _ (D.b2 c hc).2.1 (m2.extBut _ _ (D.b2 c hc).2.2 e)
 refine U0 (U7s (U0f ?_))
 refine U0 (U0 (U6e (show wpAny _ _ (U1j (.ref i2) >>= _) _ _ _ from U0 (D2.item k ⟨g3,g,d,tk1,os⟩ _ _ k2 u3 fun y g4 tk2 py u4 m4=>U0f ?_))))
 replace m4:U07 i2 g3 g4:=m4
 have o4:IsPair g4 TO x b:=m4.extBut _ _ (U1w D.c2.2.1) o3
 refine U0 (U2z o4 rfl (U0 (U6q o4 fun g5 o5 m5=>?_)))
 replace o5:IsPair g5 TO x y:=o5
 replace m5:U07 TO g4 g5:=m5
 refine U0 (U7s (U0f (U0f (U0 (U2z o5 rfl (U0 (wpAny_newTuple ?_)))))))
 have sz:g5.objs.size=hp.objs.size:=by rw[m5.1,m4.1,m3.1,m2.1,m1.1]
 have z5:IsZip g5 z TI TO .ellipsis:=m5.extBut _ _ (U1w D.a2) (m4.extBut _ _ (U1w D.c2.1) (m3.extBut _ _ (U1w D.a2) (m2.extBut _ _ (U1w D.c1.1) z1)))
 have kk:∀c o,c≠z->c≠TO->c≠i1->c≠i2->hp.get? c=some o->g5.get? c=some o:=fun c o n1 n2 n3 n4 e=>m5.extBut _ _ n2 (m4.extBut _ _ n4 (m3.extBut _ _ n2 (m2.extBut _ _ n3 (m1.extBut _ _ n1 e))))
 have lz:z<g5.objs.size:=U0p z5
 refine(show wpAny _ _ (Builtin.SmallTypes.ownedTupleHandOut (.ref z) (.ref g5.objs.size) >>= _) _ _ _ from U0 ?_)
 unfold Builtin.SmallTypes.ownedTupleHandOut
 have z6:IsZip (g5.push { cls:=.type "tuple",data:=.seq #[x,y] }) z TI TO .ellipsis:=U0c _ z5
 refine U0 (U3t z6 (by simp) fun g7 z7 m7=>?_)
 replace z7:IsZip g7 z TI TO (rawInt g5.objs.size):=z7
 refine U3t z7 (by simp) fun g8 z8 m8=>?_
 replace z8:IsZip g8 z TI TO (rawInt g5.objs.size):=z8
 have up:∀c o,c≠z->g5.get? c=some o->g8.get? c=some o:=fun c o n e=>m8.extBut _ _ n (m7.extBut _ _ n (U0c _ e))
 have p8:IsPair g8 g5.objs.size x y:=m8.extBut _ _ (U1x lz) (m7.extBut _ _ (U1x lz) (U0w _ rfl))
 have w8:g8.objs.size=g5.objs.size+1:=by rw[m8.1,m7.1,U2m]
 rw[sz] at z8 p8 w8
 refine U0f ⟨_,rfl,?_⟩
 show Q (.ref g5.objs.size) _
 rw[sz]
 refine q x y g8 tk2 px py z8 (up _ _ D.a2 o5) ?_ ?_ p8 w8 fun c o n1 n2 n3 n4 e=>up c o n1 (kk c o n1 n2 n3 n4 e)
 .exact D1.frame _ _ _ t2 fun c hc o e=>up _ _ (D.b1 c hc).1 (m5.extBut _ _ (D.b1 c hc).2.1 (m4.extBut _ _ (D.b1 c hc).2.2 (m3.extBut _ _ (D.b1 c hc).2.1 e)))
 .exact D2.frame _ _ _ u4 fun c hc o e=>up _ _ (D.b2 c hc).1 (m5.extBut _ _ (D.b2 c hc).2.1 e)
theorem yr{Q:PySem.Fin->Shared->Prop}(D1:Draws prog w A i1 fp1 n1 P1 S1)(D2:Draws prog w A i2 fp2 n2 P2 S2)(D:Apart z TI TO i1 i2 fp1 fp2)(hZ:IsZip s.heap z TI TO .none)(hI:IsPair s.heap TI (.ref i1) (.ref i2))(hO:IsPair s.heap TO a b)
  (s1:S1 k s.heap) (s2:S2 k s.heap) (ke:k=n1∨(k<n1/\k=n2))
  (q:∀h' e tk,(∀c o,c≠z->c≠TO->c≠i1->c≠i2->s.heap.get? c=some o->h'.get? c=some o)->(∃o,h'.get? e=some o/\o.cls=.type "StopIteration")->E (.ref e) { s with heap:=h',toks:=tk }) :
  wpAny (model prog w) A (Builtin.«zip.__next__» ⟨[.ref z],[]⟩) Q E s:=by
 obtain⟨hp,g,d,tk0,os⟩:=s
 refine(show wpAny _ _ (field (.ref z) 2 >>= _) _ _ _ from U0 (U2h hZ rfl (x:=.bool false) rfl ?_))
 refine(show wpAny _ _ (field (.ref z) 3 >>= _) _ _ _ from U0 (U2h hZ rfl (x:=.ref TI) rfl (U0 (U2z hI rfl ?_))))
 refine(show wpAny _ _ (U13 (.ref z) >>= _) _ _ _ from U0 ?_)
 unfold U13
 refine U0 (U2h hZ rfl (x:=.none) rfl (U0f ?_))
 simp only[if_true]
 refine U0 (U4x (U0 (U2h hZ rfl (x:=.ref TO) rfl (U0 (U3t hZ (by simp) fun g1 z1 m1=>?_)))))
 replace z1:IsZip g1 z TI TO .ellipsis:=z1
 replace m1:U07 z hp g1:=m1
 refine U0 ?_
 simp only[U6h,List.zipIdx_nil,U37,U53]
 have t1:S1 k g1:=D1.frame _ _ _ s1 fun c hc o e=>m1.extBut _ _ (D.b1 c hc).1 e
 have u1:S2 k g1:=D2.frame _ _ _ s2 fun c hc o e=>m1.extBut _ _ (D.b2 c hc).1 e
 rcases ke with ke|⟨k1,ke⟩
 .subst ke
  refine U0 (U0 (U6e (show wpAny _ _ (U1j (.ref i1) >>= _) _ _ _ from U0 (D1.done ⟨g1,g,d,tk0,os⟩ _ _ t1 fun g2 e m2 he=>?_))))
  obtain⟨oe,he1,he2⟩:=he
  replace m2:U5g i1 g1 g2:=m2
  have z2:IsZip g2 z TI TO .ellipsis:=m2 _ _ (U1w D.c1.1) z1
  have ez:e≠z:=fun x=>by subst x;rw[z2] at he1;cases he1;simp at he2
  exact U3t z2 (by simp) fun g3 _ m3=>q g3 e _ (fun c o n1 _ n3 _ x=>m3.extBut _ _ n1 (m2 _ _ n3 (m1.extBut _ _ n1 x))) ⟨oe,m3.extBut _ _ ez he1,he2⟩
 .refine U0 (U0 (U6e (show wpAny _ _ (U1j (.ref i1) >>= _) _ _ _ from U0 (D1.item k ⟨g1,g,d,tk0,os⟩ _ _ k1 t1 fun x g2 tk1 px t2 m2=>U0f ?_))))
  replace m2:U07 i1 g1 g2:=m2
  have o2:IsPair g2 TO a b:=m2.extBut _ _ (U1w D.c1.2.1) (m1.extBut _ _ D.a2 hO)
  refine U0 (U2z o2 rfl (U0 (U6q o2 fun g3 o3 m3=>?_)))
  replace m3:U07 TO g2 g3:=m3
  have u3:S2 k g3:=D2.frame _ _ _ u1 fun c hc o e=>m3.extBut _ _ (D.b2 c hc).2.1 (m2.extBut _ _ (D.b2 c hc).2.2 e)
  rw[ke] at u3
  refine U0 (U7s (U0f ?_))
  refine U0 (U0 (U6e (show wpAny _ _ (U1j (.ref i2) >>= _) _ _ _ from U0 (D2.done ⟨g3,g,d,tk1,os⟩ _ _ u3 fun g4 e m4 he=>?_))))
  obtain⟨oe,he1,he2⟩:=he
  replace m4:U5g i2 g3 g4:=m4
  have z4:IsZip g4 z TI TO .ellipsis:=m4 _ _ (U1w D.c2.1) (m3.extBut _ _ (U1w D.a2) (m2.extBut _ _ (U1w D.c1.1) z1))
  have ez:e≠z:=fun x=>by subst x;rw[z4] at he1;cases he1;simp at he2
  exact U3t z4 (by simp) fun g5 _ m5=>q g5 e _ (fun c o n1 n2 n3 n4 x=>m5.extBut _ _ n1 (m4 _ _ n4 (m3.extBut _ _ n2 (m2.extBut _ _ n3 (m1.extBut _ _ n1 x))))) ⟨oe,m5.extBut _ _ ez he1,he2⟩
theorem aH{Q:Option Value->Shared->Prop}(D1:Draws prog w A.in1 i1 fp1 n1 P1 S1)(D2:Draws prog w A.in1 i2 fp2 n2 P2 S2)(D:Apart z TI TO i1 i2 fp1 fp2)(hZ:IsZip s.heap z TI TO .none)(hI:IsPair s.heap TI (.ref i1) (.ref i2))(hO:IsPair s.heap TO a b)
  (s1:S1 k s.heap) (s2:S2 k s.heap) (k1:k<n1) (k2:k<n2)
  (q:∀x y h' tk,P1 k x->P2 k y->IsZip h' z TI TO (rawInt s.heap.objs.size)->IsPair h' TO x y->S1 (k+1) h'->S2 (k+1) h'->IsPair h' s.heap.objs.size x y->h'.objs.size=s.heap.objs.size+1 ->
   (∀c o,c≠z->c≠TO->c≠i1->c≠i2->s.heap.get? c=some o->h'.get? c=some o)->Q (some (.ref s.heap.objs.size)) { s with heap:=h',toks:=tk }) :
  wpAny (model prog w) A (pyNext (.ref z)) Q E s:=by
 have T:s.TypeIs (.ref z) "zip":=⟨_,hZ,rfl⟩
 unfold pyNext
 exact U0 (U5e (wpAny_callSpecial?_slot (name:=U3e "__next__") T U2x (U2l U2x T U46 (yq D1 D2 D hZ hI hO s1 s2 k1 k2 fun x y h' tk c1 c2 c3 c4 c5 c6 c7 c8 c9=>U0f (q x y h' tk c1 c2 c3 c4 c5 c6 c7 c8 c9)) (U4u _))))
theorem aG{Q:Option Value->Shared->Prop}(D1:Draws prog w A.in1 i1 fp1 n1 P1 S1)(D2:Draws prog w A.in1 i2 fp2 n2 P2 S2)(D:Apart z TI TO i1 i2 fp1 fp2)(hZ:IsZip s.heap z TI TO .none)(hI:IsPair s.heap TI (.ref i1) (.ref i2))(hO:IsPair s.heap TO a b)
  (s1:S1 k s.heap) (s2:S2 k s.heap) (ke:k=n1∨(k<n1/\k=n2))
  (q:∀h' tk,(∀c o,c≠z->c≠TO->c≠i1->c≠i2->s.heap.get? c=some o->h'.get? c=some o)->Q none { s with heap:=h',toks:=tk }):wpAny (model prog w) A (pyNext (.ref z)) Q E s:=by
 have T:s.TypeIs (.ref z) "zip":=⟨_,hZ,rfl⟩
 unfold pyNext
 refine U0 (U5e (wpAny_callSpecial?_slot (name:=U3e "__next__") T U2x (U2l U2x T U46 (yr D1 D2 D hZ hI hO s1 s2 ke fun h' e tk kk he=>?_) (U4u _))))
 obtain⟨o,e1,e2⟩:=he
 exact U0 (U5a (T:="StopIteration") (b:=true) ⟨o,e1,e2⟩ isSubtype_stop (U0f (q h' tk kk)))
end
abbrev itO(c:String)(l:Addr):Obj:={ cls:=.type c,data:=.fields #[.ref l,.int 0 0] }
abbrev zt1(c1:String)(h:Heap)(l1:Addr):Heap:=h.push (itO c1 l1)
abbrev zt2(c1 c2:String)(h:Heap)(l1 l2:Addr):Heap:=(zt1 c1 h l1).push (itO c2 l2)
abbrev zt3(c1 c2:String)(h:Heap)(l1 l2:Addr):Heap:=(zt2 c1 c2 h l1 l2).push { cls:=.type "tuple",data:=.seq #[.ref h.objs.size,.ref (zt1 c1 h l1).objs.size] }
abbrev zt4(c1 c2:String)(h:Heap)(l1 l2:Addr):Heap:=(zt3 c1 c2 h l1 l2).push { cls:=.type "tuple",data:=.seq #[.none,.none] }
abbrev zt5(c1 c2:String)(h:Heap)(l1 l2:Addr):Heap:=(zt4 c1 c2 h l1 l2).push { cls:=.type "zip",data:=.fields #[.none,.bool false,.bool false,.ref (zt2 c1 c2 h l1 l2).objs.size,.ref (zt3 c1 c2 h l1 l2).objs.size] }
theorem nP(l1 l2:Addr)(xs ys:Array Value):Meets (Builtin.«zip.__new__» ⟨[.type "zip",.ref l1,.ref l2],[]⟩) (fun _ R s=>s.heap.IsTuple l1 xs/\s.heap.IsTuple l2 ys/\R (.ok (.ret (.ref (zt4 "tuple_iterator" "tuple_iterator" s.heap l1 l2).objs.size))) { s with heap:=zt5 "tuple_iterator" "tuple_iterator" s.heap l1 l2 }) :=
 .of_wp fun prog w A R s h=>by
  obtain⟨hp,g,d,tk,os⟩:=s
  obtain⟨e1,e2,h⟩:=h
  have sub:=sub_zip
  have T1:U5w (U60 ⟨hp,g,d,tk,os⟩) l1 xs:=e1
  have T2:U5w (U60 ⟨hp.push { cls:=.type "tuple_iterator",data:=.fields #[.ref l1,.int 0 0] },g,d,tk,os⟩) l2 ys:=U5w.push e2 _
  wp_walk using U5x T1,U5x T2
  exact⟨_,rfl,h⟩
theorem nQ(l1 l2:Addr)(xs ys:Array Value):Meets (Builtin.«zip.__new__» ⟨[.type "zip",.ref l1,.ref l2],[]⟩) (fun _ R s=>s.heap.IsList l1 xs/\s.heap.IsTuple l2 ys/\R (.ok (.ret (.ref (zt4 "list_iterator" "tuple_iterator" s.heap l1 l2).objs.size))) { s with heap:=zt5 "list_iterator" "tuple_iterator" s.heap l1 l2 }) :=
 .of_wp fun prog w A R s h=>by
  obtain⟨hp,g,d,tk,os⟩:=s
  obtain⟨e1,e2,h⟩:=h
  have sub:=sub_zip
  have T1:Heap.IsList (U60 ⟨hp,g,d,tk,os⟩) l1 xs:=e1
  have T2:U5w (U60 ⟨hp.push { cls:=.type "list_iterator",data:=.fields #[.ref l1,.int 0 0] },g,d,tk,os⟩) l2 ys:=U5w.push e2 _
  wp_walk using U58 T1,U5x T2
  exact⟨_,rfl,h⟩
theorem Z4{c1 c2:String}{l1 l2:Addr}{P1 P2:Heap->Prop}{Q:Value->Shared->Prop}(m:Meets (Builtin.«zip.__new__» ⟨[.type "zip",.ref l1,.ref l2],[]⟩) (fun _ R s=>P1 s.heap/\P2 s.heap/\R (.ok (.ret (.ref (zt4 c1 c2 s.heap l1 l2).objs.size))) { s with heap:=zt5 c1 c2 s.heap l1 l2 }))(e1:P1 s.heap)(e2:P2 s.heap)
  (q:∀h',IsZip h' (s.heap.objs.size+4) (s.heap.objs.size+2) (s.heap.objs.size+3) .none->IsPair h' (s.heap.objs.size+2) (.ref s.heap.objs.size) (.ref (s.heap.objs.size+1))->IsPair h' (s.heap.objs.size+3) .none .none ->
   h'.get? s.heap.objs.size=some (itO c1 l1)->h'.get? (s.heap.objs.size+1)=some (itO c2 l2)->(∀c o,s.heap.get? c=some o->h'.get? c=some o)->Q (.ref (s.heap.objs.size+4)) { s with heap:=h' }) :
  wpAny (model prog w) A (call (.type "zip") [.ref l1,.ref l2]) Q E s:=by
 refine callType_new PySem.F.called_zip (by decide) (PySem.F.typeCall_zip_2 _ _) (PySem.F.newCall_zip_2 _ _) (fun obj=>PySem.F.args_object_init_3 obj _ _) PySem.F.entry_zip_new m ⟨e1,e2,?_⟩
 have z1:(zt1 c1 s.heap l1).objs.size=s.heap.objs.size+1:=U2m ..
 have z2:(zt2 c1 c2 s.heap l1 l2).objs.size=s.heap.objs.size+2:=by rw[U2m,z1]
 have z3:(zt3 c1 c2 s.heap l1 l2).objs.size=s.heap.objs.size+3:=by rw[U2m,z2]
 have z4:(zt4 c1 c2 s.heap l1 l2).objs.size=s.heap.objs.size+4:=by rw[U2m,z3]
 have g5:(zt5 c1 c2 s.heap l1 l2).get? (zt4 c1 c2 s.heap l1 l2).objs.size=some _:=U0w _ rfl
 have g4:(zt5 c1 c2 s.heap l1 l2).get? (zt3 c1 c2 s.heap l1 l2).objs.size=some _:=U0c _ (U0w _ rfl)
 have g3:(zt5 c1 c2 s.heap l1 l2).get? (zt2 c1 c2 s.heap l1 l2).objs.size=some _:=U0c _ (U0c _ (U0w _ rfl))
 have g2:(zt5 c1 c2 s.heap l1 l2).get? (zt1 c1 s.heap l1).objs.size=some _:=U0c _ (U0c _ (U0c _ (U0w _ rfl)))
 have g1:(zt5 c1 c2 s.heap l1 l2).get? s.heap.objs.size=some _:=U0c _ (U0c _ (U0c _ (U0c _ (U0w _ rfl))))
 have kk:∀c o,s.heap.get? c=some o->(zt5 c1 c2 s.heap l1 l2).get? c=some o:=fun c o e=>U0c _ (U0c _ (U0c _ (U0c _ (U0c _ e))))
 show _/\_
 rw[z2,z3,z4] at g5
 rw[z1,z2] at g3
 rw[z3] at g4
 rw[z1] at g2
 have Z:IsZip (zt5 c1 c2 s.heap l1 l2) (s.heap.objs.size+4) (s.heap.objs.size+2) (s.heap.objs.size+3) .none:=g5
 rw[z4]
 exact⟨⟨_,Z,rfl⟩,q _ Z g3 g4 g1 g2 kk⟩
theorem Z2{l1 l2:Addr}{xs ys:Array Value}{Q:Value->Shared->Prop}(e1:s.heap.IsTuple l1 xs)(e2:s.heap.IsTuple l2 ys)
  (q:∀h',IsZip h' (s.heap.objs.size+4) (s.heap.objs.size+2) (s.heap.objs.size+3) .none->IsPair h' (s.heap.objs.size+2) (.ref s.heap.objs.size) (.ref (s.heap.objs.size+1))->IsPair h' (s.heap.objs.size+3) .none .none ->
   h'.IsTupleIter s.heap.objs.size l1 0->h'.IsTupleIter (s.heap.objs.size+1) l2 0->(∀c o,s.heap.get? c=some o->h'.get? c=some o)->Q (.ref (s.heap.objs.size+4)) { s with heap:=h' }) :
  wpAny (model prog w) A (call (.type "zip") [.ref l1,.ref l2]) Q E s :=
 Z4 (P1:=fun h=>h.IsTuple l1 xs) (P2:=fun h=>h.IsTuple l2 ys) (nP l1 l2 xs ys) e1 e2 fun h' c1 c2 c3 c4 c5 k=>q h' c1 c2 c3 ⟨_,c4,rfl,rfl⟩ ⟨_,c5,rfl,rfl⟩ k
theorem mK{l1 l2:Addr}{xs ys:Array Value}{Q:Value->Shared->Prop}(e1:s.heap.IsList l1 xs)(e2:s.heap.IsTuple l2 ys)
  (q:∀h',IsZip h' (s.heap.objs.size+4) (s.heap.objs.size+2) (s.heap.objs.size+3) .none->IsPair h' (s.heap.objs.size+2) (.ref s.heap.objs.size) (.ref (s.heap.objs.size+1))->IsPair h' (s.heap.objs.size+3) .none .none ->
   h'.IsListIter s.heap.objs.size l1 0->h'.IsTupleIter (s.heap.objs.size+1) l2 0->(∀c o,s.heap.get? c=some o->h'.get? c=some o)->Q (.ref (s.heap.objs.size+4)) { s with heap:=h' }) :
  wpAny (model prog w) A (call (.type "zip") [.ref l1,.ref l2]) Q E s :=
 Z4 (P1:=fun h=>h.IsList l1 xs) (P2:=fun h=>h.IsTuple l2 ys) (nQ l1 l2 xs ys) e1 e2 fun h' c1 c2 c3 c4 c5 k=>q h' c1 c2 c3 ⟨_,c4,rfl,rfl⟩ ⟨_,c5,rfl,rfl⟩ k
end
end HT
end
section
namespace L2
open PySem PySem.Spec PyProof.Rows
def HB(L:Bool)(xs:List V):HO:=if L=true then .lst xs else .tup xs
theorem HB.inj{L:Bool}{xs ys:List V}(h:HB L xs=HB L ys):xs=ys:=by cases L<;>cases h<;>rfl
def Itz(L M:Bool)(a b:Addr):It :=
 ⟨fun i H=>∃xs ys x y,H a=some (HB L xs)/\H b=some (HB M ys)/\xs[i]?=some x/\ys[i]?=some y,
  fun i H v H'=>∃p x y,H p=none/\v=.ref p/\H'=upd H p (.tup [x,y])/\(∀xs,H a=some (HB L xs)->xs[i]?=some x)/\∀ys,H b=some (HB M ys)->ys[i]?=some y,
  fun i H=>∃xs ys,H a=some (HB L xs)/\H b=some (HB M ys)/\(i=xs.length∨(i<xs.length/\i=ys.length))⟩
def K5(L:Bool)(h:Heap)(it a:Addr)(i:Nat):Prop:=if L=true then h.IsListIter it a i else h.IsTupleIter it a i
def bh(L:Bool)(h:Heap)(a:Addr)(ws:Array Value):Prop:=if L=true then h.IsList a ws else h.IsTuple a ws
theorem QH{prog:Program}{w:World}{A:Around}(L:Bool)(ha:A.handled=none)(it t:Addr)(ne:t≠it)(ws:Array Value):Draws prog w A it [it,t] ws.size (fun i v=>ws[i]?=some v) (fun i h=>K5 L h it t i/\bh L h t ws):=by
 cases L with
 |true=>exact Draws.list ha it t ne ws
 |false=>exact HT.vp ha it t ne ws
theorem K5.at{L:Bool}{h h':Heap}{it a:Addr}{i:Nat}(x:K5 L h it a i)(k:∀o,h.get? it=some o->h'.get? it=some o):K5 L h' it a i:=by
 cases L with
 |true=>exact Heap.IsListIter.at x k
 |false=>exact Heap.IsTupleIter.at x k
theorem K5.obj{L:Bool}{h:Heap}{it a:Addr}{i:Nat}(x:K5 L h it a i):∃o vs,h.get? it=some o/\o.data=.fields vs:=by
 cases L with
 |true=>obtain⟨o,e,_,d⟩:=(show h.IsListIter it a i from x);exact⟨o,_,e,d⟩
 |false=>obtain⟨o,e,_,d⟩:=(show h.IsTupleIter it a i from x);exact⟨o,_,e,d⟩
theorem Inv.Qw{X:Cx}{pins:List (Addr×Obj)}{σ:St}{H:Hp}{s:Shared}{L:Bool}{a:Addr}{xs:List V}(I:Inv X pins σ H s)(h:H a=some (HB L xs)):∃its:List Value,Vals xs its/\bh L s.heap a its.toArray:=by
 cases L with
 |true=>obtain⟨its,rv,p,_⟩:=I.list (SqL.of h);exact⟨its,rv,p.isList⟩
 |false=>obtain⟨its,rv,p,_⟩:=I.tuple (SqT.of h);exact⟨its,rv,p⟩
def yR(L M:Bool)(a b z TI TO i1 i2:Addr)(i:Nat)(h:Heap):Prop:=IsZip h z TI TO .none/\IsPair h TI (.ref i1) (.ref i2)/\(∃c d,IsPair h TO c d)/\K5 L h i1 a i/\K5 M h i2 b i
theorem Tv{z TI TO i1 i2 a b:Addr}(d1:TI≠z)(d2:TO≠z)(d3:TI≠TO)(d4:i1≠z/\i1≠TO/\i1≠TI)(d5:i2≠z/\i2≠TO/\i2≠TI)(d6:i1≠i2)(na:a ∉ [z,TI,TO,i1,i2])(nb:b ∉ [z,TI,TO,i1,i2]):HT.Apart z TI TO i1 i2 [i1,a] [i2,b] where
 a1:=d1
 a2:=d2
 a3:=d3
 b1:=fun c hc=>by
  simp only[U0q,U1f,or_false,not_or] at hc na
  rcases hc with rfl|rfl
  .exact⟨d4.1,d4.2.1,d6⟩
  .exact⟨na.1,na.2.2.1,na.2.2.2.2⟩
 b2:=fun c hc=>by
  simp only[U0q,U1f,or_false,not_or] at hc nb
  rcases hc with rfl|rfl
  .exact⟨d5.1,d5.2.1,U1w d6⟩
  .exact⟨nb.1,nb.2.2.1,nb.2.2.2.1⟩
 c1:=d4
 c2:=d5
 c3:=d6
theorem jU{P:Program}{w:World}{K:U0a}{elts:List Expr}{x1:Nat}{pos:Pos}(L M:Bool)(a b z TI TO i1 i2:Addr)(d1:TI≠z)(d2:TO≠z)(d3:TI≠TO)(d4:i1≠z/\i1≠TO/\i1≠TI)(d5:i2≠z/\i2≠TO/\i2≠TI)(d6:i1≠i2) :
  Turn P w K (.Tuple elts x1 pos) (Itz L M a b) [z,TI,TO,i1,i2] z (yR L M a b z TI TO i1 i2) where
 mem:=by simp
 obj:=fun i h st c hc=>by
  obtain⟨h1,h2,⟨c',d',h3⟩,h4,h5⟩:=st
  simp only[U0q,U1f,or_false] at hc
  rcases hc with rfl|rfl|rfl|rfl|rfl
  .exact⟨_,h1,fun v q=>by cases q⟩
  .exact⟨_,h2,fun v q=>by cases q⟩
  .exact⟨_,h3,fun v q=>by cases q⟩
  .obtain⟨o,vs,e,d⟩:=h4.obj
   exact⟨o,e,fun v q=>by rw[d] at q;cases q⟩
  .obtain⟨o,vs,e,d⟩:=h5.obj
   exact⟨o,e,fun v q=>by rw[d] at q;cases q⟩
 keep:=fun i h h' st k=>by
  obtain⟨h1,h2,⟨c',d',h3⟩,h4,h5⟩:=st
  exact⟨k z (by simp) _ h1,k TI (by simp) _ h2,⟨c',d',k TO (by simp) _ h3⟩,h4.at fun o q=>k i1 (by simp) o q,h5.at fun o q=>k i2 (by simp) o q⟩
 item:=by
  intro X hP hw hK hc i pins s σ H E I hf st hg
  subst hP hw hK
  obtain⟨xs,ys,x,y,hq1,hq2,hx,hy⟩:=hg
  obtain⟨its1,rv1,p1⟩:=I.Qw hq1
  obtain⟨its2,rv2,p2⟩:=I.Qw hq2
  obtain⟨u,hu,ru⟩:=rv1.get hx
  obtain⟨v,hv,rv⟩:=rv2.get hy
  obtain⟨h1,h2,⟨c',d',h3⟩,h4,h5⟩:=st
  have lt:∀c∈[z,TI,TO,i1,i2],c<s.heap.objs.size:=fun c hc=>by
   simp only[U0q,U1f,or_false] at hc
   rcases hc with rfl|rfl|rfl|rfl|rfl
   .exact U0p h1
   .exact U0p h2
   .exact U0p h3
   .obtain⟨o,vs,e,_⟩:=h4.obj;exact U0p e
   .obtain⟨o,vs,e,_⟩:=h5.obj;exact U0p e
  have na:a ∉ [z,TI,TO,i1,i2]:=fun q=>by rw[(hf a q).1] at hq1;cases hq1
  have nb:b ∉ [z,TI,TO,i1,i2]:=fun q=>by rw[(hf b q).1] at hq2;cases hq2
  have ap:=Tv d1 d2 d3 d4 d5 d6 na nb
  have hh:X.A.in1.handled=none:=I.ok.hd hc
  refine HT.aH (QH L hh i1 a (fun q=>na (by simp[q])) its1.toArray) (QH M hh i2 b (fun q=>nb (by simp[q])) its2.toArray) ap h1 h2 h3 ⟨h4,p1⟩ ⟨h5,p2⟩ (by rw[U0r];exact(U0l.mp hu).1) (by rw[U0r];exact(U0l.mp hv).1)
   fun x' y' h' tk q1 q2 z' o' s1' s2' tp sz k=>⟨_,rfl,?_⟩
  have q1':its1[i]?=some x':=by simpa using q1
  have q2':its2[i]?=some y':=by simpa using q2
  rw[hu] at q1'
  rw[hv] at q2'
  cases q1'
  cases q2'
  refine wpAny_letOwnedTupleGo_zip z' fun h3' z2 sb=>?_
  have sb':U07 z h' h3':=sb
  have nz:s.heap.objs.size≠z:=U1x (lt z (by simp))
  have J:=I.n6 (h':=h3') (t':=tk) (fp:=[z,TI,TO,i1,i2]) (x:=x) (y:=y) ru rv (sb'.extBut _ _ nz tp) (fun c o hc q=>by
   simp only[U0q,U1f,or_false,not_or] at hc
   exact sb'.extBut _ _ hc.1 (k c o hc.1 hc.2.2.1 hc.2.2.2.1 hc.2.2.2.2 q)) hf lt
  refine⟨.ref s.heap.objs.size,_,J,rfl,⟨_,x,y,I.hok.fresh (U0o _),rfl,rfl,fun zs hz=>?_,fun zs hz=>?_⟩,⟨z2,?_,⟨_,_,sb'.extBut _ _ d2 o'⟩,s1'.1.at fun o q=>sb'.extBut _ _ d4.1 q,s2'.1.at fun o q=>sb'.extBut _ _ d5.1 q⟩,fun c hc=>?_⟩
  .rw[hq1] at hz
   rw[←HB.inj (U09 hz)]
   exact hx
  .rw[hq2] at hz
   rw[←HB.inj (U09 hz)]
   exact hy
  .exact sb'.extBut _ _ d1 (k TI _ d1 d3 (U1w d4.2.2) (U1w d5.2.2) h2)
  .rw[Bu (U0z (lt c hc))]
   exact(hf c hc).1
 done:=by
  intro X hP hw hK hc i pins s σ H E I hf st hg
  subst hP hw hK
  obtain⟨xs,ys,hq1,hq2,ke⟩:=hg
  obtain⟨its1,rv1,p1⟩:=I.Qw hq1
  obtain⟨its2,rv2,p2⟩:=I.Qw hq2
  obtain⟨h1,h2,⟨c',d',h3⟩,h4,h5⟩:=st
  have na:a ∉ [z,TI,TO,i1,i2]:=fun q=>by rw[(hf a q).1] at hq1;cases hq1
  have nb:b ∉ [z,TI,TO,i1,i2]:=fun q=>by rw[(hf b q).1] at hq2;cases hq2
  have hh:X.A.in1.handled=none:=I.ok.hd hc
  refine HT.aG (QH L hh i1 a (fun q=>na (by simp[q])) its1.toArray) (QH M hh i2 b (fun q=>nb (by simp[q])) its2.toArray) (Tv d1 d2 d3 d4 d5 d6 na nb) h1 h2 h3 ⟨h4,p1⟩ ⟨h5,p2⟩ (by rw[U0r,U0r,←rv1.length,←rv2.length];exact ke)
   fun h' tk k=>⟨rfl,I.Vm (t':=tk) (fp:=[z,TI,TO,i1,i2]) (fun c o hc q=>?_) hf⟩
  simp only[U0q,U1f,or_false,not_or] at hc
  exact k c o hc.1 hc.2.2.1 hc.2.2.2.1 hc.2.2.2.2 q
 self:=fun _ _ _ _ _ st h=>wpAny_pyIter_zip st.1 h
abbrev zO(L M:Bool)(ta:TA):TI:=fun σ H R=>ta σ H fun vs H1=>∃a b xs ys,vs=[.ref a,.ref b]/\H1 a=some (HB L xs)/\H1 b=some (HB M ys)/\R (Itz L M a b) H1
section
variable{X:Cx}
theorem Xo(L M:Bool)(hLM:L=M∨(L=true/\M=false)){a b:Expr}{ta:TA}{p pos:Pos}{elts:List Expr}{x1:Nat}{tpos:Pos}(hg:Gl X "zip")(hm:X.mg "zip"=none)(ha:PA X [a,b] ta)(hs:starEach [a,b] X.env=[(false,eval a X.env),(false,eval b X.env)]:=by rfl)(hs2:starEach [b] X.env=[(false,eval b X.env)]:=by rfl) :
  PI X (.Tuple elts x1 tpos) (.Call (.Name "zip" p) [a,b] [] pos) (zO L M ta):=by
 intro pins s σ H R I h
 refine Call_ (LQ I hg hm (by decide +kernel:bootBuiltins "zip"=some (.type "zip")) (U2v (thn (ha pos pins s σ H _ I h) fun us s1 ⟨vs,H1,I1,r1,q1⟩=>?_) (by rw[hs,hs2]) (by rw[hs2];rfl)))
 obtain⟨l,m,xs,ys,e,e1,e2,q⟩:=q1
 subst e
 obtain⟨us1,us2⟩:us=[.ref l,.ref m]/\True:=by
  cases r1 with
  |cons r rr =>
   cases rr with
   |cons r' rr =>
    cases rr
    cases r
    cases r'
    exact⟨rfl,trivial⟩
 subst us1
 obtain⟨its1,rv1,p1⟩:=I1.Qw e1
 obtain⟨its2,rv2,p2⟩:=I1.Qw e2
 have fin:∀h',IsZip h' (s1.heap.objs.size+4) (s1.heap.objs.size+2) (s1.heap.objs.size+3) .none->IsPair h' (s1.heap.objs.size+2) (.ref s1.heap.objs.size) (.ref (s1.heap.objs.size+1))->IsPair h' (s1.heap.objs.size+3) .none .none ->
   K5 L h' s1.heap.objs.size l 0->K5 M h' (s1.heap.objs.size+1) m 0->(∀c o,s1.heap.get? c=some o->h'.get? c=some o)->wpAny (model X.prog X.w) X.A (pyIter (.ref (s1.heap.objs.size+4))) (PIE X pins σ (.Tuple elts x1 tpos) R) X.xe { s1 with heap:=h' }:=fun h' c1 c2 c3 c4 c5 k=>by
  refine wpAny_pyIter_zip c1 ?_
  refine⟨s1.heap.objs.size+4,[s1.heap.objs.size+4,s1.heap.objs.size+2,s1.heap.objs.size+3,s1.heap.objs.size,s1.heap.objs.size+1],_,_,H1,rfl,I1.kept (t':=s1.toks) k,
   jU L M l m _ _ _ _ _ (by simp) (by simp) (by simp) ⟨by simp,by simp,by simp⟩ ⟨by simp,by simp,by simp⟩ (by simp),⟨c1,c2,⟨_,_,c3⟩,c4,c5⟩,fun c hc=>?_,q⟩
  have hc':s1.heap.objs.size<=c:=by
   simp only[U0q,U1f,or_false] at hc
   rcases hc with rfl|rfl|rfl|rfl|rfl<;>first|exact U1o _ _|exact U0o _
  exact I1.Vf hc' (I1.hok.fresh hc')
 cases L with
 |true =>
  cases M with
  |true=>exact call_zip_2 p1 p2 fun h' c1 c2 c3 c4 c5 _ k=>fin h' c1 c2 c3 c4 c5 k
  |false=>exact HT.mK p1 p2 fun h' c1 c2 c3 c4 c5 k=>fin h' c1 c2 c3 c4 c5 k
 |false =>
  cases M with
  |true=>rcases hLM with z|⟨z,_⟩<;>cases z
  |false=>exact HT.Z2 p1 p2 fun h' c1 c2 c3 c4 c5 k=>fin h' c1 c2 c3 c4 c5 k
end
end L2
end
section
namespace L2
open PySem PySem.Spec PyProof.Rows
section
variable{k:Nat}{caps:List Nat}{σ:St}{g:TG}{tt:TT}{te:TE}{Q:VK}{H:Hp}
end
end L2
end
section
set_option maxRecDepth 100000
namespace HT
open PySem PySem.Spec PyProof.Rows
section
variable{prog:Program}{w:World}{A:Around}{E:Value->Shared->Prop}{s:Shared}
theorem qW{x:Value}{Tx:String}{tp:Addr}{cs:List Value}{vs:List Bool}{dd:Option Addr}{n:Nat}{sl:Array (Option Value)}(ha:AnswersAll (fun s=>s.TypeIs x Tx) x cs vs) :
  Meets (Builtin.«isinstance» ⟨[x,.ref tp],[]⟩) (fun _ R s=>s.TypeIs x Tx/\s.heap.get? tp=some { cls:=.type "tuple",dict:=dd,data:=.seq cs.toArray n,slots:=sl }/\∀tk,R (.ok (.ret (.bool (vs.any id)))) { s with toks:=tk }) :=
 fun prog w A R s hs=>isinstance_outer (by
  obtain⟨h,g,d,t,os⟩:=s
  obtain⟨hx,htp,hq⟩:=hs
  have T2:(⟨h,g,d,t,os⟩:Shared).TypeIs (.ref tp) "tuple":=⟨_,htp,rfl⟩
  have f1:=PySem.F.isi_sub_tuple
  repeat (any_goals first|assumption|wp_step)
  refine wpAny_arrayLoop ?_
  simp only[List.toList_toArray,U4r]
  refine isinstance_items (dep:=0) (fun _ tk q=>q.toks tk) cs vs _ _ ha hx fun tk'=>?_
  cases hv:vs.any id with
  |true =>
   simp only[if_true]
   repeat (any_goals first|assumption|wp_step)
   exact hv ▸ hq tk'
  |false =>
   simp only[if_false,U1y]
   repeat (any_goals first|assumption|wp_step)
   exact hv ▸ hq tk') (U6d.not_mainsLoader hs.1)
end
end HT
namespace L2
open PySem PySem.Spec PyProof.Rows
def isSeq:PyData->Bool
 |.list _=>true
 |.tuple _=>true
 |_=>false
def noDict:PyData->Bool
 |.dict _=>false
 |_=>true
theorem mW(T:String)(h:T="tuple"∨T="list"):typeOf (.type T)=pure (.type "type"):=by rcases h with rfl|rfl<;>first|rfl|kernel_rfl
theorem Jy{a b:String}(h:(a,b)∈[("int","tuple"),("int","list"),("bool","tuple"),("bool","list"),("str","tuple"),("str","list"),("NoneType","tuple"),("NoneType","list"),("list","tuple"),("tuple","list")]):isSubtype (.type a) (.type b)=pure false:=by
 simp only[U0q,U1f,or_false,Prod.mk.injEq] at h
 rcases h with ⟨rfl,rfl⟩|⟨rfl,rfl⟩|⟨rfl,rfl⟩|⟨rfl,rfl⟩|⟨rfl,rfl⟩|⟨rfl,rfl⟩|⟨rfl,rfl⟩|⟨rfl,rfl⟩|⟨rfl,rfl⟩|⟨rfl,rfl⟩<;>(rw[isSubtype_type];kernel_rfl)
theorem aP{a:String}(h:a="tuple"∨a="list"):isSubtype (.type a) (.type a)=pure true:=by rcases h with rfl|rfl<;>(rw[isSubtype_type];kernel_rfl)
section
variable{X:Cx}
theorem XF:Dn X (.builtin "isinstance") (fun xs H Q=>∃(N:Addr->Prop)(x:V)(d:PyData)(p:Addr),xs=[x,.ref p]/\H p=some (.tup [.ty "tuple",.ty "list"])/\Tr N H x d/\noDict d=true/\Q (.bl (isSeq d)) H):=by
 intro pins s σ H xs us Q I r h
 obtain⟨N,x,d,p,rfl,hp,t,nd,q⟩:=h
 obtain⟨u,v,rfl,rx,rv⟩:=vals2 r
 cases (show v=U2o p from rv)
 obtain⟨its,rt,pt,_⟩:=I.tuple (SqT.of hp)
 have ei:its=[.type "tuple",.type "list"]:=by
  cases rt with
  |cons r1 rr =>
   cases rr with
   |cons r2 rn =>
    cases rn
    cases (show _=U3m "tuple" from r1)
    cases (show _=U3m "list" from r2)
    rfl
 subst ei
 obtain⟨⟨c1,d1,x1,sl1⟩,ho,hc,n,hd⟩:=id pt
 simp only at hc hd
 subst hc hd
 have fin:∀(Tx:String)(vs:List Bool),AnswersAll (fun s=>s.TypeIs u Tx) u [.type "tuple",.type "list"] vs->s.TypeIs u Tx->vs.any id=isSeq d->wpAny (model X.prog X.w) X.A (call (.builtin "isinstance") [u,.ref p]) (EP X pins σ Q) X.xe s:=fun Tx vs ha hx e =>
  call_isinstance (HT.qW (cs:=[.type "tuple",.type "list"]) (dd:=d1) (n:=n) (sl:=sl1) ha) ⟨hx,ho,fun tk=>⟨.bl (isSeq d),H,I.tok tk,(by rw[e];rfl),q⟩⟩
 have y1:=mW "tuple" (.inl rfl)
 have y2:=mW "list" (.inr rfl)
 cases t with
 |non =>
  cases (show u=U2r from rx)
  exact fin "NoneType" [false,false] (.cons (Answers.of_false_none (by decide) y1 (Jy (by decide))) (.cons (Answers.of_false_none (by decide) y2 (Jy (by decide))) .nil)) rfl rfl
 |bl b =>
  cases (show u=U4w b from rx)
  exact fin "bool" [false,false] (.cons (Answers.of_false_bool (by decide) y1 (Jy (by decide))) (.cons (Answers.of_false_bool (by decide) y2 (Jy (by decide))) .nil)) rfl rfl
 |int i =>
  obtain⟨t,rfl⟩:=rx
  exact fin "int" [false,false] (.cons (Answers.of_false_int (by decide) y1 (Jy (by decide))) (.cons (Answers.of_false_int (by decide) y2 (Jy (by decide))) .nil)) rfl rfl
 |str z =>
  obtain⟨t,rfl⟩:=rx
  exact fin "str" [false,false] (.cons (Answers.of_false_str (by decide) y1 (Jy (by decide))) (.cons (Answers.of_false_str (by decide) y2 (Jy (by decide))) .nil)) rfl rfl
 |lst n1 h1 t1 =>
  cases rx
  obtain⟨its,_,pl,_⟩:=I.list (SqL.of h1)
  exact fin "list" [false,true] (.cons (Answers.of_false_list (by decide) y1 (Jy (by decide))) (.cons (Answers.of_true y2 (aP (.inr rfl))) .nil)) pl.isList.typeIs rfl
 |tup n1 h1 t1 =>
  cases rx
  obtain⟨its,_,pl,_⟩:=I.tuple (SqT.of h1)
  exact fin "tuple" [true,false] (.cons (Answers.of_true y1 (aP (.inl rfl))) (.cons (Answers.of_false_tuple (by decide) y2 (Jy (by decide))) .nil)) pl.typeIs rfl
 |dct _ _=>cases nd
end
end L2
end
section
namespace L2
open PySem PySem.Spec PyProof.Rows
end L2
namespace Bc
open PySem PySem.Spec PyProof.Rows L2
structure Good(n:Nat)(ds:List PyData):Prop where
 n1:1<=n
 n3:n<=3
 le:ds.length<=vC (.int n)
 all:ds.all (zR n)=true
end Bc
end
section
namespace L2
open PySem PySem.Spec PyProof.Rows
section
variable{X:Cx}{K:U0a}
end
end L2
namespace Bc
open PySem PySem.Spec PyProof.Rows L2
def mx(i j:Int):Int:=if j>i then j else i
def mn(i j:Int):Int:=if j<i then j else i
def GJ(w:Nat):PyData->Int
 |.tuple es=>(match es[w]? with|some (.tuple [.int a,.int _])=>a|_=>0)
 |_=>0
def FW(w:Nat):PyData->Int
 |.tuple es=>(match es[w]? with|some (.tuple [.int _,.int b])=>b|_=>0)
 |_=>0
end Bc
end
section
namespace VS
open PySem PySem.Spec L2
inductive D where
 |non|bl (b:Bool)|int (i:Int)|str (x:Str)|ty (n:String)
 |tup (ds:List D)|lst (m:Bool) (ds:List D)|ref (i:Nat)|scr (ns:List Int)|emp
abbrev Mu:=List (Option Addr)
def DY(μ:Mu)(a:Addr):Prop:=some a∈μ
structure Fr where
 K:U0a
 H0:Hp
 N:Addr->Prop
 m0:List Addr
def Fr.Ok(Γ:Fr)(m:Bool)(a:Addr):Prop:=(m=true->Γ.H0 a=none)/\(Γ.N a∨Γ.H0 a=none)
mutual
inductive VR (Γ:Fr) (μ:Mu) (H:Hp):V->D->Prop
 |non:VR Γ μ H .non .non
 |bl (b:Bool):VR Γ μ H (.bl b) (.bl b)
 |int (i:Int):VR Γ μ H (.int i) (.int i)
 |str (x:Str):VR Γ μ H (.str x) (.str x)
 |ty (n:String):VR Γ μ H (.ty n) (.ty n)
 |tup {a:Addr} {xs:List V} {ds:List D}:H a=some (.tup xs)->VRs Γ μ H xs ds->VR Γ μ H (.ref a) (.tup ds)
 |lst {m:Bool} {a:Addr} {xs:List V} {ds:List D}:Γ.Ok m a->¬DY μ a->H a=some (.lst xs)->VRs Γ μ H xs ds->VR Γ μ H (.ref a) (.lst m ds)
 |ref {i:Nat} {v:V}:i<μ.length->(∀a,μ[i]?=some (some a)->v=.ref a)->VR Γ μ H v (.ref i)
 |scrK {a:Addr} {ns:List Int}:(∀H',SqL Γ.K H' a (ns.map V.int))->VR Γ μ H (.ref a) (.scr ns)
 |scrR {a:Addr} {ns:List Int} {o:Obj}:¬DY μ a->H a=some (.frz o (.lst (ns.map V.int)))->VR Γ μ H (.ref a) (.scr ns)
 |emp {a:Addr}:¬DY μ a->H a=some (.dK [])->VR Γ μ H (.ref a) .emp
inductive VRs (Γ:Fr) (μ:Mu) (H:Hp):List V->List D->Prop
 |nil:VRs Γ μ H [] []
 |cons {x:V} {d:D} {xs:List V} {ds:List D}:VR Γ μ H x d->VRs Γ μ H xs ds->VRs Γ μ H (x::xs) (d::ds)
end
structure Ext(μ:Mu)(H:Hp)(μ':Mu)(H':Hp):Prop where
 keep:∀a o,H a=some o->¬DY μ a->H' a=some o/\¬DY μ' a
 tups:∀a xs,H a=some (.tup xs)->H' a=some (.tup xs)
 none:∀a,H' a=none->H a=none
 ids:∀(i:Nat)(a:Addr),i<μ.length->μ'[i]?=some (some a)->μ[i]?=some (some a)
 len:μ.length<=μ'.length
theorem Ext.refl(μ:Mu)(H:Hp):Ext μ H μ H:=⟨fun _ _ h n=>⟨h,n⟩,fun _ _ h=>h,fun _ h=>h,fun _ _ _ h=>h,U0o _⟩
theorem Ext.trans{μ μ1 μ2:Mu}{H H1 H2:Hp}(a:Ext μ H μ1 H1)(b:Ext μ1 H1 μ2 H2):Ext μ H μ2 H2 :=
 ⟨fun c o h n=>let ⟨x,y⟩:=a.keep c o h n;b.keep c o x y,fun c xs h=>b.tups c xs (a.tups c xs h),fun c h=>a.none c (b.none c h),fun i c hi h=>a.ids i c hi (b.ids i c (U0v hi a.len) h),U06 a.len b.len⟩
section
variable{Γ:Fr}{μ μ':Mu}{H H':Hp}
mutual
theorem VR.ext(e:Ext μ H μ' H'):∀{v:V} {d:D},VR Γ μ H v d->VR Γ μ' H' v d
 |_,_,.non=>.non
 |_,_,.bl b=>.bl b
 |_,_,.int i=>.int i
 |_,_,.str x=>.str x
 |_,_,.ty n=>.ty n
 |_,_,.tup h t=>.tup (e.tups _ _ h) (VRs.ext e t)
 |_,_,.lst o n h t=>.lst o (e.keep _ _ h n).2 (e.keep _ _ h n).1 (VRs.ext e t)
 |_,_,.ref hi f=>.ref (U0v hi e.len) fun a q=>f a (e.ids _ _ hi q)
 |_,_,.scrK h=>.scrK h
 |_,_,.scrR n h=>.scrR (e.keep _ _ h n).2 (e.keep _ _ h n).1
 |_,_,.emp n h=>.emp (e.keep _ _ h n).2 (e.keep _ _ h n).1
theorem VRs.ext(e:Ext μ H μ' H'):∀{vs:List V} {ds:List D},VRs Γ μ H vs ds->VRs Γ μ' H' vs ds
 |_,_,.nil=>.nil
 |_,_,.cons r t=>.cons (VR.ext e r) (VRs.ext e t)
end
theorem VRs.length:∀{xs:List V} {ds:List D},VRs Γ μ H xs ds->xs.length=ds.length
 |_,_,.nil=>rfl
 |_,_,.cons _ t=>by rw[U0i,U0i,VRs.length t]
theorem VRs.append:∀{xs ys:List V} {ds es:List D},VRs Γ μ H xs ds->VRs Γ μ H ys es->VRs Γ μ H (xs++ys) (ds++es)
 |_,_,_,_,.nil,t=>t
 |_,_,_,_,.cons r s,t=>.cons r (VRs.append s t)
theorem VRs.take:∀{xs:List V} {ds:List D} (n:Nat),VRs Γ μ H xs ds->VRs Γ μ H (xs.take n) (ds.take n)
 |_,_,0,_=>.nil
 |_,_,_+1,.nil=>.nil
 |_,_,n+1,.cons r t=>.cons r (VRs.take n t)
theorem VRs.drop:∀{xs:List V} {ds:List D} (n:Nat),VRs Γ μ H xs ds->VRs Γ μ H (xs.drop n) (ds.drop n)
 |_,_,0,r=>r
 |_,_,_+1,.nil=>.nil
 |_,_,n+1,.cons _ t=>VRs.drop n t
theorem VRs.get:∀{xs:List V} {ds:List D} {i:Nat} {d:D},VRs Γ μ H xs ds->ds[i]?=some d->∃x,xs[i]?=some x/\VR Γ μ H x d
 |_,_,_,_,.nil,h=>by simp at h
 |_,_,0,_,.cons r _,h=>by simp at h;subst h;exact⟨_,rfl,r⟩
 |_,_,i+1,d,.cons _ t,h=>by
  obtain⟨x,h1,h2⟩:=VRs.get (i:=i) (d:=d) t (by simpa using h)
  exact⟨x,by simpa using h1,h2⟩
theorem VRs.set{x:V}{d:D}(r:VR Γ μ H x d):∀{xs:List V} {ds:List D} (i:Nat),VRs Γ μ H xs ds->VRs Γ μ H (xs.set i x) (ds.set i d)
 |_,_,_,.nil=>.nil
 |_,_,0,.cons _ t=>.cons r t
 |_,_,i+1,.cons q t=>.cons q (VRs.set r i t)
theorem VRs.eraseIdx:∀{xs:List V} {ds:List D} (i:Nat),VRs Γ μ H xs ds->VRs Γ μ H (xs.eraseIdx i) (ds.eraseIdx i)
 |_,_,_,.nil=>.nil
 |_,_,0,.cons _ t=>t
 |_,_,i+1,.cons q t=>.cons q (VRs.eraseIdx i t)
theorem VRs.rep{xs:List V}{ds:List D}(h:VRs Γ μ H xs ds):∀n:Nat,VRs Γ μ H (U05 n xs).flatten (U05 n ds).flatten
 |0=>.nil
 |n+1=>by rw[U0s,U0s,U4c,U4c];exact h.append (VRs.rep h n)
theorem VRs.ints:∀(ns:List Int),VRs Γ μ H (ns.map V.int) (ns.map D.int)
 |[]=>.nil
 |n::r=>.cons (.int n) (VRs.ints r)
theorem VRs.Rj:∀{xs:List V} {ns:List Int},VRs Γ μ H xs (ns.map D.int)->xs=ns.map V.int
 |_,[],.nil=>rfl
 |_,n::r,.cons q t=>by cases q;rw[U0m,VRs.Rj t]
end
abbrev Env:=List (Option D)
abbrev Store:=List (Option (List D))
structure Rep(Γ:Fr)(μ:Mu)(σ:St)(H:Hp)(env:Env)(S:Store):Prop where
 vals:∀(i:Nat)(d:D),env[i]?=some (some d)->∃v,σ[i]?=some (some v)/\VR Γ μ H v d
 len:σ.length=env.length
 sto:∀(i:Nat)(ds:List D),S[i]?=some (some ds)->∃a xs,μ[i]?=some (some a)/\H a=some (.lst xs)/\VRs Γ μ H xs ds
 liv:∀(i:Nat)(a:Addr),μ[i]?=some (some a)->∃ds,S[i]?=some (some ds)
 inj:∀(i j:Nat)(a:Addr),μ[i]?=some (some a)->μ[j]?=some (some a)->i=j
 slen:S.length=μ.length
 ent:Ext (Γ.m0.map some) Γ.H0 μ H
 new:∀(i:Nat)(a:Addr),Γ.m0.length<=i->μ[i]?=some (some a)->Γ.H0 a=none
section
variable{Γ:Fr}{μ μ':Mu}{σ σ2:St}{H H':Hp}{env env2:Env}{S S':Store}
theorem Rep.live(R:Rep Γ μ σ H env S){a:Addr}(h:DY μ a):∃xs,H a=some (.lst xs):=by
 obtain⟨i,hi⟩:=U35.mp h
 obtain⟨ds,hs⟩:=R.liv i a hi
 obtain⟨b,xs,h1,h2,_⟩:=R.sto i ds hs
 rw[hi] at h1;cases h1
 exact⟨xs,h2⟩
theorem Rep.dead(R:Rep Γ μ σ H env S){p:Addr}(h:H p=none):¬DY μ p:=fun z=>by
 obtain⟨xs,e⟩:=R.live z
 rw[h] at e;cases e
theorem Rep.fresh(R:Rep Γ μ σ H env S){p:Addr}(h:H p=none):Γ.H0 p=none:=R.ent.none p h
theorem Rep.ok(R:Rep Γ μ σ H env S){p:Addr}(h:H p=none)(m:Bool):Γ.Ok m p:=⟨fun _=>R.fresh h,.inr (R.fresh h)⟩
theorem Rep.grow(R:Rep Γ μ σ H env S)(e:Same H H'):Rep Γ μ σ H' env S/\Ext μ H μ H':=by
 have x:Ext μ H μ H':=⟨fun a o h n=>⟨e a o h,n⟩,fun a xs h=>e a _ h,fun a h=>e.free h,fun _ _ _ h=>h,U0o _⟩
 refine⟨⟨fun i d h=>?_,R.len,fun i ds h=>?_,R.liv,R.inj,R.slen,R.ent.trans x,R.new⟩,x⟩
 .obtain⟨v,h1,h2⟩:=R.vals i d h
  exact⟨v,h1,h2.ext x⟩
 .obtain⟨a,xs,h1,h2,h3⟩:=R.sto i ds h
  exact⟨a,xs,h1,e _ _ h2,h3.ext x⟩
theorem Rep.back(R:Rep Γ μ σ H env S)(x:Ext μ H μ' H')(R2:Rep Γ μ' σ2 H' env2 S'):Rep Γ μ' σ H' env S' :=
 ⟨fun i d h=>let ⟨v,h1,h2⟩:=R.vals i d h;⟨v,h1,h2.ext x⟩,R.len,R2.sto,R2.liv,R2.inj,R2.slen,R2.ent,R2.new⟩
theorem Rep.Vc(R:Rep Γ μ σ H env S)(i:Nat){v:V}{d:D}(r:VR Γ μ H v d):Rep Γ μ (σ.set i (some v)) H (env.set i (some d)) S:=by
 refine⟨fun j e h=>?_,by rw[U3v,U3v];exact R.len,R.sto,R.liv,R.inj,R.slen,R.ent,R.new⟩
 by_cases hj:i=j
 .subst hj
  have hl:i<env.length:=by
   have:=(U0l.mp h).1
   rw[U3v] at this;exact this
  rw[U22 hl] at h
  cases h
  exact⟨v,U22 (by rw[R.len];exact hl),r⟩
 .rw[U21 hj] at h ⊢
  exact R.vals j e h
theorem Rep.laid(R:Rep Γ μ σ H env S){p:Addr}{xs:List V}{ds:List D}(hp:H p=none)(r:VRs Γ μ H xs ds) :
  Rep Γ (μ++[some p]) σ (upd H p (.lst xs)) env (S++[some ds])/\Ext μ H (μ++[some p]) (upd H p (.lst xs)):=by
 have ne:∀a o,H a=some o->a≠p:=fun a o h z=>by rw[z,hp] at h;cases h
 have x:Ext μ H (μ++[some p]) (upd H p (.lst xs)):=by
  refine⟨fun a o h n=>⟨by rw[Bu (ne a o h)];exact h,fun z=>?_⟩,fun a ys h=>by rw[Bu (ne a _ h)];exact h,fun a h=>?_,fun i a hi h=>?_,by rw[U0n];omega⟩
  .rcases U1k.mp z with z|z
   .exact n z
   .have z':a=p:=by simpa using z
    exact ne a o h z'
  .by_cases ha:a=p
   .rw[ha,Ce] at h;cases h
   .rw[Bu ha] at h;exact h
  .rw[U1g hi] at h;exact h
 have idx:∀i a,(μ++[some p])[i]?=some (some a)->(i<μ.length/\μ[i]?=some (some a))∨(i=μ.length/\a=p):=fun i a h=>by
  by_cases hi:i<μ.length
  .rw[U1g hi] at h;exact .inl ⟨hi,h⟩
  .rw[U2g (by omega)] at h
   have hl:=(U0l.mp h).1
   have hi':i=μ.length:=by simp at hl;omega
   subst hi'
   simp at h
   exact .inr ⟨rfl,h.symm⟩
 have no:∀a,μ[a]?=some (some p)->False:=fun i h=>R.dead hp (U18 h)
 refine⟨⟨fun i d h=>?_,R.len,fun i es h=>?_,fun i a h=>?_,fun i j a h1 h2=>?_,by rw[U0n,U0n,R.slen];rfl,R.ent.trans x,fun i a hi h=>?_⟩,x⟩
 .obtain⟨v,h1,h2⟩:=R.vals i d h
  exact⟨v,h1,h2.ext x⟩
 .by_cases hi:i<S.length
  .rw[U1g hi] at h
   obtain⟨a,ys,h1,h2,h3⟩:=R.sto i es h
   exact⟨a,ys,by rw[U1g (by rw[←R.slen];exact hi)];exact h1,by rw[Bu (ne a _ h2)];exact h2,h3.ext x⟩
  .rw[U2g (by omega)] at h
   have hl:=(U0l.mp h).1
   have hi':i=S.length:=by simp at hl;omega
   subst hi'
   simp at h
   subst h
   exact⟨p,xs,by rw[R.slen];simp,Ce,r.ext x⟩
 .rcases idx i a h with ⟨hi,h⟩|⟨rfl,rfl⟩
  .obtain⟨ds',q⟩:=R.liv i a h
   exact⟨ds',by rw[U1g (by rw[R.slen];exact hi)];exact q⟩
  .exact⟨ds,by rw[←R.slen];simp⟩
 .rcases idx i a h1 with ⟨_,g1⟩|⟨e1,e2⟩
  .rcases idx j a h2 with ⟨_,g2⟩|⟨e3,e4⟩
   .exact R.inj i j a g1 g2
   .exact(no i (e4 ▸ g1)).elim
  .rcases idx j a h2 with ⟨_,g2⟩|⟨e3,_⟩
   .exact(no j (e2 ▸ g2)).elim
   .rw[e1,e3]
 .rcases idx i a h with ⟨_,h⟩|⟨rfl,rfl⟩
  .exact R.new i a hi h
  .exact R.fresh hp
theorem Rep.put(R:Rep Γ μ σ H env S){i:Nat}{a:Addr}{xs:List V}{ds:List D}(hi:μ[i]?=some (some a))(r:VRs Γ μ H xs ds) :
  Rep Γ μ σ (upd H a (.lst xs)) env (S.set i (some ds))/\Ext μ H μ (upd H a (.lst xs)):=by
 have hl:DY μ a:=U18 hi
 obtain⟨ys,hy⟩:=R.live hl
 have x:Ext μ H μ (upd H a (.lst xs)):=by
  refine⟨fun b o h n=>⟨?_,n⟩,fun b zs h=>?_,fun b h=>?_,fun _ _ _ h=>h,U0o _⟩
  .rw[Bu (fun z=>n (by rw[z];exact hl))];exact h
  .rw[Bu (fun z=>by rw[z,hy] at h;cases h)];exact h
  .by_cases hb:b=a
   .rw[hb,Ce] at h;cases h
   .rw[Bu hb] at h;exact h
 have hiS:i<S.length:=by rw[R.slen];exact(U0l.mp hi).1
 refine⟨⟨fun j d h=>?_,R.len,fun j es h=>?_,fun j b h=>?_,R.inj,by rw[U3v];exact R.slen,R.ent.trans x,R.new⟩,x⟩
 .obtain⟨v,h1,h2⟩:=R.vals j d h
  exact⟨v,h1,h2.ext x⟩
 .by_cases hj:i=j
  .subst hj
   rw[U22 hiS] at h
   cases h
   exact⟨a,xs,hi,Ce,r.ext x⟩
  .rw[U21 hj] at h
   obtain⟨b,zs,h1,h2,h3⟩:=R.sto j es h
   refine⟨b,zs,h1,?_,h3.ext x⟩
   rw[Bu (fun z=>hj (R.inj i j a hi (by rw[←z];exact h1)))]
   exact h2
 .by_cases hj:i=j
  .subst hj;exact⟨ds,U22 hiS⟩
  .rw[U21 hj];exact R.liv j b h
end
end VS
end
section
namespace VS
open PySem PySem.Spec L2
abbrev Bb:=Env->Store->Option (D×Store)
abbrev Bf:=Env->Store->Option (List D×Store)
abbrev FJ:=Env->Store->Option (Bool×Store)
abbrev TV:=Env->Store->Option (Option Int×Store)
inductive Fl where|nx|brk|cnt|ret (d:D)
abbrev Ba:=Env->Store->Option (Fl×Env×Store)
abbrev KY:=Env->Store->Option ((List D×List (Nat×List D))×Store)
abbrev KZ:=D->Env->Option Env
def Ab(i:Nat):Bb:=fun env S=>(env[i]?.join).map fun d=>(d,S)
def eC(d:D):Bb:=fun _ S=>some (d,S)
def eOp(g:Store->D->D->Option D)(a b:Bb):Bb:=fun env S=>(a env S).bind fun p=>(b env p.2).bind fun q=>(g q.2 p.1 q.1).map fun d=>(d,q.2)
def eUn(g:Store->D->Option D)(a:Bb):Bb:=fun env S=>(a env S).bind fun p=>(g p.2 p.1).map fun d=>(d,p.2)
def Ae:Bf:=fun _ S=>some ([],S)
def Aa(a:Bb)(r:Bf):Bf:=fun env S=>(a env S).bind fun p=>(r env p.2).bind fun q=>some (p.1::q.1,q.2)
def eCB(g:Store->List D->Option D)(a:Bf):Bb:=fun env S=>(a env S).bind fun p=>(g p.2 p.1).map fun d=>(d,p.2)
def Vg(a b:Bb):Bb:=fun env S=>(a env S).bind fun p=>match p.1 with|.bl true=>b env p.2|.bl false=>some (.bl false,p.2)|_=>none
def jG(a:Bb):Bb:=fun env S=>(a env S).bind fun p=>match p.1 with|.bl c=>some (.bl (!c),p.2)|_=>none
def RB(g g':Store->D->D->Option D)(a b c:Bb):Bb:=fun env S=>(a env S).bind fun p=>(b env p.2).bind fun q=>(g q.2 p.1 q.1).bind fun z=>match z with
 |.bl true=>(c env q.2).bind fun r=>(g' r.2 q.1 r.1).map fun d=>(d,r.2)
 |.bl false=>some (.bl false,q.2)
 |_=>none
def BK(a:Bb):FJ:=fun env S=>(a env S).bind fun p=>match p.1 with|.bl c=>some (c,p.2)|_=>none
def G4(a b:FJ):FJ:=fun env S=>(a env S).bind fun p=>if p.1=true then b env p.2 else some (false,p.2)
def tOr(a b:FJ):FJ:=fun env S=>(a env S).bind fun p=>if p.1=true then some (true,p.2) else b env p.2
def JR(a:FJ):FJ:=fun env S=>(a env S).bind fun p=>some (!p.1,p.2)
def GF:TV:=fun _ S=>some (none,S)
def GD(a:Bb):TV:=fun env S=>(a env S).bind fun p=>match p.1 with|.int i=>some (some i,p.2)|_=>none
def eSl(g:Store->D->Option Int->Option Int->Option D)(a:Bb)(l h:TV):Bb:=fun env S=>(a env S).bind fun p=>(l env p.2).bind fun q=>(h env q.2).bind fun r=>(g r.2 p.1 q.1 r.1).map fun d=>(d,r.2)
def Bm(a b:Ba):Ba:=fun env S=>(a env S).bind fun p=>match p.1 with|.nx=>b p.2.1 p.2.2|f=>some (f,p.2.1,p.2.2)
def Dh:Ba:=fun env S=>some (.nx,env,S)
def Kz:Ba:=fun _ _=>none
def Bj(i:Nat)(a:Bb):Ba:=fun env S=>(a env S).bind fun p=>some (.nx,env.set i (some p.1),p.2)
def bT(a:Bb)(g:KZ):Ba:=fun env S=>(a env S).bind fun p=>(g p.1 env).bind fun e=>some (.nx,e,p.2)
def Fb(a:Bb):Ba:=fun env S=>(a env S).bind fun p=>some (.nx,env,p.2)
def Dk(a:Bb):Ba:=fun env S=>(a env S).bind fun p=>some (.ret p.1,env,p.2)
def sIf(c:FJ)(a b:Ba):Ba:=fun env S=>(c env S).bind fun p=>if p.1=true then a env p.2 else b env p.2
inductive Pat where
 |nm (i:Nat)|tp (ps:List Pat)
mutual
def Pat.sem:Pat->D->Env->Option Env
 |.nm i,d,env=>some (env.set i (some d))
 |.tp ps,.tup ds,env=>Il ps ds env
 |.tp _,_,_=>none
def Il:List Pat->List D->Env->Option Env
 |[],[],env=>some env
 |p::ps,d::ds,env=>(Pat.sem p d env).bind fun e=>Il ps ds e
 |_,_,_=>none
end
mutual
def Pat.raw(K:U0a):Pat->TG
 |.nm i=>Xa i
 |.tp ps=>jE K ps.length (KJ K ps)
def KJ(K:U0a):List Pat->TGs
 |[]=>jF
 |p::ps=>cL (Pat.raw K p) (KJ K ps)
end
mutual
def Pat.low(k:Nat):Pat->Bool
 |.nm i=>decide (i<k)
 |.tp ps=>bW k ps
def bW(k:Nat):List Pat->Bool
 |[]=>true
 |p::ps=>Pat.low k p&&bW k ps
end
mutual
theorem Pat.mono(K:U0a):∀(p:Pat)(x:V)(σ:St)(H:Hp)(Q Q':St->Hp->Prop),(∀σ' H',Q σ' H'->Q' σ' H')->p.raw K x σ H Q->p.raw K x σ H Q'
 |.nm i,x,σ,H,Q,Q',f,h=>by rw[Pat.raw] at h ⊢;exact f _ _ h
 |.tp ps,x,σ,H,Q,Q',f,h=>by rw[Pat.raw] at h ⊢;obtain⟨a,xs,e,hs,hl,q⟩:=h;exact⟨a,xs,e,hs,hl,cJ K ps xs σ H Q Q' f q⟩
theorem cJ(K:U0a):∀(ps:List Pat)(x:List V)(σ:St)(H:Hp)(Q Q':St->Hp->Prop),(∀σ' H',Q σ' H'->Q' σ' H')->KJ K ps x σ H Q->KJ K ps x σ H Q'
 |[],x,σ,H,Q,Q',f,h=>by rw[KJ] at h ⊢;exact⟨h.1,f _ _ h.2⟩
 |p::ps,x,σ,H,Q,Q',f,h=>by rw[KJ] at h ⊢;obtain⟨v,r,e,q⟩:=h;exact⟨v,r,e,Pat.mono K p v σ H _ _ (fun σ1 H1 z=>cJ K ps r σ1 H1 Q Q' f z) q⟩
end
mutual
theorem Pat.XR(K:U0a){k:Nat}:∀(p:Pat),p.low k=true->Low k (p.raw K)
 |.nm i,h=>by rw[Pat.raw];rw[Pat.low] at h;exact lG (of_decide_eq_true h)
 |.tp ps,h=>by rw[Pat.raw];rw[Pat.low] at h;exact pZ (eX K ps h)
theorem eX(K:U0a){k:Nat}:∀(ps:List Pat),bW k ps=true->Xl k (KJ K ps)
 |[],_=>by rw[KJ];exact qC
 |p::ps,h=>by
  rw[KJ]
  rw[bW,U00] at h
  exact lH (Pat.XR K p h.1) (eX K ps h.2) (Pat.mono K p) (cJ K ps)
end
theorem YK:∀{ps:List Pat} {ds:List D} {env env':Env},Il ps ds env=some env'->ds.length=ps.length
 |[],[],_,_,_=>rfl
 |[],_::_,_,_,h=>by simp[Il] at h
 |_::_,[],_,_,h=>by simp[Il] at h
 |p::ps,d::ds,env,env',h=>by
  rw[Il] at h
  cases e1:p.sem d env with
  |none=>rw[e1] at h;cases h
  |some env1 =>
   rw[e1] at h
   rw[U0i,U0i,YK (show Il ps ds env1=some env' from h)]
mutual
theorem Pat.run{Γ:Fr}{μ:Mu}{H:Hp}{S:Store}(K:U0a):∀(p:Pat){v:V}{d:D}{σ:St}{env env':Env}{Q:St->Hp->Prop},Rep Γ μ σ H env S->VR Γ μ H v d->p.sem d env=some env'->(∀σ',Rep Γ μ σ' H env' S->Q σ' H)->p.raw K v σ H Q
 |.nm i,v,d,σ,env,env',Q,R,r,e,q=>by
  rw[Pat.raw]
  rw[Pat.sem] at e
  cases e
  exact q _ (R.Vc i r)
 |.tp ps,v,d,σ,env,env',Q,R,r,e,q=>by
  rw[Pat.raw]
  cases r with
  |@tup b xs ds hb rs =>
   rw[Pat.sem] at e
   obtain⟨hl,w⟩:=su K ps R rs e q
   exact⟨b,xs,rfl,SqT.of hb,hl,w⟩
  |_=>simp[Pat.sem] at e
theorem su{Γ:Fr}{μ:Mu}{H:Hp}{S:Store}(K:U0a):∀(ps:List Pat){vs:List V}{ds:List D}{σ:St}{env env':Env}{Q:St->Hp->Prop},Rep Γ μ σ H env S->VRs Γ μ H vs ds->Il ps ds env=some env'->(∀σ',Rep Γ μ σ' H env' S->Q σ' H)->vs.length=ps.length/\KJ K ps vs σ H Q
 |[],vs,ds,σ,env,env',Q,R,r,e,q=>by
  rw[KJ]
  cases r with
  |nil=>rw[Il] at e;cases e;exact⟨rfl,rfl,q σ R⟩
  |cons _ _=>simp[Il] at e
 |p::ps,vs,ds,σ,env,env',Q,R,r,e,q=>by
  rw[KJ]
  cases r with
  |nil=>simp[Il] at e
  |@cons y d ys ds' r1 r2 =>
   rw[Il] at e
   cases e1:p.sem d env with
   |none=>rw[e1] at e;cases e
   |some env1 =>
    rw[e1] at e
    have e':Il ps ds' env1=some env':=e
    have hl:ys.length=ps.length:=by rw[r2.length];exact YK e'
    exact⟨by rw[U0i,U0i,hl],y,ys,rfl,Pat.run K p R r1 e1 fun σ1 R1=>(su K ps R1 r2 e' q).2⟩
end
def calm(w:List (Nat×List D))(S:Store):Prop:=∀p∈w,S[p.1]?=some (some p.2)
open Classical in
def loop(w:List (Nat×List D))(g:KZ)(b:Ba):List D->Ba
 |[],env,S=>if calm w S then some (.nx,env,S) else none
 |d::r,env,S=>if calm w S then (g d env).bind fun e=>(b e S).bind fun p=>match p.1 with
   |.nx=>loop w g b r p.2.1 p.2.2
   |.cnt=>loop w g b r p.2.1 p.2.2
   |.brk=>some (.nx,p.2.1,p.2.2)
   |.ret d=>some (.ret d,p.2.1,p.2.2)
  else none
def JL(it:KY)(g:KZ)(b:Ba):Ba:=fun env S=>(it env S).bind fun p=>loop p.1.2 g b p.1.1 env p.2
def HJ(k:Nat)(caps:List Nat)(env:Env):Env:=U05 k none++caps.map fun j=>(env[j]?).join
open Classical in
def Fy(w:List (Nat×List D))(e0:Env)(g:KZ)(t:FJ)(e:Bb):List D->List D->Store->Option (List D×Store)
 |[],ys,S=>if calm w S/\ys.length<=1000000 then some (ys,S) else none
 |d::r,ys,S=>if calm w S/\ys.length<=1000000 then (g d e0).bind fun e1=>(t e1 S).bind fun p =>
   if p.1=true then (e e1 p.2).bind fun q=>Fy w e0 g t e r (ys++[q.1]) q.2 else Fy w e0 g t e r ys p.2
  else none
def DK(k:Nat)(caps:List Nat)(it:KY)(g:KZ)(t:FJ)(e:Bb):Bf:=fun env S=>(it env S).bind fun p=>Fy p.1.2 (HJ k caps env) g t e p.1.1 [] p.2
def G3:FJ:=fun _ S=>some (true,S)
def Bt(a:Bf):Bb:=fun env S=>(a env S).bind fun p=>some (.lst true p.1,p.2)
def G5(a:Bf):Bb:=fun env S=>(a env S).bind fun p=>some (.ref p.2.length,p.2++[some p.1])
def BZ(a:Bf):Bb:=fun env S=>(a env S).bind fun p=>some (.tup p.1,p.2)
def wpE(K:U0a)(f:Bb):TE:=fun σ H Q=>∃Γ μ env S d S',Γ.K=K/\Rep Γ μ σ H env S/\f env S=some (d,S')/\∀v μ' H',Ext μ H μ' H'->Rep Γ μ' σ H' env S'->VR Γ μ' H' v d->Q v H'
def wpA(K:U0a)(f:Bf):TA:=fun σ H Q=>∃Γ μ env S d S',Γ.K=K/\Rep Γ μ σ H env S/\f env S=some (d,S')/\∀v μ' H',Ext μ H μ' H'->Rep Γ μ' σ H' env S'->VRs Γ μ' H' v d->Q v H'
def wpT(K:U0a)(f:FJ):TT:=fun σ H Q=>∃Γ μ env S b S',Γ.K=K/\Rep Γ μ σ H env S/\f env S=some (b,S')/\∀μ' H',Ext μ H μ' H'->Rep Γ μ' σ H' env S'->Q b H'
def wpO(K:U0a)(f:TV):TO:=fun σ H Q=>∃Γ μ env S b S',Γ.K=K/\Rep Γ μ σ H env S/\f env S=some (b,S')/\∀μ' H',Ext μ H μ' H'->Rep Γ μ' σ H' env S'->Q b H'
def FlQ(Γ:Fr)(μ:Mu)(E:Ends)(σ:St)(H:Hp):Fl->Prop
 |.nx=>E.nx σ H
 |.brk=>E.bk σ H
 |.cnt=>E.ct σ H
 |.ret d=>∀v,VR Γ μ H v d->E.rt v H
def wpS(K:U0a)(f:Ba):TS:=fun E σ H=>∃Γ μ env S fl env' S',Γ.K=K/\Rep Γ μ σ H env S/\f env S=some (fl,env',S')/\∀μ' σ' H',Ext μ H μ' H'->Rep Γ μ' σ' H' env' S'->FlQ Γ μ' E σ' H' fl
structure Vj(Γ:Fr)(μ:Mu)(H:Hp)(J:It)(ds:List D)(w:List (Nat×List D)):Prop where
 step:∀(i:Nat)(d:D)(μ':Mu)(H':Hp)(σ':St)(env':Env)(S':Store),ds[i]?=some d->Ext μ H μ' H'->Rep Γ μ' σ' H' env' S'->calm w S'->J.go i H'/\∀x H'',J.yld i H' x H''->Same H' H''/\VR Γ μ' H'' x d
 stop:∀(μ':Mu)(H':Hp)(σ':St)(env':Env)(S':Store),Ext μ H μ' H'->Rep Γ μ' σ' H' env' S'->calm w S'->J.stop ds.length H'
def wpI(K:U0a)(f:KY):TI:=fun σ H R=>∃Γ μ env S ds w S',Γ.K=K/\Rep Γ μ σ H env S/\f env S=some ((ds,w),S')/\∀J μ' H',Ext μ H μ' H'->Rep Γ μ' σ H' env S'->Vj Γ μ' H' J ds w->R J H'
structure JE(X:Cx)(e:Expr)(f:Bb):Prop where
 pe:PE X e (wpE X.K f)
structure JA(X:Cx)(es:List Expr)(f:Bf):Prop where
 pa:PA X es (wpA X.K f)
structure JT(X:Cx)(e:Expr)(f:FJ):Prop where
 pt:PT X e (wpT X.K f)
structure JW(X:Cx)(e:Expr)(f:FJ):Prop where
 pw:PW X e (wpT X.K f)
structure JO(X:Cx)(e:Option Expr)(f:TV):Prop where
 po:PO X e (wpO X.K f)
structure JS(X:Cx)(st:Stmt)(f:Ba):Prop where
 ps:PS X st (wpS X.K f)
structure JSs(X:Cx)(sts:List Stmt)(f:Ba):Prop where
 ps:PSs X sts (wpS X.K f)
structure JI(X:Cx)(tg e:Expr)(f:KY):Prop where
 pi:PI X tg e (wpI X.K f)
structure JG(X:Cx)(tg:Expr)(p:Pat):Prop where
 pg:PG X tg (p.raw X.K)
structure JGs(X:Cx)(tgs:List Expr)(ps:List Pat):Prop where
 pg:PGs X tgs (KJ X.K ps)
structure JTs(X:Cx)(es:List Expr)(f:FJ):Prop where
 pt:PTs X es (wpT X.K f)
section
variable{X:Cx}
theorem PE.imp{e:Expr}{t t':TE}(h:PE X e t)(k:∀σ H Q,t' σ H Q->t σ H Q):PE X e t':=fun pins s σ H Q I q=>h pins s σ H Q I (k σ H Q q)
theorem PT.imp{e:Expr}{t t':TT}(h:PT X e t)(k:∀σ H Q,t' σ H Q->t σ H Q):PT X e t':=fun pins s σ H Q I q=>h pins s σ H Q I (k σ H Q q)
theorem PW.imp{e:Expr}{t t':TT}(h:PW X e t)(k:∀σ H Q,t' σ H Q->t σ H Q):PW X e t':=fun w pins s σ H Q I q=>h w pins s σ H Q I (k σ H Q q)
theorem PTs.imp{e:List Expr}{t t':TT}(h:PTs X e t)(k:∀σ H Q,t' σ H Q->t σ H Q):PTs X e t':=fun pins s σ H Q I q=>h pins s σ H Q I (k σ H Q q)
theorem PA.imp{e:List Expr}{t t':TA}(h:PA X e t)(k:∀σ H Q,t' σ H Q->t σ H Q):PA X e t':=fun p pins s σ H Q I q=>h p pins s σ H Q I (k σ H Q q)
theorem PO.imp{e:Option Expr}{t t':TO}(h:PO X e t)(k:∀σ H Q,t' σ H Q->t σ H Q):PO X e t':=fun pins s σ H Q I q=>h pins s σ H Q I (k σ H Q q)
theorem PS.imp{e:Stmt}{t t':TS}(h:PS X e t)(k:∀E σ H,t' E σ H->t E σ H):PS X e t':=fun pins s σ H E I q=>h pins s σ H E I (k E σ H q)
theorem PSs.imp{e:List Stmt}{t t':TS}(h:PSs X e t)(k:∀E σ H,t' E σ H->t E σ H):PSs X e t':=fun pins s σ H E I q=>h pins s σ H E I (k E σ H q)
theorem PI.imp{tg e:Expr}{t t':TI}(h:PI X tg e t)(k:∀σ H R,t' σ H R->t σ H R):PI X tg e t':=fun pins s σ H R I q=>h pins s σ H R I (k σ H R q)
theorem bind_some{α β:Type}{a:Option α}{f:α->Option β}{b:β}(h:a.bind f=some b):∃x,a=some x/\f x=some b:=by
 cases a with
 |none=>cases h
 |some x=>exact⟨x,rfl,h⟩
theorem map_some{α β:Type}{a:Option α}{f:α->β}{b:β}(h:a.map f=some b):∃x,a=some x/\f x=b:=by
 cases a with
 |none=>cases h
 |some x=>exact⟨x,rfl,U09 h⟩
def G6(K:U0a)(r:R2)(g:Store->D->D->Option D):Prop:=∀(Γ:Fr)(μ:Mu)(σ:St)(H:Hp)(env:Env)(S:Store)(x y:V)(dx dy d:D),Γ.K=K->Rep Γ μ σ H env S->VR Γ μ H x dx->VR Γ μ H y dy->g S dx dy=some d ->
 ∀Q:VK,(∀v H',Same H H'->VR Γ μ H' v d->Q v H')->r x y H Q
def tZ(K:U0a)(r:V->Hp->VK->Prop)(g:Store->D->Option D):Prop:=∀(Γ:Fr)(μ:Mu)(σ:St)(H:Hp)(env:Env)(S:Store)(x:V)(dx d:D),Γ.K=K->Rep Γ μ σ H env S->VR Γ μ H x dx->g S dx=some d ->
 ∀Q:VK,(∀v H',Same H H'->VR Γ μ H' v d->Q v H')->r x H Q
def N8(K:U0a)(r:List V->Hp->VK->Prop)(g:Store->List D->Option D):Prop:=∀(Γ:Fr)(μ:Mu)(σ:St)(H:Hp)(env:Env)(S:Store)(xs:List V)(ds:List D)(d:D),Γ.K=K->Rep Γ μ σ H env S->VRs Γ μ H xs ds->g S ds=some d ->
 ∀Q:VK,(∀v H',Same H H'->VR Γ μ H' v d->Q v H')->r xs H Q
def nJ(K:U0a)(r:V->Option Int->Option Int->Hp->VK->Prop)(g:Store->D->Option Int->Option Int->Option D):Prop:=∀(Γ:Fr)(μ:Mu)(σ:St)(H:Hp)(env:Env)(S:Store)(x:V)(dx d:D)(l h:Option Int),Γ.K=K->Rep Γ μ σ H env S->VR Γ μ H x dx->g S dx l h=some d ->
 ∀Q:VK,(∀v H',Same H H'->VR Γ μ H' v d->Q v H')->r x l h H Q
theorem XH{K:U0a}{r:R2}{g:Store->D->D->Option D}{fa fb:Bb}(hs:G6 K r g){σ:St}{H:Hp}{Q:VK}(h:wpE K (eOp g fa fb) σ H Q):tOp r (wpE K fa) (wpE K fb) σ H Q:=by
 obtain⟨Γ,μ,env,S,d,S',hK,R,e,q⟩:=h
 obtain⟨⟨x,S1⟩,e1,e⟩:=bind_some e
 obtain⟨⟨y,S2⟩,e2,e⟩:=bind_some e
 obtain⟨z,e3,e⟩:=map_some e
 cases e
 refine⟨Γ,μ,env,S,x,S1,hK,R,e1,fun v1 μ1 H1 x1 R1 r1=>?_⟩
 refine⟨Γ,μ1,env,S1,y,S2,hK,R1,e2,fun v2 μ2 H2 x2 R2 r2=>?_⟩
 refine hs Γ μ2 σ H2 env S2 v1 v2 x y _ hK R2 (r1.ext x2) r2 e3 Q fun v H' sm rv=>?_
 obtain⟨R3,x3⟩:=R2.grow sm
 exact q v μ2 H' (x1.trans (x2.trans x3)) R3 rv
theorem Bd{op:Operator}{r:R2}{g:Store->D->D->Option D}{a b:Expr}{fa fb:Bb}{pos:Pos}(ho:OpR X (binaryOp op) r)(hs:G6 X.K r g)(ha:JE X a fa)(hb:JE X b fb):JE X (.BinOp a op b pos) (eOp g fa fb) :=
 ⟨PE.imp (xZ ho ha.pe hb.pe) fun _ _ _ h=>XH hs h⟩
theorem Um{op:CmpOp}{r:R2}{g:Store->D->D->Option D}{a b:Expr}{fa fb:Bb}{pos:Pos}(ho:OpR X (compareOp op) r)(hs:G6 X.K r g)(ha:JE X a fa)(hb:JE X b fb)(hm:behindInMarks op b=false):JE X (.Compare a [op] [b] pos) (eOp g fa fb) :=
 ⟨PE.imp (ak ho ha.pe hb.pe hm) fun _ _ _ h=>XH hs h⟩
theorem Bh{r:R2}{g:Store->D->D->Option D}{a b:Expr}{fa fb:Bb}{pos:Pos}(ho:IxR X r)(hs:G6 X.K r g)(ha:JE X a fa)(hb:JE X b fb)(hp:S6 b):JE X (.Subscript a b pos) (eOp g fa fb) :=
 ⟨PE.imp (xg ho ha.pe hb.pe hp) fun _ _ _ h=>XH hs h⟩
theorem Ku{op:UnaryOp}{r:V->Hp->VK->Prop}{g:Store->D->Option D}{a:Expr}{fa:Bb}{pos:Pos}(ho:UnR X (unaryOp op) r)(hs:tZ X.K r g)(ha:JE X a fa):JE X (.UnaryOp op a pos) (eUn g fa) :=
 ⟨PE.imp (xY ho ha.pe) fun σ H Q h=>by
  obtain⟨Γ,μ,env,S,d,S',hK,R,e,q⟩:=h
  obtain⟨⟨x,S1⟩,e1,e⟩:=bind_some e
  obtain⟨z,e3,e⟩:=map_some e
  cases e
  refine⟨Γ,μ,env,S,x,S1,hK,R,e1,fun v1 μ1 H1 x1 R1 r1=>?_⟩
  refine hs Γ μ1 σ H1 env S1 v1 x _ hK R1 r1 e3 Q fun v H' sm rv=>?_
  obtain⟨R3,x3⟩:=R1.grow sm
  exact q v μ1 H' (x1.trans x3) R3 rv⟩
theorem Ad(i:Nat){x:Str}{pos:Pos}(hN:X.N[i]?=some x:=by rfl)(hv:Vis X.env.scope x:=by first|exact Or.inl rfl|exact Or.inr (Or.inl rfl)|exact Or.inr (Or.inr rfl))(hd:(x==("__debug__":Str))=false:=by decide)
  (hcd:(x==("__classdict__":Str))=false:=by decide):JE X (.Name x pos) (Ab i) :=
 ⟨PE.imp (uc hN hv hd hcd) fun σ H Q h=>by
  obtain⟨Γ,μ,env,S,d,S',hK,R,e,q⟩:=h
  obtain⟨d',e1,e⟩:=map_some e
  cases e
  have e1':env[i]?=some (some d):=by
   cases h:env[i]? with
   |none=>rw[h] at e1;cases e1
   |some o=>rw[h] at e1;exact congrArg some e1
  obtain⟨v,h1,h2⟩:=R.vals i d e1'
  exact⟨v,h1,q v μ H (Ext.refl _ _) R h2⟩⟩
theorem bO{K:U0a}{v:V}{d:D}(h:∀Γ μ H,VR Γ μ H v d){σ:St}{H:Hp}{Q:VK}(w:wpE K (eC d) σ H Q):tC v σ H Q:=by
 obtain⟨Γ,μ,env,S,d',S',hK,R,e,q⟩:=w
 cases e
 exact q v μ H (Ext.refl _ _) R (h Γ μ H)
theorem Ag{i j pos}:JE X (.Constant (.int i) j pos) (eC (.int i)):=⟨PE.imp Ue fun _ _ _=>bO fun _ _ _=>.int i⟩
theorem UJ{b j pos}:JE X (.Constant (.bool b) j pos) (eC (.bl b)):=⟨PE.imp xr fun _ _ _=>bO fun _ _ _=>.bl b⟩
theorem vR{j pos}:JE X (.Constant .none j pos) (eC .non):=⟨PE.imp uh fun _ _ _=>bO fun _ _ _=>.non⟩
theorem Rh{n:String}{x:Str}{pos:Pos}(hg:Gl X x)(hm:X.mg x=none)(hv:bootBuiltins x=some (.type n))(hn:x≠"__name__":=by decide)(hd:(x==("__debug__":Str))=false:=by decide):JE X (.Name x pos) (eC (.ty n)) :=
 ⟨PE.imp (pN (v:=.ty n) hg hm hv rfl hn hd) fun _ _ _=>bO fun _ _ _=>.ty n⟩
theorem Ah:JA X [] Ae:=⟨PA.imp Ug fun σ H Q h=>by
 obtain⟨Γ,μ,env,S,d,S',hK,R,e,q⟩:=h
 cases e
 exact q [] μ H (Ext.refl _ _) R .nil⟩
theorem Ac{e:Expr}{es:List Expr}{f:Bb}{r:Bf}(ha:JE X e f)(hr:JA X es r)(hs:starEach (e::es) X.env=(false,eval e X.env)::starEach es X.env:=by rfl):JA X (e::es) (Aa f r) :=
 ⟨PA.imp (Rp ha.pe hr.pa hs) fun σ H Q h=>by
  obtain⟨Γ,μ,env,S,d,S',hK,R,e,q⟩:=h
  obtain⟨⟨x,S1⟩,e1,e⟩:=bind_some e
  obtain⟨⟨y,S2⟩,e2,e⟩:=bind_some e
  cases e
  refine⟨Γ,μ,env,S,x,S1,hK,R,e1,fun v1 μ1 H1 x1 R1 r1=>?_⟩
  refine⟨Γ,μ1,env,S1,y,S2,hK,R1,e2,fun v2 μ2 H2 x2 R2 r2=>?_⟩
  exact q _ μ2 H2 (x1.trans x2) R2 (.cons (r1.ext x2) r2)⟩
theorem big{n:Nat}(h:n<=1000000):n<sizeLine:=U4z h (by decide)
theorem uD{K:U0a}{f:Bf}{σ:St}{H:Hp}{Q:VK}(hl:∀env S p,f env S=some p->p.1.length<=1000000)(h:wpE K (BZ f) σ H Q):sU (wpA K f) σ H Q:=by
 obtain⟨Γ,μ,env,S,d,S',hK,R,e,q⟩:=h
 obtain⟨⟨x,S1⟩,e1,e⟩:=bind_some e
 cases e
 refine⟨Γ,μ,env,S,x,S1,hK,R,e1,fun vs μ1 H1 x1 R1 r1=>⟨by rw[r1.length];exact U2q (big (hl _ _ _ e1)),fun p hp=>?_⟩⟩
 have sm:=DQ hp (.tup vs)
 obtain⟨R2,x2⟩:=R1.grow sm
 exact q _ μ1 _ (x1.trans x2) R2 (.tup Ce (r1.ext x2))
def Few(n:Nat)(f:Bf):Prop:=∀env S p,f env S=some p->p.1.length<=n
theorem Az:Few 0 Ae:=fun env S p h=>by cases h;exact U0o _
theorem Aj{n:Nat}{f:Bb}{r:Bf}(h:Few n r):Few (n+1) (Aa f r):=fun env S p e=>by
 obtain⟨⟨x,S1⟩,e1,e⟩:=bind_some e
 obtain⟨⟨y,S2⟩,e2,e⟩:=bind_some e
 cases e
 have:=h _ _ _ e2
 show(x::y).length<=n+1
 rw[U0i]
 exact Nat.succ_le_succ this
theorem Bx{es:List Expr}{f:Bf}{x1:Nat}{pos:Pos}{n:Nat}(h:JA X es f)(hf:Few n f)(hn:n<=1000000:=by decide):JE X (.Tuple es x1 pos) (BZ f):=⟨PE.imp (ud h.pa) fun _ _ _ w=>uD (fun env S p e=>U06 (hf env S p e) hn) w⟩
theorem Et{es:List Expr}{f:Bf}{pos:Pos}{n:Nat}(h:JA X es f)(hf:Few n f)(hn:n<=1000000:=by decide):JE X (.List es pos) (Bt f):=⟨PE.imp (eF h.pa) fun σ H Q w=>by
 obtain⟨Γ,μ,env,S,d,S',hK,R,e,q⟩:=w
 obtain⟨⟨x,S1⟩,e1,e⟩:=bind_some e
 cases e
 refine⟨Γ,μ,env,S,x,S1,hK,R,e1,fun vs μ1 H1 x1 R1 r1=>⟨by rw[r1.length];exact U2q (big (U06 (hf _ _ _ e1) hn)),fun p hp=>?_⟩⟩
 obtain⟨R2,x2⟩:=R1.grow (DQ hp (.lst vs))
 exact q _ μ1 _ (x1.trans x2) R2 (.lst (R1.ok hp true) (R1.dead hp) Ce (r1.ext x2))⟩
theorem Ij{es:List Expr}{f:Bf}{pos:Pos}{n:Nat}(h:JA X es f)(hf:Few n f)(hn:n<=1000000:=by decide):JE X (.List es pos) (G5 f):=⟨PE.imp (eF h.pa) fun σ H Q w=>by
 obtain⟨Γ,μ,env,S,d,S',hK,R,e,q⟩:=w
 obtain⟨⟨x,S1⟩,e1,e⟩:=bind_some e
 cases e
 refine⟨Γ,μ,env,S,x,S1,hK,R,e1,fun vs μ1 H1 x1 R1 r1=>⟨by rw[r1.length];exact U2q (big (U06 (hf _ _ _ e1) hn)),fun p hp=>?_⟩⟩
 obtain⟨R2,x2⟩:=R1.laid hp r1
 exact q _ _ _ (x1.trans x2) R2 (.ref (by rw[U0n,R1.slen];simp) fun a h=>by
  rw[R1.slen] at h
  simp at h
  rw[h])⟩
end
end VS
end
section
namespace VS
open PySem PySem.Spec L2
section
variable{X:Cx}{a b c:Expr}{fa fb fc:Bb}{pos:Pos}{rest:List Expr}
theorem Xu{op}(h:JE X a fa):JE X (.BoolOp op [a] pos) fa:=⟨uf h.pe⟩
theorem Uo(ha:JE X a fa)(hb:JE X (.BoolOp .And (b::rest) pos) fb):JE X (.BoolOp .And (a::b::rest) pos) (Vg fa fb):=⟨PE.imp (uo ha.pe hb.pe) fun σ H Q h=>by
 obtain⟨Γ,μ,env,S,d,S',hK,R,e,q⟩:=h
 obtain⟨⟨x,S1⟩,e1,e⟩:=bind_some e
 refine⟨Γ,μ,env,S,x,S1,hK,R,e1,fun v1 μ1 H1 x1 R1 r1=>?_⟩
 dsimp only at e
 split at e
 .cases r1
  exact⟨true,rfl,by rw[if_pos rfl];exact⟨Γ,μ1,env,S1,d,S',hK,R1,e,fun v μ' H' x' R' r'=>q v μ' H' (x1.trans x') R' r'⟩⟩
 .cases r1
  cases e
  exact⟨false,rfl,by rw[if_neg U1d];exact q _ μ1 H1 x1 R1 (.bl false)⟩
 .cases e⟩
theorem vQ(ha:JE X a fa):JE X (.UnaryOp .Not a pos) (jG fa):=⟨PE.imp (ug ha.pe) fun σ H Q h=>by
 obtain⟨Γ,μ,env,S,d,S',hK,R,e,q⟩:=h
 obtain⟨⟨x,S1⟩,e1,e⟩:=bind_some e
 refine⟨Γ,μ,env,S,x,S1,hK,R,e1,fun v1 μ1 H1 x1 R1 r1=>?_⟩
 dsimp only at e
 split at e
 .rename_i c
  cases r1
  cases e
  exact⟨c,rfl,q _ μ1 H1 x1 R1 (.bl _)⟩
 .cases e⟩
theorem LR{e:Expr}(h:JE X e fa)(he:∀whole,isTrue e X.env whole=(do let v ←whole;standAt e.pos;holding [v] (truthy v)):=by intro _;rfl):JT X e (BK fa):=⟨PT.imp (uP h.pe he) fun σ H Q h=>by
 obtain⟨Γ,μ,env,S,d,S',hK,R,e,q⟩:=h
 obtain⟨⟨x,S1⟩,e1,e⟩:=bind_some e
 refine⟨Γ,μ,env,S,x,S1,hK,R,e1,fun v1 μ1 H1 x1 R1 r1=>?_⟩
 dsimp only at e
 split at e
 .rename_i c
  cases r1
  cases e
  exact⟨_,rfl,q μ1 H1 x1 R1⟩
 .cases e⟩
theorem aK{K:U0a}{f:Bb}{t:TE}(ht:∀σ H Q,wpE K f σ H Q->t σ H Q){σ:St}{H:Hp}{Q:Bool->Hp->Prop}(h:wpT K (BK f) σ H Q):cF t σ H Q:=by
 obtain⟨Γ,μ,env,S,d,S',hK,R,e,q⟩:=h
 obtain⟨⟨x,S1⟩,e1,e⟩:=bind_some e
 refine ht σ H _ ⟨Γ,μ,env,S,x,S1,hK,R,e1,fun v1 μ1 H1 x1 R1 r1=>?_⟩
 dsimp only at e
 split at e
 .cases r1
  cases e
  exact⟨_,rfl,q μ1 H1 x1 R1⟩
 .cases e
theorem Ci{op:CmpOp}{r:R2}{g:Store->D->D->Option D}(ho:OpR X (compareOp op) r)(hs:G6 X.K r g)(ha:JE X a fa)(hb:JE X b fb)(hm:behindInMarks op b=false):JT X (.Compare a [op] [b] pos) (BK (eOp g fa fb)) :=
 ⟨PT.imp (ou ho ha.pe hb.pe hm) fun σ H Q h=>aK (fun _ _ _=>XH hs) h⟩
theorem jQ{K:U0a}{r r':R2}{g g':Store->D->D->Option D}(hs:G6 K r g)(hs':G6 K r' g'){σ:St}{H:Hp}{Q:VK}(h:wpE K (RB g g' fa fb fc) σ H Q):dh r r' (wpE K fa) (wpE K fb) (wpE K fc) σ H Q:=by
 obtain⟨Γ,μ,env,S,d,S',hK,R,e,q⟩:=h
 obtain⟨⟨x,S1⟩,e1,e⟩:=bind_some e
 obtain⟨⟨y,S2⟩,e2,e⟩:=bind_some e
 obtain⟨z,e3,e⟩:=bind_some e
 refine⟨Γ,μ,env,S,x,S1,hK,R,e1,fun v1 μ1 H1 x1 R1 r1=>?_⟩
 refine⟨Γ,μ1,env,S1,y,S2,hK,R1,e2,fun v2 μ2 H2 x2 R2 r2=>?_⟩
 refine hs Γ μ2 σ H2 env S2 v1 v2 x y _ hK R2 (r1.ext x2) r2 e3 _ fun v H3 sm rv=>?_
 obtain⟨R3,x3⟩:=R2.grow sm
 dsimp only at e
 split at e
 .cases rv
  refine⟨true,rfl,?_⟩
  rw[if_pos rfl]
  obtain⟨⟨u,S3⟩,e4,e⟩:=bind_some e
  obtain⟨w,e5,e⟩:=map_some e
  cases e
  refine⟨Γ,μ2,env,S2,u,S3,hK,R3,e4,fun v4 μ4 H4 x4 R4 r4=>?_⟩
  refine hs' Γ μ4 σ H4 env S3 v2 v4 y u _ hK R4 (r2.ext (x3.trans x4)) r4 e5 _ fun v5 H5 sm5 rv5=>?_
  obtain⟨R5,x5⟩:=R4.grow sm5
  exact q v5 μ4 H5 (x1.trans (x2.trans (x3.trans (x4.trans x5)))) R5 rv5
 .cases rv
  cases e
  refine⟨false,rfl,?_⟩
  rw[if_neg U1d]
  exact q _ μ2 H3 (x1.trans (x2.trans x3)) R3 (.bl false)
 .cases e
theorem Yh{op op':CmpOp}{r r':R2}{g g':Store->D->D->Option D}(ho:OpR X (compareOp op) r)(hs:G6 X.K r g)(ho':OpR X (compareOp op') r')(hs':G6 X.K r' g')(ha:JE X a fa)(hb:JE X b fb)(hc:JE X c fc)
  (hm:lastMarks [op,op'] [b,c]=false:=by with_unfolding_all rfl):JT X (.Compare a [op,op'] [b,c] pos) (BK (RB g g' fa fb fc)):=⟨PT.imp (jz ho ho' ha.pe hb.pe hc.pe hm) fun _ _ _ h=>aK (fun _ _ _=>jQ hs hs') h⟩
variable{ta tb:FJ}
theorem JM(h:JW X a ta):JT X a ta:=⟨h.pw.pt⟩
theorem M5(ha:JT X a ta):JW X (.BoolOp .And [a] pos) ta:=⟨oW ha.pt⟩
theorem Oe(ha:JT X a ta):JW X (.BoolOp .Or [a] pos) ta:=⟨uN ha.pt⟩
theorem Mr(ha:JT X a ta)(hb:JW X (.BoolOp .And (b::rest) pos) tb):JW X (.BoolOp .And (a::b::rest) pos) (G4 ta tb):=⟨PW.imp (uO ha.pt hb.pw) fun σ H Q h=>by
 obtain⟨Γ,μ,env,S,d,S',hK,R,e,q⟩:=h
 obtain⟨⟨x,S1⟩,e1,e⟩:=bind_some e
 refine⟨Γ,μ,env,S,x,S1,hK,R,e1,fun μ1 H1 x1 R1=>?_⟩
 dsimp only at e
 by_cases hx:x=true
 .rw[if_pos hx] at e ⊢
  exact⟨Γ,μ1,env,S1,d,S',hK,R1,e,fun μ' H' x' R'=>q μ' H' (x1.trans x') R'⟩
 .rw[if_neg hx] at e ⊢
  cases e
  exact q μ1 H1 x1 R1⟩
theorem Ma(ha:JT X a ta)(hb:JW X (.BoolOp .Or (b::rest) pos) tb):JW X (.BoolOp .Or (a::b::rest) pos) (tOr ta tb):=⟨PW.imp (xW ha.pt hb.pw) fun σ H Q h=>by
 obtain⟨Γ,μ,env,S,d,S',hK,R,e,q⟩:=h
 obtain⟨⟨x,S1⟩,e1,e⟩:=bind_some e
 refine⟨Γ,μ,env,S,x,S1,hK,R,e1,fun μ1 H1 x1 R1=>?_⟩
 dsimp only at e
 by_cases hx:x=true
 .rw[if_pos hx] at e ⊢
  cases e
  exact q μ1 H1 x1 R1
 .rw[if_neg hx] at e ⊢
  exact⟨Γ,μ1,env,S1,d,S',hK,R1,e,fun μ' H' x' R'=>q μ' H' (x1.trans x') R'⟩⟩
theorem La(ha:JT X a ta):JT X (.UnaryOp .Not a pos) (JR ta):=⟨PT.imp (uQ ha.pt) fun σ H Q h=>by
 obtain⟨Γ,μ,env,S,d,S',hK,R,e,q⟩:=h
 obtain⟨⟨x,S1⟩,e1,e⟩:=bind_some e
 cases e
 exact⟨Γ,μ,env,S,x,S1,hK,R,e1,fun μ1 H1 x1 R1=>q μ1 H1 x1 R1⟩⟩
theorem Gn:JTs X [] G3:=⟨PTs.imp oZ fun σ H Q h=>by
 obtain⟨Γ,μ,env,S,d,S',hK,R,e,q⟩:=h
 cases e
 exact q μ H (Ext.refl _ _) R⟩
theorem Rv(h:JT X c ta):JTs X [c] ta:=⟨oY h.pt⟩
variable{lo hi:Option Expr}{ol oh:TV}{p2:Pos}
theorem O8:JO X none GF:=⟨PO.imp pG fun σ H Q h=>by
 obtain⟨Γ,μ,env,S,d,S',hK,R,e,q⟩:=h
 cases e
 exact q μ H (Ext.refl _ _) R⟩
theorem O7(h:JE X a fa):JO X (some a) (GD fa):=⟨PO.imp (pF h.pe) fun σ H Q h=>by
 obtain⟨Γ,μ,env,S,d,S',hK,R,e,q⟩:=h
 obtain⟨⟨x,S1⟩,e1,e⟩:=bind_some e
 refine⟨Γ,μ,env,S,x,S1,hK,R,e1,fun v1 μ1 H1 x1 R1 r1=>?_⟩
 dsimp only at e
 split at e
 .cases r1
  cases e
  exact⟨_,rfl,q μ1 H1 x1 R1⟩
 .cases e⟩
theorem MF{r:V->Option Int->Option Int->Hp->VK->Prop}{g:Store->D->Option Int->Option Int->Option D}(hr:SlR X r)(hs:nJ X.K r g)(ha:JE X a fa)(hl:JO X lo ol)(hh:JO X hi oh) :
  JE X (.Subscript a (.Slice lo hi none p2) pos) (eSl g fa ol oh):=⟨PE.imp (kY hr ha.pe hl.po hh.po) fun σ H Q h=>by
 obtain⟨Γ,μ,env,S,d,S',hK,R,e,q⟩:=h
 obtain⟨⟨x,S1⟩,e1,e⟩:=bind_some e
 obtain⟨⟨l,S2⟩,e2,e⟩:=bind_some e
 obtain⟨⟨u,S3⟩,e3,e⟩:=bind_some e
 obtain⟨z,e4,e⟩:=map_some e
 cases e
 refine⟨Γ,μ,env,S,x,S1,hK,R,e1,fun v1 μ1 H1 x1 R1 r1=>?_⟩
 refine⟨Γ,μ1,env,S1,l,S2,hK,R1,e2,fun μ2 H2 x2 R2=>?_⟩
 refine⟨Γ,μ2,env,S2,u,S3,hK,R2,e3,fun μ3 H3 x3 R3=>?_⟩
 refine hs Γ μ3 σ H3 env S3 v1 x _ l u hK R3 (r1.ext (x2.trans x3)) e4 Q fun v H' sm rv=>?_
 obtain⟨R4,x4⟩:=R3.grow sm
 exact q v μ3 H' (x1.trans (x2.trans (x3.trans x4))) R4 rv⟩
theorem mV{K:U0a}{r:List V->Hp->VK->Prop}{g:Store->List D->Option D}{f:Bf}(hs:N8 K r g){σ:St}{H:Hp}{Q:VK}(h:wpE K (eCB g f) σ H Q):tCB r (wpA K f) σ H Q:=by
 obtain⟨Γ,μ,env,S,d,S',hK,R,e,q⟩:=h
 obtain⟨⟨x,S1⟩,e1,e⟩:=bind_some e
 obtain⟨z,e4,e⟩:=map_some e
 cases e
 refine⟨Γ,μ,env,S,x,S1,hK,R,e1,fun v1 μ1 H1 x1 R1 r1=>?_⟩
 refine hs Γ μ1 σ H1 env S1 v1 x _ hK R1 r1 e4 Q fun v H' sm rv=>?_
 obtain⟨R4,x4⟩:=R1.grow sm
 exact q v μ1 H' (x1.trans x4) R4 rv
variable{x:Str}{p:Pos}{e:Expr}{es:List Expr}{id T:String}{f:Bf}
theorem Cm{r:List V->Hp->VK->Prop}{g:Store->List D->Option D}(hc:Dn X (.builtin id) r)(hsm:N8 X.K r g)(hg:Gl X x)(hm:X.mg x=none)(hv:bootBuiltins x=some (.builtin id))(ha:JA X (e::es) f)(hn:x≠"__name__":=by decide)(hdb:(x==("__debug__":Str))=false:=by decide)
  (he:starEach (e::es) X.env=(false,eval e X.env)::starEach es X.env:=by rfl) (hpl:(backTo pos (starEach es X.env)).any (·.1)=false:=by rfl):JE X (.Call (.Name x p) (e::es) [] pos) (eCB g f) :=
 ⟨PE.imp (YQ hc hg hm hv ha.pa hn hdb he hpl) fun _ _ _ h=>mV hsm h⟩
theorem Mv{r:List V->Hp->VK->Prop}{g:Store->List D->Option D}(hc:Dn X (.type T) r)(hsm:N8 X.K r g)(hg:Gl X x)(hm:X.mg x=none)(hv:bootBuiltins x=some (.type T))(ha:JA X (e::es) f)(hn:x≠"__name__":=by decide)(hdb:(x==("__debug__":Str))=false:=by decide)
  (he:starEach (e::es) X.env=(false,eval e X.env)::starEach es X.env:=by rfl) (hpl:(backTo pos (starEach es X.env)).any (·.1)=false:=by rfl):JE X (.Call (.Name x p) (e::es) [] pos) (eCB g f) :=
 ⟨PE.imp (Kq hc hg hm hv ha.pa hn hdb he hpl) fun _ _ _ h=>mV hsm h⟩
end
section
variable{X:Cx}{st:Stmt}{sts:List Stmt}{f g:Ba}{fa:Bb}{a:Expr}{pos:Pos}{K:U0a}
theorem wz{E:Ends}{σ:St}{H:Hp}{fl:Fl}(h:wpS K (fun env S=>some (fl,env,S)) E σ H):∃Γ μ,FlQ Γ μ E σ H fl:=by
 obtain⟨Γ,μ,env,S,fl',env',S',hK,R,e,q⟩:=h
 cases e
 exact⟨Γ,μ,q μ σ H (Ext.refl _ _) R⟩
theorem Ds:JSs X [] Dh:=⟨PSs.imp pC fun E σ H h=>let ⟨_,_,q⟩:=wz (fl:=.nx) h;q⟩
theorem Oo:JS X st Kz:=⟨PS.imp kI fun E σ H h=>by obtain⟨_,_,_,_,_,_,_,_,_,e,_⟩:=h;cases e⟩
theorem Av(h1:JS X st f)(h2:JSs X sts g):JSs X (st::sts) (Bm f g):=⟨PSs.imp (kE h1.ps h2.ps) fun E σ H h=>by
 obtain⟨Γ,μ,env,S,fl,env',S',hK,R,e,q⟩:=h
 obtain⟨⟨fl1,env1,S1⟩,e1,e⟩:=bind_some e
 refine⟨Γ,μ,env,S,fl1,env1,S1,hK,R,e1,fun μ1 σ1 H1 x1 R1=>?_⟩
 dsimp only at e
 cases fl1 with
 |nx=>exact⟨Γ,μ1,env1,S1,fl,env',S',hK,R1,e,fun μ' σ' H' x' R'=>q μ' σ' H' (x1.trans x') R'⟩
 |brk=>cases e;exact q μ1 σ1 H1 x1 R1
 |cnt=>cases e;exact q μ1 σ1 H1 x1 R1
 |ret d=>cases e;exact q μ1 σ1 H1 x1 R1⟩
theorem Ay(h1:JS X st f):JSs X [st] f:=⟨pA h1.ps⟩
theorem Fz(he:JE X a fa)(hs:swapsWith a none pos.line X.env=pure false:=by rfl):JS X (.Expr a pos) (Fb fa):=⟨PS.imp (pD he.pe hs) fun E σ H h=>by
 obtain⟨Γ,μ,env,S,fl,env',S',hK,R,e,q⟩:=h
 obtain⟨⟨x,S1⟩,e1,e⟩:=bind_some e
 cases e
 exact⟨Γ,μ,env,S,x,S1,hK,R,e1,fun v1 μ1 H1 x1 R1 r1=>q μ1 σ H1 x1 R1⟩⟩
theorem Cj(he:JE X a fa):JS X (.Return (some a) pos) (Dk fa):=⟨PS.imp (uT he.pe) fun E σ H h=>by
 obtain⟨Γ,μ,env,S,fl,env',S',hK,R,e,q⟩:=h
 obtain⟨⟨x,S1⟩,e1,e⟩:=bind_some e
 cases e
 exact⟨Γ,μ,env,S,x,S1,hK,R,e1,fun v1 μ1 H1 x1 R1 r1=>q μ1 σ H1 x1 R1 v1 r1⟩⟩
theorem Ep{c:Expr}{A B:List Stmt}{tc:FJ}(hc:JT X c tc)(ha:JSs X A f)(hb:JSs X B g):JS X (.If c A B pos) (sIf tc f g):=⟨PS.imp (xX hc.pt ha.ps hb.ps) fun E σ H h=>by
 obtain⟨Γ,μ,env,S,fl,env',S',hK,R,e,q⟩:=h
 obtain⟨⟨x,S1⟩,e1,e⟩:=bind_some e
 refine⟨Γ,μ,env,S,x,S1,hK,R,e1,fun μ1 H1 x1 R1=>?_⟩
 dsimp only at e
 by_cases hx:x=true
 .rw[if_pos hx] at e ⊢
  exact⟨Γ,μ1,env,S1,fl,env',S',hK,R1,e,fun μ' σ' H' x' R'=>q μ' σ' H' (x1.trans x') R'⟩
 .rw[if_neg hx] at e ⊢
  exact⟨Γ,μ1,env,S1,fl,env',S',hK,R1,e,fun μ' σ' H' x' R'=>q μ' σ' H' (x1.trans x') R'⟩⟩
theorem CZ{i:Nat}{x:Str}{pos':Pos}(hN:X.N.Nodup)(he:JE X a fa)(hi:X.N[i]?=some x:=by rfl)(hx:Loc X.env.scope x:=by first|exact Or.inl rfl|exact Or.inr rfl)(hs:swapsWith a (some (.Name x pos')) pos.line X.env=pure false:=by rfl)
  (hf:X.fn x=true∨X.env.scope.names.lookup x=some .local:=by first|exact .inl rfl|exact .inr rfl|assumption):JS X (.Assign [.Name x pos'] a pos) (Bj i fa):=⟨PS.imp (uR hN hi hx he.pe hs hf) fun E σ H h=>by
 obtain⟨Γ,μ,env,S,fl,env',S',hK,R,e,q⟩:=h
 obtain⟨⟨y,S1⟩,e1,e⟩:=bind_some e
 cases e
 exact⟨Γ,μ,env,S,y,S1,hK,R,e1,fun v1 μ1 H1 x1 R1 r1=>q μ1 _ H1 x1 (R1.Vc i r1)⟩⟩
theorem Bk{i:Nat}{x:Str}(hN:X.N.Nodup)(hi:X.N[i]?=some x:=by rfl)(hx:Loc X.env.scope x:=by first|exact Or.inl rfl|exact Or.inr rfl)
  (hf:X.fn x=true∨X.env.scope.names.lookup x=some .local:=by first|exact .inl rfl|exact .inr rfl|assumption):JG X (.Name x pos) (.nm i):=⟨by rw[Pat.raw];exact pJ hN hi hx hf⟩
theorem Gp:JGs X [] []:=⟨by rw[KJ];exact pI⟩
theorem Cg{e:Expr}{es:List Expr}{t:Pat}{u:List Pat}(h1:JG X e t)(h2:JGs X es u)
  (hs:(assignEach (e::es) X.env).map (·.2)=assign e X.env::(assignEach es X.env).map (·.2):=by rfl):JGs X (e::es) (t::u):=⟨by rw[KJ];exact kW h1.pg h2.pg hs⟩
theorem Ht{es:List Expr}{k:Nat}{gs:List Pat}(hc:X.calm=true)(h:JGs X es gs)(hn:(assignEach es X.env).length=gs.length:=by rfl)(hst:(assignEach es X.env).findIdx? (·.1)=none:=by rfl):JG X (.Tuple es k pos) (.tp gs) :=
 ⟨by rw[Pat.raw];exact uY hc h.pg hn hst⟩
theorem vP{tg:Expr}{gg:Pat}(he:JE X a fa)(hg:JG X tg gg)(hs:swapsWithSole [tg] a pos.line X.env=pure false:=by rfl)(hw:swappedStores [tg] a X.env=pure none:=by rfl)
  (h1:(assignEach [tg] X.env).map (·.2)=[assign tg X.env]:=by rfl):JS X (.Assign [tg] a pos) (bT fa gg.sem):=⟨PS.imp (eE he.pe hg.pg hs hw h1) fun E σ H h=>by
 obtain⟨Γ,μ,env,S,fl,env',S',hK,R,e,q⟩:=h
 obtain⟨⟨y,S1⟩,e1,e⟩:=bind_some e
 obtain⟨env1,e2,e⟩:=bind_some e
 cases e
 exact⟨Γ,μ,env,S,y,S1,hK,R,e1,fun v1 μ1 H1 x1 R1 r1=>gg.run X.K R1 r1 e2 fun σ' R'=>q μ1 σ' H1 x1 R'⟩⟩
theorem Gz{tg iter:Expr}{body:List Stmt}{it:KY}{gg:Pat}(hc:X.calm=true)(hi:JI X tg iter it)(hg:JG X tg gg)(hb:JSs X body f)(hp:PassesOwn (model X.prog X.w) X.A X.env X.xe)
  (hs:∀x,foldedSetIterable iter X.env x=pure x:=by intro _;rfl):JS X (.For tg iter body [] pos) (JL it gg.sem f):=⟨PS.imp (uV hp hc hi.pi hg.pg hb.ps hs) fun E σ H h=>by
 obtain⟨Γ,μ,env,S,fl,env',S',hK,R,e,q⟩:=h
 obtain⟨⟨⟨ds,w⟩,S1⟩,e1,e⟩:=bind_some e
 refine⟨Γ,μ,env,S,ds,w,S1,hK,R,e1,fun J μ1 H1 x1 R1 ok=>?_⟩
 refine⟨fun i m σ2 H2=>∃μ2 env2 S2,m=ds.length-i/\i<=ds.length/\Ext μ1 H1 μ2 H2/\Rep Γ μ2 σ2 H2 env2 S2/\loop w gg.sem f (ds.drop i) env2 S2=some (fl,env',S'),⟨ds.length,μ1,env,S1,rfl,U3u _,Ext.refl _ _,R1,by rw[U54];exact e⟩,?_⟩
 rintro i m σ2 H2 ⟨μ2,env2,S2,rfl,hi,x2,R2,el⟩
 by_cases hlt:i<ds.length
 .rw[U2s hlt] at el
  unfold loop at el
  by_cases hcm:calm w S2
  .rw[if_pos hcm] at el
   obtain⟨env3,e3,el⟩:=bind_some el
   obtain⟨⟨fl4,env4,S4⟩,e4,el⟩:=bind_some el
   obtain⟨go,yl⟩:=ok.step i ds[i] μ2 H2 σ2 env2 S2 (U0g hlt) x2 R2 hcm
   refine .inr ⟨go,fun σ5 H5=>∃μ5 env5 S5,Ext μ1 H1 μ5 H5/\Rep Γ μ5 σ5 H5 env5 S5/\loop w gg.sem f (ds.drop (i+1)) env5 S5=some (fl,env',S'),fun σ5 H5 ⟨μ5,env5,S5,x5,R5,e5⟩=>⟨ds.length-(i+1),by omega,μ5,env5,S5,rfl,hlt,x5,R5,e5⟩,fun x H3 y=>?_⟩
   obtain⟨sm,rx⟩:=yl x H3 y
   obtain⟨R3,x3⟩:=R2.grow sm
   refine gg.run X.K R3 rx e3 fun σ3 R3'=>?_
   refine⟨Γ,μ2,env3,S2,fl4,env4,S4,hK,R3',e4,fun μ4 σ4 H4 x4 R4=>?_⟩
   have x14:=x2.trans (x3.trans x4)
   dsimp only at el
   cases fl4 with
   |nx=>exact⟨μ4,env4,S4,x14,R4,el⟩
   |cnt=>exact⟨μ4,env4,S4,x14,R4,el⟩
   |brk=>cases el;exact q μ4 σ4 H4 (x1.trans x14) R4
   |ret d=>cases el;exact q μ4 σ4 H4 (x1.trans x14) R4
  .rw[if_neg hcm] at el;cases el
 .have hi':i=ds.length:=by omega
  subst hi'
  rw[List.drop_length] at el
  unfold loop at el
  by_cases hcm:calm w S2
  .rw[if_pos hcm] at el
   cases el
   exact .inl ⟨ok.stop μ2 H2 σ2 _ _ x2 R2 hcm,q μ2 σ2 H2 (x1.trans x2) R2⟩
  .rw[if_neg hcm] at el;cases el⟩
end
end VS
end
section
namespace VS
open PySem PySem.Spec L2
theorem Rep.cap{Γ:Fr}{μ:Mu}{σ:St}{H:Hp}{env:Env}{S:Store}(R:Rep Γ μ σ H env S)(k:Nat)(caps:List Nat):Rep Γ μ (Jv k caps σ) H (HJ k caps env) S:=by
 refine⟨fun i d h=>?_,?_,R.sto,R.liv,R.inj,R.slen,R.ent,R.new⟩
 .unfold HJ at h
  by_cases hi:i<k
  .rw[U1g (by simpa using hi),U4t,if_pos hi] at h
   cases h
  .rw[U2g (by simpa using hi),U2a,U0y] at h
   cases e:caps[i-k]? with
   |none=>rw[e] at h;cases h
   |some a =>
    rw[e] at h
    have h':(env[a]?).join=some d:=U09 h
    have h2:env[a]?=some (some d):=by
     cases q:env[a]? with
     |none=>rw[q] at h';cases h'
     |some o=>rw[q] at h';exact congrArg some h'
    obtain⟨v,h3,h4⟩:=R.vals a d h2
    refine⟨v,?_,h4⟩
    unfold Jv
    rw[U2g (by simpa using hi),U2a,U0y,e]
    show some (σ[a]?).join=some (some v)
    rw[h3];rfl
 .unfold Jv HJ
  rw[U0n,U0n,U0j,U0j,U2a,U2a]
section
variable{X:Cx}
theorem Vl{K:U0a}{k:Nat}{caps:List Nat}{it:KY}{p:Pat}{t:FJ}{f:Bb}{σ:St}{H:Hp}{Q:VK} (h:∃Γ μ env S ys S',Γ.K=K/\Rep Γ μ σ H env S/\DK k caps it p.sem t f env S=some (ys,S') /\
  ∀xs μ' H',Ext μ H μ' H'->Rep Γ μ' σ H' env S'->VRs Γ μ' H' xs ys->∀q,H' q=none->Q (.ref q) (upd H' q (.lst xs))):cH k caps (wpI K it) (p.raw K) (wpT K t) (wpE K f) σ H Q:=by
 obtain⟨Γ,μ,env,S,ys,S',hK,R,e,q⟩:=h
 obtain⟨⟨⟨ds,w⟩,S1⟩,e1,e⟩:=bind_some e
 refine⟨Γ,μ,env,S,ds,w,S1,hK,R,e1,fun J μ1 H1 x1 R1 ok=>?_⟩
 refine⟨fun i m zs H2=>∃μ2 S2 dzs,m=ds.length-i/\i<=ds.length/\Ext μ1 H1 μ2 H2/\Rep Γ μ2 σ H2 env S2/\VRs Γ μ2 H2 zs dzs/\Fy w (HJ k caps env) p.sem t f (ds.drop i) dzs S2=some (ys,S'),
  ⟨ds.length,μ1,S1,[],rfl,U3u _,Ext.refl _ _,R1,.nil,by rw[U54];exact e⟩,?_⟩
 rintro i m zs H2 ⟨μ2,S2,dzs,rfl,hi,x2,R2,rz,el⟩
 by_cases hlt:i<ds.length
 .rw[U2s hlt] at el
  unfold Fy at el
  by_cases hcm:calm w S2/\dzs.length<=1000000
  .rw[if_pos hcm] at el
   obtain⟨env3,e3,el⟩:=bind_some el
   obtain⟨⟨b,S4⟩,e4,el⟩:=bind_some el
   have R2c:=R2.cap k caps
   obtain⟨go,yl⟩:=ok.step i ds[i] μ2 H2 _ _ S2 (U0g hlt) x2 R2c hcm.1
   refine .inr ⟨go,by rw[rz.length];exact big hcm.2,fun x H3 y=>?_⟩
   obtain⟨sm,rx⟩:=yl x H3 y
   obtain⟨R3,x3⟩:=R2c.grow sm
   obtain⟨R3o,_⟩:=R2.grow sm
   refine p.run K R3 rx e3 fun σ3 R3'=>?_
   refine⟨Γ,μ2,env3,S2,b,S4,hK,R3',e4,fun μ4 H4 x4 R4=>?_⟩
   dsimp only at el
   by_cases hb:b=true
   .rw[if_pos hb] at el ⊢
    obtain⟨⟨d5,S5⟩,e5,el⟩:=bind_some el
    refine⟨Γ,μ4,env3,S4,d5,S5,hK,R4,e5,fun v μ5 H5 x5 R5 r5=>?_⟩
    exact⟨ds.length-(i+1),by omega,μ5,S5,dzs++[d5],rfl,hlt,x2.trans (x3.trans (x4.trans x5)),R3o.back (x4.trans x5) R5,((rz.ext (x3.trans (x4.trans x5)))).append (.cons r5 .nil),el⟩
   .rw[if_neg hb] at el ⊢
    exact⟨ds.length-(i+1),by omega,μ4,S4,dzs,rfl,hlt,x2.trans (x3.trans x4),R3o.back x4 R4,rz.ext (x3.trans x4),el⟩
  .rw[if_neg hcm] at el;cases el
 .have hi':i=ds.length:=by omega
  subst hi'
  rw[List.drop_length] at el
  unfold Fy at el
  by_cases hcm:calm w S2/\dzs.length<=1000000
  .rw[if_pos hcm] at el
   cases el
   exact .inl ⟨ok.stop μ2 H2 σ env _ x2 R2 hcm.1,fun p hp=>q zs μ2 H2 (x1.trans x2) R2 rz p hp⟩
  .rw[if_neg hcm] at el;cases el
structure JC(X:Cx)(N2:List Str)(scope:Scope)(tg:Expr)(ifs:List Expr)(elt:Expr)(p:Pat)(t:FJ)(f:Bb):Prop where
 all:∀(cl:List (Str×Addr))(C:Addr)(s:Shared)(H:Hp)(ex:List Addr),JG (Ea X N2 scope cl C s H ex) tg p/\JTs (Ea X N2 scope cl C s H ex) ifs t/\JE (Ea X N2 scope cl C s H ex) elt f
theorem Fi{elt tg iter:Expr}{ifs:List Expr}{scope:Scope}{pos:Pos}{N2:List Str}{k:Nat}{caps:List Nat}{it:KY}{p:Pat}{t:FJ}{f:Bb}
  (hc:X.calm=true) (hS:Eb X.env.scope X.N N2 k caps scope) (hlow:p.low k=true) (hi:JI X tg iter it) (hb:JC X N2 scope tg ifs elt p t f)
  (hs:∀x,foldedSetIterable iter X.env x=pure x:=by intro _;rfl):JE X (.ListComp elt [⟨tg,iter,ifs,0⟩] scope pos) (Bt (DK k caps it p.sem t f)) :=
 ⟨PE.imp (pK hc hS (p.XR X.K hlow) hi.pi (fun cl C s H ex=>let ⟨a,b,c⟩:=hb.all cl C s H ex;⟨a.pg,b.pt,c.pe⟩) hs) fun σ H Q h=>by
  obtain⟨Γ,μ,env,S,d,S',hK,R,e,q⟩:=h
  obtain⟨⟨ys,S1⟩,e1,e⟩:=bind_some e
  cases e
  refine Vl ⟨Γ,μ,env,S,ys,S1,hK,R,e1,fun xs μ1 H1 x1 R1 r1 z hz=>?_⟩
  obtain⟨R2,x2⟩:=R1.grow (DQ hz (.lst xs))
  exact q _ μ1 _ (x1.trans x2) R2 (.lst (R1.ok hz true) (R1.dead hz) Ce (r1.ext x2))⟩
theorem aW{Γ:Fr}{μ:Mu}{H:Hp}{p:Addr}{n:Nat}(h:n=μ.length):VR Γ (μ++[some p]) H (.ref p) (.ref n):=by
 subst h
 refine .ref (by rw[U0n];simp) fun a h=>?_
 simp at h
 rw[h]
theorem Q9{elt tg iter:Expr}{ifs:List Expr}{scope:Scope}{pos py spos:Pos}{N2:List Str}{k i:Nat}{y:Str}{caps:List Nat}{it:KY}{p:Pat}{t:FJ}{f:Bb}
  (hc:X.calm=true) (hN:X.N.Nodup) (hS:Eb X.env.scope X.N N2 k caps scope) (hlow:p.low k=true) (hi:JI X tg iter it) (hb:JC X N2 scope tg ifs elt p t f) (hi':X.N[i]?=some y:=by rfl)
  (hx:X.env.scope.names.lookup y=some .local:=by rfl) (hsw:swapsWith (.ListComp elt [⟨tg,iter,ifs,0⟩] scope pos) (some (.Name y py)) spos.line X.env=pure true:=by rfl)
  (hs:∀x,foldedSetIterable iter X.env x=pure x:=by intro _;rfl):JS X (.Assign [.Name y py] (.ListComp elt [⟨tg,iter,ifs,0⟩] scope pos) spos) (Bj i (Bt (DK k caps it p.sem t f))) :=
 ⟨PS.imp (aY hc hN hi' hS (p.XR X.K hlow) hi.pi (fun cl C s H ex=>let ⟨a,b,c⟩:=hb.all cl C s H ex;⟨a.pg,b.pt,c.pe⟩) hx hsw hs) fun E σ H h=>by
  obtain⟨Γ,μ,env,S,fl,env',S',hK,R,e,q⟩:=h
  obtain⟨⟨d,S1⟩,e1,e⟩:=bind_some e
  cases e
  obtain⟨⟨ys,S2⟩,e2,e1⟩:=bind_some e1
  cases e1
  refine Vl ⟨Γ,μ,env,S,ys,_,hK,R,e2,fun xs μ1 H1 x1 R1 r1 z hz=>?_⟩
  obtain⟨R2,x2⟩:=R1.grow (DQ hz (.lst xs))
  exact q μ1 _ _ (x1.trans x2) (R2.Vc i (.lst (R1.ok hz true) (R1.dead hz) Ce (r1.ext x2)))⟩
theorem Zx{elt tg iter:Expr}{ifs:List Expr}{scope:Scope}{pos py spos:Pos}{N2:List Str}{k i:Nat}{y:Str}{caps:List Nat}{it:KY}{p:Pat}{t:FJ}{f:Bb}
  (hc:X.calm=true) (hN:X.N.Nodup) (hS:Eb X.env.scope X.N N2 k caps scope) (hlow:p.low k=true) (hi:JI X tg iter it) (hb:JC X N2 scope tg ifs elt p t f) (hi':X.N[i]?=some y:=by rfl)
  (hx:X.env.scope.names.lookup y=some .local:=by rfl) (hsw:swapsWith (.ListComp elt [⟨tg,iter,ifs,0⟩] scope pos) (some (.Name y py)) spos.line X.env=pure true:=by rfl)
  (hs:∀x,foldedSetIterable iter X.env x=pure x:=by intro _;rfl):JS X (.Assign [.Name y py] (.ListComp elt [⟨tg,iter,ifs,0⟩] scope pos) spos) (Bj i (G5 (DK k caps it p.sem t f))) :=
 ⟨PS.imp (aY hc hN hi' hS (p.XR X.K hlow) hi.pi (fun cl C s H ex=>let ⟨a,b,c⟩:=hb.all cl C s H ex;⟨a.pg,b.pt,c.pe⟩) hx hsw hs) fun E σ H h=>by
  obtain⟨Γ,μ,env,S,fl,env',S',hK,R,e,q⟩:=h
  obtain⟨⟨d,S1⟩,e1,e⟩:=bind_some e
  cases e
  obtain⟨⟨ys,S2⟩,e2,e1⟩:=bind_some e1
  cases e1
  refine Vl ⟨Γ,μ,env,S,ys,_,hK,R,e2,fun xs μ1 H1 x1 R1 r1 z hz=>?_⟩
  obtain⟨R2,x2⟩:=R1.laid hz r1
  exact q _ _ _ (x1.trans x2) (R2.Vc i (aW R1.slen))⟩
end
def listOf(S:Store):D->Option (List D)
 |.lst _ ds=>some ds
 |.ref i=>(S[i]?).join
 |_=>none
def Br(S:Store):D->Option (List D)
 |.tup ds=>some ds
 |.scr ns=>some (ns.map .int)
 |d=>listOf S d
def idOf(ds:List D):D->List (Nat×List D)
 |.ref i=>[(i,ds)]
 |_=>[]
section
variable{Γ:Fr}{μ:Mu}{σ:St}{H:Hp}{env:Env}{S:Store}{v:V}{d:D}{ds:List D}
theorem join_some{α:Type}{a:Option (Option α)}{b:α}(h:a.join=some b):a=some (some b):=by
 cases a with
 |none=>cases h
 |some o=>exact congrArg some h
theorem VR.list(R:Rep Γ μ σ H env S)(r:VR Γ μ H v d)(h:listOf S d=some ds):∃a xs,v=.ref a/\H a=some (.lst xs)/\VRs Γ μ H xs ds:=by
 cases r with
 |lst o n hb rs=>cases h;exact⟨_,_,rfl,hb,rs⟩
 |@ref i v hi f =>
  obtain⟨a,xs,h1,h2,h3⟩:=R.sto i ds (join_some h)
  exact⟨a,xs,f a h1,h2,h3⟩
 |_=>cases h
theorem VR.seq(hK:Γ.K=K)(R:Rep Γ μ σ H env S)(r:VR Γ μ H v d)(h:Br S d=some ds):∃a xs,v=.ref a/\(SqL K H a xs∨SqT K H a xs)/\VRs Γ μ H xs ds:=by
 subst hK
 cases d with
 |tup es=>cases r with|tup hb rs=>cases h;exact⟨_,_,rfl,.inr (SqT.of hb),rs⟩
 |scr ns =>
  cases h
  cases r with
  |scrK hk=>exact⟨_,_,rfl,.inl (hk H),VRs.ints ns⟩
  |scrR n hb=>exact⟨_,_,rfl,.inl (.inl (.inr ⟨_,hb⟩)),VRs.ints ns⟩
 |lst m es=>obtain⟨a,xs,e1,e2,e3⟩:=VR.list R r h;exact⟨a,xs,e1,.inl (SqL.of e2),e3⟩
 |ref i=>obtain⟨a,xs,e1,e2,e3⟩:=VR.list R r h;exact⟨a,xs,e1,.inl (SqL.of e2),e3⟩
 |_=>cases h
end
def Dp(a:Bb):KY:=fun env S=>(a env S).bind fun p=>(Br p.2 p.1).map fun ds=>((ds,idOf ds p.1),p.2)
section
variable{X:Cx}{tg:Expr}
def xH(K:U0a)(tl:TE):TI:=fun σ H R=>tl σ H fun x H1=>∃a,x=.ref a/\(((∃xs,SqL K H1 a xs)/\R (Itl K a) H1)∨((∃xs,SqT K H1 a xs)/\R (Itt K a) H1))
theorem uX{l:Expr}{tl:TE}(hl:PE X l tl):PI X tg l (xH X.K tl):=by
 intro pins s σ H R I h
 refine thn (hl pins s σ H _ I h) fun v s1 ⟨x,H1,I1,r1,q1⟩=>?_
 obtain⟨a,e,⟨⟨xs,hq⟩,q⟩|⟨⟨xs,hq⟩,q⟩⟩:=q1
 .subst e
  cases r1
  obtain⟨its,rv,p,hz⟩:=I1.list hq
  refine U58 p.isList ?_
  refine⟨s1.heap.objs.size,[s1.heap.objs.size],_,_,H1,rfl,I1.kept (t':=s1.toks) fun b o e=>U0c _ e,fQ a _,⟨_,U0w _ rfl,rfl,rfl⟩,fun b hb=>?_,q⟩
  have e:b=s1.heap.objs.size:=by simpa using hb
  subst e
  exact I1.Vf (U0o _) (I1.hok.fresh (U0o _))
 .subst e
  cases r1
  obtain⟨its,rv,p,hz⟩:=I1.tuple hq
  refine U5x (show s1.heap.IsTuple a its.toArray from p) ?_
  refine⟨s1.heap.objs.size,[s1.heap.objs.size],_,_,H1,rfl,I1.kept (t':=s1.toks) fun b o e=>U0c _ e,cM a _,⟨_,U0w _ rfl,rfl,rfl⟩,fun b hb=>?_,q⟩
  have e:b=s1.heap.objs.size:=by simpa using hb
  subst e
  exact I1.Vf (U0o _) (I1.hok.fresh (U0o _))
theorem fj{d:D}{ds:List D}{S S':Store}(h:Br S d=some ds)(c:calm (idOf ds d) S'):Br S' d=some ds:=by
 cases d with
 |ref i =>
  have c':S'[i]?=some (some ds):=c (i,ds) (U03.mpr rfl)
  show(S'[i]?).join=some ds
  rw[c'];rfl
 |_=>exact h
theorem VR.bQ{K:U0a}{Γ:Fr}{μ:Mu}{σ:St}{H:Hp}{env:Env}{S:Store}{v:V}{d:D}{ds:List D}(hK:Γ.K=K)(R:Rep Γ μ σ H env S)(r:VR Γ μ H v d)(h:Br S d=some ds):(∃es,d=.tup es)∨∃a xs,v=.ref a/\SqL K H a xs/\VRs Γ μ H xs ds:=by
 subst hK
 cases d with
 |tup es=>exact .inl ⟨es,rfl⟩
 |scr ns =>
  cases h
  cases r with
  |scrK hk=>exact .inr ⟨_,_,rfl,hk H,VRs.ints ns⟩
  |scrR n hb=>exact .inr ⟨_,_,rfl,.inl (.inr ⟨_,hb⟩),VRs.ints ns⟩
 |lst m es=>obtain⟨a,xs,e1,e2,e3⟩:=VR.list R r h;exact .inr ⟨a,xs,e1,SqL.of e2,e3⟩
 |ref i=>obtain⟨a,xs,e1,e2,e3⟩:=VR.list R r h;exact .inr ⟨a,xs,e1,SqL.of e2,e3⟩
 |_=>cases h
theorem qU{Γ:Fr}{μ:Mu}{H:Hp}{a:Addr}{ds:List D}{K:U0a}{w:List (Nat×List D)}(hr:∀μ' H' σ' env' S',Ext μ H μ' H'->Rep Γ μ' σ' H' env' S'->calm w S'->∃xs,SqL K H' a xs/\VRs Γ μ' H' xs ds):Vj Γ μ H (Itl K a) ds w:=by
 refine⟨fun i d μ' H' σ' env' S' hi x R c=>?_,fun μ' H' σ' env' S' x R c=>?_⟩
 .obtain⟨xs,h1,h2⟩:=hr μ' H' σ' env' S' x R c
  obtain⟨y,e1,e2⟩:=h2.get hi
  refine⟨⟨xs,y,h1,e1⟩,fun z H'' yl=>?_⟩
  obtain⟨e,f⟩:=yl
  subst e
  have:=f xs h1
  rw[e1] at this;cases this
  exact⟨Same.refl _,e2⟩
 .obtain⟨xs,h1,h2⟩:=hr μ' H' σ' env' S' x R c
  exact⟨xs,h1,by rw[h2.length];exact U0o _⟩
theorem eV{Γ:Fr}{μ:Mu}{H:Hp}{a:Addr}{ds:List D}{K:U0a}{w:List (Nat×List D)}(hr:∀μ' H' σ' env' S',Ext μ H μ' H'->Rep Γ μ' σ' H' env' S'->calm w S'->∃xs,SqT K H' a xs/\VRs Γ μ' H' xs ds):Vj Γ μ H (Itt K a) ds w:=by
 refine⟨fun i d μ' H' σ' env' S' hi x R c=>?_,fun μ' H' σ' env' S' x R c=>?_⟩
 .obtain⟨xs,h1,h2⟩:=hr μ' H' σ' env' S' x R c
  obtain⟨y,e1,e2⟩:=h2.get hi
  refine⟨⟨xs,y,h1,e1⟩,fun z H'' yl=>?_⟩
  obtain⟨e,f⟩:=yl
  subst e
  have:=f xs h1
  rw[e1] at this;cases this
  exact⟨Same.refl _,e2⟩
 .obtain⟨xs,h1,h2⟩:=hr μ' H' σ' env' S' x R c
  exact⟨xs,h1,by rw[h2.length];exact U0o _⟩
theorem Eu{l:Expr}{f:Bb}(hl:JE X l f):JI X tg l (Dp f):=⟨PI.imp (uX hl.pe) fun σ H Q h=>by
 obtain⟨Γ,μ,env,S,ds,w,S',hK,R,e,q⟩:=h
 obtain⟨⟨d,S1⟩,e1,e⟩:=bind_some e
 obtain⟨ds',e2,e⟩:=map_some e
 cases e
 refine⟨Γ,μ,env,S,d,S1,hK,R,e1,fun v μ1 H1 x1 R1 r1=>?_⟩
 rcases VR.bQ hK R1 r1 e2 with ⟨es,rfl⟩|⟨a,xs,rfl,hq,rs⟩
 .cases r1 with
  |@tup a xs _ hb rs =>
   refine⟨a,rfl,.inr ⟨⟨xs,SqT.of hb⟩,q _ μ1 H1 x1 R1 (eV fun μ' H' σ' env' S' x' R' c=>?_)⟩⟩
   have e2':es=ds:=U09 e2
   subst e2'
   exact⟨xs,SqT.of (x'.tups _ _ hb),rs.ext x'⟩
 .by_cases ht:∃es,d=.tup es
  .obtain⟨es,rfl⟩:=ht
   cases r1 with
   |@tup b ys _ hb rs' =>
    refine⟨a,rfl,.inr ⟨⟨ys,SqT.of hb⟩,q _ μ1 H1 x1 R1 (eV fun μ' H' σ' env' S' x' R' c=>?_)⟩⟩
    have e2':es=ds:=U09 e2
    subst e2'
    exact⟨ys,SqT.of (x'.tups _ _ hb),rs'.ext x'⟩
  .refine⟨a,rfl,.inl ⟨⟨xs,hq⟩,q _ μ1 H1 x1 R1 (qU fun μ' H' σ' env' S' x' R' c=>?_)⟩⟩
   rcases VR.bQ hK R' (r1.ext x') (fj e2 c) with z|⟨b,ys,e,h1,h2⟩
   .exact absurd z ht
   .cases e
    exact⟨ys,h1,h2⟩⟩
def upD(lo:Int)(n:Nat):List D:=(U0h n).map fun(i:Nat)=>.int (lo+i)
theorem lq{Γ:Fr}{μ:Mu}{H:Hp}(lo:Int)(n:Nat):Vj Γ μ H (Itr lo n) (upD lo n) []:=by
 have len:(upD lo n).length=n:=by unfold upD;rw[U0j,U24]
 refine⟨fun i d μ' H' σ' env' S' hi x R c=>?_,fun μ' H' σ' env' S' x R c=>?_⟩
 .have hi':i<n:=by rw[←len];exact(U0l.mp hi).1
  refine⟨hi',fun y H'' yl=>?_⟩
  obtain⟨e1,e2⟩:=yl
  subst e1 e2
  unfold upD at hi
  rw[U0y,U5i hi'] at hi
  cases hi
  exact⟨Same.refl _,.int _⟩
 .show n<=(upD lo n).length
  rw[len];exact U0o _
def r62(j:Int):Prop:=-(2^62)<=j/\j<2^62
instance(j:Int):Decidable (r62 j):=by unfold r62;infer_instance
def Ej(a:Bf):KY:=fun env S=>(a env S).bind fun p=>match p.1 with|[.int j]=>if r62 j then some ((upD 0 j.toNat,[]),p.2) else none|_=>none
theorem VRs.one{Γ:Fr}{μ:Mu}{H:Hp}{vs:List V}{d:D}(h:VRs Γ μ H vs [d]):∃v,vs=[v]/\VR Γ μ H v d:=by
 cases h with|cons r t=>cases t;exact⟨_,rfl,r⟩
theorem VRs.two{Γ:Fr}{μ:Mu}{H:Hp}{vs:List V}{d e:D}(h:VRs Γ μ H vs [d,e]):∃v u,vs=[v,u]/\VR Γ μ H v d/\VR Γ μ H u e:=by
 cases h with|cons r t=>cases t with|cons r' t=>cases t;exact⟨_,_,rfl,r,r'⟩
theorem Hu{a:Expr}{f:Bf}{p pos:Pos}(hg:Gl X "range")(hm:X.mg "range"=none)(ha:JA X [a] f)(hs:starEach [a] X.env=[(false,eval a X.env)]:=by rfl):JI X tg (.Call (.Name "range" p) [a] [] pos) (Ej f) :=
 ⟨PI.imp (gW hg hm ha.pa hs) fun σ H Q h=>by
  obtain⟨Γ,μ,env,S,ds,w,S',hK,R,e,q⟩:=h
  obtain⟨⟨d,S1⟩,e1,e⟩:=bind_some e
  refine⟨Γ,μ,env,S,d,S1,hK,R,e1,fun v μ1 H1 x1 R1 r1=>?_⟩
  dsimp only at e
  split at e
  .rename_i j
   by_cases hj:r62 j
   .rw[if_pos hj] at e
    cases e
    obtain⟨v,rfl,r⟩:=r1.one
    cases r
    exact⟨j,rfl,hj.1,hj.2,q _ μ1 H1 x1 R1 (lq 0 _)⟩
   .rw[if_neg hj] at e;cases e
  .cases e⟩
end
end VS
end
section
namespace VS
open PySem PySem.Spec L2
section
variable{X:Cx}{tg:Expr}
def Df:List D->List D->List D
 |x::xs,y::ys=>.tup [x,y]::Df xs ys
 |_,_=>[]
theorem Y0:∀{xs ys:List D} {i:Nat} {d:D},(Df xs ys)[i]?=some d->∃x y,xs[i]?=some x/\ys[i]?=some y/\d=.tup [x,y]
 |[],_,_,_,h=>by simp[Df] at h
 |_::_,[],_,_,h=>by simp[Df] at h
 |x::xs,y::ys,0,d,h=>by simp[Df] at h;exact⟨x,y,rfl,rfl,h.symm⟩
 |x::xs,y::ys,i+1,d,h=>by
  simp[Df] at h
  obtain⟨a,b,h1,h2,h3⟩:=Y0 h
  exact⟨a,b,by simpa using h1,by simpa using h2,h3⟩
theorem Xz:∀(xs ys:List D),((Df xs ys).length=xs.length/\xs.length<=ys.length)∨((Df xs ys).length<xs.length/\(Df xs ys).length=ys.length)
 |[],_=>.inl ⟨rfl,U3u _⟩
 |_::_,[]=>.inr ⟨by simp[Df],rfl⟩
 |x::xs,y::ys=>by
  rcases Xz xs ys with ⟨h1,h2⟩|⟨h1,h2⟩
  .left;simp[Df];omega
  .right;simp[Df];omega
def Rk(a:Bf):KY:=fun env S=>(a env S).bind fun p=>match p.1 with
 |[.tup xs,.tup ys]=>some ((Df xs ys,[]),p.2)
 |[x,.tup ys]=>(listOf p.2 x).bind fun xs=>some ((Df xs ys,idOf xs x),p.2)
 |[x,y]=>(listOf p.2 x).bind fun xs=>(listOf p.2 y).bind fun ys=>some ((Df xs ys,idOf xs x++idOf ys y),p.2)
 |_=>none
theorem Lb{d:D}{ds:List D}{S S':Store}(h:listOf S d=some ds)(c:calm (idOf ds d) S'):listOf S' d=some ds:=by
 cases d with
 |ref i =>
  have c':S'[i]?=some (some ds):=c (i,ds) (U03.mpr rfl)
  show(S'[i]?).join=some ds
  rw[c'];rfl
 |_=>exact h
theorem Xv{Γ:Fr}{μ:Mu}{H:Hp}{L M:Bool}{a b:Addr}{xs ys:List D}{w:List (Nat×List D)}(hr:∀μ' H' σ' env' S',Ext μ H μ' H'->Rep Γ μ' σ' H' env' S'->calm w S'->∃us vs,H' a=some (HB L us)/\VRs Γ μ' H' us xs/\H' b=some (HB M vs)/\VRs Γ μ' H' vs ys) :
  Vj Γ μ H (Itz L M a b) (Df xs ys) w:=by
 refine⟨fun i d μ' H' σ' env' S' hi x R c=>?_,fun μ' H' σ' env' S' x R c=>?_⟩
 .obtain⟨us,vs,h1,h2,h3,h4⟩:=hr μ' H' σ' env' S' x R c
  obtain⟨p,q,e1,e2,e3⟩:=Y0 hi
  obtain⟨u,f1,f2⟩:=h2.get e1
  obtain⟨v,g1,g2⟩:=h4.get e2
  refine⟨⟨us,vs,u,v,h1,h3,f1,g1⟩,fun z H'' yl=>?_⟩
  obtain⟨t,u',v',ht,rfl,rfl,k1,k2⟩:=yl
  have k1':=k1 us h1
  have k2':=k2 vs h3
  rw[f1] at k1';cases k1'
  rw[g1] at k2';cases k2'
  subst e3
  have sm:=DQ ht (.tup [u,v])
  obtain⟨_,x2⟩:=R.grow sm
  exact⟨sm,.tup Ce (.cons (f2.ext x2) (.cons (g2.ext x2) .nil))⟩
 .obtain⟨us,vs,h1,h2,h3,h4⟩:=hr μ' H' σ' env' S' x R c
  refine⟨us,vs,h1,h3,?_⟩
  rw[h2.length,h4.length]
  rcases Xz xs ys with z|z
  .exact .inl z.1
  .exact .inr z
theorem PI.or{e:Expr}{t u:TI}(h:PI X tg e t)(k:PI X tg e u):PI X tg e (fun σ H R=>t σ H R∨u σ H R):=fun pins s σ H R I q=>q.elim (fun z=>h pins s σ H R I z) fun z=>k pins s σ H R I z
theorem eU{a b:Expr}{f:Bf}{p pos:Pos}{elts:List Expr}{x1:Nat}{tpos:Pos}(hg:Gl X "zip")(hm:X.mg "zip"=none)(ha:JA X [a,b] f)(hs:starEach [a,b] X.env=[(false,eval a X.env),(false,eval b X.env)]:=by rfl)(hs2:starEach [b] X.env=[(false,eval b X.env)]:=by rfl) :
  JI X (.Tuple elts x1 tpos) (.Call (.Name "zip" p) [a,b] [] pos) (Rk f) :=
 ⟨PI.imp (PI.or (Xo true true (.inl rfl) hg hm ha.pa hs hs2) (PI.or (Xo false false (.inl rfl) hg hm ha.pa hs hs2) (Xo true false (.inr ⟨rfl,rfl⟩) hg hm ha.pa hs hs2))) fun σ H Q h=>by
  obtain⟨Γ,μ,env,S,ds,w,S',hK,R,e,q⟩:=h
  obtain⟨⟨d,S1⟩,e1,e⟩:=bind_some e
  dsimp only at e
  split at e
  .rename_i xs ys
   cases e
   refine .inr (.inl ⟨Γ,μ,env,S,_,_,hK,R,e1,fun v μ1 H1 x1 R1 r1=>?_⟩)
   obtain⟨u,v,rfl,r,r'⟩:=r1.two
   cases r with
   |@tup a us _ ha ra =>
    cases r' with
    |@tup b vs _ hb rb =>
     exact⟨a,b,us,vs,rfl,ha,hb,q _ μ1 H1 x1 R1 (Xv fun μ' H' σ' env' S' x' R' c=>⟨us,vs,x'.tups _ _ ha,ra.ext x',x'.tups _ _ hb,rb.ext x'⟩)⟩
  .rename_i x ys _
   obtain⟨xs,e2,e⟩:=bind_some e
   cases e
   refine .inr (.inr ⟨Γ,μ,env,S,_,_,hK,R,e1,fun v μ1 H1 x1 R1 r1=>?_⟩)
   obtain⟨u,v,rfl,r,r'⟩:=r1.two
   obtain⟨a,us,rfl,ha,ra⟩:=VR.list R1 r e2
   cases r' with
   |@tup b vs _ hb rb =>
    refine⟨a,b,us,vs,rfl,ha,hb,q _ μ1 H1 x1 R1 (Xv fun μ' H' σ' env' S' x' R' c=>?_)⟩
    obtain⟨a',us',e4,ha',ra'⟩:=VR.list R' (r.ext x') (Lb e2 c)
    cases e4
    exact⟨us',vs,ha',ra',x'.tups _ _ hb,rb.ext x'⟩
  .rename_i x y _ _
   obtain⟨xs,e2,e⟩:=bind_some e
   obtain⟨ys,e3,e⟩:=bind_some e
   cases e
   refine .inl ⟨Γ,μ,env,S,_,_,hK,R,e1,fun v μ1 H1 x1 R1 r1=>?_⟩
   obtain⟨u,v,rfl,r,r'⟩:=r1.two
   obtain⟨a,us,rfl,ha,ra⟩:=VR.list R1 r e2
   obtain⟨b,vs,rfl,hb,rb⟩:=VR.list R1 r' e3
   refine⟨a,b,us,vs,rfl,ha,hb,q _ μ1 H1 x1 R1 (Xv fun μ' H' σ' env' S' x' R' c=>?_)⟩
   obtain⟨a',us',e4,ha',ra'⟩:=VR.list R' (r.ext x') (Lb e2 fun p hp=>c p (U3g _ hp))
   obtain⟨b',vs',e5,hb',rb'⟩:=VR.list R' (r'.ext x') (Lb e3 fun p hp=>c p (U1h _ hp))
   cases e4
   cases e5
   exact⟨us',vs',ha',ra',hb',rb'⟩
  .cases e⟩
def Kv(n:Nat):List D->List D
 |[]=>[]
 |x::xs=>.tup [.int n,x]::Kv (n+1) xs
theorem Wj:∀{xs:List D} {n i:Nat} {d:D},(Kv n xs)[i]?=some d->∃x,xs[i]?=some x/\d=.tup [.int ((n+i:Nat):Int),x]
 |[],_,_,_,h=>by simp[Kv] at h
 |x::xs,n,0,d,h=>by simp[Kv] at h;exact⟨x,rfl,h.symm⟩
 |x::xs,n,i+1,d,h=>by
  simp[Kv] at h
  obtain⟨y,h1,h2⟩:=Wj h
  exact⟨y,by simpa using h1,by rw[h2,show n+1+i=n+(i+1) by omega]⟩
theorem Wi:∀(xs:List D)(n:Nat),(Kv n xs).length=xs.length
 |[],_=>rfl
 |_::xs,n=>by rw[Kv,U0i,U0i,Wi xs]
def Xw(a:Bf):KY:=fun env S=>(a env S).bind fun p=>match p.1 with
 |[x]=>(listOf p.2 x).bind fun xs=>some ((Kv 0 xs,idOf xs x),p.2)
 |_=>none
theorem qO{a:Expr}{f:Bf}{p pos:Pos}{elts:List Expr}{x1:Nat}{tpos:Pos}(hg:Gl X "enumerate")(hm:X.mg "enumerate"=none)(ha:JA X [a] f)(hs:starEach [a] X.env=[(false,eval a X.env)]:=by rfl) :
  JI X (.Tuple elts x1 tpos) (.Call (.Name "enumerate" p) [a] [] pos) (Xw f) :=
 ⟨PI.imp (pH hg hm ha.pa hs) fun σ H Q h=>by
  obtain⟨Γ,μ,env,S,ds,w,S',hK,R,e,q⟩:=h
  obtain⟨⟨d,S1⟩,e1,e⟩:=bind_some e
  dsimp only at e
  split at e
  .rename_i x
   obtain⟨xs,e2,e⟩:=bind_some e
   cases e
   refine⟨Γ,μ,env,S,_,_,hK,R,e1,fun v μ1 H1 x1 R1 r1=>?_⟩
   obtain⟨u,rfl,r⟩:=r1.one
   obtain⟨a,us,rfl,ha,ra⟩:=VR.list R1 r e2
   refine⟨a,rfl,⟨us,SqL.of ha⟩,q _ μ1 H1 x1 R1 ⟨fun i d μ' H' σ' env' S' hi x' R' c=>?_,fun μ' H' σ' env' S' x' R' c=>?_⟩⟩
   .obtain⟨a',us',e4,ha',ra'⟩:=VR.list R' (r.ext x') (Lb e2 c)
    cases e4
    obtain⟨y,f1,rfl⟩:=Wj hi
    obtain⟨z,g1,g2⟩:=ra'.get f1
    refine⟨⟨us',z,SqL.of ha',g1⟩,fun y' H'' yl=>?_⟩
    obtain⟨t,z',ht,rfl,rfl,k⟩:=yl
    have k':=k us' (SqL.of ha')
    rw[g1] at k';cases k'
    have sm:=DQ ht (.tup [.int i,z])
    obtain⟨_,x2⟩:=R'.grow sm
    refine⟨sm,.tup Ce (.cons ?_ (.cons (g2.ext x2) .nil))⟩
    rw[U7e]
    exact .int _
   .obtain⟨a',us',e4,ha',ra'⟩:=VR.list R' (r.ext x') (Lb e2 c)
    cases e4
    exact⟨us',SqL.of ha',by rw[ra'.length,Wi];exact U0o _⟩
  .cases e⟩
def TQ(K:U0a)(r:V->List V->Hp->VK->Prop)(g:Store->D->List D->Option (D×Store)):Prop:=∀(Γ:Fr)(μ:Mu)(σ:St)(H:Hp)(env:Env)(S:Store)(x:V)(xs:List V)(dx:D)(ds:List D)(d:D)(S':Store),Γ.K=K->Rep Γ μ σ H env S->VR Γ μ H x dx->VRs Γ μ H xs ds->g S dx ds=some (d,S') ->
 ∀Q:VK,(∀v μ' H',Ext μ H μ' H'->Rep Γ μ' σ H' env S'->VR Γ μ' H' v d->Q v H')->r x xs H Q
def Dt(g:Store->D->List D->Option (D×Store))(o:Bb)(a:Bf):Bb:=fun env S=>(o env S).bind fun p=>if (listOf p.2 p.1).isSome then (a env p.2).bind fun q=>g q.2 p.1 q.1 else none
theorem nW{K:U0a}{r:V->List V->Hp->VK->Prop}{g:Store->D->List D->Option (D×Store)}{o:Bb}{a:Bf}(hs:TQ K r g){σ:St}{H:Hp}{Q:VK}(h:wpE K (Dt g o a) σ H Q):tBM K "list" r (wpE K o) (wpA K a) σ H Q:=by
 obtain⟨Γ,μ,env,S,d,S',hK,R,e,q⟩:=h
 obtain⟨⟨x,S1⟩,e1,e⟩:=bind_some e
 refine⟨Γ,μ,env,S,x,S1,hK,R,e1,fun v1 μ1 H1 x1 R1 r1=>?_⟩
 dsimp only at e
 by_cases hl:(listOf S1 x).isSome=true
 .rw[if_pos hl] at e
  obtain⟨⟨ds,S2⟩,e2,e⟩:=bind_some e
  obtain⟨xs,hx⟩:=U4l.mp hl
  obtain⟨b,us,rfl,hb,rb⟩:=VR.list R1 r1 hx
  refine⟨.inl ⟨rfl,us,SqL.of hb⟩,Γ,μ1,env,S1,ds,S2,hK,R1,e2,fun vs μ2 H2 x2 R2 r2=>?_⟩
  exact hs Γ μ2 σ H2 env S2 _ vs x ds d S' hK R2 (r1.ext x2) r2 e Q fun v μ' H' x' R' rv=>q v μ' H' (x1.trans (x2.trans x')) R' rv
 .rw[if_neg hl] at e;cases e
theorem jP{K:U0a}{r:V->List V->Hp->VK->Prop}{g:Store->D->List D->Option (D×Store)}{o:Bb}(hs:TQ K r g){σ:St}{H:Hp}{Q:VK}(h:wpE K (Dt g o Ae) σ H Q):sW K "list" r (wpE K o) σ H Q:=by
 obtain⟨Γ,μ,env,S,d,S',hK,R,e,q⟩:=h
 obtain⟨⟨x,S1⟩,e1,e⟩:=bind_some e
 refine⟨Γ,μ,env,S,x,S1,hK,R,e1,fun v1 μ1 H1 x1 R1 r1=>?_⟩
 dsimp only at e
 by_cases hl:(listOf S1 x).isSome=true
 .rw[if_pos hl] at e
  obtain⟨⟨ds,S2⟩,e2,e⟩:=bind_some e
  cases e2
  obtain⟨xs,hx⟩:=U4l.mp hl
  obtain⟨b,us,rfl,hb,rb⟩:=VR.list R1 r1 hx
  refine⟨.inl ⟨rfl,us,SqL.of hb⟩,?_⟩
  exact hs Γ μ1 σ H1 env _ _ [] x [] d S' hK R1 r1 .nil e Q fun v μ' H' x' R' rv=>q v μ' H' (x1.trans x') R' rv
 .rw[if_neg hl] at e;cases e
variable{o e:Expr}{es:List Expr}{fo:Bb}{fa:Bf}{name:Str}{apos cpos:Pos}{id:String}{r:V->List V->Hp->VK->Prop}{g:Store->D->List D->Option (D×Store)}
theorem lV(pa:PlainAttrs "list")(slot:Slot "list" name id)(hty:typeOf (.builtin id)=pure (.type "method_descriptor"))(hm:MtR X id r)(hsm:TQ X.K r g)(ho:JE X o fo)
  (hbase:attributeBase o name X.env (eval o X.env)=eval o X.env:=by rfl) (hline:(apos.endLine==cpos.line)=true:=by rfl):JE X (.Call (.Attribute o name apos) [] [] cpos) (Dt g fo Ae) :=
 ⟨PE.imp (um pa slot hty hm ho.pe hbase hline) fun _ _ _ h=>jP hsm h⟩
theorem HY(pa:PlainAttrs "list")(slot:Slot "list" name id)(hty:typeOf (.builtin id)=pure (.type "method_descriptor"))(hm:MtR X id r)(hsm:TQ X.K r g)(ho:JE X o fo)(ha:JA X (e::es) fa)
  (hbase:attributeBase o name X.env (eval o X.env)=eval o X.env:=by rfl)
  (hfew:((backTo cpos (starEach (e::es) X.env)).all (fun x=>!x.1)&&(backToKw cpos (keywordEach [] X.env)).all (fun x=>x.1.isSome)
   && decide ((e::es).length+([]:List Keyword).length+(if ([]:List Keyword).isEmpty then 0 else 1)<30))=true:=by rfl)
  (hline:(apos.endLine==cpos.line)=true:=by rfl) (hs:starEach (e::es) X.env=(false,eval e X.env)::starEach es X.env:=by rfl) (hplain:(backTo cpos (starEach es X.env)).any (·.1)=false:=by rfl) :
  JE X (.Call (.Attribute o name apos) (e::es) [] cpos) (Dt g fo fa) :=
 ⟨PE.imp (xq pa slot hty hm ho.pe ha.pa hbase hfew hline hs hplain) fun _ _ _ h=>nW hsm h⟩
theorem VR.Vd{Γ:Fr}{μ:Mu}{σ:St}{H:Hp}{env:Env}{S:Store}{v:V}{i:Nat}{ds:List D}(R:Rep Γ μ σ H env S)(r:VR Γ μ H v (.ref i))(h:S[i]?=some (some ds)):∃a xs,v=.ref a/\μ[i]?=some (some a)/\H a=some (.lst xs)/\VRs Γ μ H xs ds:=by
 cases r with
 |ref hi f =>
  obtain⟨a,xs,h1,h2,h3⟩:=R.sto i ds h
  exact⟨a,xs,f a h1,h1,h2,h3⟩
def Ed(S:Store):D->List D->Option (D×Store)
 |.ref i,[d]=>match S[i]? with
  |some (some ds)=>if ds.length<1000000 then some (.non,S.set i (some (ds++[d]))) else none
  |_=>none
 |_,_=>none
theorem Ft{K:U0a}:TQ K aX Ed:=by
 intro Γ μ σ H env S x xs dx ds d S' hK R rx rs e Q q
 unfold Ed at e
 split at e
 .rename_i i d1
  split at e
  .rename_i es he
   by_cases hl:es.length<1000000
   .rw[if_pos hl] at e
    cases e
    obtain⟨a,us,rfl,h1,h2,h3⟩:=VR.Vd R rx he
    obtain⟨y,rfl,ry⟩:=rs.one
    obtain⟨R2,x2⟩:=R.put h1 (h3.append (.cons ry .nil))
    exact⟨a,us,y,rfl,rfl,h2,by rw[h3.length];exact big (U2q hl),q _ μ _ x2 R2 .non⟩
   .rw[if_neg hl] at e;cases e
  .cases e
 .cases e
def Jaf(S:Store):D->List D->Option (D×Store)
 |.ref i,[]=>match S[i]? with
  |some (some _)=>some (.non,S.set i (some []))
  |_=>none
 |_,_=>none
def Od(S:Store):D->List D->Option (D×Store)
 |.ref i,[.int k]=>match S[i]? with
  |some (some ds)=>if -(2^63)<=k/\k<2^63 then (PySem.seqIndex? k ds.length).bind fun j=>(ds[j]?).bind fun d=>some (d,S.set i (some (ds.eraseIdx j))) else none
  |_=>none
 |_,_=>none
theorem jt{K:U0a}:TQ K dz Od:=by
 intro Γ μ σ H env S x xs dx ds d S' hK R rx rs e Q q
 unfold Od at e
 split at e
 .rename_i i k
  split at e
  .rename_i es he
   by_cases hl:-(2^63)<=k/\k<2^63
   .rw[if_pos hl] at e
    obtain⟨j,e2,e⟩:=bind_some e
    obtain⟨d',e3,e⟩:=bind_some e
    cases e
    obtain⟨a,us,rfl,h1,h2,h3⟩:=VR.Vd R rx he
    obtain⟨y,rfl,ry⟩:=rs.one
    cases ry
    obtain⟨u,f1,f2⟩:=h3.get e3
    obtain⟨R2,x2⟩:=R.put h1 (h3.eraseIdx j)
    exact⟨a,us,k,j,u,rfl,rfl,h2,hl.1,hl.2,by rw[h3.length];exact e2,f1,q _ μ _ x2 R2 (f2.ext x2)⟩
   .rw[if_neg hl] at e;cases e
  .cases e
 .cases e
def Px(S:Store):D->List D->Option (D×Store)
 |.ref i,[]=>match S[i]? with
  |some (some ds)=>(ds[ds.length-1]?).bind fun d=>some (d,S.set i (some ds.dropLast))
  |_=>none
 |_,_=>none
theorem VRs.dropLast{Γ:Fr}{μ:Mu}{H:Hp}{xs:List V}{ds:List D}(h:VRs Γ μ H xs ds):VRs Γ μ H xs.dropLast ds.dropLast:=by
 rw[List.dropLast_eq_take,List.dropLast_eq_take,h.length]
 exact h.take _
theorem uI{K:U0a}:TQ K tL Px:=by
 intro Γ μ σ H env S x xs dx ds d S' hK R rx rs e Q q
 unfold Px at e
 split at e
 .rename_i i
  split at e
  .rename_i es he
   obtain⟨d',e3,e⟩:=bind_some e
   cases e
   obtain⟨a,us,rfl,h1,h2,h3⟩:=VR.Vd R rx he
   cases rs
   obtain⟨u,f1,f2⟩:=h3.get e3
   obtain⟨R2,x2⟩:=R.put h1 h3.dropLast
   exact⟨a,us,u,rfl,rfl,h2,by rw[h3.length];exact f1,q _ μ _ x2 R2 (f2.ext x2)⟩
  .cases e
 .cases e
def Ie(v o i:Bb):Ba:=fun env S=>(v env S).bind fun p=>(o env p.2).bind fun q=>(i env q.2).bind fun r=>match q.1,r.1 with
 |.ref j,.int k=>(match r.2[j]? with
  |some (some ds)=>(ixN ds.length k).bind fun n=>some (.nx,env,r.2.set j (some (ds.set n p.1)))
  |_=>none)
 |_,_=>none
theorem Kd{a i:Expr}{fv fi:Bb}{pos tpos:Pos}(he:JE X a fv)(ho:JE X o fo)(hi:JE X i fi)
  (ha:∀v,assign (.Subscript o i tpos) X.env v=(do
   let ov ←holding [v] (eval o X.env)
   let iv ←holding [v,ov] (eval i X.env)
   standAt tpos
   holding [v,ov,iv] (setItem ov iv v)
   release [v,ov,iv] []):=by intro _;rfl)
  (hs:swapsWithSole [.Subscript o i tpos] a pos.line X.env=pure false:=by rfl) (hw:swappedStores [.Subscript o i tpos] a X.env=pure none:=by rfl)
  (h1:(assignEach [.Subscript o i tpos] X.env).map (·.2)=[assign (.Subscript o i tpos) X.env]:=by rfl):JS X (.Assign [.Subscript o i tpos] a pos) (Ie fv fo fi) :=
 ⟨PS.imp (eE he.pe (uZ ho.pe hi.pe set_list ha) hs hw h1) fun E σ H h=>by
  obtain⟨Γ,μ,env,S,fl,env',S',hK,R,e,q⟩:=h
  obtain⟨⟨x,S1⟩,e1,e⟩:=bind_some e
  obtain⟨⟨y,S2⟩,e2,e⟩:=bind_some e
  obtain⟨⟨z,S3⟩,e3,e⟩:=bind_some e
  refine⟨Γ,μ,env,S,x,S1,hK,R,e1,fun v1 μ1 H1 x1 R1 r1=>?_⟩
  refine⟨Γ,μ1,env,S1,y,S2,hK,R1,e2,fun v2 μ2 H2 x2 R2 r2=>?_⟩
  refine⟨Γ,μ2,env,S2,z,S3,hK,R2,e3,fun v3 μ3 H3 x3 R3 r3=>?_⟩
  dsimp only at e
  split at e
  .rename_i j k
   split at e
   .rename_i ds hd
    obtain⟨n,e4,e⟩:=bind_some e
    cases e
    obtain⟨b,us,rfl,g1,g2,g3⟩:=VR.Vd R3 (r2.ext x3) hd
    cases r3
    have r1':=r1.ext (x2.trans x3)
    obtain⟨R4,x4⟩:=R3.put g1 (g3.set r1' n)
    exact⟨b,us,_,n,rfl,rfl,g2,by rw[g3.length];exact e4,q μ3 σ _ (x1.trans (x2.trans (x3.trans x4))) R4⟩
   .cases e
  .cases e⟩
end
end VS
end
section
namespace VS
open PySem PySem.Spec L2
mutual
def BX:D->Bool
 |.ref _=>false
 |.tup ds=>Ax ds
 |.lst _ ds=>Ax ds
 |_=>true
def Ax:List D->Bool
 |[]=>true
 |d::r=>BX d&&Ax r
end
mutual
def Dm:D->Bool
 |.ref _=>false
 |.lst _ _=>false
 |.scr _=>false
 |.emp=>false
 |.tup ds=>Ek ds
 |_=>true
def Ek:List D->Bool
 |[]=>true
 |d::r=>Dm d&&Ek r
end
mutual
def newD:D->Bool
 |.ref _=>false
 |.lst m ds=>m&&newL ds
 |.scr _=>false
 |.emp=>false
 |.tup ds=>newL ds
 |_=>true
def newL:List D->Bool
 |[]=>true
 |d::r=>newD d&&newL r
end
mutual
def den(k:Nat)(S:Store):D->Option D
 |.tup ds=>(Cw k S ds).map .tup
 |.lst m ds=>(Cw k S ds).map (.lst m)
 |.ref i=>if i<k then none else match S[i]? with|some (some ds)=>if Ax ds=true then some (.lst true ds) else none|_=>none
 |.non=>some .non
 |.bl b=>some (.bl b)
 |.int i=>some (.int i)
 |.str x=>some (.str x)
 |.ty n=>some (.ty n)
 |.scr ns=>some (.scr ns)
 |.emp=>some .emp
def Cw(k:Nat)(S:Store):List D->Option (List D)
 |[]=>some []
 |d::r=>(den k S d).bind fun x=>(Cw k S r).bind fun xs=>some (x::xs)
end
mutual
def age:D->D
 |.tup ds=>.tup (Bq ds)
 |.lst _ ds=>.lst false (Bq ds)
 |.ref i=>.ref i
 |.non=>.non
 |.bl b=>.bl b
 |.int i=>.int i
 |.str x=>.str x
 |.ty n=>.ty n
 |.scr ns=>.scr ns
 |.emp=>.emp
def Bq:List D->List D
 |[]=>[]
 |d::r=>age d::Bq r
end
mutual
theorem Jg:∀{d:D},Dm d=true->BX d=true
 |.ref _,h=>by simp[Dm] at h
 |.lst _ _,h=>by simp[Dm] at h
 |.scr _,h=>by simp[Dm] at h
 |.emp,h=>by simp[Dm] at h
 |.tup ds,h=>by rw[Dm] at h;rw[BX];exact Bo h
 |.non,_=>rfl
 |.bl _,_=>rfl
 |.int _,_=>rfl
 |.str _,_=>rfl
 |.ty _,_=>rfl
theorem Bo:∀{ds:List D},Ek ds=true->Ax ds=true
 |[],_=>rfl
 |d::r,h=>by
  rw[Ek,U00] at h
  rw[Ax,Jg h.1,Bo h.2];rfl
end
mutual
theorem Tg:∀{d:D},Dm d=true->newD d=true
 |.ref _,h=>by simp[Dm] at h
 |.lst _ _,h=>by simp[Dm] at h
 |.scr _,h=>by simp[Dm] at h
 |.emp,h=>by simp[Dm] at h
 |.tup ds,h=>by rw[Dm] at h;rw[newD];exact Mw h
 |.non,_=>rfl
 |.bl _,_=>rfl
 |.int _,_=>rfl
 |.str _,_=>rfl
 |.ty _,_=>rfl
theorem Mw:∀{ds:List D},Ek ds=true->newL ds=true
 |[],_=>rfl
 |d::r,h=>by
  rw[Ek,U00] at h
  rw[newL,Tg h.1,Mw h.2];rfl
end
mutual
theorem Kc(k:Nat)(S:Store):∀{d:D},BX d=true->den k S d=some d
 |.ref _,h=>by simp[BX] at h
 |.lst m ds,h=>by rw[BX] at h;rw[den,Ca k S h];rfl
 |.tup ds,h=>by rw[BX] at h;rw[den,Ca k S h];rfl
 |.non,_=>by rw[den]
 |.bl _,_=>by rw[den]
 |.int _,_=>by rw[den]
 |.str _,_=>by rw[den]
 |.ty _,_=>by rw[den]
 |.scr _,_=>by rw[den]
 |.emp,_=>by rw[den]
theorem Ca(k:Nat)(S:Store):∀{ds:List D},Ax ds=true->Cw k S ds=some ds
 |[],_=>by rw[Cw]
 |d::r,h=>by
  rw[Ax,U00] at h
  rw[Cw,Kc k S h.1,Ca k S h.2];rfl
end
mutual
theorem Ti:∀{d:D},Dm d=true->age d=d
 |.ref _,h=>by simp[Dm] at h
 |.lst _ _,h=>by simp[Dm] at h
 |.scr _,h=>by simp[Dm] at h
 |.emp,h=>by simp[Dm] at h
 |.tup ds,h=>by rw[Dm] at h;rw[age,Hv h]
 |.non,_=>by rw[age]
 |.bl _,_=>by rw[age]
 |.int _,_=>by rw[age]
 |.str _,_=>by rw[age]
 |.ty _,_=>by rw[age]
theorem Hv:∀{ds:List D},Ek ds=true->Bq ds=ds
 |[],_=>by rw[Bq]
 |d::r,h=>by
  rw[Ek,U00] at h
  rw[Bq,Ti h.1,Hv h.2]
end
section
variable{Γ Γ':Fr}{μ μ':Mu}{H:Hp}
mutual
theorem VR.age(hK:Γ'.K=Γ.K)(hN:∀a,¬DY μ a->Γ.N a∨Γ.H0 a=none->Γ'.N a)(hl:∀a o,H a=some o->¬DY μ a->¬DY μ' a):∀{v:V} {d:D},BX d=true->VR Γ μ H v d->VR Γ' μ' H v (VS.age d)
 |_,_,_,.non=>by rw[VS.age];exact .non
 |_,_,_,.bl b=>by rw[VS.age];exact .bl b
 |_,_,_,.int i=>by rw[VS.age];exact .int i
 |_,_,_,.str x=>by rw[VS.age];exact .str x
 |_,_,_,.ty n=>by rw[VS.age];exact .ty n
 |_,_,h,.tup hb t=>by rw[BX] at h;rw[VS.age];exact .tup hb (VRs.age hK hN hl h t)
 |_,_,h,.lst o n hb t=>by rw[BX] at h;rw[VS.age];exact .lst ⟨fun z=>(by cases z),.inl (hN _ n o.2)⟩ (hl _ _ hb n) hb (VRs.age hK hN hl h t)
 |_,_,h,.ref _ _=>by simp[BX] at h
 |_,_,_,.scrK k=>by rw[VS.age];exact .scrK (by rw[hK];exact k)
 |_,_,_,.scrR n hb=>by rw[VS.age];exact .scrR (hl _ _ hb n) hb
 |_,_,_,.emp n hb=>by rw[VS.age];exact .emp (hl _ _ hb n) hb
theorem VRs.age(hK:Γ'.K=Γ.K)(hN:∀a,¬DY μ a->Γ.N a∨Γ.H0 a=none->Γ'.N a)(hl:∀a o,H a=some o->¬DY μ a->¬DY μ' a):∀{v:List V} {d:List D},Ax d=true->VRs Γ μ H v d->VRs Γ' μ' H v (Bq d)
 |_,_,_,.nil=>by rw[Bq];exact .nil
 |_,_,h,.cons r t=>by
  rw[Ax,U00] at h
  rw[Bq];exact .cons (VR.age hK hN hl h.1 r) (VRs.age hK hN hl h.2 t)
end
mutual
theorem VR.pure(hK:Γ'.K=Γ.K)(hN:∀m a xs,¬DY μ a->Γ.Ok m a->H a=some (.lst xs)->Γ'.Ok m a/\¬DY μ' a)(ho:∀a o,H a=some o->¬DY μ a->(∀xs,o≠.lst xs)->¬DY μ' a):∀{v:V} {d:D},BX d=true->VR Γ μ H v d->VR Γ' μ' H v d
 |_,_,_,.non=>.non
 |_,_,_,.bl b=>.bl b
 |_,_,_,.int i=>.int i
 |_,_,_,.str x=>.str x
 |_,_,_,.ty n=>.ty n
 |_,_,h,.tup hb t=>by rw[BX] at h;exact .tup hb (VRs.pure hK hN ho h t)
 |_,_,h,.lst o n hb t=>by rw[BX] at h;exact .lst (hN _ _ _ n o hb).1 (hN _ _ _ n o hb).2 hb (VRs.pure hK hN ho h t)
 |_,_,h,.ref _ _=>by simp[BX] at h
 |_,_,_,.scrK k=>.scrK (by rw[hK];exact k)
 |_,_,_,.scrR n hb=>.scrR (ho _ _ hb n fun _ z=>by cases z) hb
 |_,_,_,.emp n hb=>.emp (ho _ _ hb n fun _ z=>by cases z) hb
theorem VRs.pure(hK:Γ'.K=Γ.K)(hN:∀m a xs,¬DY μ a->Γ.Ok m a->H a=some (.lst xs)->Γ'.Ok m a/\¬DY μ' a)(ho:∀a o,H a=some o->¬DY μ a->(∀xs,o≠.lst xs)->¬DY μ' a):∀{v:List V} {d:List D},Ax d=true->VRs Γ μ H v d->VRs Γ' μ' H v d
 |_,_,_,.nil=>.nil
 |_,_,h,.cons r t=>by
  rw[Ax,U00] at h
  exact .cons (VR.pure hK hN ho h.1 r) (VRs.pure hK hN ho h.2 t)
end
mutual
theorem VR.den{σ:St}{env:Env}{S S0:Store}{k:Nat}(R:Rep Γ μ σ H env S)(hK:Γ'.K=Γ.K)(h0:∀(i:Nat)(ds:List D)(a:Addr),k<=i->S0[i]?=some (some ds)->S[i]?=some (some ds)/\(μ[i]?=some (some a)->¬DY μ' a/\Γ'.Ok true a))
  (hN:∀m a,¬DY μ a->Γ.Ok m a->Γ'.Ok m a) (hl:∀a o,H a=some o->¬DY μ a->¬DY μ' a):∀{v:V} {d e:D},VR Γ μ H v d->VS.den k S0 d=some e->VR Γ' μ' H v e
 |_,_,_,.non,h=>by rw[VS.den] at h;cases h;exact .non
 |_,_,_,.bl b,h=>by rw[VS.den] at h;cases h;exact .bl b
 |_,_,_,.int i,h=>by rw[VS.den] at h;cases h;exact .int i
 |_,_,_,.str x,h=>by rw[VS.den] at h;cases h;exact .str x
 |_,_,_,.ty n,h=>by rw[VS.den] at h;cases h;exact .ty n
 |_,_,_,.tup hb t,h=>by
  rw[VS.den] at h
  obtain⟨es,e1,e2⟩:=map_some h
  subst e2
  exact .tup hb (VRs.den R hK h0 hN hl t e1)
 |_,_,_,.lst o n hb t,h=>by
  rw[VS.den] at h
  obtain⟨es,e1,e2⟩:=map_some h
  subst e2
  exact .lst (hN _ _ n o) (hl _ _ hb n) hb (VRs.den R hK h0 hN hl t e1)
 |_,.ref i,_,.ref hi f,h=>by
  rw[VS.den] at h
  by_cases hk:i<k
  .rw[if_pos hk] at h;cases h
  .rw[if_neg hk] at h
   split at h
   .rename_i ds hd
    by_cases hp:Ax ds=true
    .rw[if_pos hp] at h
     cases h
     have hS:=(h0 i ds 0 (by omega) hd).1
     obtain⟨a,xs,h1,h2,h3⟩:=R.sto i ds hS
     have hv:=f a h1
     subst hv
     obtain⟨z1,z2⟩:=(h0 i ds a (by omega) hd).2 h1
     exact .lst z2 z1 h2 (VRs.pure hK (fun m b ys n o hb=>⟨hN m b n o,hl b _ hb n⟩) (fun b o hb n _=>hl b o hb n) hp h3)
    .rw[if_neg hp] at h;cases h
   .cases h
 |_,_,_,.scrK k,h=>by rw[VS.den] at h;cases h;exact .scrK (by rw[hK];exact k)
 |_,_,_,.scrR n hb,h=>by rw[VS.den] at h;cases h;exact .scrR (hl _ _ hb n) hb
 |_,_,_,.emp n hb,h=>by rw[VS.den] at h;cases h;exact .emp (hl _ _ hb n) hb
theorem VRs.den{σ:St}{env:Env}{S S0:Store}{k:Nat}(R:Rep Γ μ σ H env S)(hK:Γ'.K=Γ.K)(h0:∀(i:Nat)(ds:List D)(a:Addr),k<=i->S0[i]?=some (some ds)->S[i]?=some (some ds)/\(μ[i]?=some (some a)->¬DY μ' a/\Γ'.Ok true a))
  (hN:∀m a,¬DY μ a->Γ.Ok m a->Γ'.Ok m a) (hl:∀a o,H a=some o->¬DY μ a->¬DY μ' a):∀{v:List V} {d e:List D},VRs Γ μ H v d->VS.Cw k S0 d=some e->VRs Γ' μ' H v e
 |_,_,_,.nil,h=>by rw[Cw] at h;cases h;exact .nil
 |_,_,_,.cons r t,h=>by
  rw[Cw] at h
  obtain⟨x,e1,h⟩:=bind_some h
  obtain⟨xs,e2,h⟩:=bind_some h
  cases h
  exact .cons (VR.den R hK h0 hN hl r e1) (VRs.den R hK h0 hN hl t e2)
end
mutual
theorem VR.new(hN:∀a xs,¬DY μ a->Γ.Ok true a->H a=some (.lst xs)->Γ'.Ok true a/\¬DY μ' a):∀{v:V} {d:D},newD d=true->VR Γ μ H v d->VR Γ' μ' H v d
 |_,_,_,.non=>.non
 |_,_,_,.bl b=>.bl b
 |_,_,_,.int i=>.int i
 |_,_,_,.str x=>.str x
 |_,_,_,.ty n=>.ty n
 |_,_,h,.tup hb t=>by rw[newD] at h;exact .tup hb (VRs.new hN h t)
 |_,.lst m ds,h,.lst o n hb t=>by
  rw[newD,U00] at h
  obtain⟨rfl,h⟩:=h
  exact .lst (hN _ _ n o hb).1 (hN _ _ n o hb).2 hb (VRs.new hN h t)
 |_,_,h,.ref _ _=>by simp[newD] at h
 |_,_,h,.scrK _=>by simp[newD] at h
 |_,_,h,.scrR _ _=>by simp[newD] at h
 |_,_,h,.emp _ _=>by simp[newD] at h
theorem VRs.new(hN:∀a xs,¬DY μ a->Γ.Ok true a->H a=some (.lst xs)->Γ'.Ok true a/\¬DY μ' a):∀{v:List V} {d:List D},newL d=true->VRs Γ μ H v d->VRs Γ' μ' H v d
 |_,_,_,.nil=>.nil
 |_,_,h,.cons r t=>by
  rw[newL,U00] at h
  exact .cons (VR.new hN h.1 r) (VRs.new hN h.2 t)
end
mutual
theorem VR.flat:∀{v:V} {d:D},Dm d=true->VR Γ μ H v d->VR Γ' μ' H v d
 |_,_,_,.non=>.non
 |_,_,_,.bl b=>.bl b
 |_,_,_,.int i=>.int i
 |_,_,_,.str x=>.str x
 |_,_,_,.ty n=>.ty n
 |_,_,h,.tup hb t=>by rw[Dm] at h;exact .tup hb (VRs.flat h t)
 |_,_,h,.lst _ _ _ _=>by simp[Dm] at h
 |_,_,h,.ref _ _=>by simp[Dm] at h
 |_,_,h,.scrK _=>by simp[Dm] at h
 |_,_,h,.scrR _ _=>by simp[Dm] at h
 |_,_,h,.emp _ _=>by simp[Dm] at h
theorem VRs.flat:∀{v:List V} {d:List D},Ek d=true->VRs Γ μ H v d->VRs Γ' μ' H v d
 |_,_,_,.nil=>.nil
 |_,_,h,.cons r t=>by
  rw[Ek,U00] at h
  exact .cons (VR.flat h.1 r) (VRs.flat h.2 t)
end
mutual
theorem Tn{k:Nat}{S:Store}:∀{d e:D},den k S d=some e->BX e=true
 |.tup ds,e,h=>by
  rw[den] at h
  obtain⟨es,e1,e2⟩:=map_some h
  subst e2
  rw[BX];exact Pk e1
 |.lst m ds,e,h=>by
  rw[den] at h
  obtain⟨es,e1,e2⟩:=map_some h
  subst e2
  rw[BX];exact Pk e1
 |.ref i,e,h=>by
  rw[den] at h
  by_cases hk:i<k
  .rw[if_pos hk] at h;cases h
  .rw[if_neg hk] at h
   split at h
   .rename_i ds hd
    by_cases hp:Ax ds=true
    .rw[if_pos hp] at h;cases h;rw[BX];exact hp
    .rw[if_neg hp] at h;cases h
   .cases h
 |.non,e,h=>by rw[den] at h;cases h;rfl
 |.bl _,e,h=>by rw[den] at h;cases h;rfl
 |.int _,e,h=>by rw[den] at h;cases h;rfl
 |.str _,e,h=>by rw[den] at h;cases h;rfl
 |.ty _,e,h=>by rw[den] at h;cases h;rfl
 |.scr _,e,h=>by rw[den] at h;cases h;rfl
 |.emp,e,h=>by rw[den] at h;cases h;rfl
theorem Pk{k:Nat}{S:Store}:∀{d e:List D},Cw k S d=some e->Ax e=true
 |[],e,h=>by rw[Cw] at h;cases h;rfl
 |d::r,e,h=>by
  rw[Cw] at h
  obtain⟨x,e1,h⟩:=bind_some h
  obtain⟨xs,e2,h⟩:=bind_some h
  cases h
  rw[Ax,Tn e1,Pk e2];rfl
end
end
end VS
end
section
namespace VS
open PySem PySem.Spec L2
abbrev Cz:=List D->Option D
abbrev JX:=List Int->List D->Option (D×List Int)
def intsOf:List D->Option (List Int)
 |[]=>some []
 |.int i::r=>(intsOf r).map (i::·)
 |_=>none
theorem JK:∀{ds:List D} {ns:List Int},intsOf ds=some ns->ds=ns.map D.int
 |[],_,h=>by cases h;rfl
 |.int i::r,ns,h=>by
  obtain⟨ms,e1,e2⟩:=map_some h
  subst e2
  rw[U0m,JK e1]
 |.non::_,_,h=>by cases h
 |.bl _::_,_,h=>by cases h
 |.str _::_,_,h=>by cases h
 |.ty _::_,_,h=>by cases h
 |.tup _::_,_,h=>by cases h
 |.lst _ _::_,_,h=>by cases h
 |.ref _::_,_,h=>by cases h
 |.scr _::_,_,h=>by cases h
 |.emp::_,_,h=>by cases h
@[simp] theorem Le(ns:List Int):intsOf (ns.map D.int)=some ns:=by
 induction ns with
 |nil=>rfl
 |cons n r ih=>rw[U0m,intsOf,ih];rfl
def En(np n:Nat)(f:Ba):Cz:=fun ds=>if ds.length=np then (f (ds.map some++U05 (n-ds.length) none) []).bind fun p=>match p.1 with|.ret d=>den 0 p.2.2 d|.nx=>some .non|_=>none else none
def runM(np n:Nat)(f:Ba):JX:=fun ns ds=>if ds.length+1=np then (f (some (.ref 0)::(ds.map some++U05 (n-1-ds.length) none)) [some (ns.map D.int)]).bind fun p=>match p.2.2[0]? with
 |some (some cs)=>(intsOf cs).bind fun ms=>(match p.1 with|.ret d=>(den 1 p.2.2 d).map fun r=>(r,ms)|.nx=>some (.non,ms)|_=>none)
 |_=>none
 else none
def spP(K:U0a)(sem:Cz)(n:Nat):Sp:=fun vs H Q _=>∃(N:Addr->Prop)(ds:List D)(r:D),vs.length=n/\VRs ⟨K,H,N,[]⟩ [] H vs ds/\sem ds=some r/\∀v H',Same H H'->VR ⟨K,H,N,[]⟩ [] H' v r->Q v H'
def spM(K:U0a)(sem:JX)(n:Nat):Sp:=fun vs H Q _=>∃(N:Addr->Prop)(a:Addr)(us:List V)(ns:List Int)(ds:List D)(r:D)(ms:List Int),vs=.ref a::us/\vs.length=n/\H a=some (.lst (ns.map V.int))/\VRs ⟨K,H,N,[a]⟩ [some a] H us ds/\sem ns ds=some (r,ms) /\
 ∀v H',(∀b o,b≠a->H b=some o->H' b=some o)->H' a=some (.lst (ms.map V.int))->VR ⟨K,H,N,[a]⟩ [some a] H' v r->Q v H'
section
variable{P:Program}{w:World}{K:U0a}{mg:Str->Option Value}{base:Heap}
theorem W7{N:List Str}{vs:List V}{ds:List D}{Γ:Fr}{μ:Mu}{H:Hp}(r:VRs Γ μ H vs ds){i:Nat}{d:D}{n:Nat}(h:(ds.map some++U05 n none:Env)[i]?=some (some d)):∃v,(vs.map some++U05 (N.length-vs.length) none:St)[i]?=some (some v)/\VR Γ μ H v d:=by
 have hi:i<ds.length:=by
  by_cases hi:i<ds.length
  .exact hi
  .rw[U2g (by simpa using hi),U4t] at h
   split at h<;>cases h
 rw[U1g (by simpa using hi),U0y] at h
 have h2:ds[i]?=some d:=by
  cases q:ds[i]? with
  |none=>rw[q] at h;cases h
  |some e=>rw[q] at h;cases h;rfl
 obtain⟨v,e1,e2⟩:=r.get h2
 refine⟨v,?_,e2⟩
 rw[U1g (by rw[U0j,r.length];exact hi),U0y,e1]
 rfl
theorem Jc{a:Addr}:¬DY [] a:=fun z=>by simp[DY] at z
theorem Om{a b:Addr}:DY [some b] a↔a=b:=by simp[DY]
theorem fnP{x qual:Str}{st:Stmt}{f:Addr}{fd:FuncData}{N ps:List Str}{k:Nat}{fs:Ba}(F:Fun K x qual st f fd)(Sc:CK N ps (Al st))
  (hb:∀(cdv:Value)(A:Around)(outer:List PySem.Env)(s:Shared)(H:Hp)(E:XK),FN k (A.deeper (PyProof.Rows.envOfC qual (Al st) s.heap.objs.size f cdv))->JSs (Qy CX0 P w K mg base N qual (Al st) f cdv A outer s H E).nox (Bv st) fs) :
  DG P w K mg base CX0 (k+1) f fd ps (spP K (En ps.length N.length fs) ps.length):=by
 refine F.ok Sc (fun vs H Q E h=>?_) (fun cdv A outer s H vs Q E hr h=>?_)
 .obtain⟨_,_,_,hl,_⟩:=h;exact hl
 obtain⟨Nn,ds,r,hl,rs,e,q⟩:=h
 refine⟨_,(hb cdv A outer s H E hr).ps,?_⟩
 have hdl:=rs.length
 unfold En at e
 rw[if_pos (by omega)] at e
 obtain⟨⟨fl,env',S'⟩,e1,e⟩:=bind_some e
 have hpl:ps.length<=N.length:=by have:=congrArg U5f Sc.pre;rw[U19] at this;omega
 refine⟨⟨K,H,Nn,[]⟩,[],_,[],fl,env',S',rfl,⟨fun i d h=>W7 rs h,?_,fun i ds h=>by simp at h,fun i a h=>by simp at h,fun i j a h=>by simp at h,rfl,Ext.refl _ _,fun i a _ h=>by simp at h⟩,e1,fun μ' σ' H' x' R'=>?_⟩
 .unfold L2.start
  rw[U0n,U0j,U2a,U0n,U0j,U2a,hdl]
 have sm:Same H H':=fun b o hb=>(x'.keep b o hb Jc).1
 dsimp only at e
 cases fl with
 |nx=>cases e;exact q _ H' sm .non
 |brk=>cases e
 |cnt=>cases e
 |ret d =>
  intro v rv
  refine q v H' sm (VR.den R' rfl (fun i ds a _ hs=>⟨hs,fun hm=>⟨Jc,?_⟩⟩) (fun m a _ o=>o) (fun a o _ _=>Jc) rv e)
  have hn:=R'.new i a (U3u _) hm
  exact⟨fun _=>hn,.inr hn⟩
theorem fnM{x qual:Str}{st:Stmt}{f:Addr}{fd:FuncData}{N ps:List Str}{k:Nat}{fs:Ba}(F:Fun K x qual st f fd)(Sc:CK N ps (Al st))
  (hb:∀(cdv:Value)(A:Around)(outer:List PySem.Env)(s:Shared)(H:Hp)(E:XK),FN k (A.deeper (PyProof.Rows.envOfC qual (Al st) s.heap.objs.size f cdv))->JSs (Qy CX0 P w K mg base N qual (Al st) f cdv A outer s H E).nox (Bv st) fs) :
  DG P w K mg base CX0 (k+1) f fd ps (spM K (runM ps.length N.length fs) ps.length):=by
 refine F.ok Sc (fun vs H Q E h=>?_) (fun cdv A outer s H vs Q E hr h=>?_)
 .obtain⟨_,_,_,_,_,_,_,_,hl,_⟩:=h;exact hl
 obtain⟨Nn,a,us,ns,ds,r,ms,rfl,hl,ha,rs,e,q⟩:=h
 refine⟨_,(hb cdv A outer s H E hr).ps,?_⟩
 have hdl:=rs.length
 rw[U0i] at hl
 unfold runM at e
 rw[if_pos (by omega)] at e
 obtain⟨⟨fl,env',S'⟩,e1,e⟩:=bind_some e
 have hpl:ps.length<=N.length:=by have:=congrArg U5f Sc.pre;rw[U19] at this;omega
 refine⟨⟨K,H,Nn,[a]⟩,[some a],_,[some (ns.map D.int)],fl,env',S',rfl,⟨fun i d h=>?_,?_,fun i es h=>?_,fun i b h=>?_,fun i j b h1 h2=>?_,rfl,Ext.refl _ _,fun i b hi h=>?_⟩,e1,fun μ' σ' H' x' R'=>?_⟩
 .cases i with
  |zero =>
   simp at h
   subst h
   refine⟨.ref a,by simp[L2.start],.ref (by simp) fun b hb=>?_⟩
   simp at hb;rw[hb]
  |succ i =>
   rw[List.getElem?_cons_succ] at h
   obtain⟨v,e1,e2⟩:=W7 (N:=U05 (N.length-1) "") rs h
   refine⟨v,?_,e2⟩
   unfold L2.start
   rw[U0m,U2d,List.getElem?_cons_succ,U0i]
   rw[U2a] at e1
   rw[show N.length-(us.length+1)=N.length-1-us.length by omega]
   exact e1
 .unfold L2.start
  rw[U0n,U0j,U2a,U0i,U0i,U0n,U0j,U2a,hdl]
  omega
 .cases i with
  |zero=>simp at h;subst h;exact⟨a,_,by simp,ha,VRs.ints ns⟩
  |succ i=>simp at h
 .cases i with
  |zero=>exact⟨_,rfl⟩
  |succ i=>simp at h
 .cases i with
  |zero=>cases j with
   |zero=>rfl
   |succ j=>simp at h2
  |succ i=>simp at h1
 .cases i with
  |zero=>simp at hi
  |succ i=>simp at h
 have sm:∀b o,b≠a->H b=some o->H' b=some o:=fun b o hb h=>(x'.keep b o h fun z=>hb (Om.mp z)).1
 dsimp only at e
 split at e
 .rename_i cs hc
  obtain⟨ms',e3,e5⟩:=bind_some e
  clear e
  obtain⟨a',xs',g1,g2,g3⟩:=R'.sto 0 cs hc
  have ea:a'=a:=by
   have:=x'.ids 0 a' (by simp) g1
   simp at this;exact this.symm
  subst ea
  have ec:=JK e3
  subst ec
  have ex:=g3.Rj
  subst ex
  cases fl with
  |nx=>cases e5;exact q _ H' sm g2 .non
  |brk=>cases e5
  |cnt=>cases e5
  |ret d =>
   intro v rv
   dsimp only at e5
   obtain⟨r',e4,e6⟩:=map_some e5
   cases e6
   refine q v H' sm g2 (VR.den R' rfl (fun i es b hi hs=>⟨hs,fun hm=>⟨fun z=>?_,?_⟩⟩) (fun m b _ o=>o) (fun b o _ n z=>n ?_) rv e4)
   .have:b=a':=Om.mp z
    subst this
    have:=R'.inj 0 i b g1 hm
    omega
   .have hn:=R'.new i b hi hm
    exact⟨fun _=>hn,.inr hn⟩
   .have:b=a':=Om.mp z
    subst this
    exact U18 g1
 .cases e
end
theorem DP{np n:Nat}{f:Ba}{ds:List D}{r:D}(h:En np n f ds=some r):ds.length=np/\BX r=true:=by
 unfold En at h
 by_cases hl:ds.length=np
 .rw[if_pos hl] at h
  obtain⟨⟨fl,env',S'⟩,e1,e⟩:=bind_some h
  refine⟨hl,?_⟩
  dsimp only at e
  cases fl with
  |nx=>cases e;rfl
  |brk=>cases e
  |cnt=>cases e
  |ret d=>exact Tn e
 .rw[if_neg hl] at h;cases h
theorem O5{np n:Nat}{f:Ba}{ns:List Int}{ds:List D}{r:D×List Int}(h:runM np n f ns ds=some r):ds.length+1=np/\BX r.1=true:=by
 unfold runM at h
 by_cases hl:ds.length+1=np
 .rw[if_pos hl] at h
  obtain⟨⟨fl,env',S'⟩,e1,e⟩:=bind_some h
  refine⟨hl,?_⟩
  dsimp only at e
  split at e
  .rename_i cs hc
   obtain⟨ms',e3,e⟩:=bind_some e
   cases fl with
   |nx=>cases e;rfl
   |brk=>cases e
   |cnt=>cases e
   |ret d =>
    dsimp only at e
    obtain⟨r',e4,e⟩:=map_some e
    cases e
    exact Tn e4
  .cases e
 .rw[if_neg hl] at h;cases h
end VS
end
section
namespace VS
open PySem PySem.Spec L2
structure CN(P:Program)(w:World)(K:U0a)(mg:Str->Option Value)(base:Heap)(x:Str)(k:Nat)(sem:Cz):Prop where
 cal:∃ps,Cal P w K mg base x k ps (spP K sem ps.length)/\∀ds r,sem ds=some r->ds.length=ps.length/\BX r=true
structure JZ(P:Program)(w:World)(K:U0a)(mg:Str->Option Value)(base:Heap)(x:Str)(k:Nat)(sem:JX):Prop where
 cal:∃ps,Cal P w K mg base x k ps (spM K sem ps.length)/\∀ns ds r,sem ns ds=some r->ds.length+1=ps.length/\BX r.1=true
def BR(sem:Cz)(a:Bf):Bb:=fun env S=>(a env S).bind fun p=>(Cw 0 p.2 p.1).bind fun ds=>(sem (Bq ds)).bind fun r=>if (Ax p.1||newD r)=true then some (r,p.2) else none
def Bg(sem:JX)(a:Bf):Bb:=fun env S=>(a env S).bind fun p=>match p.1 with
 |.ref i::rest=>(match p.2[i]? with
  |some (some cs)=>(intsOf cs).bind fun ns=>(Cw 0 (p.2.set i none) rest).bind fun ds=>(sem ns (Bq ds)).bind fun r=>if (Ax rest||newD r.1)=true then some (r.1,p.2.set i (some (r.2.map D.int))) else none
  |_=>none)
 |_=>none
def XJ(n:Nat):List D->Option (List D×List D)
 |[]=>none
 |d::r=>if Dm d=true then (XJ n r).map fun p=>(d::p.1,p.2) else match d with
  |.lst true ds=>if (Ek ds&&Ek r)=true then some (.ref n::r,ds) else none
  |_=>none
def N7(n:Nat):D->Option (D×List D)
 |.lst true ds=>if Ek ds=true then some (.ref n,ds) else none
 |.tup es=>(XJ n es).map fun p=>(.tup p.1,p.2)
 |_=>none
def Og(sem:Cz)(a:Bf):Bb:=fun env S=>(BR sem a env S).bind fun p=>(N7 p.2.length p.1).bind fun q=>some (q.1,p.2++[some q.2])
def R9(sem:JX)(a:Bf):Bb:=fun env S=>(Bg sem a env S).bind fun p=>(N7 p.2.length p.1).bind fun q=>some (q.1,p.2++[some q.2])
section
variable{Γ:Fr}{μ:Mu}{σ:St}{H H':Hp}{env:Env}{S:Store}
theorem lend{K:U0a}(hK:Γ.K=K)(R:Rep Γ μ σ H env S){S0:Store}{m0:List Addr}{vs:List V}{ds es:List D}(r:VRs Γ μ H vs ds)(e:Cw 0 S0 ds=some es)(h0:∀(i:Nat)(ds:List D)(a:Addr),S0[i]?=some (some ds)->S[i]?=some (some ds)/\(μ[i]?=some (some a)->¬DY (m0.map some) a))(hm:∀a∈m0,DY μ a)
  (c:Bool) (hc:(Ax ds||c)=true):∃N:Addr->Prop,VRs ⟨K,H,N,m0⟩ (m0.map some) H vs (Bq es)/\(c=true∨∀a,N a->¬DY μ a/\(Γ.N a∨Γ.H0 a=none)):=by
 subst hK
 have hl:∀a o,H a=some o->¬DY μ a->¬DY (m0.map some) a:=fun a o _ n z=>n (hm a (by simpa [DY] using z))
 by_cases hp:Ax ds=true
 .rw[Ca 0 S0 hp] at e
  cases e
  exact⟨fun a=>¬DY μ a/\(Γ.N a∨Γ.H0 a=none),VRs.age (Γ:=Γ) (Γ':=⟨Γ.K,H,fun a=>¬DY μ a/\(Γ.N a∨Γ.H0 a=none),m0⟩) rfl (fun a n o=>⟨n,o⟩) hl hp r,.inr fun a z=>z⟩
 .have hc':c=true:=by simpa [hp] using hc
  refine⟨fun _=>True,?_,.inl hc'⟩
  have r1:VRs ⟨Γ.K,fun _=>none,fun _=>True,m0⟩ (m0.map some) H vs es:=VRs.den (Γ':=⟨Γ.K,fun _=>none,fun _=>True,m0⟩) R rfl (fun i ds a _ hs=>⟨(h0 i ds a hs).1,fun z=>⟨(h0 i ds a hs).2 z,⟨fun _=>rfl,.inl trivial⟩⟩⟩) (fun m a _ _=>⟨fun _=>rfl,.inl trivial⟩) hl r e
  exact VRs.age (Γ:=⟨Γ.K,fun _=>none,fun _=>True,m0⟩) (Γ':=⟨Γ.K,H,fun _=>True,m0⟩) (μ:=m0.map some) rfl (fun a _ _=>trivial) (fun a o _ n=>n) (Pk e) r1
theorem home{K:U0a}(hK:Γ.K=K)(R:Rep Γ μ σ H env S){N:Addr->Prop}{m0:List Addr}{v:V}{r:D}(lv:∀a,DY μ a->∃xs,H' a=some (.lst xs))(hp:BX r=true)(c:newD r=true∨∀a,N a->¬DY μ a/\(Γ.N a∨Γ.H0 a=none))
  (rv:VR ⟨K,H,N,m0⟩ (m0.map some) H' v r):VR Γ μ H' v r:=by
 subst hK
 rcases c with c|c
 .exact VR.new (fun a xs n o hb=>⟨R.ok (o.1 rfl) true,R.dead (o.1 rfl)⟩) c rv
 .refine VR.pure (Γ:=⟨Γ.K,H,N,m0⟩) (Γ':=Γ) rfl (fun m a xs n o hb=>?_) (fun a o hb n hx z=>?_) hp rv
  .rcases o.2 with z|z
   .refine⟨⟨fun hm=>R.fresh (o.1 hm),(c a z).2⟩,(c a z).1⟩
   .exact⟨R.ok z m,R.dead z⟩
  .obtain⟨xs,q⟩:=lv a z
   rw[q] at hb
   exact hx xs (U09 hb).symm
theorem Rep.adopt(R:Rep Γ μ σ H env S)(sm:Same H H'){a:Addr}{xs:List V}{ds:List D}(hn:H a=none)(ha:H' a=some (.lst xs))(hf:Ek ds=true){Γ':Fr}{μ':Mu}(rs:VRs Γ' μ' H' xs ds) :
  Rep Γ (μ++[some a]) σ H' env (S++[some ds])/\Ext μ H (μ++[some a]) H':=by
 have ne:∀b o,H b=some o->b≠a:=fun b o h z=>by rw[z,hn] at h;cases h
 have x:Ext μ H (μ++[some a]) H':=by
  refine⟨fun b o h n=>⟨sm b o h,fun z=>?_⟩,fun b ys h=>sm b _ h,fun b h=>sm.free h,fun i b hi h=>?_,by rw[U0n];omega⟩
  .rcases U1k.mp z with z|z
   .exact n z
   .have z':b=a:=by simpa using z
    exact ne b o h z'
  .rw[U1g hi] at h;exact h
 have idx:∀i b,(μ++[some a])[i]?=some (some b)->(i<μ.length/\μ[i]?=some (some b))∨(i=μ.length/\b=a):=fun i b h=>by
  by_cases hi:i<μ.length
  .rw[U1g hi] at h;exact .inl ⟨hi,h⟩
  .rw[U2g (by omega)] at h
   have hl:=(U0l.mp h).1
   have hi':i=μ.length:=by simp at hl;omega
   subst hi'
   simp at h
   exact .inr ⟨rfl,h.symm⟩
 have no:∀i,μ[i]?=some (some a)->False:=fun i h=>R.dead hn (U18 h)
 refine⟨⟨fun i d h=>?_,R.len,fun i es h=>?_,fun i b h=>?_,fun i j b h1 h2=>?_,by rw[U0n,U0n,R.slen];rfl,R.ent.trans x,fun i b hi h=>?_⟩,x⟩
 .obtain⟨v,h1,h2⟩:=R.vals i d h
  exact⟨v,h1,h2.ext x⟩
 .by_cases hi:i<S.length
  .rw[U1g hi] at h
   obtain⟨b,ys,h1,h2,h3⟩:=R.sto i es h
   exact⟨b,ys,by rw[U1g (by rw[←R.slen];exact hi)];exact h1,sm _ _ h2,h3.ext x⟩
  .rw[U2g (by omega)] at h
   have hl:=(U0l.mp h).1
   have hi':i=S.length:=by simp at hl;omega
   subst hi'
   simp at h
   subst h
   exact⟨a,xs,by rw[R.slen];simp,ha,VRs.flat hf rs⟩
 .rcases idx i b h with ⟨hi,h⟩|⟨rfl,rfl⟩
  .obtain⟨ds',q⟩:=R.liv i b h
   exact⟨ds',by rw[U1g (by rw[R.slen];exact hi)];exact q⟩
  .exact⟨ds,by rw[←R.slen];simp⟩
 .rcases idx i b h1 with ⟨_,g1⟩|⟨e1,e2⟩
  .rcases idx j b h2 with ⟨_,g2⟩|⟨e3,e4⟩
   .exact R.inj i j b g1 g2
   .exact(no i (e4 ▸ g1)).elim
  .rcases idx j b h2 with ⟨_,g2⟩|⟨e3,_⟩
   .exact(no j (e2 ▸ g2)).elim
   .rw[e1,e3]
 .rcases idx i b h with ⟨_,h⟩|⟨rfl,rfl⟩
  .exact R.new i b hi h
  .exact R.fresh hn
end
theorem Y9{Γ:Fr}{μ:Mu}{H:Hp}{n:Nat}:∀{vs:List V} {ds:List D} {p:List D×List D},XJ n ds=some p->VRs Γ μ H vs ds ->
  ∃a xs,Γ.Ok true a/\H a=some (.lst xs)/\VRs Γ μ H xs p.2/\Ek p.2=true/\∀(Γ':Fr)(μ':Mu),μ'[n]?=some (some a)->VRs Γ' μ' H vs p.1
 |_,[],_,h,_=>by cases h
 |_,d::r,p,h,.cons (xs:=vr) rd rr=>by
  unfold XJ at h
  by_cases hf:Dm d=true
  .rw[if_pos hf] at h
   obtain⟨q,e1,e2⟩:=map_some h
   subst e2
   obtain⟨a,xs,h1,h2,h3,h4,h5⟩:=Y9 e1 rr
   exact⟨a,xs,h1,h2,h3,h4,fun Γ' μ' z=>.cons (VR.flat hf rd) (h5 Γ' μ' z)⟩
  .rw[if_neg hf] at h
   split at h
   .rename_i ds
    by_cases hg:(Ek ds&&Ek r)=true
    .rw[if_pos hg] at h
     cases h
     rw[U00] at hg
     cases rd with
     |@lst _ a xs _ o nl hb t =>
      refine⟨a,xs,o,hb,t,hg.1,fun Γ' μ' z=>.cons (.ref (U0l.mp z).1 fun b hb'=>?_) (VRs.flat hg.2 rr)⟩
      rw[z] at hb';cases hb';rfl
    .rw[if_neg hg] at h;cases h
   .cases h
theorem aO{Γ:Fr}{μ:Mu}{H:Hp}{n:Nat}{v:V}{d:D}{p:D×List D}(h:N7 n d=some p)(r:VR Γ μ H v d) :
  ∃a xs,Γ.Ok true a/\H a=some (.lst xs)/\VRs Γ μ H xs p.2/\Ek p.2=true/\∀(Γ':Fr)(μ':Mu),μ'[n]?=some (some a)->VR Γ' μ' H v p.1:=by
 unfold N7 at h
 split at h
 .rename_i ds
  by_cases hg:Ek ds=true
  .rw[if_pos hg] at h
   cases h
   cases r with
   |@lst _ a xs _ o nl hb t =>
    refine⟨a,xs,o,hb,t,hg,fun Γ' μ' z=>.ref (U0l.mp z).1 fun b hb'=>?_⟩
    rw[z] at hb';cases hb';rfl
  .rw[if_neg hg] at h;cases h
 .rename_i es
  obtain⟨q,e1,e2⟩:=map_some h
  subst e2
  cases r with
  |@tup b xs _ hb t =>
   obtain⟨a,ys,h1,h2,h3,h4,h5⟩:=Y9 e1 t
   exact⟨a,ys,h1,h2,h3,h4,fun Γ' μ' z=>.tup hb (h5 Γ' μ' z)⟩
 .cases h
section
variable{X:Cx}{x:Str}{k k':Nat}{e:Expr}{es:List Expr}{f:Bf}{p pos:Pos}
theorem Bw{sem:Cz}(c:CN X.prog X.w X.K X.mg X.base x k sem)(hr:FN k' X.A)(hk:k<=k')(hg:Gl X x)(ha:JA X (e::es) f)
  (hdb:(x==("__debug__":Str))=false:=by decide) (he:starEach (e::es) X.env=(false,eval e X.env)::starEach es X.env:=by rfl) (hpl:(backTo pos (starEach es X.env)).any (·.1)=false:=by rfl) :
  JE X (.Call (.Name x p) (e::es) [] pos) (BR sem f):=by
 obtain⟨ps,c,hok⟩:=c.cal
 refine⟨PE.imp (Qc c hr hk hg ha.pa hdb he hpl) fun σ H Q h=>?_⟩
 obtain⟨Γ,μ,env,S,d,S',hK,R,e,q⟩:=h
 obtain⟨⟨as,S1⟩,e1,e⟩:=bind_some e
 obtain⟨ds,e2,e⟩:=bind_some e
 obtain⟨r,e3,e⟩:=bind_some e
 refine⟨Γ,μ,env,S,as,S1,hK,R,e1,fun vs μ1 H1 x1 R1 r1=>?_⟩
 show spP X.K sem ps.length (vs++[]) H1 Q E0
 rw[U2k]
 dsimp only at e e2
 by_cases hc:(Ax as||newD r)=true
 .rw[if_pos hc] at e
  cases e
  obtain⟨hl,hp⟩:=hok _ _ e3
  obtain⟨N,rs,cN⟩:=lend hK R1 (m0:=[]) r1 e2 (fun i ds a hs=>⟨hs,fun _=>Jc⟩) (fun a z=>by simp at z) (newD d) hc
  refine⟨N,_,d,?_,rs,e3,fun v H' sm rv=>?_⟩
  .rw[rs.length,hl]
  obtain⟨R2,x2⟩:=R1.grow sm
  exact q v μ1 H' (x1.trans x2) R2 (home hK R1 (fun a z=>R2.live z) hp cN rv)
 .rw[if_neg hc] at e;cases e
theorem Yk{sem:Cz}(c:CN X.prog X.w X.K X.mg X.base x k sem)(hr:FN k' X.A)(hk:k<=k')(hg:Gl X x)(ha:JA X (e::es) f)
  (hdb:(x==("__debug__":Str))=false:=by decide) (he:starEach (e::es) X.env=(false,eval e X.env)::starEach es X.env:=by rfl) (hpl:(backTo pos (starEach es X.env)).any (·.1)=false:=by rfl) :
  JE X (.Call (.Name x p) (e::es) [] pos) (Og sem f):=by
 obtain⟨ps,c,hok⟩:=c.cal
 refine⟨PE.imp (Qc c hr hk hg ha.pa hdb he hpl) fun σ H Q h=>?_⟩
 obtain⟨Γ,μ,env,S,d,S',hK,R,e,q⟩:=h
 obtain⟨⟨d0,S0⟩,e0,e⟩:=bind_some e
 obtain⟨t,et,e⟩:=bind_some e
 cases e
 obtain⟨⟨as,S1⟩,e1,e⟩:=bind_some e0
 obtain⟨ds,e2,e⟩:=bind_some e
 obtain⟨r,e3,e⟩:=bind_some e
 refine⟨Γ,μ,env,S,as,S1,hK,R,e1,fun vs μ1 H1 x1 R1 r1=>?_⟩
 show spP X.K sem ps.length (vs++[]) H1 Q E0
 rw[U2k]
 dsimp only at e e2
 by_cases hc:(Ax as||newD r)=true
 .rw[if_pos hc] at e
  cases e
  obtain⟨hl,hp⟩:=hok _ _ e3
  obtain⟨N,rs,cN⟩:=lend hK R1 (m0:=[]) r1 e2 (fun i ds a hs=>⟨hs,fun _=>Jc⟩) (fun a z=>by simp at z) (newD d0) hc
  refine⟨N,_,d0,?_,rs,e3,fun v H' sm rv=>?_⟩
  .rw[rs.length,hl]
  obtain⟨a,xs,h1,h2,h3,h4,h5⟩:=aO et rv
  obtain⟨R2,x2⟩:=R1.adopt sm (h1.1 rfl) h2 h4 h3
  exact q v _ H' (x1.trans x2) R2 (h5 _ _ (by rw[R1.slen];simp))
 .rw[if_neg hc] at e;cases e
theorem Di{sem:JX}(c:JZ X.prog X.w X.K X.mg X.base x k sem)(hr:FN k' X.A)(hk:k<=k')(hg:Gl X x)(ha:JA X (e::es) f)
  (hdb:(x==("__debug__":Str))=false:=by decide) (he:starEach (e::es) X.env=(false,eval e X.env)::starEach es X.env:=by rfl) (hpl:(backTo pos (starEach es X.env)).any (·.1)=false:=by rfl) :
  JE X (.Call (.Name x p) (e::es) [] pos) (Bg sem f):=by
 obtain⟨ps,c,hok⟩:=c.cal
 refine⟨PE.imp (Qc c hr hk hg ha.pa hdb he hpl) fun σ H Q h=>?_⟩
 obtain⟨Γ,μ,env,S,d,S',hK,R,e,q⟩:=h
 obtain⟨⟨as,S1⟩,e1,e⟩:=bind_some e
 refine⟨Γ,μ,env,S,as,S1,hK,R,e1,fun vs μ1 H1 x1 R1 r1=>?_⟩
 show spM X.K sem ps.length (vs++[]) H1 Q E0
 rw[U2k]
 dsimp only at e
 split at e
 .rename_i i rest
  split at e
  .rename_i cs hcs
   obtain⟨ns,e4,e⟩:=bind_some e
   obtain⟨ds,e2,e⟩:=bind_some e
   obtain⟨⟨r,ms⟩,e3,e⟩:=bind_some e
   dsimp only at e
   by_cases hc:(Ax rest||newD r)=true
   .rw[if_pos hc] at e
    cases e
    obtain⟨hl,hp⟩:=hok _ _ _ e3
    have ecs:=JK e4
    subst ecs
    cases r1 with
    |@cons v0 _ us _ r0 rr =>
     obtain⟨a,xs,rfl,h1,h2,h3⟩:=VR.Vd R1 r0 hcs
     have ex:=h3.Rj
     subst ex
     have hi:i<S1.length:=(U0l.mp hcs).1
     obtain⟨N,rs,cN⟩:=lend hK R1 (S0:=S1.set i none) (m0:=[a]) rr e2 (fun j es b hs=>by
      have hj:i≠j:=fun z=>by
       subst z
       rw[U22 hi] at hs;cases hs
      rw[U21 hj] at hs
      exact⟨hs,fun hm z=>hj (R1.inj i j a h1 (by rw[show a=b from (Om.mp z).symm];exact hm))⟩) (fun b z=>by
       have:b=a:=by simpa using z
       rw[this];exact U18 h1) (newD d) hc
     refine⟨N,a,us,ns,_,d,ms,rfl,?_,h2,rs,e3,fun v H' sm ha' rv=>?_⟩
     .rw[U0i,rs.length,hl]
     obtain⟨R2,x2⟩:=R1.put h1 (VRs.ints ms)
     have sm2:Same (upd H1 a (.lst (ms.map V.int))) H':=fun b o hb=>by
      by_cases z:b=a
      .rw[z,Ce] at hb;cases hb;rw[z];exact ha'
      .rw[Bu z] at hb;exact sm b o z hb
     obtain⟨R3,x3⟩:=R2.grow sm2
     exact q v μ1 H' (x1.trans (x2.trans x3)) R3 (home hK R1 (fun a z=>R3.live z) hp cN rv)
   .rw[if_neg hc] at e;cases e
  .cases e
 .cases e
theorem lU{sem:JX}(c:JZ X.prog X.w X.K X.mg X.base x k sem)(hr:FN k' X.A)(hk:k<=k')(hg:Gl X x)(ha:JA X (e::es) f)
  (hdb:(x==("__debug__":Str))=false:=by decide) (he:starEach (e::es) X.env=(false,eval e X.env)::starEach es X.env:=by rfl) (hpl:(backTo pos (starEach es X.env)).any (·.1)=false:=by rfl) :
  JE X (.Call (.Name x p) (e::es) [] pos) (R9 sem f):=by
 obtain⟨ps,c,hok⟩:=c.cal
 refine⟨PE.imp (Qc c hr hk hg ha.pa hdb he hpl) fun σ H Q h=>?_⟩
 obtain⟨Γ,μ,env,S,d,S',hK,R,e,q⟩:=h
 obtain⟨⟨d0,S0⟩,e0,e⟩:=bind_some e
 obtain⟨t,et,e⟩:=bind_some e
 cases e
 obtain⟨⟨as,S1⟩,e1,e⟩:=bind_some e0
 refine⟨Γ,μ,env,S,as,S1,hK,R,e1,fun vs μ1 H1 x1 R1 r1=>?_⟩
 show spM X.K sem ps.length (vs++[]) H1 Q E0
 rw[U2k]
 dsimp only at e
 split at e
 .rename_i i rest
  split at e
  .rename_i cs hcs
   obtain⟨ns,e4,e⟩:=bind_some e
   obtain⟨ds,e2,e⟩:=bind_some e
   obtain⟨⟨r,ms⟩,e3,e⟩:=bind_some e
   dsimp only at e
   by_cases hc:(Ax rest||newD r)=true
   .rw[if_pos hc] at e
    cases e
    obtain⟨hl,hp⟩:=hok _ _ _ e3
    have ecs:=JK e4
    subst ecs
    cases r1 with
    |@cons v0 _ us _ r0 rr =>
     obtain⟨a,xs,rfl,h1,h2,h3⟩:=VR.Vd R1 r0 hcs
     have ex:=h3.Rj
     subst ex
     have hi:i<S1.length:=(U0l.mp hcs).1
     obtain⟨N,rs,cN⟩:=lend hK R1 (S0:=S1.set i none) (m0:=[a]) rr e2 (fun j es b hs=>by
      have hj:i≠j:=fun z=>by
       subst z
       rw[U22 hi] at hs;cases hs
      rw[U21 hj] at hs
      exact⟨hs,fun hm z=>hj (R1.inj i j a h1 (by rw[show a=b from (Om.mp z).symm];exact hm))⟩) (fun b z=>by
       have:b=a:=by simpa using z
       rw[this];exact U18 h1) (newD d0) hc
     refine⟨N,a,us,ns,_,d0,ms,rfl,?_,h2,rs,e3,fun v H' sm ha' rv=>?_⟩
     .rw[U0i,rs.length,hl]
     obtain⟨R2,x2⟩:=R1.put h1 (VRs.ints ms)
     have sm2:Same (upd H1 a (.lst (ms.map V.int))) H':=fun b o hb=>by
      by_cases z:b=a
      .rw[z,Ce] at hb;cases hb;rw[z];exact ha'
      .rw[Bu z] at hb;exact sm b o z hb
     obtain⟨b,ys,g1,g2,g3,g4,g5⟩:=aO et rv
     have hb:upd H1 a (.lst (ms.map V.int)) b=none:=by
      have hn:H1 b=none:=g1.1 rfl
      rw[Bu (fun z=>by rw[z,h2] at hn;cases hn)];exact hn
     obtain⟨R3,x3⟩:=R2.adopt sm2 hb g2 g4 g3
     exact q v _ H' (x1.trans (x2.trans x3)) R3 (g5 _ _ (by rw[U3v,R1.slen];simp))
   .rw[if_neg hc] at e;cases e
  .cases e
 .cases e
end
end VS
end
section
namespace VS
open PySem PySem.Spec L2
theorem OpR.or{X:Cx}{f:Value->Value->Sem Value}{r r':R2}(h:OpR X f r)(h':OpR X f r'):OpR X f (fun x y H Q=>r x y H Q∨r' x y H Q):=fun pins s σ H x y v u Q I rx ry q=>q.elim (fun z=>h pins s σ H x y v u Q I rx ry z) fun z=>h' pins s σ H x y v u Q I rx ry z
theorem Dn.or{X:Cx}{f:Value}{r r':List V->Hp->VK->Prop}(h:Dn X f r)(h':Dn X f r'):Dn X f (fun xs H Q=>r xs H Q∨r' xs H Q):=fun pins s σ H xs us Q I rs q=>q.elim (fun z=>h pins s σ H xs us Q I rs z) fun z=>h' pins s σ H xs us Q I rs z
def oI(c:Int->Int->Bool)(g:Int->Int->D)(_:Store):D->D->Option D
 |.int i,.int j=>if c i j=true then some (g i j) else none
 |_,_=>none
def Hl(_ _:Int):Bool:=true
theorem XM{K:U0a}{C:Int->Int->Prop}{c:Int->Int->Bool}(g:Int->Int->Int)(hc:∀i j,c i j=true->C i j):G6 K (rI C fun i j=>.int (g i j)) (oI c fun i j=>.int (g i j)):=by
 intro Γ μ σ H env S x y dx dy d hK R rx ry e Q q
 unfold oI at e
 split at e
 .rename_i i j
  by_cases h:c i j=true
  .rw[if_pos h] at e;cases e;cases rx;cases ry
   exact⟨i,j,rfl,rfl,hc i j h,q _ H (Same.refl H) (.int _)⟩
  .rw[if_neg h] at e;cases e
 .cases e
theorem uK{K:U0a}(g:Int->Int->Int):G6 K (rI0 fun i j=>.int (g i j)) (oI Hl fun i j=>.int (g i j)):=by
 intro Γ μ σ H env S x y dx dy d hK R rx ry e Q q
 unfold oI at e
 split at e
 .rename_i i j
  rw[if_pos (show Hl i j=true from rfl)] at e;cases e;cases rx;cases ry
  exact⟨i,j,rfl,rfl,q _ H (Same.refl H) (.int _)⟩
 .cases e
theorem Ud{K:U0a}(g:Int->Int->Bool):G6 K (rI0 fun i j=>.bl (g i j)) (oI Hl fun i j=>.bl (g i j)):=by
 intro Γ μ σ H env S x y dx dy d hK R rx ry e Q q
 unfold oI at e
 split at e
 .rename_i i j
  rw[if_pos (show Hl i j=true from rfl)] at e;cases e;cases rx;cases ry
  exact⟨i,j,rfl,rfl,q _ H (Same.refl H) (.bl _)⟩
 .cases e
def Dy:=oI Hl fun i j=>.int (i-j)
def Vi(i j:Int):Bool:=(decide (-(2^64)<i)&&decide (i<2^64))||(decide (-(2^64)<j)&&decide (j<2^64))
def TF(_ j:Int):Bool:=decide (0<j)&&decide (j<2^64)
def Qz(_ j:Int):Bool:=decide (0<j)
def Oa(i j:Int):Bool:=decide (0<=j)&&decide (j<=1000000)&&decide (i.natAbs<2^64)
def oDiv:=oI TF fun i j=>.int (i/j)
def oMod:=oI Qz fun i j=>.int (i%j)
def Fd:=oI Oa fun i j=>.int (i^j.toNat)
def oLt:=oI Hl fun i j=>.bl (decide (i<j))
def oLe:=oI Hl fun i j=>.bl (decide (i<=j))
def oGt:=oI Hl fun i j=>.bl (decide (j<i))
def oGe:=oI Hl fun i j=>.bl (decide (j<=i))
theorem G7{K:U0a}:G6 K (rI0 fun i j=>.int (i-j)) Dy:=uK _
theorem QJ{K:U0a}:G6 K (rI (fun _ j=>0<j/\j<2^64) fun i j=>.int (i/j)) oDiv:=XM _ fun i j h=>by simpa [TF] using h
theorem Jk{K:U0a}:G6 K (rI (fun _ j=>0<j) fun i j=>.int (i%j)) oMod:=XM _ fun i j h=>by simpa [Qz] using h
theorem J3{K:U0a}:G6 K (rI jN fun i j=>.int (i^j.toNat)) Fd:=XM _ fun i j h=>by simpa [Oa,jN,and_assoc] using h
theorem R7{K:U0a}:G6 K (rI0 fun i j=>.bl (decide (i<j))) oLt:=Ud _
theorem dw{K:U0a}:G6 K (rI0 fun i j=>.bl (decide (i<=j))) oLe:=Ud _
theorem Ky{K:U0a}:G6 K (rI0 fun i j=>.bl (decide (j<i))) oGt:=Ud _
theorem Uc{K:U0a}:G6 K (rI0 fun i j=>.bl (decide (j<=i))) oGe:=Ud _
def Em(_:Store):D->Option D
 |.int i=>some (.int (-i))
 |_=>none
theorem Ii{K:U0a}:tZ K (rU fun i=>.int (-i)) Em:=by
 intro Γ μ σ H env S x dx d hK R rx e Q q
 unfold Em at e
 split at e
 .cases e;cases rx;exact⟨_,rfl,q _ H (Same.refl H) (.int _)⟩
 .cases e
def Dd(S:Store):D->D->Option D
 |.int i,.int j=>some (.int (i+j))
 |.tup a,.tup b=>if a.length+b.length<=1000000 then some (.tup (a++b)) else none
 |.str x,.str y=>if x.length+y.length<=1000000 then some (.str (x++y)) else none
 |x,y=>(listOf S x).bind fun a=>(listOf S y).bind fun b=>if a.length+b.length<=1000000 then some (.lst true (a++b)) else none
def mq:R2:=fun x y H Q=>∃(a b:Addr)(xs ys:List V),x=.ref a/\y=.ref b/\H a=some (.tup xs)/\H b=some (.tup ys)/\xs.length+ys.length<=sizeLine/\∀p H',Same H H'->H' p=some (.tup (xs++ys))->Q (.ref p) H'
def xV:R2:=fun x y H Q=>∃i j,x=.str i/\y=.str j/\i.length+j.length<=sizeLine/\Q (.str (i++j)) H
def mz:R2:=fun x y H Q=>(rI0 fun i j=>.int (i+j)) x y H Q∨mq x y H Q∨xV x y H Q∨tU x y H Q
theorem Dr{X:Cx}:OpR X (binaryOp .Add) mz:=OpR.or uz (OpR.or pQ (OpR.or cX uy))
theorem Dq{K:U0a}:G6 K mz Dd:=by
 intro Γ μ σ H env S x y dx dy d hK R rx ry e Q q
 unfold Dd at e
 split at e
 .cases e;cases rx;cases ry;exact .inl ⟨_,_,rfl,rfl,q _ H (Same.refl H) (.int _)⟩
 .rename_i a b
  by_cases h:a.length+b.length<=1000000
  .rw[if_pos h] at e;cases e
   cases rx with
   |@tup p xs _ hp rp =>
    cases ry with
    |@tup p2 ys _ hp2 rp2 =>
     refine .inr (.inl ⟨p,p2,xs,ys,rfl,rfl,hp,hp2,by rw[rp.length,rp2.length];exact U2q (big h),fun t H' sm ht=>?_⟩)
     obtain⟨R2,x2⟩:=R.grow sm
     exact q _ H' sm (.tup ht ((rp.append rp2).ext x2))
  .rw[if_neg h] at e;cases e
 .rename_i a b
  by_cases h:a.length+b.length<=1000000
  .rw[if_pos h] at e;cases e;cases rx;cases ry
   exact .inr (.inr (.inl ⟨_,_,rfl,rfl,U2q (big h),q _ H (Same.refl H) (.str _)⟩))
  .rw[if_neg h] at e;cases e
 .obtain⟨a,e1,e⟩:=bind_some e
  obtain⟨b,e2,e⟩:=bind_some e
  by_cases h:a.length+b.length<=1000000
  .rw[if_pos h] at e;cases e
   obtain⟨p,xs,rfl,hp,rp⟩:=VR.list R rx e1
   obtain⟨p2,ys,rfl,hp2,rp2⟩:=VR.list R ry e2
   refine .inr (.inr (.inr ⟨p,p2,xs,ys,rfl,rfl,hp,hp2,by rw[rp.length,rp2.length];exact U2q (big h),fun t ht=>?_⟩))
   obtain⟨R2,x2⟩:=R.grow (DQ ht (.lst (xs++ys)))
   exact q _ _ (DQ ht _) (.lst (R.ok ht true) (R.dead ht) Ce ((rp.append rp2).ext x2))
  .rw[if_neg h] at e;cases e
def Ju(S:Store):D->D->Option D
 |.int i,.int j=>if Vi i j=true then some (.int (i*j)) else none
 |.tup a,.int k=>if a≠[]/\1<=k/\k<2^60/\a.length*k.toNat<=1000000 then some (.tup (U05 k.toNat a).flatten) else none
 |x,.int k=>(listOf S x).bind fun a=>if -(2^63)<=k/\k<2^63/\a.length*k.toNat<=1000000 then some (.lst true (U05 k.toNat a).flatten) else none
 |_,_=>none
def mj:R2:=fun x y H Q=>(rI Xm fun i j=>.int (i*j)) x y H Q∨mZ x y H Q∨tK x y H Q
theorem M4{X:Cx}:OpR X (binaryOp .Mult) mj:=OpR.or uw (OpR.or pO uq)
theorem Lx{K:U0a}:G6 K mj Ju:=by
 intro Γ μ σ H env S x y dx dy d hK R rx ry e Q q
 unfold Ju at e
 split at e
 .rename_i i j
  by_cases h:Vi i j=true
  .rw[if_pos h] at e;cases e;cases rx;cases ry
   exact .inl ⟨_,_,rfl,rfl,by simpa [Vi,Xm] using h,q _ H (Same.refl H) (.int _)⟩
  .rw[if_neg h] at e;cases e
 .rename_i a k
  by_cases h:a≠[]/\1<=k/\k<2^60/\a.length*k.toNat<=1000000
  .rw[if_pos h] at e;cases e
   cases ry
   cases rx with
   |@tup p xs _ hp rp =>
    have hl:=rp.length
    refine .inr (.inl ⟨p,k,xs,rfl,rfl,hp,fun z=>h.1 (U29.mp (by rw[←hl,z];rfl)),h.2.1,h.2.2.1,by rw[hl];exact U2q (big h.2.2.2),fun t H' sm ht=>?_⟩)
    obtain⟨R2,x2⟩:=R.grow sm
    exact q _ H' sm (.tup ht ((rp.rep _).ext x2))
  .rw[if_neg h] at e;cases e
 .rename_i k _ _
  obtain⟨a,e1,e⟩:=bind_some e
  by_cases h:-(2^63)<=k/\k<2^63/\a.length*k.toNat<=1000000
  .rw[if_pos h] at e;cases e
   cases ry
   obtain⟨p,xs,rfl,hp,rp⟩:=VR.list R rx e1
   refine .inr (.inr ⟨p,k,xs,rfl,rfl,hp,h.1,h.2.1,by rw[rp.length];exact U2q (big h.2.2),fun t ht=>?_⟩)
   obtain⟨R2,x2⟩:=R.grow (DQ ht (.lst (U05 k.toNat xs).flatten))
   exact q _ _ (DQ ht _) (.lst (R.ok ht true) (R.dead ht) Ce ((rp.rep _).ext x2))
  .rw[if_neg h] at e;cases e
 .cases e
def oIx(S:Store):D->D->Option D
 |x,.int i=>(Br S x).bind fun ds=>atI ds i
 |_,_=>none
theorem rG{Γ:Fr}{μ:Mu}{H:Hp}{xs:List V}{ds:List D}{i:Int}{d:D}(r:VRs Γ μ H xs ds)(h:atI ds i=some d):∃x,atI xs i=some x/\VR Γ μ H x d:=by
 unfold atI at h ⊢
 obtain⟨j,e1,e2⟩:=bind_some h
 obtain⟨x,f1,f2⟩:=r.get e2
 exact⟨x,by rw[r.length,e1];exact f1,f2⟩
theorem BL{K:U0a}:G6 K (rIx K) oIx:=by
 intro Γ μ σ H env S x y dx dy d hK R rx ry e Q q
 unfold oIx at e
 split at e
 .rename_i i
  obtain⟨ds,e1,e⟩:=bind_some e
  cases ry
  obtain⟨a,xs,rfl,hq,rs⟩:=VR.seq hK R rx e1
  obtain⟨v,f1,f2⟩:=rG rs e
  rcases hq with hq|hq
  .exact .inl ⟨a,xs,i,v,rfl,rfl,hq,f1,q _ H (Same.refl H) f2⟩
  .exact .inr (.inl ⟨a,xs,i,v,rfl,rfl,hq,f1,q _ H (Same.refl H) f2⟩)
 .cases e
def cut(xs:List D)(lo hi:Option Int):List D:=(xs.drop (HT.sIx xs.length 0 lo)).take (HT.sIx xs.length xs.length hi-HT.sIx xs.length 0 lo)
def oSl(S:Store)(x:D)(lo hi:Option Int):Option D:=match x with
 |.tup ds=>some (.tup (cut ds lo hi))
 |x=>(Br S x).map fun ds=>.lst true (cut ds lo hi)
def tG:V->Option Int->Option Int->Hp->VK->Prop:=fun x lo hi H Q=>∃(a:Addr)(xs:List V),x=.ref a/\H a=some (.tup xs)/\∀p H',Same H H'->H' p=some (.tup (Kr xs lo hi))->Q (.ref p) H'
def tH(K:U0a):V->Option Int->Option Int->Hp->VK->Prop:=fun x lo hi H Q=>tG x lo hi H Q∨tE K x lo hi H Q
theorem QD{X:Cx}:SlR X (tH X.K):=SlR.or oA oE
theorem QF{K:U0a}:nJ K (tH K) oSl:=by
 intro Γ μ σ H env S x dx d l h hK R rx e Q q
 have key:∀{xs:List V} {ds:List D} {H':Hp},VRs Γ μ H' xs ds->VRs Γ μ H' (Kr xs l h) (cut ds l h):=fun r=>by
  unfold Kr cut
  rw[r.length]
  exact(r.drop _).take _
 unfold oSl at e
 split at e
 .cases e
  cases rx with
  |@tup p xs _ hp rp =>
   refine .inl ⟨p,xs,rfl,hp,fun t H' sm ht=>?_⟩
   obtain⟨R2,x2⟩:=R.grow sm
   exact q _ H' sm (.tup ht (key (rp.ext x2)))
 .rename_i ht
  obtain⟨ds,e1,e2⟩:=map_some e
  subst e2
  rcases VR.bQ hK R rx e1 with ⟨es,z⟩|⟨a,xs,rfl,hq,rs⟩
  .exact absurd z (ht es)
  .refine .inr ⟨a,xs,rfl,hq,fun t htt=>?_⟩
   obtain⟨R2,x2⟩:=R.grow (DQ htt (.lst (Kr xs l h)))
   exact q _ _ (DQ htt _) (.lst (R.ok htt true) (R.dead htt) Ce (key (rs.ext x2)))
def Ef(S:Store):List D->Option D
 |[x]=>(Br S x).map fun ds=>.int ds.length
 |_=>none
theorem HX{K:U0a}:N8 K (zH K) Ef:=by
 intro Γ μ σ H env S xs ds d hK R rs e Q q
 unfold Ef at e
 split at e
 .obtain⟨es,e1,e2⟩:=map_some e
  subst e2
  obtain⟨v,rfl,r⟩:=rs.one
  obtain⟨a,xs,rfl,hq,rx⟩:=VR.seq hK R r e1
  refine⟨a,xs,rfl,hq,?_⟩
  rw[rx.length]
  exact q _ H (Same.refl H) (.int _)
 .cases e
def TJ(S:Store):List D->Option D
 |[x]=>(Br S x).map fun ds=>.tup ds
 |_=>none
theorem RG{K:U0a}:N8 K (jy K) TJ:=by
 intro Γ μ σ H env S xs ds d hK R rs e Q q
 unfold TJ at e
 split at e
 .rename_i x
  obtain⟨es,e1,e2⟩:=map_some e
  subst e2
  obtain⟨v,rfl,r⟩:=rs.one
  rcases VR.bQ hK R r e1 with ⟨fs,rfl⟩|⟨a,xs,rfl,hq,rx⟩
  .cases r with
   |@tup p xs _ hp rp=>cases e1;exact⟨p,xs,rfl,.inr ⟨SqT.of hp,q _ H (Same.refl H) (.tup hp rp)⟩⟩
  .refine⟨a,xs,rfl,.inl ⟨hq,fun l hl=>?_⟩⟩
   obtain⟨R2,x2⟩:=R.grow (DQ hl (.tup xs))
   exact q _ _ (DQ hl _) (.tup Ce (rx.ext x2))
 .cases e
def Ob(S:Store):List D->Option D
 |[x]=>(listOf S x).bind fun ds=>(boolsOf ds).map fun bs=>.bl (bs.all id)
 |_=>none
where boolsOf:List D->Option (List Bool)
 |[]=>some []
 |.bl b::r=>(boolsOf r).map (b::·)
 |_=>none
@[simp] theorem aC(bs:List Bool):Ob.boolsOf (bs.map D.bl)=some bs:=by
 induction bs with
 |nil=>rfl
 |cons b r ih=>rw[U0m,Ob.boolsOf,ih];rfl
theorem T4{Γ:Fr}{μ:Mu}{H:Hp}:∀{xs:List V} {ds:List D} {bs:List Bool},VRs Γ μ H xs ds->Ob.boolsOf ds=some bs->xs=bs.map V.bl
 |_,[],_,.nil,h=>by cases h;rfl
 |_,.bl b::r,bs,.cons q t,h=>by
  rw[Ob.boolsOf] at h
  obtain⟨cs,e1,e2⟩:=map_some h
  subst e2
  cases q
  rw[U0m,T4 t e1]
 |_,.non::_,_,_,h=>by cases h
 |_,.int _::_,_,_,h=>by cases h
 |_,.str _::_,_,_,h=>by cases h
 |_,.ty _::_,_,_,h=>by cases h
 |_,.tup _::_,_,_,h=>by cases h
 |_,.lst _ _::_,_,_,h=>by cases h
 |_,.ref _::_,_,_,h=>by cases h
 |_,.scr _::_,_,_,h=>by cases h
 |_,.emp::_,_,_,h=>by cases h
def zL(K:U0a):List V->Hp->VK->Prop:=fun xs H Q=>∃(p:Addr)(bs:List Bool),xs=[.ref p]/\SqL K H p (bs.map V.bl)/\Q (.bl (bs.all id)) H
theorem aU{K:U0a}:N8 K (zL K) Ob:=by
 intro Γ μ σ H env S xs ds d hK R rs e Q q
 unfold Ob at e
 split at e
 .obtain⟨es,e1,e⟩:=bind_some e
  obtain⟨bs,e2,e3⟩:=map_some e
  subst e3
  obtain⟨v,rfl,r⟩:=rs.one
  obtain⟨a,xs,rfl,ha,rx⟩:=VR.list R r e1
  have:=T4 rx e2
  subst this
  exact⟨a,bs,rfl,SqL.of ha,q _ H (Same.refl H) (.bl _)⟩
 .cases e
def Xd(_:Store):List D->Option D
 |[.int i,.int j]=>some (.int (if j>i then j else i))
 |_=>none
def UW(_:Store):List D->Option D
 |[.int i,.int j]=>some (.int (if j<i then j else i))
 |_=>none
def Py(_:Store):List D->Option D
 |[.int i]=>some (.int i)
 |[.bl k]=>some (.int (if k then 1 else 0))
 |_=>none
theorem ju{K:U0a}:N8 K (fun xs H Q=>∃i j,xs=[.int i,.int j]/\Q (.int (if j>i then j else i)) H) Xd:=by
 intro Γ μ σ H env S xs ds d hK R rs e Q q
 unfold Xd at e
 split at e
 .cases e
  obtain⟨v,u,rfl,r1,r2⟩:=rs.two
  cases r1;cases r2
  exact⟨_,_,rfl,q _ H (Same.refl H) (.int _)⟩
 .cases e
theorem YH{K:U0a}:N8 K (fun xs H Q=>∃i j,xs=[.int i,.int j]/\Q (.int (if j<i then j else i)) H) UW:=by
 intro Γ μ σ H env S xs ds d hK R rs e Q q
 unfold UW at e
 split at e
 .cases e
  obtain⟨v,u,rfl,r1,r2⟩:=rs.two
  cases r1;cases r2
  exact⟨_,_,rfl,q _ H (Same.refl H) (.int _)⟩
 .cases e
theorem aR{K:U0a}:N8 K (fun xs H Q=>(∃i,xs=[.int i]/\Q (.int i) H)∨∃k,xs=[.bl k]/\Q (.int (if k then 1 else 0)) H) Py:=by
 intro Γ μ σ H env S xs ds d hK R rs e Q q
 unfold Py at e
 split at e
 .cases e
  obtain⟨v,rfl,r1⟩:=rs.one
  cases r1
  exact .inl ⟨_,rfl,q _ H (Same.refl H) (.int _)⟩
 .cases e
  obtain⟨v,rfl,r1⟩:=rs.one
  cases r1
  exact .inr ⟨_,rfl,q _ H (Same.refl H) (.int _)⟩
 .cases e
def Xk(K:U0a)(r:List V->Hp->VK->Prop)(g:Store->List D->Option (List D)):Prop:=∀(Γ:Fr)(μ:Mu)(σ:St)(H:Hp)(env:Env)(S:Store)(xs:List V)(ds es:List D),Γ.K=K->Rep Γ μ σ H env S->VRs Γ μ H xs ds->g S ds=some es ->
 ∀Q:VK,(∀l ys,H l=none->VRs Γ μ H ys es->Q (.ref l) (upd H l (.lst ys)))->r xs H Q
def Xc(g:Store->List D->Option (List D))(a:Bf):Bb:=fun env S=>(a env S).bind fun p=>(g p.2 p.1).map fun es=>(.lst true es,p.2)
def Xb(g:Store->List D->Option (List D))(a:Bf):Bb:=fun env S=>(a env S).bind fun p=>(g p.2 p.1).map fun es=>(.ref p.2.length,p.2++[some es])
theorem nU{K:U0a}{r:List V->Hp->VK->Prop}{g:Store->List D->Option (List D)}{f:Bf}(hs:Xk K r g){σ:St}{H:Hp}{Q:VK}(h:wpE K (Xc g f) σ H Q):tCB r (wpA K f) σ H Q:=by
 obtain⟨Γ,μ,env,S,d,S',hK,R,e,q⟩:=h
 obtain⟨⟨x,S1⟩,e1,e⟩:=bind_some e
 obtain⟨z,e4,e⟩:=map_some e
 cases e
 refine⟨Γ,μ,env,S,x,S1,hK,R,e1,fun v1 μ1 H1 x1 R1 r1=>?_⟩
 refine hs Γ μ1 σ H1 env S1 v1 x _ hK R1 r1 e4 Q fun l ys hl ry=>?_
 obtain⟨R4,x4⟩:=R1.grow (DQ hl (.lst ys))
 exact q _ μ1 _ (x1.trans x4) R4 (.lst (R1.ok hl true) (R1.dead hl) Ce (ry.ext x4))
theorem nT{K:U0a}{r:List V->Hp->VK->Prop}{g:Store->List D->Option (List D)}{f:Bf}(hs:Xk K r g){σ:St}{H:Hp}{Q:VK}(h:wpE K (Xb g f) σ H Q):tCB r (wpA K f) σ H Q:=by
 obtain⟨Γ,μ,env,S,d,S',hK,R,e,q⟩:=h
 obtain⟨⟨x,S1⟩,e1,e⟩:=bind_some e
 obtain⟨z,e4,e⟩:=map_some e
 cases e
 refine⟨Γ,μ,env,S,x,S1,hK,R,e1,fun v1 μ1 H1 x1 R1 r1=>?_⟩
 refine hs Γ μ1 σ H1 env S1 v1 x _ hK R1 r1 e4 Q fun l ys hl ry=>?_
 obtain⟨R4,x4⟩:=R1.laid hl ry
 exact q _ _ _ (x1.trans x4) R4 (aW R1.slen)
section
variable{X:Cx}{x:Str}{p pos:Pos}{e:Expr}{es:List Expr}{T:String}{f:Bf}{r:List V->Hp->VK->Prop}{g:Store->List D->Option (List D)}
theorem qQ(hc:Dn X (.type T) r)(hsm:Xk X.K r g)(hg:Gl X x)(hm:X.mg x=none)(hv:bootBuiltins x=some (.type T))(ha:JA X (e::es) f)(hn:x≠"__name__":=by decide)(hdb:(x==("__debug__":Str))=false:=by decide)
  (he:starEach (e::es) X.env=(false,eval e X.env)::starEach es X.env:=by rfl) (hpl:(backTo pos (starEach es X.env)).any (·.1)=false:=by rfl):JE X (.Call (.Name x p) (e::es) [] pos) (Xc g f) :=
 ⟨PE.imp (Kq hc hg hm hv ha.pa hn hdb he hpl) fun _ _ _ h=>nU hsm h⟩
theorem qP(hc:Dn X (.type T) r)(hsm:Xk X.K r g)(hg:Gl X x)(hm:X.mg x=none)(hv:bootBuiltins x=some (.type T))(ha:JA X (e::es) f)(hn:x≠"__name__":=by decide)(hdb:(x==("__debug__":Str))=false:=by decide)
  (he:starEach (e::es) X.env=(false,eval e X.env)::starEach es X.env:=by rfl) (hpl:(backTo pos (starEach es X.env)).any (·.1)=false:=by rfl):JE X (.Call (.Name x p) (e::es) [] pos) (Xb g f) :=
 ⟨PE.imp (Kq hc hg hm hv ha.pa hn hdb he hpl) fun _ _ _ h=>nT hsm h⟩
end
def nList(S:Store):List D->Option (List D)
 |[x]=>Br S x
 |_=>none
theorem YJ{K:U0a}:Xk K (oU K) nList:=by
 intro Γ μ σ H env S xs ds es hK R rs e Q q
 unfold nList at e
 split at e
 .obtain⟨v,rfl,r⟩:=rs.one
  obtain⟨a,ys,rfl,hq,ry⟩:=VR.seq hK R r e
  exact⟨a,ys,rfl,hq,fun l hl=>q l ys hl ry⟩
 .cases e
end VS
end
section
namespace VS
open PySem PySem.Spec L2
mutual
def toP:D->Option PyData
 |.non=>some .none
 |.bl b=>some (.bool b)
 |.int i=>some (.int i)
 |.str x=>some (.str x)
 |.tup ds=>(Gq ds).map .tuple
 |.lst _ ds=>(Gq ds).map .list
 |.emp=>some (.dict [])
 |.ref _=>none
 |.scr _=>none
 |.ty _=>none
def Gq:List D->Option (List PyData)
 |[]=>some []
 |d::r=>(toP d).bind fun x=>(Gq r).bind fun xs=>some (x::xs)
end
mutual
theorem VR.tr{Γ:Fr}{μ:Mu}{H:Hp}:∀{v:V} {d:D} {p:PyData},VR Γ μ H v d->toP d=some p->Tr (fun _=>True) H v p
 |_,_,_,.non,h=>by rw[toP] at h;cases h;exact .non
 |_,_,_,.bl b,h=>by rw[toP] at h;cases h;exact .bl b
 |_,_,_,.int i,h=>by rw[toP] at h;cases h;exact .int i
 |_,_,_,.str x,h=>by rw[toP] at h;cases h;exact .str x
 |_,_,_,.ty _,h=>by rw[toP] at h;cases h
 |_,_,_,.tup hb t,h=>by
  rw[toP] at h
  obtain⟨ps,e1,e2⟩:=map_some h
  subst e2
  exact .tup trivial hb (VRs.tr t e1)
 |_,_,_,.lst _ _ hb t,h=>by
  rw[toP] at h
  obtain⟨ps,e1,e2⟩:=map_some h
  subst e2
  exact .lst trivial hb (VRs.tr t e1)
 |_,_,_,.ref _ _,h=>by rw[toP] at h;cases h
 |_,_,_,.scrK _,h=>by rw[toP] at h;cases h
 |_,_,_,.scrR _ _,h=>by rw[toP] at h;cases h
 |_,_,_,.emp _ hb,h=>by rw[toP] at h;cases h;exact .dct trivial hb
theorem VRs.tr{Γ:Fr}{μ:Mu}{H:Hp}:∀{v:List V} {d:List D} {p:List PyData},VRs Γ μ H v d->Gq d=some p->Kw (fun _=>True) H v p
 |_,_,_,.nil,h=>by rw[Gq] at h;cases h;exact .nil
 |_,_,_,.cons r t,h=>by
  rw[Gq] at h
  obtain⟨x,e1,h⟩:=bind_some h
  obtain⟨xs,e2,h⟩:=bind_some h
  cases h
  exact .cons (VR.tr r e1) (VRs.tr t e2)
end
def Cp(S:Store)(d:D):Option PyData:=(den 0 S d).bind toP
theorem VR.see{Γ:Fr}{μ:Mu}{σ:St}{H:Hp}{env:Env}{S:Store}{v:V}{d:D}{p:PyData}(R:Rep Γ μ σ H env S)(r:VR Γ μ H v d)(h:Cp S d=some p):Tr (fun _=>True) H v p:=by
 obtain⟨e,e1,e2⟩:=bind_some h
 have r1:VR ⟨Γ.K,fun _=>none,fun _=>True,[]⟩ [] H v e:=VR.den (Γ':=⟨Γ.K,fun _=>none,fun _=>True,[]⟩) R rfl (fun i ds a _ hs=>⟨hs,fun z=>⟨Jc,⟨fun _=>rfl,.inl trivial⟩⟩⟩) (fun m a _ _=>⟨fun _=>rfl,.inl trivial⟩) (fun a o _ _=>Jc) r e1
 exact r1.tr e2
def eqP(neg:Bool)(S:Store)(x y:D):Option D:=(Cp S x).bind fun p=>(Cp S y).bind fun q=>if (U2u p&&U2u q)=true then some (.bl (neg ^^ U6o p q)) else none
def oEq(neg:Bool)(S:Store):D->D->Option D
 |.int i,.int j=>some (.bl (neg ^^ decide (i=j)))
 |x,y=>eqP neg S x y
def zK:R2:=fun x y H Q=>∃(N N':Addr->Prop)(d e:PyData),Tr N H x d/\Tr N' H y e/\U2u d=true/\U2u e=true/\Q (.bl (U6o d e)) H
def zG:R2:=fun x y H Q=>∃(N N':Addr->Prop)(d e:PyData),Tr N H x d/\Tr N' H y e/\U2u d=true/\U2u e=true/\Q (.bl (!PyData.eqv d e)) H
def tR:R2:=fun x y H Q=>rEq x y H Q∨zK x y H Q
def jB:R2:=fun x y H Q=>rNe x y H Q∨zG x y H Q
theorem Ga{X:Cx}{k:Nat}(hr:FN k X.A):OpR X (compareOp .Eq) tR:=OpR.or yD (ux hr)
theorem Mq{X:Cx}{k:Nat}(hr:FN k X.A):OpR X (compareOp .NotEq) jB:=OpR.or yC (ur hr)
theorem GZ{K:U0a}:G6 K tR (oEq false):=by
 intro Γ μ σ H env S x y dx dy d hK R rx ry e Q q
 unfold oEq at e
 split at e
 .rename_i i j
  cases e;cases rx;cases ry
  refine .inl ⟨rfl,?_⟩
  have:decide (V.int i=V.int j)=decide (i=j):=by simp
  rw[this]
  exact q _ H (Same.refl H) (by simpa using VR.bl (decide (i=j)))
 .unfold eqP at e
  obtain⟨p,e1,e⟩:=bind_some e
  obtain⟨p2,e2,e⟩:=bind_some e
  by_cases h:(U2u p&&U2u p2)=true
  .rw[if_pos h] at e
   cases e
   rw[U00] at h
   exact .inr ⟨_,_,p,p2,rx.see R e1,ry.see R e2,h.1,h.2,q _ H (Same.refl H) (by simpa using VR.bl (U6o p p2))⟩
  .rw[if_neg h] at e;cases e
theorem Oc{K:U0a}:G6 K jB (oEq true):=by
 intro Γ μ σ H env S x y dx dy d hK R rx ry e Q q
 unfold oEq at e
 split at e
 .rename_i i j
  cases e;cases rx;cases ry
  refine .inl ⟨rfl,?_⟩
  have:decide (V.int i=V.int j)=decide (i=j):=by simp
  rw[this]
  exact q _ H (Same.refl H) (by simpa using VR.bl (!decide (i=j)))
 .unfold eqP at e
  obtain⟨p,e1,e⟩:=bind_some e
  obtain⟨p2,e2,e⟩:=bind_some e
  by_cases h:(U2u p&&U2u p2)=true
  .rw[if_pos h] at e
   cases e
   rw[U00] at h
   exact .inr ⟨_,_,p,p2,rx.see R e1,ry.see R e2,h.1,h.2,q _ H (Same.refl H) (by simpa using VR.bl (!PyData.eqv p p2))⟩
  .rw[if_neg h] at e;cases e
def Xg(D:List (PyData×PyData))(_:Store):VS.D->Option VS.D
 |.int i=>some (.bl (lookup (.int i) D).isSome)
 |_=>none
def Uh(D:List (PyData×PyData))(_:Store):VS.D->Option VS.D
 |.int i=>match lookup (.int i) D with|some (.int j)=>some (.int j)|_=>none
 |_=>none
section
variable{X:Cx}{a:Expr}{fa:Bb}{x:Str}{p pos:Pos}{dM:Addr}{D:List (PyData×PyData)}
theorem uE{K:U0a}{σ:St}{H:Hp}{Q:VK}(h:wpE K (eUn (Xg D) fa) σ H Q):tOp (fun x y H Q=>∃(i:Int),x=.int i/\y=.ref dM/\Q (.bl (lookup (.int i) D).isSome) H) (wpE K fa) (tC (.ref dM)) σ H Q:=by
 obtain⟨Γ,μ,env,S,d,S',hK,R,e,q⟩:=h
 obtain⟨⟨y,S1⟩,e1,e⟩:=bind_some e
 obtain⟨z,e3,e⟩:=map_some e
 cases e
 refine⟨Γ,μ,env,S,y,S1,hK,R,e1,fun v1 μ1 H1 x1 R1 r1=>?_⟩
 dsimp only at e3
 unfold Xg at e3
 split at e3
 .cases e3;cases r1;exact⟨_,rfl,rfl,q _ μ1 H1 x1 R1 (.bl _)⟩
 .cases e3
theorem lX(hT:∀h,X.K.In h->U5j X.prog X.w h dM D)(ha:JE X a fa)(hg:Gl X x)(hm:X.mg x=some (.ref dM))(hk:behindInMarks .In (.Name x p)=false:=by with_unfolding_all rfl)(hd:(x==("__debug__":Str))=false:=by decide):JE X (.Compare a [.In] [.Name x p] pos) (eUn (Xg D) fa) :=
 ⟨PE.imp (ak (lA hT) ha.pe (aj (v:=.ref dM) hg hm rfl hd) hk) fun _ _ _ h=>uE h⟩
theorem lW(hT:∀h,X.K.In h->U5j X.prog X.w h dM D)(hb:JE X a fa)(hg:Gl X x)(hm:X.mg x=some (.ref dM))(hs:S6 a)(hd:(x==("__debug__":Str))=false:=by decide)
  (hgo:∀r,letTemporaryGo (.Name x p) (.ref dM) r=pure ():=by intro _;with_unfolding_all rfl):JE X (.Subscript (.Name x p) a pos) (eUn (Uh D) fa) :=
 ⟨PE.imp (kZ hT (aj (v:=.ref dM) hg hm rfl hd) hb.pe hs hgo) fun σ H Q h=>by
  obtain⟨Γ,μ,env,S,d,S',hK,R,e,q⟩:=h
  obtain⟨⟨y,S1⟩,e1,e⟩:=bind_some e
  obtain⟨z,e3,e⟩:=map_some e
  cases e
  refine⟨Γ,μ,env,S,y,S1,hK,R,e1,fun v1 μ1 H1 x1 R1 r1=>?_⟩
  dsimp only at e3
  unfold Uh at e3
  split at e3
  .split at e3
   .rename_i hl
    cases e3;cases r1;exact⟨_,_,rfl,rfl,hl,q _ μ1 H1 x1 R1 (.int _)⟩
   .cases e3
  .cases e3⟩
end
def isT(T:String)(d:PyData):Bool:=match T with
 |"str"=>(match d with|.str _=>true|_=>false)
 |T=>Xh T d
theorem qL{K:U0a}(d:PyData):U3h K (.type (tyName d)) (.type "str")=some (isT "str" d):=by
 cases d with
 |none=>exact Cr (a:="NoneType") (r:=false) (by decide +kernel)
 |bool _=>exact Cr (a:="bool") (r:=false) (by decide +kernel)
 |int _=>exact Cr (a:="int") (r:=false) (by decide +kernel)
 |str _=>exact Cr (a:="str") (r:=true) (by decide +kernel)
 |list _=>exact Cr (a:="list") (r:=false) (by decide +kernel)
 |tuple _=>exact Cr (a:="tuple") (r:=false) (by decide +kernel)
 |dict _=>exact Cr (a:="dict") (r:=false) (by decide +kernel)
def Ks(S:Store):List D->Option D
 |[x,.ty "int"]=>(Cp S x).map fun p=>.bl (isT "int" p)
 |[x,.ty "bool"]=>(Cp S x).map fun p=>.bl (isT "bool" p)
 |[x,.ty "tuple"]=>(Cp S x).map fun p=>.bl (isT "tuple" p)
 |[x,.ty "list"]=>(Cp S x).map fun p=>.bl (isT "list" p)
 |[x,.ty "str"]=>(Cp S x).map fun p=>.bl (isT "str" p)
 |[x,.tup [.ty "tuple",.ty "list"]]=>(Cp S x).bind fun p=>if noDict p=true then some (.bl (isSeq p)) else none
 |_=>none
def zJ(K:U0a):List V->Hp->VK->Prop:=fun xs H Q=>∃(x:V)(T:String)(t:Value)(b:Bool),xs=[x,.ty T]/\KQ K H x t/\U3h K t (.type T)=some b/\Q (.bl b) H
def xT:List V->Hp->VK->Prop:=fun xs H Q=>∃(N:Addr->Prop)(x:V)(d:PyData)(p:Addr),xs=[x,.ref p]/\H p=some (.tup [.ty "tuple",.ty "list"])/\Tr N H x d/\noDict d=true/\Q (.bl (isSeq d)) H
def cI(K:U0a):List V->Hp->VK->Prop:=fun xs H Q=>zJ K xs H Q∨xT xs H Q
theorem MJ{X:Cx}:Dn X (.builtin "isinstance") (cI X.K):=Dn.or aB XF
theorem O4{K:U0a}:N8 K (cI K) Ks:=by
 intro Γ μ σ H env S xs ds d hK R rs e Q q
 have go:∀(T:String)(x:D),(∀p:PyData,U3h K (.type (tyName p)) (.type T)=some (isT T p))->ds=[x,.ty T]->((Cp S x).map fun p=>D.bl (isT T p))=some d->cI K xs H Q:=fun T x hk hd e'=>by
  subst hd
  obtain⟨p,e1,e2⟩:=map_some e'
  subst e2
  obtain⟨v,u,rfl,r1,r2⟩:=rs.two
  cases r2
  exact .inl ⟨v,T,_,_,rfl,(r1.see R e1).ty,hk p,q _ H (Same.refl H) (.bl _)⟩
 unfold Ks at e
 split at e
 .exact go "int" _ qM rfl e
 .exact go "bool" _ lQ rfl e
 .exact go "tuple" _ kit_tuple rfl e
 .exact go "list" _ lO rfl e
 .exact go "str" _ qL rfl e
 .obtain⟨p,e1,e⟩:=bind_some e
  by_cases h:noDict p=true
  .rw[if_pos h] at e
   cases e
   obtain⟨v,u,rfl,r1,r2⟩:=rs.two
   cases r2 with
   |@tup a ys _ ha ry =>
    cases ry with
    |cons q1 t1 =>
     cases t1 with
     |cons q2 t2 =>
      cases t2;cases q1;cases q2
      exact .inr ⟨_,v,p,a,rfl,ha,r1.see R e1,h,q _ H (Same.refl H) (.bl _)⟩
  .rw[if_neg h] at e;cases e
 .cases e
def Jj(S:Store):List D->Option D
 |[x]=>(Cp S x).bind fun p=>if (p.showable&&decide (p.depth<=60)&&decide (p.shown.length<=1000000))=true then some (.str p.shown) else none
 |_=>none
def xR:List V->Hp->VK->Prop:=fun xs H Q=>∃(N:Addr->Prop)(v:V)(d:PyData),xs=[v]/\Tr N H v d/\d.showable=true/\d.depth<=60/\d.shown.length<=sizeLine/\Q (.str d.shown) H
theorem YG{K:U0a}:N8 K xR Jj:=by
 intro Γ μ σ H env S xs ds d hK R rs e Q q
 unfold Jj at e
 split at e
 .obtain⟨p,e1,e⟩:=bind_some e
  by_cases h:(p.showable&&decide (p.depth<=60)&&decide (p.shown.length<=1000000))=true
  .rw[if_pos h] at e
   cases e
   simp only[U00,decide_eq_true_eq] at h
   obtain⟨v,rfl,r1⟩:=rs.one
   exact⟨_,v,p,rfl,r1.see R e1,h.1.1,h.1.2,U2q (big h.2),q _ H (Same.refl H) (.str _)⟩
  .rw[if_neg h] at e;cases e
 .cases e
def FZ(ns:List Int):List Int:=(SetP.once ns).mergeSort fun a b=>decide (a<=b)
theorem Ut{ns ms:List Int}(h:ms.Perm (SetP.once ns))(s:ms.Pairwise (·<=·)):ms=FZ ns:=by
 have h2:(FZ ns).Perm (SetP.once ns):=U5k _ _
 have s2:(FZ ns).Pairwise (·<=·):=by
  have:=List.pairwise_mergeSort (le:=fun a b:Int=>decide (a<=b)) (by intro a b c h1 h2;simp at *;omega) (by intro a b;simp;omega) (SetP.once ns)
  exact this.imp fun h=>by simpa using h
 exact U4h.eq_of_pairwise (fun a b _ _ h1 h2=>Int.le_antisymm h1 h2) s s2 (h.trans h2.symm)
def Tj(a:Bb):Bb:=fun env S=>(a env S).bind fun p=>(listOf p.2 p.1).bind fun ds=>(intsOf ds).bind fun ns=>if ns.length<1000/\(SetP.once ns).length<64 then some (.lst true ((FZ ns).map .int),p.2) else none
theorem dG{X:Cx}{a:Expr}{f:Bb}{p p2 pos pos2:Pos}(hc:X.calm=true)(ha:JE X a f)(hg:Gl X "sorted")(hm:X.mg "sorted"=none)(hg2:Gl X "set")(hm2:X.mg "set"=none) 
  (he:starEach [a] X.env=[(false,eval a X.env)]:=by rfl) (he2:starEach [.Call (.Name "set" p2) [a] [] pos2] X.env=[(false,eval (.Call (.Name "set" p2) [a] [] pos2) X.env)]:=by rfl):JE X (.Call (.Name "sorted" p) [.Call (.Name "set" p2) [a] [] pos2] [] pos) (Tj f) :=
 ⟨PE.imp (YQ (W2 hc) hg hm j7 (Rp (Kq (mJ hc) hg2 hm2 wF (Rp ha.pe Ug he) (he:=he) (hpl:=rfl)) Ug he2) (he:=he2) (hpl:=rfl)) fun σ H Q h=>by
  obtain⟨Γ,μ,env,S,d,S',hK,R,e,q⟩:=h
  obtain⟨⟨y,S1⟩,e1,e⟩:=bind_some e
  obtain⟨ds,e2,e⟩:=bind_some e
  obtain⟨ns,e3,e⟩:=bind_some e
  by_cases hl:ns.length<1000/\(SetP.once ns).length<64
  .rw[if_pos hl] at e
   cases e
   refine⟨Γ,μ,env,S,y,_,hK,R,e1,fun v1 μ1 H1 x1 R1 r1=>?_⟩
   obtain⟨b,xs,rfl,hb,rb⟩:=VR.list R1 r1 e2
   have:=JK e3
   subst this
   have:=rb.Rj
   subst this
   refine⟨b,ns,rfl,SqL.of hb,hl.1,fun s hs=>?_⟩
   obtain⟨R2,x2⟩:=R1.grow (DQ hs (Xf X.prog X.w s (SetP.once ns)))
   refine⟨s,_,rfl,Ce,hl.2,fun l ms hl' hp hsrt=>?_⟩
   have:=Ut hp hsrt
   subst this
   obtain⟨R3,x3⟩:=R2.grow (DQ hl' (.lst ((FZ ns).map V.int)))
   exact q _ μ1 _ (x1.trans (x2.trans x3)) R3 (.lst (R2.ok hl' true) (R2.dead hl') Ce (VRs.ints _))
  .rw[if_neg hl] at e;cases e⟩
def Hx(a:Bf):Bb:=fun env S=>(a env S).bind fun p=>match p.1 with
 |[.int j]=>if r62 j/\j.toNat<=1000 then some (.lst true (upD 0 j.toNat),p.2) else none
 |[.int i,.int j]=>if r62 i/\r62 j/\(j-i).toNat<=1000 then some (.lst true (upD i (j-i).toNat),p.2) else none
 |_=>none
theorem nZ{Γ:Fr}{μ:Mu}{H:Hp}(lo:Int)(n:Nat):VRs Γ μ H ((upTo lo n).map V.int) (upD lo n):=by
 have:upD lo n=(upTo lo n).map D.int:=by unfold upD L2.upTo;rw[U0d];rfl
 rw[this];exact VRs.ints _
def YM:List V->Hp->VK->Prop:=fun xs H Q=>(∃(n:Int),xs=[.int n]/\∀p,H p=none->Q (.ref p) (upd H p (.rng 0 n)))∨∃(a b:Int),xs=[.int a,.int b]/\∀p,H p=none->Q (.ref p) (upd H p (.rng a b))
theorem Zb{X:Cx}:Dn X (.type "range") YM:=Dn.or aA Zz
theorem Z6{K:U0a}{f:Bf}{σ:St}{H:Hp}{Q:VK} (h:∃Γ μ env S ds S',Γ.K=K/\Rep Γ μ σ H env S/\f env S=some (ds,S')/\∃lo n,((∃j,ds=[.int j]/\r62 j/\j.toNat<=1000/\lo=0/\n=j.toNat)∨∃i j,ds=[.int i,.int j]/\r62 i/\r62 j/\(j-i).toNat<=1000/\lo=i/\n=(j-i).toNat) /\
   ∀μ' H',Ext μ H μ' H'->Rep Γ μ' σ H' env S'->∀l,H' l=none->Q (.ref l) (upd H' l (.lst ((upTo lo n).map V.int)))) :
  tCB (fun xs H Q=>∃(r:Addr)(lo hi:Int),xs=[.ref r]/\H r=some (.rng lo hi)/\-(2^62)<=lo/\lo<2^62/\-(2^62)<=hi/\hi<2^62/\(hi-lo).toNat<=1000/\∀l,H l=none->Q (.ref l) (upd H l (.lst ((upTo lo (hi-lo).toNat).map V.int)))) (mX (tCB YM (wpA K f)) sV) σ H Q:=by
 obtain⟨Γ,μ,env,S,ds,S',hK,R,e1,lo,n,hc,q⟩:=h
 refine⟨Γ,μ,env,S,ds,S',hK,R,e1,fun vs μ1 H1 x1 R1 r1=>?_⟩
 rcases hc with ⟨j,rfl,h1,h2,rfl,rfl⟩|⟨i,j,rfl,h1,h2,h3,rfl,rfl⟩
 .obtain⟨v,rfl,r⟩:=r1.one
  cases r
  refine .inl ⟨j,rfl,fun p hp=>⟨p,0,j,rfl,Ce,by decide,by decide,h1.1,h1.2,by simpa using h2,fun l hl=>?_⟩⟩
  obtain⟨R2,x2⟩:=R1.grow (DQ hp (.rng 0 j))
  have:=q μ1 _ (x1.trans x2) R2 l hl
  simpa using this
 .obtain⟨v,u,rfl,r,r'⟩:=r1.two
  cases r
  cases r'
  refine .inr ⟨lo,j,rfl,fun p hp=>⟨p,lo,j,rfl,Ce,h1.1,h1.2,h2.1,h2.2,h3,fun l hl=>?_⟩⟩
  obtain⟨R2,x2⟩:=R1.grow (DQ hp (.rng lo j))
  exact q μ1 _ (x1.trans x2) R2 l hl
section
variable{X:Cx}{a:Expr}{as:List Expr}{f:Bf}{p p2 pos pos2:Pos}
theorem Ra(hc:X.calm=true)(ha:JA X (a::as) f)(hg:Gl X "list")(hm:X.mg "list"=none)(hg2:Gl X "range")(hm2:X.mg "range"=none)
  (he:starEach (a::as) X.env=(false,eval a X.env)::starEach as X.env:=by rfl) (hpl:(backTo pos2 (starEach as X.env)).any (·.1)=false:=by rfl) (he2:starEach [.Call (.Name "range" p2) (a::as) [] pos2] X.env=[(false,eval (.Call (.Name "range" p2) (a::as) [] pos2) X.env)]:=by rfl) :
  JE X (.Call (.Name "list" p) [.Call (.Name "range" p2) (a::as) [] pos2] [] pos) (Hx f) :=
 ⟨PE.imp (Kq (W3 hc) hg hm Ry (Rp (Kq Zb hg2 hm2 mL ha.pa (he:=he) (hpl:=hpl)) Ug he2) (he:=he2) (hpl:=rfl)) fun σ H Q h=>by
  obtain⟨Γ,μ,env,S,d,S',hK,R,e,q⟩:=h
  obtain⟨⟨ds,S1⟩,e1,e⟩:=bind_some e
  refine Z6 ⟨Γ,μ,env,S,ds,S1,hK,R,e1,?_⟩
  have fin:∀lo n,d=.lst true (upD lo n)->S1=S'->∀μ' H',Ext μ H μ' H'->Rep Γ μ' σ H' env S1->∀l,H' l=none->Q (.ref l) (upd H' l (.lst ((upTo lo n).map V.int))):=fun lo n hd hs μ' H' x' R' l hl=>by
   subst hd hs
   obtain⟨R2,x2⟩:=R'.grow (DQ hl (.lst ((upTo lo n).map V.int)))
   exact q _ μ' _ (x'.trans x2) R2 (.lst (R'.ok hl true) (R'.dead hl) Ce (nZ lo n))
  dsimp only at e
  split at e
  .rename_i j
   by_cases hj:r62 j/\j.toNat<=1000
   .rw[if_pos hj] at e;cases e
    exact⟨0,_,.inl ⟨j,rfl,hj.1,hj.2,rfl,rfl⟩,fin _ _ rfl rfl⟩
   .rw[if_neg hj] at e;cases e
  .rename_i i j
   by_cases hj:r62 i/\r62 j/\(j-i).toNat<=1000
   .rw[if_pos hj] at e;cases e
    exact⟨i,_,.inr ⟨i,j,rfl,hj.1,hj.2.1,hj.2.2,rfl,rfl⟩,fin _ _ rfl rfl⟩
   .rw[if_neg hj] at e;cases e
  .cases e⟩
end
end VS
end
section
namespace VS
open PySem PySem.Spec L2
def Ub(K:U0a):Sp:=fun vs H Q _=>∃(l:Addr)(ns:List Int),vs=[.ref l]/\Only H/\ns.length<=63/\SqL K H l (ns.map V.int)/\∀H',Q (.bl true) H'
theorem vI{K:U0a}{sem:Cz}(h:∀ns:List Int,ns.length<=63->sem [.scr ns]=some (.bl true)):∀vs H Q E,Ub K vs H Q E->spP K sem 1 vs H Q E:=by
 intro vs H Q E ⟨l,ns,e,hO,hl,hq,q⟩
 subst e
 refine⟨fun _=>False,[.scr ns],.bl true,rfl,.cons ?_ .nil,h ns hl,fun v H' sm rv=>?_⟩
 .rcases hq with hq|hq
  .rcases hq with hq|⟨o,hq⟩
   .rcases hO l with z|⟨o,xs,z⟩
    .rw[z] at hq;cases hq
    .rw[z] at hq;cases hq
   .exact .scrR Jc hq
  .exact .scrK fun H'=>.inr hq
 .cases rv;exact q H'
theorem qz{P:Program}{w:World}{K:U0a}{mg:Str->Option Value}{base:Heap}{k:Nat}{f:Addr}{fd:FuncData}{ps:List Str}{n:Nat}(hn:n=ps.length):DG P w K mg base CX0 k f fd ps (spP K (fun _=>none) n) :=
 ⟨fun vs H Q E ⟨_,_,_,hl,_⟩=>hl.trans hn,fun A outer s H args us vs Q E hr e0 hb hv ⟨_,_,_,_,_,e,_⟩=>by cases e⟩
end VS
end
section
namespace VS
open PySem L2
theorem J4(a b:Ba)(env:VS.Env)(S:Store):VS.Bm a b env S=(a env S).bind fun p=>match p.1 with|.nx=>b p.2.1 p.2.2|f=>some (f,p.2.1,p.2.2):=rfl
theorem CV(i:Nat)(a:Bb)(env:VS.Env)(S:Store):VS.Bj i a env S=(a env S).bind fun p=>some (.nx,env.set i (some p.1),p.2):=rfl
theorem Ck(a:Bb)(env:VS.Env)(S:Store):VS.Dk a env S=(a env S).bind fun p=>some (.ret p.1,env,p.2):=rfl
theorem Jz(c:FJ)(a b:Ba)(env:VS.Env)(S:Store):VS.sIf c a b env S=(c env S).bind fun p=>if p.1=true then a env p.2 else b env p.2:=rfl
theorem oO(a:Bb)(g:KZ)(env:VS.Env)(S:Store):VS.bT a g env S=(a env S).bind fun p=>(g p.1 env).bind fun e=>some (.nx,e,p.2):=rfl
theorem Gm(a:Bb)(env:VS.Env)(S:Store):VS.Fb a env S=(a env S).bind fun p=>some (.nx,env,p.2):=rfl
theorem Kg(env:VS.Env)(S:Store):VS.Dh  env S=some (.nx,env,S):=rfl
theorem gG(env:VS.Env)(S:Store):VS.Kz  env S=none:=rfl
theorem Fp(it:KY)(g:KZ)(b:Ba)(env:VS.Env)(S:Store):VS.JL it g b env S=(it env S).bind fun p=>loop p.1.2 g b p.1.1 env p.2:=rfl
theorem Kp(v o i:Bb)(env:VS.Env)(S:Store):VS.Ie v o i env S=(v env S).bind fun p=>(o env p.2).bind fun q=>(i env q.2).bind fun r=>match q.1,r.1 with
 |.ref j,.int k=>(match r.2[j]? with
  |some (some ds)=>(ixN ds.length k).bind fun n=>some (.nx,env,r.2.set j (some (ds.set n p.1)))
  |_=>none)
 |_,_=>none:=rfl
theorem Aw(i:Nat)(env:VS.Env)(S:Store):VS.Ab i env S=(env[i]?.join).map fun d=>(d,S):=rfl
theorem CT(d:D)(env:VS.Env)(S:Store):VS.eC d env S=some (d,S):=rfl
theorem BJ(g:Store->D->D->Option D)(a b:Bb)(env:VS.Env)(S:Store):VS.eOp g a b env S=(a env S).bind fun p=>(b env p.2).bind fun q=>(g q.2 p.1 q.1).map fun d=>(d,q.2):=rfl
theorem vf(g:Store->D->Option D)(a:Bb)(env:VS.Env)(S:Store):VS.eUn g a env S=(a env S).bind fun p=>(g p.2 p.1).map fun d=>(d,p.2):=rfl
theorem Bl(env:VS.Env)(S:Store):VS.Ae  env S=some ([],S):=rfl
theorem Am(a:Bb)(r:Bf)(env:VS.Env)(S:Store):VS.Aa a r env S=(a env S).bind fun p=>(r env p.2).bind fun q=>some (p.1::q.1,q.2):=rfl
theorem Fg(g:Store->List D->Option D)(a:Bf)(env:VS.Env)(S:Store):VS.eCB g a env S=(a env S).bind fun p=>(g p.2 p.1).map fun d=>(d,p.2):=rfl
theorem Vu(a b:Bb)(env:VS.Env)(S:Store):VS.Vg a b env S=(a env S).bind fun p=>match p.1 with|.bl true=>b env p.2|.bl false=>some (.bl false,p.2)|_=>none:=rfl
theorem rB(a:Bb)(env:VS.Env)(S:Store):VS.jG a env S=(a env S).bind fun p=>match p.1 with|.bl c=>some (.bl (!c),p.2)|_=>none:=rfl
theorem Wn(g g':Store->D->D->Option D)(a b c:Bb)(env:VS.Env)(S:Store):VS.RB g g' a b c env S=(a env S).bind fun p=>(b env p.2).bind fun q=>(g q.2 p.1 q.1).bind fun z=>match z with
 |.bl true=>(c env q.2).bind fun r=>(g' r.2 q.1 r.1).map fun d=>(d,r.2)
 |.bl false=>some (.bl false,q.2)
 |_=>none:=rfl
theorem Cq(a:Bb)(env:VS.Env)(S:Store):VS.BK a env S=(a env S).bind fun p=>match p.1 with|.bl c=>some (c,p.2)|_=>none:=rfl
theorem Kf(a b:FJ)(env:VS.Env)(S:Store):VS.G4 a b env S=(a env S).bind fun p=>if p.1=true then b env p.2 else some (false,p.2):=rfl
theorem R0(a b:FJ)(env:VS.Env)(S:Store):VS.tOr a b env S=(a env S).bind fun p=>if p.1=true then some (true,p.2) else b env p.2:=rfl
theorem Rn(a:FJ)(env:VS.Env)(S:Store):VS.JR a env S=(a env S).bind fun p=>some (!p.1,p.2):=rfl
theorem TY(env:VS.Env)(S:Store):VS.GF  env S=some (none,S):=rfl
theorem TX(a:Bb)(env:VS.Env)(S:Store):VS.GD a env S=(a env S).bind fun p=>match p.1 with|.int i=>some (some i,p.2)|_=>none:=rfl
theorem Uq(g:Store->D->Option Int->Option Int->Option D)(a:Bb)(l h:TV)(env:VS.Env)(S:Store):VS.eSl g a l h env S=(a env S).bind fun p=>(l env p.2).bind fun q=>(h env q.2).bind fun r=>(g r.2 p.1 q.1 r.1).map fun d=>(d,r.2):=rfl
theorem Dj(a:Bf)(env:VS.Env)(S:Store):VS.Bt a env S=(a env S).bind fun p=>some (.lst true p.1,p.2):=rfl
theorem O9(a:Bf)(env:VS.Env)(S:Store):VS.G5 a env S=(a env S).bind fun p=>some (.ref p.2.length,p.2++[some p.1]):=rfl
theorem Ho(a:Bf)(env:VS.Env)(S:Store):VS.BZ a env S=(a env S).bind fun p=>some (.tup p.1,p.2):=rfl
theorem Gd(sem:Cz)(a:Bf)(env:VS.Env)(S:Store):VS.BR sem a env S=(a env S).bind fun p=>(Cw 0 p.2 p.1).bind fun ds=>(sem (Bq ds)).bind fun r=>if (Ax p.1||newD r)=true then some (r,p.2) else none:=rfl
theorem Mx(sem:JX)(a:Bf)(env:VS.Env)(S:Store):VS.Bg sem a env S=(a env S).bind fun p=>match p.1 with
 |.ref i::rest=>(match p.2[i]? with
  |some (some cs)=>(intsOf cs).bind fun ns=>(Cw 0 (p.2.set i none) rest).bind fun ds=>(sem ns (Bq ds)).bind fun r=>if (Ax rest||newD r.1)=true then some (r.1,p.2.set i (some (r.2.map D.int))) else none
  |_=>none)
 |_=>none:=rfl
theorem iY(sem:Cz)(a:Bf)(env:VS.Env)(S:Store):VS.Og sem a env S=(BR sem a env S).bind fun p=>(N7 p.2.length p.1).bind fun q=>some (q.1,p.2++[some q.2]):=rfl
theorem iZ(sem:JX)(a:Bf)(env:VS.Env)(S:Store):VS.R9 sem a env S=(Bg sem a env S).bind fun p=>(N7 p.2.length p.1).bind fun q=>some (q.1,p.2++[some q.2]):=rfl
theorem Yv(g:Store->D->List D->Option (D×Store))(o:Bb)(a:Bf)(env:VS.Env)(S:Store):VS.Dt g o a env S=(o env S).bind fun p=>if (listOf p.2 p.1).isSome then (a env p.2).bind fun q=>g q.2 p.1 q.1 else none:=rfl
theorem mF(g:Store->List D->Option (List D))(a:Bf)(env:VS.Env)(S:Store):VS.Xc g a env S=(a env S).bind fun p=>(g p.2 p.1).map fun es=>(.lst true es,p.2):=rfl
theorem mD(g:Store->List D->Option (List D))(a:Bf)(env:VS.Env)(S:Store):VS.Xb g a env S=(a env S).bind fun p=>(g p.2 p.1).map fun es=>(.ref p.2.length,p.2++[some es]):=rfl
theorem Qu(a:Bf)(env:VS.Env)(S:Store):VS.Hx a env S=(a env S).bind fun p=>match p.1 with
 |[.int j]=>if r62 j/\j.toNat<=1000 then some (.lst true (upD 0 j.toNat),p.2) else none
 |[.int i,.int j]=>if r62 i/\r62 j/\(j-i).toNat<=1000 then some (.lst true (upD i (j-i).toNat),p.2) else none
 |_=>none:=rfl
theorem Zy(a:Bb)(env:VS.Env)(S:Store):VS.Tj a env S=(a env S).bind fun p=>(listOf p.2 p.1).bind fun ds=>(intsOf ds).bind fun ns=>if ns.length<1000/\(SetP.once ns).length<64 then some (.lst true ((FZ ns).map .int),p.2) else none:=rfl
theorem Fq(a:Bb)(env:VS.Env)(S:Store):VS.Dp a env S=(a env S).bind fun p=>(Br p.2 p.1).map fun ds=>((ds,idOf ds p.1),p.2):=rfl
theorem Ym(a:Bf)(env:VS.Env)(S:Store):VS.Rk a env S=(a env S).bind fun p=>match p.1 with
 |[.tup xs,.tup ys]=>some ((Df xs ys,[]),p.2)
 |[x,.tup ys]=>(VS.listOf p.2 x).bind fun xs=>some ((Df xs ys,VS.idOf xs x),p.2)
 |[x,y]=>(listOf p.2 x).bind fun xs=>(listOf p.2 y).bind fun ys=>some ((Df xs ys,idOf xs x++idOf ys y),p.2)
 |_=>none:=rfl
theorem Dc(np n:Nat)(f:Ba)(ds:List D):VS.En np n f ds=if ds.length=np then (f (ds.map some++U05 (n-ds.length) none) []).bind fun p=>match p.1 with|.ret d=>den 0 p.2.2 d|.nx=>some .non|_=>none else none:=rfl
theorem Ly(np n:Nat)(f:Ba)(ns:List Int)(ds:List D):VS.runM np n f ns ds=if ds.length+1=np then (f (some (.ref 0)::(ds.map some++U05 (n-1-ds.length) none)) [some (ns.map D.int)]).bind fun p=>match p.2.2[0]? with
 |some (some cs)=>(intsOf cs).bind fun ms=>(match p.1 with|.ret d=>(den 1 p.2.2 d).map fun r=>(r,ms)|.nx=>some (.non,ms)|_=>none)
 |_=>none
 else none:=rfl
theorem DN(i:Nat)(d:D)(env:VS.Env):Pat.sem (.nm i) d env=some (env.set i (some d)):=by rw[Pat.sem]
theorem Iv(ps:List Pat)(ds:List D)(env:VS.Env):Pat.sem (.tp ps) (.tup ds) env=Il ps ds env:=by rw[Pat.sem]
theorem Gs(env:VS.Env):Il [] [] env=some env:=by rw[Il]
theorem Fv(p:Pat)(ps:List Pat)(d:D)(ds:List D)(env:VS.Env):Il (p::ps) (d::ds) env=(Pat.sem p d env).bind fun e=>Il ps ds e:=by rw[Il]
@[simp] theorem zp(S:Store):calm [] S=True:=by simp[calm]
@[simp] theorem zm(i:Nat)(ds:List D)(S:Store):calm [(i,ds)] S=(S[i]?=some (some ds)):=by simp[calm]
@[simp] theorem Jag{α:Type}(S:List α)(a:α):(S++[a])[S.length]?=some a:=by simp
@[simp] theorem Jac{α:Type}(S:List α)(a b:α):(S++[a]).set S.length b=S++[b]:=by simp
theorem Rw{n k:Nat}(h:k<n):ixN n (k:Int)=some k:=by
 unfold ixN
 rw[if_pos (by omega),if_pos (by omega)];simp
@[simp] theorem nF{n:Nat}:ixN (n+1) 0=some 0:=Rw (k:=0) (by omega)
@[simp] theorem yJ{n:Nat}:ixN (n+2) 1=some 1:=Rw (k:=1) (by omega)
@[simp] theorem yI{n:Nat}:ixN (n+3) 2=some 2:=Rw (k:=2) (by omega)
@[simp] theorem yH{n:Nat}:ixN (n+4) 3=some 3:=Rw (k:=3) (by omega)
@[simp] theorem nH{α:Type}(a:α)(l:List α):atI (a::l) 0=some a:=by unfold atI;rw[U0i,nF];rfl
@[simp] theorem yQ{α:Type}(a b:α)(l:List α):atI (a::b::l) 1=some b:=by unfold atI;rw[U0i,U0i,yJ];rfl
@[simp] theorem yP{α:Type}(a b c:α)(l:List α):atI (a::b::c::l) 2=some c:=by unfold atI;rw[U0i,U0i,U0i,yI];rfl
@[simp] theorem Jai{α:Type}(a b c d:α)(l:List α):atI (a::b::c::d::l) 3=some d:=by unfold atI;rw[U0i,U0i,U0i,U0i,yH];rfl
theorem qF{w:List (Nat×List D)}{g:KZ}{b:Ba}(I:Nat->Env->Store->Prop)(R:D->Store->Prop){ds:List D}{env:Env}{S:Store}(h0:I 0 env S)(hc:∀i env S,I i env S->calm w S)
  (step:∀i d env S,ds[i]?=some d->I i env S->∃env1,g d env=some env1/\((∃env2 S2,(b env1 S=some (.nx,env2,S2)∨b env1 S=some (.cnt,env2,S2))/\I (i+1) env2 S2)∨∃r env2 S2,b env1 S=some (.ret r,env2,S2)/\R r S2)) :
  (∃env' S',loop w g b ds env S=some (.nx,env',S')/\I ds.length env' S')∨∃r env' S',loop w g b ds env S=some (.ret r,env',S')/\R r S':=by
 have key:∀(l:List D)(i:Nat)(env:Env)(S:Store),ds.drop i=l->i<=ds.length->I i env S->(∃env' S',loop w g b l env S=some (.nx,env',S')/\I ds.length env' S')∨∃r env' S',loop w g b l env S=some (.ret r,env',S')/\R r S':=by
  intro l
  induction l with
  |nil =>
   intro i env S hd hi h
   have:i=ds.length:=by
    have:=congrArg U5f hd
    simp at this;omega
   subst this
   exact .inl ⟨env,S,by unfold loop;rw[if_pos (hc _ _ _ h)],h⟩
  |cons d r ih =>
   intro i env S hd hi h
   have hlt:i<ds.length:=by
    have:=congrArg U5f hd
    simp at this;omega
   have e:ds[i]?=some d:=by
    rw[U2s hlt] at hd
    rw[U0g hlt,(U66 hd).1]
   have hr:ds.drop (i+1)=r:=by
    rw[U2s hlt] at hd
    exact(U66 hd).2
   obtain⟨env1,e1,q⟩:=step i d env S e h
   rcases q with ⟨env2,S2,e2,q⟩|⟨v,env2,S2,e2,q⟩
   .have e3:loop w g b (d::r) env S=loop w g b r env2 S2:=by
     rcases e2 with e2|e2<;>(rw[loop,if_pos (hc _ _ _ h),e1];show(b env1 S).bind _=_;rw[e2];rfl)
    rw[e3]
    exact ih (i+1) env2 S2 hr hlt q
   .refine .inr ⟨v,env2,S2,?_,q⟩
    rw[loop,if_pos (hc _ _ _ h),e1]
    show(b env1 S).bind _=_
    rw[e2];rfl
 exact key ds 0 env S (by simp) (U3u _) h0
theorem Eo{w:List (Nat×List D)}{g:KZ}{b:Ba}(I:Nat->Env->Store->Prop){ds:List D}{env:Env}{S:Store}(h0:I 0 env S)(hc:∀i env S,I i env S->calm w S)
  (step:∀i d env S,ds[i]?=some d->I i env S->∃env1,g d env=some env1/\∃env2 S2,b env1 S=some (.nx,env2,S2)/\I (i+1) env2 S2) :
  ∃env' S',loop w g b ds env S=some (.nx,env',S')/\I ds.length env' S':=by
 rcases qF I (fun _ _=>False) h0 hc (fun i d env S e h=>by
  obtain⟨env1,e1,env2,S2,e2,q⟩:=step i d env S e h
  exact⟨env1,e1,.inl ⟨env2,S2,.inl e2,q⟩⟩) with h|⟨_,_,_,_,h⟩
 .exact h
 .exact h.elim
theorem comp_map{w:List (Nat×List D)}{e0:Env}{g:KZ}{t:FJ}{f:Bb}{S:Store}(hc:calm w S)(p:D->Bool)(F:D->D):∀(ds ys:List D),ys.length+ds.length<=1000000 ->
  (∀d∈ds,∃e1,g d e0=some e1/\t e1 S=some (p d,S)/\(p d=true->f e1 S=some (F d,S)))->Fy w e0 g t f ds ys S=some (ys++(ds.filter p).map F,S)
 |[],ys,hl,_=>by unfold Fy;rw[if_pos ⟨hc,by simpa using hl⟩];simp
 |d::r,ys,hl,h=>by
  rw[U0i] at hl
  obtain⟨e1,h1,h2,h3⟩:=h d U0u
  unfold Fy
  rw[if_pos ⟨hc,by omega⟩,h1]
  show(t e1 S).bind _=_
  rw[h2]
  show(if p d=true then _ else _)=_
  have hr:∀x∈r,_:=fun x hx=>h x (U0t _ hx)
  by_cases hp:p d=true
  .rw[if_pos hp,h3 hp]
   show Fy w e0 g t f r (ys++[F d]) S=_
   rw[comp_map hc p F r (ys++[F d]) (by rw[U0n];simp;omega) hr,List.filter_cons_of_pos hp]
   simp
  .rw[if_neg hp,List.filter_cons_of_neg hp]
   exact comp_map hc p F r ys (by omega) hr
theorem Yy{w:List (Nat×List D)}{e0:Env}{g:KZ}{f:Bb}{S:Store}(hc:calm w S)(F:D->D)(ds:List D)(hl:ds.length<=1000000)(h:∀d∈ds,∃e1,g d e0=some e1/\f e1 S=some (F d,S)):Fy w e0 g G3 f ds [] S=some (ds.map F,S):=by
 have:=comp_map (t:=G3) hc (fun _=>true) F ds [] (by simpa using hl) (fun d hd=>let ⟨e1,h1,h2⟩:=h d hd;⟨e1,h1,rfl,fun _=>h2⟩)
 rw[this,U11,U5l.mpr (by simp)]
theorem Yx{w:List (Nat×List D)}{e0:Env}{g:KZ}{f:Bb}(I:Nat->List D->Store->Prop){ds:List D}{S:Store}(h0:I 0 [] S)(hc:∀i ys S,I i ys S->calm w S/\ys.length<=1000000)
  (step:∀i d ys S,ds[i]?=some d->I i ys S->∃e1 y S2,g d e0=some e1/\f e1 S=some (y,S2)/\I (i+1) (ys++[y]) S2):∃ys S',Fy w e0 g G3 f ds [] S=some (ys,S')/\I ds.length ys S':=by
 have key:∀(l:List D)(i:Nat)(ys:List D)(S:Store),ds.drop i=l->i<=ds.length->I i ys S->∃ys' S',Fy w e0 g G3 f l ys S=some (ys',S')/\I ds.length ys' S':=by
  intro l
  induction l with
  |nil =>
   intro i ys S hd hi h
   have:i=ds.length:=by
    have:=congrArg U5f hd
    simp at this;omega
   subst this
   exact⟨ys,S,by unfold Fy;rw[if_pos (hc _ _ _ h)],h⟩
  |cons d r ih =>
   intro i ys S hd hi h
   have hlt:i<ds.length:=by
    have:=congrArg U5f hd
    simp at this;omega
   have e:ds[i]?=some d:=by
    rw[U2s hlt] at hd
    rw[U0g hlt,(U66 hd).1]
   have hr:ds.drop (i+1)=r:=by
    rw[U2s hlt] at hd
    exact(U66 hd).2
   obtain⟨e1,y,S2,h1,h2,h3⟩:=step i d ys S e h
   obtain⟨ys',S',h4,h5⟩:=ih (i+1) (ys++[y]) S2 hr hlt h3
   refine⟨ys',S',?_,h5⟩
   unfold Fy
   rw[if_pos (hc _ _ _ h),h1]
   simp only[U0b,G3,if_true,h2]
   exact h4
 exact key ds 0 [] S (by simp) (U3u _) h0
theorem M7{α:Type}{w:List (Nat×List D)}{e0:VS.Env}{g:KZ}{t:FJ}{f:Bb}{S:Store}(hc:calm w S)(enc:α->D)(p:α->Bool)(F:α->D):∀(l:List α)(ys:List D),ys.length+l.length<=1000000 ->
  (∀a∈l,∃e1,g (enc a) e0=some e1/\t e1 S=some (p a,S)/\(p a=true->f e1 S=some (F a,S)))->Fy w e0 g t f (l.map enc) ys S=some (ys++(l.filter p).map F,S)
 |[],ys,hl,_=>by rw[U1e,Fy,if_pos ⟨hc,by simpa using hl⟩];simp
 |d::r,ys,hl,h=>by
  rw[U0i] at hl
  obtain⟨e1,h1,h2,h3⟩:=h d U0u
  have hr:∀x∈r,_:=fun x hx=>h x (U0t _ hx)
  rw[U0m,Fy,if_pos ⟨hc,by omega⟩,h1]
  simp only[U0b,h2]
  by_cases hp:p d=true
  .simp only[hp,if_true,h3 hp,U0b]
   rw[M7 hc enc p F r (ys++[F d]) (by rw[U0n];simp;omega) hr,List.filter_cons_of_pos hp]
   simp
  .rw[if_neg hp,List.filter_cons_of_neg hp]
   exact M7 hc enc p F r ys (by omega) hr
theorem J6{α:Type}{w:List (Nat×List D)}{e0:VS.Env}{g:KZ}{f:Bb}{S:Store}(hc:calm w S)(enc F:α->D)(l:List α)(hl:l.length<=1000000)(h:∀a∈l,∃e1,g (enc a) e0=some e1/\f e1 S=some (F a,S)):Fy w e0 g VS.G3 f (l.map enc) [] S=some (l.map F,S):=by
 have:=M7 (t:=VS.G3) hc enc (fun _=>true) F l [] (by simpa using hl) (fun d hd=>let ⟨e1,h1,h2⟩:=h d hd;⟨e1,h1,rfl,fun _=>h2⟩)
 rw[this,U11,U5l.mpr (by simp)]
theorem rD{w:List (Nat×List D)}{e0:VS.Env}{g:KZ}{f:Bb}{S:Store}(hc:calm w S)(n:Nat)(F:Nat->D)(hl:n<=1000000)(h:∀i<n,∃e1,g (.int i) e0=some e1/\f e1 S=some (F i,S)):Fy w e0 g VS.G3 f (upD 0 n) [] S=some ((U0h n).map F,S):=by
 have e:upD 0 n=(U0h n).map fun(i:Nat)=>D.int i:=by unfold upD;simp
 rw[e]
 exact J6 hc (fun(i:Nat)=>D.int i) F (U0h n) (by simpa using hl) fun i hi=>h i (U1n.mp hi)
theorem Ke(lo:Int)(n:Nat):(upD lo n).length=n:=by unfold upD;rw[U0j,U24]
theorem Ls{lo:Int}{n i:Nat}{d:D}(h:(upD lo n)[i]?=some d):i<n/\d=.int (lo+i):=by
 have hi:i<n:=by rw[←Ke lo n];exact(U0l.mp h).1
 unfold upD at h
 rw[U0y,U5i hi] at h
 cases h
 exact⟨hi,rfl⟩
theorem WL{j:Int}(h0:-1000000<=j)(h1:j<=1000000):r62 j:=⟨Int.le_trans (by decide) h0,Int.lt_of_le_of_lt h1 (by decide)⟩
theorem LC{f:Bf}{env:VS.Env}{S S':Store}{j:Int}(n:Nat)(hf:f env S=some ([.int j],S'))(hn:j.toNat=n)(h0:-1000000<=j)(h1:j<=1000000):Ej f env S=some ((upD 0 n,[]),S'):=by
 unfold Ej
 rw[hf,U0b]
 show(if r62 j then some ((upD 0 j.toNat,([]:List (Nat×List D))),S') else none)=_
 rw[if_pos (WL h0 h1),hn]
theorem RQ{S:Store}{ds:List D}(h:Ek ds=true):Cw 0 S ds=some ds:=Ca 0 S (Bo h)
theorem HS{α:Type}{F:α->D}(l:List α)(h:∀a∈l,Dm (F a)=true):Ek (l.map F)=true:=by
 induction l with
 |nil=>rfl
 |cons a r ih=>rw[U0m,Ek,h a U0u,ih fun b hb=>h b (U0t _ hb)];rfl
theorem Y7{α:Type}{F:α->D}{G:α->PyData}(l:List α)(h:∀a∈l,toP (F a)=some (G a)):Gq (l.map F)=some (l.map G):=by
 induction l with
 |nil=>rw[U1e,Gq];rfl
 |cons a r ih=>rw[U0m,Gq,h a U0u,ih fun b hb=>h b (U0t _ hb)];rfl
abbrev St2:=Int×Int
def Aq(p:St2):D:=.tup [.int p.1,.int p.2]
def Af(b:List St2):D:=.tup (b.map Aq)
def Ak(m:Bool)(n:Nat)(bs:List (List St2)):D:=.tup [.int n,.lst m (bs.map Af)]
@[simp] theorem Gb(p:St2):Dm (Aq p)=true:=rfl
@[simp] theorem Jh(b:List St2):Dm (Af b)=true:=by rw[Af,Dm];exact HS b fun p _=>Gb p
theorem CG(bs:List (List St2)):Ek (bs.map Af)=true:=HS bs fun b _=>Jh b
def pS(p:St2):PyData:=.tuple [.int p.1,.int p.2]
def pB(b:List St2):PyData:=.tuple (b.map pS)
theorem Y5(p:St2):toP (Aq p)=some (pS p):=by simp[Aq,toP,Gq,pS]
theorem Y6(b:List St2):toP (Af b)=some (pB b):=by rw[Af,toP,Y7 b fun p _=>Y5 p];rfl
theorem cP(bs:List (List St2)):Gq (bs.map Af)=some (bs.map pB):=Y7 bs fun b _=>Y6 b
@[simp] theorem zx(S:Store)(x:D):Ks S [x,.ty "int"]=(Cp S x).map fun p=>.bl (isT "int" p):=rfl
@[simp] theorem wO:isT "int" (.none)=false:=rfl
@[simp] theorem wU(b:Bool):isT "int" (.bool b)=true:=rfl
@[simp] theorem wg(i:Int):isT "int" (.int i)=true:=rfl
@[simp] theorem wZ(s:Str):isT "int" (.str s)=false:=rfl
@[simp] theorem wQ(l:List PyData):isT "int" (.list l)=false:=rfl
@[simp] theorem sE(l:List PyData):isT "int" (.tuple l)=false:=rfl
@[simp] theorem wR(l:List (PyData×PyData)):isT "int" (.dict l)=false:=rfl
@[simp] theorem yj(S:Store)(x:D):Ks S [x,.ty "bool"]=(Cp S x).map fun p=>.bl (isT "bool" p):=rfl
@[simp] theorem sG:isT "bool" (.none)=false:=rfl
@[simp] theorem sJ(b:Bool):isT "bool" (.bool b)=true:=rfl
@[simp] theorem wW(i:Int):isT "bool" (.int i)=false:=rfl
@[simp] theorem wV(s:Str):isT "bool" (.str s)=false:=rfl
@[simp] theorem sH(l:List PyData):isT "bool" (.list l)=false:=rfl
@[simp] theorem rP(l:List PyData):isT "bool" (.tuple l)=false:=rfl
@[simp] theorem sI(l:List (PyData×PyData)):isT "bool" (.dict l)=false:=rfl
@[simp] theorem yW(S:Store)(x:D):Ks S [x,.ty "tuple"]=(Cp S x).map fun p=>.bl (isT "tuple" p):=rfl
@[simp] theorem rJ:isT "tuple" (.none)=false:=rfl
@[simp] theorem rN(b:Bool):isT "tuple" (.bool b)=false:=rfl
@[simp] theorem rR(i:Int):isT "tuple" (.int i)=false:=rfl
@[simp] theorem rQ(s:Str):isT "tuple" (.str s)=false:=rfl
@[simp] theorem rK(l:List PyData):isT "tuple" (.list l)=false:=rfl
@[simp] theorem nM(l:List PyData):isT "tuple" (.tuple l)=true:=rfl
@[simp] theorem rM(l:List (PyData×PyData)):isT "tuple" (.dict l)=false:=rfl
@[simp] theorem yh(S:Store)(x:D):Ks S [x,.ty "list"]=(Cp S x).map fun p=>.bl (isT "list" p):=rfl
@[simp] theorem rW:isT "list" (.none)=false:=rfl
@[simp] theorem rm(b:Bool):isT "list" (.bool b)=false:=rfl
@[simp] theorem wN(i:Int):isT "list" (.int i)=false:=rfl
@[simp] theorem wM(s:Str):isT "list" (.str s)=false:=rfl
@[simp] theorem rY(l:List PyData):isT "list" (.list l)=true:=rfl
@[simp] theorem rO(l:List PyData):isT "list" (.tuple l)=false:=rfl
@[simp] theorem rZ(l:List (PyData×PyData)):isT "list" (.dict l)=false:=rfl
@[simp] theorem zq(S:Store)(x:D):Ks S [x,.ty "str"]=(Cp S x).map fun p=>.bl (isT "str" p):=rfl
@[simp] theorem wI:isT "str" (.none)=false:=rfl
@[simp] theorem wL(b:Bool):isT "str" (.bool b)=false:=rfl
@[simp] theorem wY(i:Int):isT "str" (.int i)=false:=rfl
@[simp] theorem wX(s:Str):isT "str" (.str s)=true:=rfl
@[simp] theorem wJ(l:List PyData):isT "str" (.list l)=false:=rfl
@[simp] theorem rT(l:List PyData):isT "str" (.tuple l)=false:=rfl
@[simp] theorem wK(l:List (PyData×PyData)):isT "str" (.dict l)=false:=rfl
@[simp] theorem zu(S:Store)(x:D):Ks S [x,.tup [.ty "tuple",.ty "list"]]=(Cp S x).bind fun p=>if noDict p=true then some (.bl (isSeq p)) else none:=rfl
@[simp] theorem zW(S:Store)(i:Int):Cp S (.int i)=some (.int i):=by simp[Cp,den,toP]
@[simp] theorem Jad(S:Store)(b:Bool):Cp S (.bl b)=some (.bool b):=by simp[Cp,den,toP]
@[simp] theorem zV(S:Store):Cp S .non=some .none:=by simp[Cp,den,toP]
@[simp] theorem zU(S:Store)(x:Str):Cp S (.str x)=some (.str x):=by simp[Cp,den,toP]
@[simp] theorem fu(S:Store)(p:St2):Cp S (Aq p)=some (pS p):=by rw[Cp,Kc 0 S (Jg (Gb p))];exact Y5 p
@[simp] theorem gA(S:Store)(b:List St2):Cp S (Af b)=some (pB b):=by rw[Cp,Kc 0 S (Jg (Jh b))];exact Y6 b
theorem Uv(S:Store)(m:Bool)(bs:List (List St2)):Cp S (.lst m (bs.map Af))=some (.list (bs.map pB)):=by
 rw[Cp,den,RQ (CG bs)]
 show toP (.lst m (bs.map Af))=_
 rw[toP,cP];rfl
theorem RJ(S:Store)(m:Bool)(n:Nat)(bs:List (List St2)):Cp S (Ak m n bs)=some (.tuple [.int n,.list (bs.map pB)]):=by
 have h:=Uv S m bs
 rw[Cp,den,RQ (CG bs)] at h
 have h':toP (.lst m (bs.map Af))=some (.list (bs.map pB)):=h
 simp[Cp,Ak,den,Cw,RQ (CG bs),toP,Gq]
 rw[toP] at h'
 obtain⟨ps,e1,e2⟩:=map_some h'
 rw[e1]
 cases e2
 rfl
@[simp] theorem O2(ns:List Int):Ek (ns.map D.int)=true:=HS ns fun _ _=>rfl
@[simp] theorem ig(k:Nat)(S:Store)(ns:List Int):Cw k S (ns.map D.int)=some (ns.map D.int):=Ca k S (Bo (O2 ns))
@[simp] theorem Pn(ns:List Int):Bq (ns.map D.int)=ns.map D.int:=Hv (O2 ns)
@[simp] theorem Iu(ns:List Int):Ax (ns.map D.int)=true:=Bo (O2 ns)
@[simp] theorem yd(ns:List Int):newL (ns.map D.int)=true:=Mw (O2 ns)
theorem Y4(lo:Int)(n:Nat):upD lo n=((U0h n).map fun(i:Nat)=>lo+(i:Int)).map D.int:=by unfold upD;rw[U0d];rfl
@[simp] theorem zj(k:Nat)(S:Store)(lo:Int)(n:Nat):Cw k S (upD lo n)=some (upD lo n):=by rw[Y4];exact ig ..
@[simp] theorem yc(lo:Int)(n:Nat):Ax (upD lo n)=true:=by rw[Y4];exact Iu _
@[simp] theorem yV(k:Nat)(S:Store)(bs:List (List St2)):Cw k S (bs.map Af)=some (bs.map Af):=Ca k S (Bo (CG bs))
@[simp] theorem dX(bs:List (List St2)):Bq (bs.map Af)=bs.map Af:=Hv (CG bs)
@[simp] theorem Zk(bs:List (List St2)):Ax (bs.map Af)=true:=Bo (CG bs)
@[simp] theorem yU(bs:List (List St2)):newL (bs.map Af)=true:=Mw (CG bs)
@[simp] theorem wj(bs:List (List St2)):Ek (bs.map Af)=true:=CG bs
@[simp] theorem za(k:Nat)(S:Store)(p:St2):den k S (Aq p)=some (Aq p):=Kc k S (Jg (Gb p))
@[simp] theorem zf(k:Nat)(S:Store)(b:List St2):den k S (Af b)=some (Af b):=Kc k S (Jg (Jh b))
@[simp] theorem zy(p:St2):age (Aq p)=Aq p:=Ti (Gb p)
@[simp] theorem Jab(b:List St2):age (Af b)=Af b:=Ti (Jh b)
@[simp] theorem yX(p:St2):BX (Aq p)=true:=Jg (Gb p)
@[simp] theorem gM(b:List St2):BX (Af b)=true:=Jg (Jh b)
@[simp] theorem zY(p:St2):newD (Aq p)=true:=Tg (Gb p)
@[simp] theorem zZ(b:List St2):newD (Af b)=true:=Tg (Jh b)
@[simp] theorem zc(k:Nat)(S:Store)(m:Bool)(n:Nat)(bs:List (List St2)):den k S (Ak m n bs)=some (Ak m n bs):=by simp[Ak,den,Cw,Ca k S (Bo (CG bs))]
@[simp] theorem Jaa(m:Bool)(n:Nat)(bs:List (List St2)):age (Ak m n bs)=Ak false n bs:=by simp[Ak,age,Bq,Hv (CG bs)]
@[simp] theorem yZ(m:Bool)(n:Nat)(bs:List (List St2)):BX (Ak m n bs)=true:=by simp[Ak,BX,Ax,Bo (CG bs)]
structure Good(n:Nat)(bs:List (List St2)):Prop where
 ways:n=1∨n=2∨n=3
 most:bs.length<=[0,20,10,6].getD n 0
 box:∀b∈bs,b.length=n/\∀p∈b,p.1<p.2/\-1000000000<=p.1/\p.2<=1000000000
theorem Good.n3{n:Nat}{bs:List (List St2)}(g:Good n bs):1<=n/\n<=3:=by have:=g.ways;omega
theorem Good.few{n:Nat}{bs:List (List St2)}(g:Good n bs):bs.length<=20:=by
 have:=g.most
 rcases g.ways with h|h|h<;>subst h<;>simp at this<;>omega
theorem fJ{α:Type}{l:List α}{i:Int}{j:Nat}(e:i=(j:Int))(h:j<l.length):atI l i=some l[j]:=by
 subst e
 exact Kh (U0g h)
theorem YL{n d:Nat}{a:Int}(h0:0<=a)(h1:a<=n):HT.sIx n d (some a)=a.toNat:=by
 show(if a<0 then (a+(n:Int)).toNat else min a.toNat n)=a.toNat
 rw[if_neg (by omega)]
 omega
theorem vq{xs:List D}{a:Int}(h0:0<=a)(h1:a<=xs.length):cut xs none (some a)=xs.take a.toNat:=by
 unfold cut
 rw[YL h0 h1]
 simp[HT.sIx]
theorem Tp{xs:List D}{a:Int}(h0:0<=a)(h1:a<=xs.length):cut xs (some a) none=xs.drop a.toNat:=by
 unfold cut
 rw[YL h0 h1]
 simp only[HT.sIx]
 rw[U6b]
 simp
def lev:Nat->PyData->Bool
 |_,.none=>true
 |_,.bool _=>true
 |_,.int _=>true
 |k+1,.list xs=>xs.all (lev k)
 |k+1,.tuple xs=>xs.all (lev k)
 |_,_=>false
theorem Vq{k:Nat}(ih:∀d,lev k d=true->U4j d=true/\d.depth<=k):∀xs:List PyData,xs.all (lev k)=true->U59 xs=true/\U38 xs<=k
 |[],_=>⟨by rw[U59],by rw[U38];omega⟩
 |x::xs,h=>by
  rw[U4v,U00] at h
  obtain⟨h1,h2⟩:=ih x h.1
  obtain⟨h3,h4⟩:=Vq ih xs h.2
  exact⟨by rw[U59,h1,h3];rfl,by rw[U38];omega⟩
theorem Ui:∀(k:Nat)(d:PyData),lev k d=true->U4j d=true/\d.depth<=k
 |k,.none,_=>⟨by rw[U4j],by rw[U3f];omega⟩
 |k,.bool _,_=>⟨by rw[U4j],by rw[U3f];omega⟩
 |k,.int _,_=>⟨by rw[U4j],by rw[U3f];omega⟩
 |0,.list _,h=>by simp[lev] at h
 |0,.tuple _,h=>by simp[lev] at h
 |k,.str _,h=>by cases k<;>simp[lev] at h
 |k,.dict _,h=>by cases k<;>simp[lev] at h
 |k+1,.list xs,h=>by
  rw[lev] at h
  obtain⟨h1,h2⟩:=Vq (Ui k) xs h
  exact⟨by rw[U4j];exact h1,by rw[U3f];omega⟩
 |k+1,.tuple xs,h=>by
  rw[lev] at h
  obtain⟨h1,h2⟩:=Vq (Ui k) xs h
  exact⟨by rw[U4j];exact h1,by rw[U3f];omega⟩
theorem Ny{k:Nat}{d:PyData}(h:lev k d=true)(hk:k<=60):U2u d=true:=by
 obtain⟨h1,h2⟩:=Ui k d h
 unfold U2u
 rw[h1,Bool.true_and]
 exact decide_eq_true (by omega)
theorem Ys{neg:Bool}{S:Store}{x y:D}{p:PyData}(k:Nat)(hx:Cp S x=some p)(hy:Cp S y=some p)(h:lev k p=true)(hk:k<=60):eqP neg S x y=some (.bl (neg ^^ true)):=by
 unfold eqP
 rw[hx,hy]
 simp only[U0b]
 rw[Ny h hk,SeqAt.eqv_refl _ (Ui k p h).1];rfl
theorem Vt{neg:Bool}{S:Store}{x:D}{m:Bool}{l:List PyData}(k:Nat)(hx:Cp S x=some (.list l))(h:lev k (.list l)=true)(hk:k<=60):eqP neg S x (.lst m [])=some (.bl (neg ^^ l.isEmpty)):=by
 unfold eqP
 have hy:Cp S (.lst m [])=some (.list []):=by simp[Cp,den,Cw,toP,Gq]
 rw[hx,hy]
 simp only[U0b]
 rw[Ny h hk]
 cases l with
 |nil=>rfl
 |cons a r=>rfl
theorem vG(k:Nat)(p:St2):lev (k+1) (pS p)=true:=by simp[pS,lev]
theorem vH(k:Nat)(b:List St2):lev (k+2) (pB b)=true:=by
 rw[pB,lev,U6r,U3]
 exact fun p _=>vG k p
theorem iC(k:Nat)(bs:List (List St2)):lev (k+3) (.list (bs.map pB))=true:=by
 rw[lev,U6r,U3]
 exact fun p _=>vH k p
theorem lJ(k:Nat)(n:Nat)(bs:List (List St2)):lev (k+4) (.tuple [.int n,.list (bs.map pB)])=true:=by
 rw[lev,U4v,U4v,iC k bs]
 rfl
theorem BW{a b:Ba}{env env1:VS.Env}{S S1:Store}(h:a env S=some (.nx,env1,S1)):Bm a b env S=b env1 S1:=by rw[J4,h];rfl
theorem Ig{c:FJ}{a b:Ba}{env:VS.Env}{S S1:Store}(h:c env S=some (true,S1)):sIf c a b env S=a env S1:=by rw[Jz,h];rfl
theorem GK{c:FJ}{a b:Ba}{env:VS.Env}{S S1:Store}(h:c env S=some (false,S1)):sIf c a b env S=b env S1:=by rw[Jz,h];rfl
end VS
end
section
namespace VS
open PySem PySem.Spec L2
end VS
namespace HT
open PySem PySem.Spec PyProof PyProof.Rows
end HT
namespace L2
open PySem PySem.Spec PyProof PyProof.Rows
end L2
namespace VS
open PySem PySem.Spec L2
end VS
end
section
set_option maxRecDepth 100000
namespace HT
open PySem PySem.Spec PyProof.Rows
section
variable{prog:Program}{w:World}{A:Around}{E:Value->Shared->Prop}{s:Shared}
theorem Zc{a:Addr}{o:Obj}{Q:Option Obj->Shared->Prop}(e:s.heap.get? a=some o)(q:Q (some o) s):wpAny (model prog w) A (loadIfAlive a) Q E s:=by
 intro Γ p _
 unfold loadIfAlive
 rw[Sem.wp_loadIfAlive,e]
 exact(Sem.wp_pure ..).mpr q
abbrev Oi(h:Heap)(z TI TO T:Addr)(c:Bool):Prop:=h.get? z=some { cls:=.type "zip",dict:=none,data:=.fields #[rawInt T,.bool c,.bool false,.ref TI,.ref TO],slots:=#[] }
variable{z TI TO i1 i2 T:Addr}{fp1 fp2:List Addr}{n1 n2 k:Nat}{P1 P2:Nat->Value->Prop}{S1 S2:Nat->Heap->Prop}{c:Bool}
theorem aJ{Q:Bool->Shared->Prop}(hZ:Oi s.heap z TI TO T c)(hT:∃o,s.heap.get? T=some o)(q:∀h',Oi h' z TI TO T true->U07 z s.heap h'->Q false { s with heap:=h' }) :
  wpAny (model prog w) A (U13 (.ref z)) Q E s:=by
 obtain⟨o,hT⟩:=hT
 unfold U13
 refine U0 (U2h hZ rfl (x:=rawInt T) rfl ?_)
 show wpAny _ _ (loadIfAlive (Int.toNat (T:Int)) >>= _) _ _ _
 rw[U3c]
 refine U0 (Zc hT ?_)
 simp only[Option.isNone_some,U1y,if_false]
 refine U0 (U2h hZ rfl (x:=.bool c) rfl ?_)
 cases c with
 |false =>
  rw[if_pos (by decide)]
  refine U0 (U3t hZ (by simp) fun g z' m=>?_)
  exact U0f (q g z' m)
 |true =>
  rw[if_neg (by decide)]
  exact U0f (q s.heap hZ (U07.refl ..))
theorem yp{Q:Value->Shared->Prop}(D1:Draws prog w A i1 fp1 n1 P1 S1)(D2:Draws prog w A i2 fp2 n2 P2 S2)(D:Apart z TI TO i1 i2 fp1 fp2)(hZ:Oi s.heap z TI TO T c)(hI:IsPair s.heap TI (.ref i1) (.ref i2))(hT:∃o,s.heap.get? T=some o)
  (s1:S1 k s.heap) (s2:S2 k s.heap) (k1:k<n1) (k2:k<n2)
  (q:∀x y h' tk,P1 k x->P2 k y->Oi h' z TI TO T true->S1 (k+1) h'->S2 (k+1) h'->IsPair h' s.heap.objs.size x y->h'.objs.size=s.heap.objs.size+1 ->
   (∀c o,c≠z->c≠i1->c≠i2->s.heap.get? c=some o->h'.get? c=some o)->Q (.ref s.heap.objs.size) { s with heap:=h',toks:=tk }) :
  wpAny (model prog w) A (Builtin.«zip.__next__» ⟨[.ref z],[]⟩) (fun fin s'=>∃v,fin=.done (.ret v)/\Q v s') E s:=by
 obtain⟨hp,g,d,tk0,os⟩:=s
 refine(show wpAny _ _ (field (.ref z) 2 >>= _) _ _ _ from U0 (U2h hZ rfl (x:=.bool false) rfl ?_))
 refine(show wpAny _ _ (field (.ref z) 3 >>= _) _ _ _ from U0 (U2h hZ rfl (x:=.ref TI) rfl (U0 (U2z hI rfl ?_))))
 refine(show wpAny _ _ (U13 (.ref z) >>= _) _ _ _ from U0 (aJ hZ hT fun g1 z1 m1=>?_))
 replace m1:U07 z hp g1:=m1
 simp only[U1y,if_false]
 have t1:S1 k g1:=D1.frame _ _ _ s1 fun c hc o e=>m1.extBut _ _ (D.b1 c hc).1 e
 have u1:S2 k g1:=D2.frame _ _ _ s2 fun c hc o e=>m1.extBut _ _ (D.b2 c hc).1 e
 refine U0 ?_
 simp only[List.forIn_toArray,U37,U53]
 refine U0 (U0 (U2p (show wpAny _ _ (U1j (.ref i1) >>= _) _ _ _ from U0 (D1.item k ⟨g1,g,d,tk0,os⟩ _ _ k1 t1 fun x g2 tk1 px t2 m2=>U0f ?_))))
 replace m2:U07 i1 g1 g2:=m2
 have u2:S2 k g2:=D2.frame _ _ _ u1 fun c hc o e=>m2.extBut _ _ (D.b2 c hc).2.2 e
 refine U0f ?_
 refine U0 (U0 (U2p (show wpAny _ _ (U1j (.ref i2) >>= _) _ _ _ from U0 (D2.item k ⟨g2,g,d,tk1,os⟩ _ _ k2 u2 fun y g3 tk2 py u3 m3=>U0f ?_))))
 replace m3:U07 i2 g2 g3:=m3
 refine U0f (U0f ?_)
 refine U0 (wpAny_newTuple ?_ (by simp[sizeLine]))
 have sz:g3.objs.size=hp.objs.size:=by rw[m3.1,m2.1,m1.1]
 refine U0f ⟨_,rfl,?_⟩
 show Q (.ref g3.objs.size) _
 have z3:Oi g3 z TI TO T true:=m3.extBut _ _ (U1w D.c2.1) (m2.extBut _ _ (U1w D.c1.1) z1)
 have q3:=q x y (g3.push { cls:=.type "tuple",data:=.seq #[x,y] }) tk2 px py (U0c _ z3)
  (D1.frame _ _ _ t2 fun c hc o e=>U0c _ (m3.extBut _ _ (D.b1 c hc).2.2 e)) (D2.frame _ _ _ u3 fun c hc o e=>U0c _ e)
  (by show IsPair _ hp.objs.size x y;rw[←sz];exact U0w _ rfl) (by rw[U2m,sz])
  fun c o n1 n3 n4 e=>U0c _ (m3.extBut _ _ n4 (m2.extBut _ _ n3 (m1.extBut _ _ n1 e)))
 rw[sz]
 exact q3
theorem wu{Q:PySem.Fin->Shared->Prop}(D1:Draws prog w A i1 fp1 n1 P1 S1)(D2:Draws prog w A i2 fp2 n2 P2 S2)(D:Apart z TI TO i1 i2 fp1 fp2)(hZ:Oi s.heap z TI TO T c)(hI:IsPair s.heap TI (.ref i1) (.ref i2))(hT:∃o,s.heap.get? T=some o)
  (s1:S1 k s.heap) (s2:S2 k s.heap) (ke:k=n1∨(k<n1/\k=n2))
  (q:∀h' e tk,(∀c o,c≠z->c≠i1->c≠i2->s.heap.get? c=some o->h'.get? c=some o)->(∃o,h'.get? e=some o/\o.cls=.type "StopIteration")->E (.ref e) { s with heap:=h',toks:=tk }) :
  wpAny (model prog w) A (Builtin.«zip.__next__» ⟨[.ref z],[]⟩) Q E s:=by
 obtain⟨hp,g,d,tk0,os⟩:=s
 refine(show wpAny _ _ (field (.ref z) 2 >>= _) _ _ _ from U0 (U2h hZ rfl (x:=.bool false) rfl ?_))
 refine(show wpAny _ _ (field (.ref z) 3 >>= _) _ _ _ from U0 (U2h hZ rfl (x:=.ref TI) rfl (U0 (U2z hI rfl ?_))))
 refine(show wpAny _ _ (U13 (.ref z) >>= _) _ _ _ from U0 (aJ hZ hT fun g1 z1 m1=>?_))
 replace m1:U07 z hp g1:=m1
 simp only[U1y,if_false]
 have t1:S1 k g1:=D1.frame _ _ _ s1 fun c hc o e=>m1.extBut _ _ (D.b1 c hc).1 e
 have u1:S2 k g1:=D2.frame _ _ _ s2 fun c hc o e=>m1.extBut _ _ (D.b2 c hc).1 e
 refine U0 ?_
 simp only[List.forIn_toArray,U37,U53]
 rcases ke with ke|⟨k1,ke⟩
 .subst ke
  refine U0 (U0 (U2p (show wpAny _ _ (U1j (.ref i1) >>= _) _ _ _ from U0 (D1.done ⟨g1,g,d,tk0,os⟩ _ _ t1 fun g2 e m2 he=>?_))))
  replace m2:U5g i1 g1 g2:=m2
  exact q g2 e tk0 (fun c o n1 n3 _ x=>m2 _ _ n3 (m1.extBut _ _ n1 x)) he
 .refine U0 (U0 (U2p (show wpAny _ _ (U1j (.ref i1) >>= _) _ _ _ from U0 (D1.item k ⟨g1,g,d,tk0,os⟩ _ _ k1 t1 fun x g2 tk1 px t2 m2=>U0f ?_))))
  replace m2:U07 i1 g1 g2:=m2
  have u2:S2 k g2:=D2.frame _ _ _ u1 fun c hc o e=>m2.extBut _ _ (D.b2 c hc).2.2 e
  rw[ke] at u2
  refine U0f ?_
  refine U0 (U0 (U2p (show wpAny _ _ (U1j (.ref i2) >>= _) _ _ _ from U0 (D2.done ⟨g2,g,d,tk1,os⟩ _ _ u2 fun g3 e m3 he=>?_))))
  replace m3:U5g i2 g2 g3:=m3
  exact q g3 e tk1 (fun c o n1 n3 n4 x=>m3 _ _ n4 (m2.extBut _ _ n3 (m1.extBut _ _ n1 x))) he
def ZS(z TI TO i1 i2:Addr)(S1 S2:Nat->Heap->Prop)(k:Nat)(h:Heap):Prop :=
 IsPair h TI (.ref i1) (.ref i2)/\S1 k h/\S2 k h/\((∃a b,IsZip h z TI TO .none/\IsPair h TO a b)∨∃T c o,Oi h z TI TO T c/\h.get? T=some o/\T≠z/\T≠i1/\T≠i2)
theorem ZS.type(st:ZS z TI TO i1 i2 S1 S2 k s.heap):s.TypeIs (.ref z) "zip":=by
 obtain⟨_,_,_,⟨_,_,h,_⟩|⟨_,_,_,h,_⟩⟩:=st
 .exact⟨_,h,rfl⟩
 .exact⟨_,h,rfl⟩
theorem ZS.lt{h:Heap}(st:ZS z TI TO i1 i2 S1 S2 k h):z<h.objs.size:=by
 obtain⟨_,_,_,⟨_,_,h,_⟩|⟨_,_,_,h,_⟩⟩:=st
 .exact U0p h
 .exact U0p h
theorem ZS.frame{h h':Heap}(D1:Draws prog w A i1 fp1 n1 P1 S1)(D2:Draws prog w A i2 fp2 n2 P2 S2)(st:ZS z TI TO i1 i2 S1 S2 k h){S:Addr}(f1:S ∉ fp1)(f2:S ∉ fp2)(n1:S≠z)(n2:S≠TI)(n3:S≠TO)(lv:∃o,h'.get? S=some o)(m:∀c o,c≠S->h.get? c=some o->h'.get? c=some o):ZS z TI TO i1 i2 S1 S2 k h':=by
 obtain⟨a1,a2,a3,a4⟩:=st
 refine⟨m _ _ (U1w n2) a1,D1.frame _ _ _ a2 fun c hc o e=>m c o (fun q=>f1 (q ▸ hc)) e,D2.frame _ _ _ a3 fun c hc o e=>m c o (fun q=>f2 (q ▸ hc)) e,?_⟩
 rcases a4 with ⟨a,b,b1,b2⟩|⟨T,c,o,b1,b2,b3⟩
 .exact .inl ⟨a,b,m _ _ (U1w n1) b1,m _ _ (U1w n3) b2⟩
 .by_cases q:T=S
  .obtain⟨o',e⟩:=lv
   exact .inr ⟨T,c,o',m _ _ (U1w n1) b1,q ▸ e,b3⟩
  .exact .inr ⟨T,c,o,m _ _ (U1w n1) b1,m _ _ q b2,b3⟩
theorem u9{Q:Option Value->Shared->Prop}(D1:Draws prog w A.in1 i1 fp1 n1 P1 S1)(D2:Draws prog w A.in1 i2 fp2 n2 P2 S2)(D:Apart z TI TO i1 i2 fp1 fp2)(st:ZS z TI TO i1 i2 S1 S2 k s.heap)(k1:k<n1)(k2:k<n2)
  (q:∀x y h' tk,P1 k x->P2 k y->ZS z TI TO i1 i2 S1 S2 (k+1) h'->IsPair h' s.heap.objs.size x y->h'.objs.size=s.heap.objs.size+1->(∀c o,c≠z->c≠TO->c≠i1->c≠i2->s.heap.get? c=some o->h'.get? c=some o)->Q (some (.ref s.heap.objs.size)) { s with heap:=h',toks:=tk }) :
  wpAny (model prog w) A (pyNext (.ref z)) Q E s:=by
 have T:=st.type
 have lz:=st.lt
 obtain⟨a1,a2,a3,a4⟩:=st
 obtain⟨_,l1⟩:=D1.live _ _ a2
 obtain⟨_,l2⟩:=D2.live _ _ a3
 rcases a4 with ⟨a,b,b1,b2⟩|⟨T',c,o,b1,b2,b3,b4,b5⟩
 .refine aH D1 D2 D b1 a1 b2 a2 a3 k1 k2 fun x y h' tk p1 p2 c1 c2 c3 c4 c5 c6 c7=>q x y h' tk p1 p2 ⟨c7 _ _ D.a1 D.a3 (U1w D.c1.2.2) (U1w D.c2.2.2) a1,c3,c4,.inr ⟨_,false,_,c1,c5,U1x lz,U1x (U0p l1),U1x (U0p l2)⟩⟩ c5 c6 c7
 .unfold pyNext
  refine U0 (U5e (wpAny_callSpecial?_slot (name:=U3e "__next__") T U2x (U2l U2x T U46 (yp D1 D2 D b1 a1 ⟨o,b2⟩ a2 a3 k1 k2 fun x y h' tk p1 p2 c1 c3 c4 c5 c6 c7=>U0f (q x y h' tk p1 p2 ?_ c5 c6 fun c o n1 _ n3 n4 e=>c7 c o n1 n3 n4 e)) (U4u _))))
  exact⟨c7 _ _ D.a1 (U1w D.c1.2.2) (U1w D.c2.2.2) a1,c3,c4,.inr ⟨T',true,o,c1,c7 _ _ b3 b4 b5 b2,b3,b4,b5⟩⟩
theorem nO{Q:Option Value->Shared->Prop}(D1:Draws prog w A.in1 i1 fp1 n1 P1 S1)(D2:Draws prog w A.in1 i2 fp2 n2 P2 S2)(D:Apart z TI TO i1 i2 fp1 fp2)(st:ZS z TI TO i1 i2 S1 S2 k s.heap)(ke:k=n1∨(k<n1/\k=n2))
  (q:∀h' tk,(∀c o,c≠z->c≠TO->c≠i1->c≠i2->s.heap.get? c=some o->h'.get? c=some o)->Q none { s with heap:=h',toks:=tk }):wpAny (model prog w) A (pyNext (.ref z)) Q E s:=by
 have T:=st.type
 obtain⟨a1,a2,a3,a4⟩:=st
 rcases a4 with ⟨a,b,b1,b2⟩|⟨T',c,o,b1,b2,b3,b4,b5⟩
 .exact aG D1 D2 D b1 a1 b2 a2 a3 ke q
 .unfold pyNext
  refine U0 (U5e (wpAny_callSpecial?_slot (name:=U3e "__next__") T U2x (U2l U2x T U46 (wu D1 D2 D b1 a1 ⟨o,b2⟩ a2 a3 ke fun h' e tk kk he=>?_) (U4u _))))
  obtain⟨o,e1,e2⟩:=he
  exact U0 (U5a (T:="StopIteration") (b:=true) ⟨o,e1,e2⟩ isSubtype_stop (U0f (q h' tk fun c o n1 _ n3 n4 e=>kk c o n1 n3 n4 e)))
def Laid(P1 P2:Nat->Value->Prop)(t0 k:Nat)(h:Heap):Prop:=∀j,j<k->∃x y,P1 j x/\P2 j y/\IsPair h (t0+j) x y
theorem nR{R:Result->Shared->Prop}(D1:Draws prog w A.in1.in1 i1 fp1 n1 P1 S1)(D2:Draws prog w A.in1.in1 i2 fp2 n2 P2 S2)(D:Apart z TI TO i1 i2 fp1 fp2){m t0:Nat}(hm:∀k,k<m->k<n1/\k<n2)(he:m=n1∨(m<n1/\m=n2))(hs:m<=1000000)(S:Addr)(f1:S ∉ fp1)(f2:S ∉ fp2)(e1:S≠z)(e2:S≠TI)(e3:S≠TO)(e4:S≠i1)(e5:S≠i2)(e6:S<t0)
  (far:z<t0/\TO<t0/\i1<t0/\i2<t0) (res:Value) :
  ∀(j k:Nat)(s:Shared)(acc:Array Value)(c:Nat),m-k=j->k<=m->ZS z TI TO i1 i2 S1 S2 k s.heap->s.heap.get? S=some { cls:=.type "list",dict:=none,data:=.seq acc c,slots:=#[] }->acc=((U0h k).map fun j=>U2o (t0+j)).toArray->s.heap.objs.size=t0+k->Laid P1 P2 t0 k s.heap ->
  (∀h' tk c',(∀b o,b≠z->b≠TO->b≠i1->b≠i2->b≠S->s.heap.get? b=some o->h'.get? b=some o)->h'.get? S=some { cls:=.type "list",dict:=none,data:=.seq ((U0h m).map fun j=>U2o (t0+j)).toArray c',slots:=#[] }->Laid P1 P2 t0 m h'->R (.ok (.ret res)) { s with heap:=h',toks:=tk }) ->
  codeAny (model prog w) A (.builtin "list.extend.loop" ⟨[.ref S,.ref z,res],[]⟩) R s:=by
 have aw:∀j:Nat,t0+j≠z/\t0+j≠TO/\t0+j≠i1/\t0+j≠i2/\t0+j≠S:=fun j=>⟨U1x (U0v far.1 (U1o _ _)),U1x (U0v far.2.1 (U1o _ _)),U1x (U0v far.2.2.1 (U1o _ _)),U1x (U0v far.2.2.2 (U1o _ _)),U1x (U0v e6 (U1o _ _))⟩
 have hs2:m<=sizeLine:=U06 hs (by decide)
 intro j
 induction j with
 |zero =>
  intro k s acc c hj hk st hS ha hz hl q
  have hkm:k=m:=by omega
  subst hkm
  refine codeAny_builtin PySem.F.entry_extend_loop ?_
  rw[U3i U4g _]
  show wpAny _ A.in1 (pyNext (.ref z) >>= _) _ _ s
  refine U0 (nO D1 D2 D st he fun h' tk kk=>U0f (q h' tk c (fun b o n1 n2 n3 n4 _ e=>kk b o n1 n2 n3 n4 e) ?_ ?_))
  .rw[←ha];exact kk _ _ e1 e3 e4 e5 hS
  .intro j hj
   obtain⟨x,y,p1,p2,t⟩:=hl j hj
   exact⟨x,y,p1,p2,kk _ _ (aw j).1 (aw j).2.1 (aw j).2.2.1 (aw j).2.2.2.1 t⟩
 |succ j ih =>
  intro k s acc c hj hk st hS ha hz hl q
  have hlt:k<m:=by omega
  refine codeAny_builtin PySem.F.entry_extend_loop ?_
  rw[U3i U4g _]
  show wpAny _ A.in1 (pyNext (.ref z) >>= _) _ _ s
  refine U0 (u9 D1 D2 D st (hm k hlt).1 (hm k hlt).2 fun x y h' tk p1 p2 st' tp sz kk=>?_)
  have hS':=kk _ _ e1 e3 e4 e5 hS
  have hlen:acc.size=k:=by rw[ha];simp
  show wpAny _ A.in1 (updateSeq S (·.push (.ref s.heap.objs.size)) >>= _) _ _ _
  refine U0 ?_
  have oth:∀b o,b≠S->h'.get? b=some o->(h'.update S (U2j (·.push (U2o s.heap.objs.size)))).get? b=some o:=fun b o n e=>(U1i _ _ (U1w n)).trans e
  have hS2:=U2i (U2j (·.push (U2o s.heap.objs.size))) hS' rfl
  have szu:(h'.update S (U2j (·.push (U2o s.heap.objs.size)))).objs.size=h'.objs.size:=(U12 ..).1
  refine U40 hS' rfl (U0f ⟨plainId_quiet U4g _,ih (k+1) _ (acc.push (.ref s.heap.objs.size)) _ (by omega) hlt (ZS.frame D1 D2 st' f1 f2 e1 e2 e3 ⟨_,hS2⟩ oth) hS2 ?_ ?_ ?_ fun h'' tk'' c'' kk2 hS3 hl3=>?_⟩)
   (by rw[hlen];omega) (by show(acc.push _).size<=sizeLine+1;rw[Array.size_push,hlen];omega)
  .rw[ha,hz,U7o];simp
  .rw[show(U60 _).objs.size=_ from szu,sz,hz];omega
  .intro j hj
   by_cases q':j=k
   .subst q'
    refine⟨x,y,p1,p2,oth _ _ (aw _).2.2.2.2 ?_⟩
    rw[←hz];exact tp
   .obtain⟨x',y',r1,r2,t⟩:=hl j (by omega)
    exact⟨x',y',r1,r2,oth _ _ (aw j).2.2.2.2 (kk _ _ (aw j).1 (aw j).2.1 (aw j).2.2.1 (aw j).2.2.2.1 t)⟩
  .exact q h'' tk'' c'' (fun b o n1 n2 n3 n4 n5 e=>kk2 b o n1 n2 n3 n4 n5 (oth b o n5 (kk b o n1 n2 n3 n4 e))) hS3 hl3
theorem jO:typeLookup (.type "zip") "__len__"=pure none:=by rw[typeLookup_type,builtinLookup_eq_fast];kernel_rfl
theorem fK:typeLookup (.type "zip") "__length_hint__"=pure none:=by rw[typeLookup_type,builtinLookup_eq_fast];kernel_rfl
theorem ZS.push{h:Heap}(D1:Draws prog w A i1 fp1 n1 P1 S1)(D2:Draws prog w A i2 fp2 n2 P2 S2)(st:ZS z TI TO i1 i2 S1 S2 k h)(o:Obj):ZS z TI TO i1 i2 S1 S2 k (h.push o):=by
 obtain⟨a1,a2,a3,a4⟩:=st
 refine⟨U0c _ a1,D1.frame _ _ _ a2 fun c hc o e=>U0c _ e,D2.frame _ _ _ a3 fun c hc o e=>U0c _ e,?_⟩
 rcases a4 with ⟨a,b,b1,b2⟩|⟨T,c,o,b1,b2,b3⟩
 .exact .inl ⟨a,b,U0c _ b1,U0c _ b2⟩
 .exact .inr ⟨T,c,o,U0c _ b1,U0c _ b2,b3⟩
theorem qT{Q:Value->Shared->Prop}(T:s.TypeIs (.ref z) "zip")(q:Q (.ref z) s):wpAny (model prog w) A (pyIter (.ref z)) Q E s :=
 U7 T PySem.F.slot_zip_iter (U2l PySem.F.slot_zip_iter T PySem.F.entry_zip_iter (show wpAny _ _ (ret (.ref z)) _ _ s from U0f ⟨_,rfl,"zip",_,T,U2x.lookup,q⟩) (PySem.F.args_zip_iter_1 _))
theorem qG{Q:Value->Shared->Prop}(D1:Draws prog w A.in1.in1.in1 i1 fp1 n1 P1 S1)(D2:Draws prog w A.in1.in1.in1 i2 fp2 n2 P2 S2)(D:Apart z TI TO i1 i2 fp1 fp2){m:Nat}(hm:∀k,k<m->k<n1/\k<n2)(he:m=n1∨(m<n1/\m=n2))(hs:m<=1000000)(st:ZS z TI TO i1 i2 S1 S2 0 s.heap)
  (l1:∀b∈fp1,b<s.heap.objs.size) (l2:∀b∈fp2,b<s.heap.objs.size) (l3:z<s.heap.objs.size/\TI<s.heap.objs.size/\TO<s.heap.objs.size/\i1<s.heap.objs.size/\i2<s.heap.objs.size)
  (q:∀h' tk c',(∀b o,b≠z->b≠TO->b≠i1->b≠i2->s.heap.get? b=some o->h'.get? b=some o)->h'.get? s.heap.objs.size=some { cls:=.type "list",dict:=none,data:=.seq ((U0h m).map fun j=>U2o (s.heap.objs.size+1+j)).toArray c',slots:=#[] } ->
   Laid P1 P2 (s.heap.objs.size+1) m h'->Q (.ref s.heap.objs.size) { s with heap:=h',toks:=tk }):wpAny (model prog w) A (call (.type "list") [.ref z]) Q E s:=by
 refine callType_codes (Q₁:=fun obj s₁=>obj=.ref s.heap.objs.size/\s₁={ s with heap:=s.heap.push { cls:=.type "list",data:=.seq #[] } }) PySem.F.called_list (PySem.F.typeCall_list_1 _) PySem.F.entry_list_init (code_list_new _ ⟨rfl,rfl⟩) fun obj s₁ h₁=>?_
 obtain⟨rfl,rfl⟩:=h₁
 have g0:(s.heap.push { cls:=.type "list",data:=.seq #[] }).get? s.heap.objs.size=some { cls:=.type "list",data:=.seq #[] }:=U0w _ rfl
 refine⟨⟨_,g0,rfl⟩,PySem.F.args_list_init_2 _ _,?_⟩
 generalize hS:s.heap.objs.size=S at *
 have st0:=ZS.push D1 D2 st { cls:=.type "list",data:=.seq #[] }
 have sz0:(s.heap.push { cls:=.type "list",data:=.seq #[] }).objs.size=S+1:=by rw[U2m,hS]
 have k0:∀b o,s.heap.get? b=some o->(s.heap.push { cls:=.type "list",data:=.seq #[] }).get? b=some o:=fun b o e=>U0c _ e
 generalize s.heap.push { cls:=.type "list",data:=.seq #[] }=h0 at *
 have ne1:S≠z:=U1x l3.1
 have ne2:S≠TI:=U1x l3.2.1
 have ne3:S≠TO:=U1x l3.2.2.1
 have ne4:S≠i1:=U1x l3.2.2.2.1
 have ne5:S≠i2:=U1x l3.2.2.2.2
 have nf1:S ∉ fp1:=fun z=>U30 _ (l1 _ z)
 have nf2:S ∉ fp2:=fun z=>U30 _ (l2 _ z)
 -- one write of the new list after the other
 have wr:∀(h:Heap)(f:Array Value->Array Value)(xs:Array Value)(c:Nat),h.get? S=some { cls:=.type "list",data:=.seq xs c }->(∀b o,b≠S->h.get? b=some o->(h.update S (U2j f)).get? b=some o)/\(h.update S (U2j f)).objs.size=h.objs.size:=fun h f xs c e=>⟨fun b o n e=>(U1i _ _ (U1w n)).trans e,(U12 ..).1⟩
 refine(show wpAny _ _ (do let old ←Builtin.List.listItems (.ref S);Builtin.List.listUpdate (.ref S) (fun _=>#[]);letGo old.toList.reverse;U3l (.ref S) (.ref z) .none) _ _ _ from U0 ?_)
 unfold Builtin.List.listItems
 refine U0 (U2z g0 rfl (U0f (show wpAny _ _ (updateSeq S (fun _=>#[]) >>= fun _=>letGo (#[]:Array Value).toList.reverse >>= fun _=>U3l (.ref S) (.ref z) .none) _ _ _ from U0 (U40 g0 rfl (U0 (U7s ?_))))))
 have g1:=U2i (U2j (fun _=>(#[]:Array Value))) g0 rfl
 obtain⟨o1,z1⟩:=wr h0 (fun _=>#[]) _ _ g0
 have st1:=ZS.frame D1 D2 st0 nf1 nf2 ne1 ne2 ne3 ⟨_,g1⟩ o1
 unfold U3l
 refine U0 (U5t (st1.type (s:={ s with heap:=_ })) ?_)
 have b1:U4q (.ref S) (.ref z)=false:=by simp[U4q,ne1]
 rw[if_neg (by rw[b1];decide)]
 have ty1:U6d { s with heap:=h0.update S (U2j (fun _=>(#[]:Array Value))) } (.ref z) "zip":=st1.type (s:={ s with heap:=_ })
 refine U0 (qT ty1 ?_)
 refine U0 (U2p ?_)
 unfold U49
 refine U0 (U7m ty1 jO ?_)
 refine(show wpAny _ _ (specialOf (U2o z) (U3e "__length_hint__") >>= _) _ _ _ from U0 (U7m ty1 fK (U0f ?_)))
 refine(show wpAny _ _ (rule "list.extend.makes-room" >>= fun _=>Builtin.List.listTouch (.ref S) >>= fun _=>again (.builtin "list.extend.loop" ⟨[.ref S,.ref z,.none],[]⟩)) _ _ _ from U0 (U4x (U0 ?_)))
 refine(show wpAny _ _ (updateSeq S (·.push .none) >>= fun _=>updateSeq S (·.pop)) _ _ _ from U0 (U40 g1 rfl ?_))
 have g2:=U2i (U2j (·.push U2r)) g1 rfl
 obtain⟨o2,z2⟩:=wr _ (·.push U2r) _ _ g1
 have g3:=U2i (U2j (·.pop)) g2 rfl
 obtain⟨o3,z3⟩:=wr _ (·.pop) _ _ g2
 refine U40 (hz:=by seq_fits) g2 rfl ?_
 have st3:=ZS.frame D1 D2 (ZS.frame D1 D2 st1 nf1 nf2 ne1 ne2 ne3 ⟨_,g2⟩ o2) nf1 nf2 ne1 ne2 ne3 ⟨_,g3⟩ o3
 refine U0f ⟨plainId_quiet U4g _,nR D1 D2 D (t0:=S+1) hm he hs S nf1 nf2 ne1 ne2 ne3 ne4 ne5 (U6g _) ⟨U3b l3.1,U3b l3.2.2.1,U3b l3.2.2.2.1,U3b l3.2.2.2.2⟩ _ m 0 _ _ _ rfl (U3u _) st3 g3 ?_ ?_ (fun j hj=>absurd hj (U7k _)) fun h' tk c' kk hS' hl=>⟨rfl,q h' tk c' (fun b o n1 n2 n3 n4 e=>?_) hS' hl⟩⟩
 .simp
 .show(Heap.update _ _ _).objs.size=_
  rw[z3,z2,z1,sz0]
 .have nb:b≠S:=U0z (hS ▸ U0p e)
  exact kk b o n1 n2 n3 n4 nb (o3 b o nb (o2 b o nb (o1 b o nb (k0 b o e))))
end
end HT
end
section
namespace L2
open PySem PySem.Spec PyProof.Rows
section
variable{X:Cx}{pins:List (Addr×Obj)}{σ:St}{H:Hp}{s:Shared}
theorem Inv.yG{H':Hp}{h':Heap}{d':Drawn}{t':Nat}(I:Inv X pins σ H s)(k:∀b u,s.heap.get? b=some u->h'.get? b=some u)(old:∀b,b<s.heap.objs.size->H' b=H b)(ext:∀b o,H b=some o->H' b=some o)
  (new:∀b o,H' b=some o->H b=none->Ei X.prog X.w H' h' b o):Inv X pins σ H' { s with heap:=h',drawn:=d',toks:=t' }:=by
 refine I.step (g':=s.gens) (ch:=[]) (fun _ z=>nomatch z) (fun b u _ _ _ e _=>k b u e) (fun b u _ _ _ e _=>⟨u.slots,k b u e⟩) (fun b u _ e n=>by rw[old b (U0p e)];exact n) (fun b u _ e=>⟨u,k b u e⟩)
  (fun b xs e=>ext _ _ e) (fun b u xs e=>ext _ _ e) (fun b ps e=>⟨#[],by rw[ext _ _ e];simp⟩) (fun m hm=>?_) (fun b u e=>?_) I.bare (fun n=>by rw[old _ I.bZ];exact n)
 .obtain⟨ob,es,ep,e,r⟩:=hm
  exact⟨ob,es,ep,k _ _ e,r⟩
 .cases q:H b with
  |none=>exact new b u e q
  |some o =>
   have:=ext b o q
   rw[this] at e
   cases e
   exact(I.hok b _ q).stay (fun c v _ q=>k c v q) (fun c q=>ext _ _ q) fun c xs q=>ext _ _ q
end
def jc(L:Bool)(ta:TA):TE:=fun σ H Q=>ta σ H fun vs H1=>∃a b xs ys,vs=[.ref a,.ref b]/\H1 a=some (HB L xs)/\H1 b=some (HB L ys)/\(xs.zip ys).length<=1000000 /\
 ∀l t0 H2,H1 l=none->(∀c o,H1 c=some o->H2 c=some o)->H2 l=some (.lst ((U0h (xs.zip ys).length).map fun j=>V.ref (t0+j)))->(∀j p,(xs.zip ys)[j]?=some p->H2 (t0+j)=some (.tup [p.1,p.2]))->Q (.ref l) H2
section
variable{X:Cx}
theorem cV(L:Bool){a b:Expr}{ta:TA}{p p2 pos pos2:Pos}(hc:X.calm=true)(hg:Gl X "list")(hm:X.mg "list"=none)(hg2:Gl X "zip")(hm2:X.mg "zip"=none)(ha:PA X [a,b] ta)(hs:starEach [a,b] X.env=[(false,eval a X.env),(false,eval b X.env)]:=by rfl)(hs2:starEach [b] X.env=[(false,eval b X.env)]:=by rfl)
  (he2:starEach [.Call (.Name "zip" p2) [a,b] [] pos2] X.env=[(false,eval (.Call (.Name "zip" p2) [a,b] [] pos2) X.env)]:=by rfl):PE X (.Call (.Name "list" p) [.Call (.Name "zip" p2) [a,b] [] pos2] [] pos) (jc L ta):=by
 intro pins s σ H Q I h
 refine U5r (LQ I hg hm (by decide +kernel:bootBuiltins "list"=some (.type "list")) (U2v ?_ he2 rfl))
 rw[he2]
 refine(show wpAny _ _ (spliced ((false,eval (.Call (.Name "zip" p2) [a,b] [] pos2) X.env)::backTo pos (starEach [] X.env))) _ _ s from Calls.spliced_cons ?_)
 refine Call_ (LQ I hg2 hm2 (by decide +kernel:bootBuiltins "zip"=some (.type "zip")) (U2v (thn (ha pos2 pins s σ H _ I h) fun us s1 ⟨vs,H1,I1,r1,q1⟩=>?_) (by rw[hs,hs2]) (by rw[hs2];rfl)))
 obtain⟨l,m,xs,ys,e,e1,e2,hl,q⟩:=q1
 subst e
 obtain⟨us1,us2⟩:us=[.ref l,.ref m]/\True:=by
  cases r1 with
  |cons r rr =>
   cases rr with
   |cons r' rr =>
    cases rr
    cases r
    cases r'
    exact⟨rfl,trivial⟩
 subst us1
 obtain⟨its1,rv1,p1⟩:=I1.Qw e1
 obtain⟨its2,rv2,p2⟩:=I1.Qw e2
 have fin:∀h',IsZip h' (s1.heap.objs.size+4) (s1.heap.objs.size+2) (s1.heap.objs.size+3) .none->IsPair h' (s1.heap.objs.size+2) (.ref s1.heap.objs.size) (.ref (s1.heap.objs.size+1))->IsPair h' (s1.heap.objs.size+3) .none .none ->
   K5 L h' s1.heap.objs.size l 0->K5 L h' (s1.heap.objs.size+1) m 0->(∀c o,s1.heap.get? c=some o->h'.get? c=some o)->wpAny (model X.prog X.w) X.A (spliced (backTo pos (starEach [] X.env))) (fun us s2=>wpAny (model X.prog X.w) X.A (call (.type "list") (.ref (s1.heap.objs.size+4)::us)) (fun v s3=>∃x H',Inv X pins σ H' s3/\RelV x v/\Q x H') X.xe s2) X.xe { s1 with heap:=h' }:=fun h' c1 c2 c3 c4 c5 k=>by
  refine Calls.spliced_nil ?_
  generalize hn:s1.heap.objs.size=n at *
  have seqAt:∀(t:Addr)(ws:Array Value),bh L s1.heap t ws->bh L h' t ws/\t<n:=fun t ws x=>by
   cases L with
   |true =>
    refine⟨Heap.IsList.at x fun o e=>k _ _ e,?_⟩
    obtain⟨o,e,_⟩:=(show s1.heap.IsList t ws from x)
    exact hn ▸ U0p e
   |false =>
    refine⟨U5w.at x fun o e=>k _ _ e,?_⟩
    obtain⟨o,e,_⟩:=(show s1.heap.IsTuple t ws from x)
    exact hn ▸ U0p e
  obtain⟨q1,ll⟩:=seqAt _ _ p1
  obtain⟨q2,lm⟩:=seqAt _ _ p2
  have lz:n+4<h'.objs.size:=U0p c1
  have lz0:n<h'.objs.size:=U20 (Nat.lt_add_of_pos_right (by decide)) lz
  have lz1:n+1<h'.objs.size:=U20 (U6u (by decide) n) lz
  have lz2:n+2<h'.objs.size:=U20 (U6u (by decide) n) lz
  have lz3:n+3<h'.objs.size:=U20 (U6u (by decide) n) lz
  have hh:X.A.in1.in1.in1.handled=none:=I1.ok.hd hc
  have sl1:=rv1.length
  have sl2:=rv2.length
  have hlen:(xs.zip ys).length=min its1.length its2.length:=by rw[U39,sl1,sl2]
  refine HT.qG (z:=n+4) (TI:=n+2) (TO:=n+3) (i1:=n) (i2:=n+1) (m:=(xs.zip ys).length) (QH L hh n l (U0z ll) its1.toArray) (QH L hh (n+1) m (U0z (U3b lm)) its2.toArray)
   (Tv (by simp) (by simp) (by simp) ⟨by simp,by simp,by simp⟩ ⟨by simp,by simp,by simp⟩ (by simp) (by simp only[U0q,U1f,or_false,not_or];exact⟨U0z (U0v ll (U1o _ _)),U0z (U0v ll (U1o _ _)),U0z (U0v ll (U1o _ _)),U0z ll,U0z (U0v ll (U1o _ _))⟩)
    (by simp only[U0q,U1f,or_false,not_or];exact⟨U0z (U0v lm (U1o _ _)),U0z (U0v lm (U1o _ _)),U0z (U0v lm (U1o _ _)),U0z lm,U0z (U0v lm (U1o _ _))⟩))
   (fun j hj=>by rw[hlen] at hj;simp;omega) (by rw[hlen];simp;omega) hl ⟨c2,⟨c4,q1⟩,⟨c5,q2⟩,.inl ⟨_,_,c1,c3⟩⟩ ?_ ?_ ⟨lz,lz2,lz3,lz0,lz1⟩ fun h2 tk c' kk hS hL=>?_
  .intro b hb
   simp only[U0q,U1f,or_false] at hb
   show b<h'.objs.size
   rcases hb with rfl|rfl
   .exact lz0
   .exact U20 ll lz0
  .intro b hb
   simp only[U0q,U1f,or_false] at hb
   show b<h'.objs.size
   rcases hb with rfl|rfl
   .exact lz1
   .exact U20 lm lz0
  .generalize hS':h'.objs.size=S at *
   have up:∀b u,s1.heap.get? b=some u->b<n:=fun b u e=>hn ▸ U0p e
   have k2:∀b u,s1.heap.get? b=some u->h2.get? b=some u:=fun b u e=>by
    have:=up b u e
    exact kk b u (U0z (U0v this (U1o _ _))) (U0z (U0v this (U1o _ _))) (U0z this) (U0z (U0v this (U1o _ _))) (k b u e)
   let refs:List V:=(U0h (xs.zip ys).length).map fun j=>V.ref (S+1+j)
   let H2:Hp:=fun b=>if b=S then some (.lst refs) else match (if S+1<=b then (xs.zip ys)[b-(S+1)]? else none) with|some p=>some (.tup [p.1,p.2])|none=>H1 b
   have old:∀b,b<n->H2 b=H1 b:=fun b hb=>by
    have h1:b≠S:=U0z (U20 hb lz0)
    have h2:¬S+1<=b:=Nat.not_le_of_lt (U20 hb (U3b lz0))
    show(if b=S then _ else _)=_
    rw[if_neg h1,if_neg h2]
   have ext:∀b o,H1 b=some o->H2 b=some o:=fun b o e=>by
    obtain⟨ob,e'⟩:=(I1.hok b o e).obj
    rw[old b (up b ob e')];exact e
   have hpair:∀j p,(xs.zip ys)[j]?=some p->H2 (S+1+j)=some (.tup [p.1,p.2]):=fun j p e=>by
    show(if S+1+j=S then _ else _)=_
    rw[if_neg (by omega),if_pos (by omega),show S+1+j-(S+1)=j by omega,e]
   have hlst:H2 S=some (.lst refs):=by show(if S=S then _ else _)=_;rw[if_pos rfl]
   have fresh:∀b,n<=b->H1 b=none:=fun b hb=>I1.hok.fresh (hn ▸ hb)
   refine⟨.ref S,H2,I1.yG (h':=h2) (d':=s1.drawn) (t':=tk) k2 (hn ▸ old) ext fun b o e e'=>?_,rfl,q S (S+1) H2 (fresh S (U2q lz0)) ext hlst hpair⟩
   by_cases hb:b=S
   .subst hb
    rw[hlst] at e
    cases e
    refine⟨?_,(U0h (xs.zip ys).length).map (fun j=>U2o (b+1+j)),c',?_,hS⟩
    .show((U0h (xs.zip ys).length).map _).length<=_
     rw[U0j,U24];exact U06 hl (by decide)
    .show Vals ((U0h (xs.zip ys).length).map _) _
     generalize U0h (xs.zip ys).length=r
     induction r with
     |nil=>exact .nil
     |cons j r ih=>exact .cons rfl ih
   .by_cases hb2:S+1<=b
    .obtain⟨j,rfl⟩:∃j,b=S+1+j:=⟨b-(S+1),(Nat.add_sub_cancel' hb2).symm⟩
     cases hz:(xs.zip ys)[j]? with
     |none =>
      have:H2 (S+1+j)=H1 (S+1+j):=by
       show(if S+1+j=S then _ else _)=_
       rw[if_neg hb,if_pos hb2,show S+1+j-(S+1)=j by omega,hz]
      rw[this,e'] at e;cases e
     |some p =>
      rw[hpair j p hz] at e
      cases e
      obtain⟨hj,_⟩:=U0l.mp hz
      obtain⟨x,y,r1,r2,t⟩:=hL j hj
      have z1:=List.getElem?_zip_eq_some.mp hz
      obtain⟨u,hu,ru⟩:=rv1.get z1.1
      obtain⟨v,hv,rv⟩:=rv2.get z1.2
      have g1:its1[j]?=some x:=by simpa using r1
      have g2:its2[j]?=some y:=by simpa using r2
      rw[hu] at g1
      rw[hv] at g2
      have g1':=U09 g1
      have g2':=U09 g2
      rw[g1'] at ru
      rw[g2'] at rv
      exact⟨(by decide:2<=sizeLine),[x,y],.cons ru (.cons rv .nil),⟨_,t,rfl,_,rfl⟩⟩
    .have:H2 b=H1 b:=by
      show(if b=S then _ else _)=_
      rw[if_neg hb,if_neg hb2]
     rw[this,e'] at e;cases e
 cases L with
 |true=>exact call_zip_2 p1 p2 fun h' c1 c2 c3 c4 c5 _ k=>fin h' c1 c2 c3 c4 c5 k
 |false=>exact HT.Z2 p1 p2 fun h' c1 c2 c3 c4 c5 k=>fin h' c1 c2 c3 c4 c5 k
end
end L2
end
section
namespace VS
open PySem PySem.Spec L2 PyProof.Rows
theorem WT{Γ:Fr}{μ:Mu}{H:Hp}:∀{as bs:List V} {xs ys:List D} (t0:Nat),VRs Γ μ H as xs->VRs Γ μ H bs ys->(∀j p,(as.zip bs)[j]?=some p->H (t0+j)=some (.tup [p.1,p.2]))->VRs Γ μ H ((U76 t0 (as.zip bs).length).map V.ref) (Df xs ys)
 |[],_,_,_,_,.nil,_,_=>by simp[Df];exact .nil
 |_::_,[],_,_,_,.cons _ _,.nil,_=>by simp[Df];exact .nil
 |a::as,b::bs,_,_,t0,.cons ra rs,.cons rb rt,h=>by
  rw[U43,U0i,List.range'_succ,U0m,Df]
  refine .cons (.tup (h 0 (a,b) rfl) (.cons ra (.cons rb .nil))) (WT (t0+1) rs rt fun j p hp=>?_)
  have:=h (j+1) p (by simpa using hp)
  rw[show t0+1+j=t0+(j+1) by omega]
  exact this
theorem W4:∀(xs ys:List D),(Df xs ys).length=(xs.zip ys).length
 |[],_=>by simp[Df]
 |_::_,[]=>by simp[Df]
 |_::xs,_::ys=>by simp[Df,W4 xs ys]
def Oq(a:Bf):Bb:=fun env S=>(a env S).bind fun p=>match p.1 with
 |[x,y]=>(listOf p.2 x).bind fun xs=>(listOf p.2 y).bind fun ys=>if (Df xs ys).length<=1000000 then some (.lst true (Df xs ys),p.2) else none
 |_=>none
theorem Uw{X:Cx}{a b:Expr}{f:Bf}{p p2 pos pos2:Pos}(hc:X.calm=true)(ha:JA X [a,b] f)(hg:Gl X "list")(hm:X.mg "list"=none)(hg2:Gl X "zip")(hm2:X.mg "zip"=none)(hs:starEach [a,b] X.env=[(false,eval a X.env),(false,eval b X.env)]:=by rfl)(hs2:starEach [b] X.env=[(false,eval b X.env)]:=by rfl)
  (he2:starEach [.Call (.Name "zip" p2) [a,b] [] pos2] X.env=[(false,eval (.Call (.Name "zip" p2) [a,b] [] pos2) X.env)]:=by rfl):JE X (.Call (.Name "list" p) [.Call (.Name "zip" p2) [a,b] [] pos2] [] pos) (Oq f) :=
 ⟨PE.imp (cV true hc hg hm hg2 hm2 ha.pa hs hs2 he2) fun σ H Q h=>by
  obtain⟨Γ,μ,env,S,d,S',hK,R,e,q⟩:=h
  obtain⟨⟨ds,S1⟩,e1,e⟩:=bind_some e
  dsimp only at e
  split at e
  .rename_i x y
   obtain⟨xs,e2,e⟩:=bind_some e
   obtain⟨ys,e3,e⟩:=bind_some e
   by_cases hl:(Df xs ys).length<=1000000
   .rw[if_pos hl] at e;cases e
    refine⟨Γ,μ,env,S,[x,y],_,hK,R,e1,fun vs μ1 H1 x1 R1 r1=>?_⟩
    obtain⟨v,u,rfl,ra,rb⟩:=r1.two
    obtain⟨pa,as,rfl,ha',rx⟩:=VR.list R1 ra e2
    obtain⟨pb,bs,rfl,hb',ry⟩:=VR.list R1 rb e3
    refine⟨pa,pb,as,bs,rfl,ha',hb',?_,fun l t0 H2 hn hx hl2 hp=>?_⟩
    .rw[W4,U39,←rx.length,←ry.length] at hl
     rw[U39];exact hl
    .obtain⟨R2,x2⟩:=R1.grow (show Same H1 H2 from hx)
     have hr:(U0h (as.zip bs).length).map (fun j=>V.ref (t0+j))=(U76 t0 (as.zip bs).length).map V.ref:=by
      rw[List.range'_eq_map_range,U0d];rfl
     exact q _ μ1 H2 (x1.trans x2) R2 (.lst (R1.ok hn true) (R1.dead hn) hl2 (by rw[hr];exact WT t0 (rx.ext x2) (ry.ext x2) hp))
   .rw[if_neg hl] at e;cases e
  .cases e⟩
theorem QC(a:Bf)(env:VS.Env)(S:Store):VS.Oq a env S=(a env S).bind fun p=>match p.1 with
 |[x,y]=>(listOf p.2 x).bind fun xs=>(listOf p.2 y).bind fun ys=>if (Df xs ys).length<=1000000 then some (.lst true (Df xs ys),p.2) else none
 |_=>none:=rfl
end VS
end
section
namespace VS
open PySem PySem.Spec L2
end VS
end
section
namespace HT
open PySem PySem.Spec PyProof PyProof.Rows
def half{α:Type}(a:Nat)(l:List α):List α:=(U0h ((l.length+1-a)/2)).filterMap fun k=>l[a+2*k]?
theorem Yn{α:Type}(a:Nat)(l:List α):(half a l).length<=l.length:=by
 refine U06 (List.length_filterMap_le ..) ?_
 rw[U24]
 omega
theorem VL(xs:Array Value):slicePick xs none none (some 2)=(half 0 xs.toList).toArray:=by
 have b:sliceBounds none none (some 2) xs.size=(0,(xs.size:Int),2):=by simp[sliceBounds]
 unfold slicePick
 rw[b]
 unfold sliceRange half
 simp only[show((2:Int)>0) by decide,if_true]
 have e:(if (0:Int)<(xs.size:Int) then ((xs.size:Int)-0+2-1)/2 else 0).toNat=(xs.toList.length+1-0)/2:=by
  rw[U1q]
  split<;>omega
 rw[e,U4y]
 refine congrArg U73 (congrArg (fun f=>List.filterMap f _) (funext fun k=>?_))
 show xs[((0:Int)+2*(k:Int)).toNat]?=_
 rw[show((0:Int)+2*(k:Int)).toNat=0+2*k by omega,U2w]
theorem VJ(xs:Array Value):slicePick xs (some 1) none (some 2)=(half 1 xs.toList).toArray:=by
 have b:sliceBounds (some 1) none (some 2) xs.size=(min 1 (xs.size:Int),(xs.size:Int),2):=by
  simp[sliceBounds]
  omega
 unfold slicePick
 rw[b]
 unfold sliceRange half
 simp only[show((2:Int)>0) by decide,if_true]
 have e:(if min 1 (xs.size:Int)<(xs.size:Int) then ((xs.size:Int)-min 1 (xs.size:Int)+2-1)/2 else 0).toNat=(xs.toList.length+1-1)/2:=by
  rw[U1q]
  split<;>omega
 rw[e,U4y]
 by_cases hn:xs.size=0
 .have:xs.toList.length=0:=by rw[U1q];exact hn
  rw[this];rfl
 refine congrArg U73 (congrArg (fun f=>List.filterMap f _) (funext fun k=>?_))
 show xs[(min 1 (xs.size:Int)+2*(k:Int)).toNat]?=_
 rw[show(min 1 (xs.size:Int)+2*(k:Int)).toNat=1+2*k by omega,U2w]
end HT
namespace L2
open PySem PySem.Spec PyProof PyProof.Rows
theorem Vals.pick{xs:List V}{us:List Value}(r:Vals xs us):∀ks:List Nat,Vals (ks.filterMap (xs[·]?)) (ks.filterMap (us[·]?))
 |[]=>.nil
 |k::ks=>by
  have hl:=r.length
  cases h:xs[k]? with
  |none =>
   have h':us[k]?=none:=by rw[List.getElem?_eq_none_iff] at h ⊢;omega
   rw[U4s h,U4s h']
   exact r.pick ks
  |some x =>
   obtain⟨u,hu,ru⟩:=r.get h
   rw[U25 h,U25 hu]
   exact .cons ru (r.pick ks)
theorem Pj{α:Type}(a:Nat)(l:List α):HT.half a l=((U0h ((l.length+1-a)/2)).map fun k=>a+2*k).filterMap (l[·]?):=by
 unfold HT.half
 rw[U4y];rfl
theorem Vals.half{xs:List V}{us:List Value}(r:Vals xs us)(a:Nat):Vals (HT.half a xs) (HT.half a us):=by
 rw[Pj,Pj,←r.length]
 exact r.pick _
def cG(K:U0a)(k:Nat)(te:TE):TE:=fun σ H Q=>te σ H fun x H1=>∃(a:Addr)(xs:List V),x=.ref a/\SqL K H1 a xs/\∀p,H1 p=none->Q (.ref p) (upd H1 p (.lst (HT.half k xs)))
theorem kj{X:Cx}{e:Expr}{te:TE}{j:Nat}{p0 p2 pos:Pos}(he:PE X e te):PE X (.Subscript e (.Slice none none (some (.Constant (.int 2) j p0)) p2) pos) (cG X.K 0 te):=by
 intro pins s σ H Q I h
 refine Subscript_ (thn (he pins s σ H _ I h) fun v s1 ⟨x,H1,I1,r1,q1⟩=>?_)
 obtain⟨a,xs,rfl,ha,q⟩:=q1
 cases r1
 refine wpAny_Slice ?_
 rw[evalPart_none]
 refine U0f (U0f ?_)
 rw[evalPart_some]
 refine thn (Ue pins s1 σ H1 (fun x H2=>x=.int 2/\H2=H1) I1 ⟨rfl,rfl⟩) fun u s2 ⟨y,H2,I2,r2,e1,e2⟩=>?_
 subst e1 e2
 obtain⟨t0,rfl⟩:=(show ∃t,u=U3r 2 t from r2)
 have I4:Inv X pins σ H2 { s2 with heap:=s2.heap.push { cls:=.type "slice",data:=.fields #[.none,.none,.int 2 t0] } }:=I2.kept (t':=s2.toks) fun b ob q=>U0c _ q
 obtain⟨its,rv,ht,hz⟩:=I4.list ha
 have hlen:=rv.length
 show wpAny (model X.prog X.w) X.A (subscriptTail e (.Slice none none (some (.Constant (.int 2) j p0)) p2) (.ref a) (.ref s2.heap.objs.size)) (EP X pins σ Q) X.xe { s2 with heap:=s2.heap.push { cls:=.type "slice",data:=.fields #[.none,.none,.int 2 t0] } }
 refine tail_any (ops:=[.ref a,.ref s2.heap.objs.size]) ht.isList.typeIs slot_list_getitem.lookup ?_ (by with_unfolding_all rfl)
 refine U5u ht.isList (U63 ..) .none .none (.int 2 t0) (by simp) ?_ (by rw[U0r,←hlen];exact hz)
 rw[HT.VL]
 refine⟨.ref _,_,I4.laid (t':=s2.toks) (o:=.lst (HT.half 0 xs)) (fun b ob q=>U0c _ q) (U0o _) ?_,rfl,q _ (I4.hok.fresh (U0o _))⟩
 exact⟨U06 (HT.Yn 0 xs) hz,HT.half 0 its,0,rv.half 0,U0w _ rfl⟩
theorem kh{X:Cx}{e:Expr}{te:TE}{i j:Nat}{p0 p1 p2 pos:Pos}(he:PE X e te):PE X (.Subscript e (.Slice (some (.Constant (.int 1) i p1)) none (some (.Constant (.int 2) j p0)) p2) pos) (cG X.K 1 te):=by
 intro pins s σ H Q I h
 refine Subscript_ (thn (he pins s σ H _ I h) fun v s1 ⟨x,H1,I1,r1,q1⟩=>?_)
 obtain⟨a,xs,rfl,ha,q⟩:=q1
 cases r1
 refine wpAny_Slice ?_
 rw[evalPart_some]
 refine thn (Ue pins s1 σ H1 (fun x H2=>x=.int 1/\H2=H1) I1 ⟨rfl,rfl⟩) fun u s2 ⟨y,H2,I2,r2,e1,e2⟩=>?_
 subst e1 e2
 obtain⟨t0,rfl⟩:=(show ∃t,u=U3r 1 t from r2)
 rw[evalPart_none]
 refine U0f ?_
 rw[evalPart_some]
 refine thn (Ue pins s2 σ H2 (fun x H3=>x=.int 2/\H3=H2) I2 ⟨rfl,rfl⟩) fun u s3 ⟨y,H3,I3,r3,e1,e2⟩=>?_
 subst e1 e2
 obtain⟨t1,rfl⟩:=(show ∃t,u=U3r 2 t from r3)
 have I4:Inv X pins σ H3 { s3 with heap:=s3.heap.push { cls:=.type "slice",data:=.fields #[.int 1 t0,.none,.int 2 t1] } }:=I3.kept (t':=s3.toks) fun b ob q=>U0c _ q
 obtain⟨its,rv,ht,hz⟩:=I4.list ha
 have hlen:=rv.length
 show wpAny (model X.prog X.w) X.A (subscriptTail e (.Slice (some (.Constant (.int 1) i p1)) none (some (.Constant (.int 2) j p0)) p2) (.ref a) (.ref s3.heap.objs.size)) (EP X pins σ Q) X.xe { s3 with heap:=s3.heap.push { cls:=.type "slice",data:=.fields #[.int 1 t0,.none,.int 2 t1] } }
 refine tail_any (ops:=[.ref a,.ref s3.heap.objs.size]) ht.isList.typeIs slot_list_getitem.lookup ?_ (by with_unfolding_all rfl)
 refine U5u ht.isList (U63 ..) (.int 1 t0) .none (.int 2 t1) (by simp) ?_ (by rw[U0r,←hlen];exact hz)
 rw[HT.VJ]
 refine⟨.ref _,_,I4.laid (t':=s3.toks) (o:=.lst (HT.half 1 xs)) (fun b ob q=>U0c _ q) (U0o _) ?_,rfl,q _ (I4.hok.fresh (U0o _))⟩
 exact⟨U06 (HT.Yn 1 xs) hz,HT.half 1 its,0,rv.half 1,U0w _ rfl⟩
def Itw(lo:Int)(n:Nat):It:=⟨fun i _=>i<n,fun i H x H'=>H'=H/\x=.int (lo+i*2),fun i _=>n<=i⟩
theorem jV{P:Program}{w:World}{K:U0a}{tg:Expr}(it:Addr)(lo:Int)(n:Nat):Turn P w K tg (Itw lo n) [it] it (fun i h=>IsRangeIter h it (lo+(i:Nat)*2) ((n:Int)-(i:Nat)) 2) where
 mem:=by simp
 obj:=fun i h st b hb=>by
  obtain rfl:b=it:=by simpa using hb
  exact⟨_,st,fun v z=>by
   have z':Data.fields _=Data.cell v:=z
   cases z'⟩
 keep:=fun i h h' st k=>k it (by simp) _ st
 item:=by
  intro X hP hw hK hc i pins s σ H E I hf st hg
  subst hP hw hK
  obtain⟨f0,f1,f2,f3,f4,f5⟩:=hf it (by simp)
  refine(Walks.range (prog:=X.prog) (w:=X.w) (I.ok.hd hc) it lo 2 n).item i s _ _ hg st fun v h' tk hv st' kk=>?_
  obtain⟨t,rfl⟩:=hv
  have I1:Inv X pins σ H { s with heap:=h',toks:=tk }:=I.turned (fun b o hb e=>kk b o (by simpa using hb) e) f0 f1 f3 f4 f5
  exact⟨_,rfl,XS (s:={ s with heap:=h',toks:=tk }) (n:="range_iterator") st' rfl rfl (by decide) ⟨.int (lo+i*2),H,I1,⟨t,rfl⟩,⟨rfl,rfl⟩,st',fun b hb=>(hf b hb).1⟩⟩
 done:=by
  intro X hP hw hK hc i pins s σ H E I hf st hg
  subst hP hw hK
  obtain⟨f0,f1,f2,f3,f4,f5⟩:=hf it (by simp)
  exact wpAny_pyNext_range_end (I.ok.hd hc) st (by have:n<=i:=hg;omega) fun h' eb=>⟨rfl,I.turned (t':=s.toks) (fun b o hb e=>eb b o hb e) f0 f1 f3 f4 f5⟩
 self:=fun _ _ _ _ _ st h=>wpAny_pyIter_rangeiter st h
theorem fZ{a b:Int}(h1:-1000000<=a)(h2:a<=1000000)(h3:-1000000<=b)(h4:b<=1000000):Builtin.Range.small a b 2=true:=by
 unfold Builtin.Range.small
 unfold U32
 simp only[Builtin.Range.rangeFitsLong,U00,U7l,decide_eq_true_eq,beq_iff_eq,show(2:Int)>0 by decide,if_true]
 split<;>omega
def MP(lo hi:Int):Nat:=((hi-lo+1)/2).toNat
def yL(ta:TA):TI:=fun σ H R=>ta σ H fun vs H1=>∃i j:Int,vs=[.int i,.int j,.int 2]/\(-1000000<=i/\i<=1000000/\-1000000<=j/\j<=1000000)/\R (Itw i (MP i j)) H1
theorem gU{X:Cx}{tg:Expr}{a b c:Expr}{ta:TA}{p pos:Pos}(hg:Gl X "range")(hm:X.mg "range"=none)(ha:PA X [a,b,c] ta)(hs:starEach [a,b,c] X.env=[(false,eval a X.env),(false,eval b X.env),(false,eval c X.env)]:=by rfl)(hs2:starEach [b,c] X.env=[(false,eval b X.env),(false,eval c X.env)]:=by rfl) :
  PI X tg (.Call (.Name "range" p) [a,b,c] [] pos) (yL ta):=by
 intro pins s σ H R I h
 refine Call_ (LQ I hg hm boot_range (U2v (thn (ha pos pins s σ H _ I h) fun us s1 ⟨vs,H1,I1,r1,q1⟩=>?_) (by rw[hs,hs2]) (by rw[hs2];rfl)))
 obtain⟨i,j,e,⟨q1,q2,q3,q4⟩,q⟩:=q1
 subst e
 cases r1 with
 |cons r rr =>
  cases rr with
  |cons r' rr =>
   cases rr with
   |cons r'' rr =>
    cases rr
    obtain⟨t,rfl⟩:=r
    obtain⟨t',rfl⟩:=r'
    obtain⟨t'',rfl⟩:=r''
    refine PySem.call_range_3 (by decide) ?_ (.inl (PyProof.noPylong_small (by decide)))
    refine wpAny_pyIter_range (IsRange.new ..) (fZ q1 q2 q3 q4) ?_
    have I2:Inv X pins σ H1 { s1 with heap:=s1.heap.push { cls:=.type "range",data:=.fields #[.int i t,.int j t',.int 2 t''] } }:=I1.kept (t':=s1.toks) fun b o e=>U0c _ e
    refine⟨_,[_],_,_,H1,rfl,I2.kept (t':=s1.toks) fun b o e=>U0c _ e,jV _ i (MP i j),?_,fun b hb=>?_,q⟩
    .have e1:i+((0:Nat):Int)*2=i:=by simp
     have e2:((MP i j:Nat):Int)-((0:Nat):Int)=U32 i j 2:=by
      unfold MP U32
      simp only[show(2:Int)>0 by decide,if_true]
      split<;>omega
     show IsRangeIter _ _ (i+((0:Nat):Int)*2) (((MP i j:Nat):Int)-((0:Nat):Int)) 2
     rw[e1,e2]
     exact U0w _ rfl
    .obtain rfl:=U03.mp hb
     exact I2.Vf (U0o _) (I2.hok.fresh (U0o _))
end L2
end
section
namespace VS
open PySem PySem.Spec L2
theorem VRs.pick{Γ:Fr}{μ:Mu}{H:Hp}{xs:List V}{ds:List D}(r:VRs Γ μ H xs ds):∀ks:List Nat,VRs Γ μ H (ks.filterMap (xs[·]?)) (ks.filterMap (ds[·]?))
 |[]=>.nil
 |k::ks=>by
  have hl:=r.length
  cases h:ds[k]? with
  |none =>
   have h':xs[k]?=none:=by rw[List.getElem?_eq_none_iff] at h ⊢;omega
   rw[U4s h,U4s h']
   exact r.pick ks
  |some d =>
   obtain⟨u,hu,ru⟩:=r.get h
   rw[U25 h,U25 hu]
   exact .cons ru (r.pick ks)
theorem VRs.half{Γ:Fr}{μ:Mu}{H:Hp}{xs:List V}{ds:List D}(r:VRs Γ μ H xs ds)(a:Nat):VRs Γ μ H (HT.half a xs) (HT.half a ds):=by
 rw[Pj,Pj,r.length]
 exact r.pick _
def PL(k:Nat)(S:Store)(x:D):Option D:=(listOf S x).map fun ds=>.lst true (HT.half k ds)
theorem aL{K:U0a}{k:Nat}{f:Bb}{σ:St}{H:Hp}{Q:VK}(h:wpE K (eUn (PL k) f) σ H Q):cG K k (wpE K f) σ H Q:=by
 obtain⟨Γ,μ,env,S,d,S',hK,R,e,q⟩:=h
 obtain⟨⟨x,S1⟩,e1,e⟩:=bind_some e
 obtain⟨z,e3,e⟩:=map_some e
 cases e
 refine⟨Γ,μ,env,S,x,S1,hK,R,e1,fun v1 μ1 H1 x1 R1 r1=>?_⟩
 obtain⟨ds,e4,e5⟩:=map_some e3
 subst e5
 obtain⟨a,xs,rfl,ha,rs⟩:=VR.list R1 r1 e4
 refine⟨a,xs,rfl,SqL.of ha,fun t ht=>?_⟩
 obtain⟨R2,x2⟩:=R1.grow (DQ ht (.lst (HT.half k xs)))
 exact q _ μ1 _ (x1.trans x2) R2 (.lst (R1.ok ht true) (R1.dead ht) Ce ((rs.half k).ext x2))
theorem lZ{X:Cx}{e:Expr}{f:Bb}{j:Nat}{p0 p2 pos:Pos}(he:JE X e f):JE X (.Subscript e (.Slice none none (some (.Constant (.int 2) j p0)) p2) pos) (eUn (PL 0) f):=⟨PE.imp (kj he.pe) fun σ H Q h=>aL h⟩
theorem lY{X:Cx}{e:Expr}{f:Bb}{i j:Nat}{p0 p1 p2 pos:Pos}(he:JE X e f):JE X (.Subscript e (.Slice (some (.Constant (.int 1) i p1)) none (some (.Constant (.int 2) j p0)) p2) pos) (eUn (PL 1) f):=⟨PE.imp (kh he.pe) fun σ H Q h=>aL h⟩
def upW(lo:Int)(n:Nat):List D:=(U0h n).map fun i=>D.int (lo+(i:Nat)*2)
theorem vX{Γ:Fr}{μ:Mu}{H:Hp}(lo:Int)(n:Nat):Vj Γ μ H (Itw lo n) (upW lo n) []:=by
 have len:(upW lo n).length=n:=by unfold upW;rw[U0j,U24]
 refine⟨fun i d μ' H' σ' env' S' hi x R c=>?_,fun μ' H' σ' env' S' x R c=>?_⟩
 .have hi':i<n:=by rw[←len];exact(U0l.mp hi).1
  refine⟨hi',fun y H'' yl=>?_⟩
  obtain⟨e1,e2⟩:=yl
  subst e1 e2
  unfold upW at hi
  rw[U0y,U5i hi'] at hi
  cases hi
  exact⟨Same.refl _,.int _⟩
 .show n<=(upW lo n).length
  rw[len];exact U0o _
def Rx(a:Bf):KY:=fun env S=>(a env S).bind fun p=>match p.1 with|[.int i,.int j,.int 2]=>if (-1000000<=i/\i<=1000000)/\-1000000<=j/\j<=1000000 then some ((upW i (MP i j),[]),p.2) else none|_=>none
theorem dJ(a:Bf)(env:VS.Env)(S:Store):Rx a env S=(a env S).bind fun p=>match p.1 with|[.int i,.int j,.int 2]=>if (-1000000<=i/\i<=1000000)/\-1000000<=j/\j<=1000000 then some ((upW i (MP i j),[]),p.2) else none|_=>none:=rfl
theorem VRs.three{Γ:Fr}{μ:Mu}{H:Hp}{vs:List V}{d e f:D}(h:VRs Γ μ H vs [d,e,f]):∃v u t,vs=[v,u,t]/\VR Γ μ H v d/\VR Γ μ H u e/\VR Γ μ H t f:=by
 cases h with|cons r t=>cases t with|cons r' t=>cases t with|cons r'' t=>cases t;exact⟨_,_,_,rfl,r,r',r''⟩
theorem iJ{X:Cx}{tg:Expr}{a b c:Expr}{f:Bf}{p pos:Pos}(hg:Gl X "range")(hm:X.mg "range"=none)(ha:JA X [a,b,c] f)(hs:starEach [a,b,c] X.env=[(false,eval a X.env),(false,eval b X.env),(false,eval c X.env)]:=by rfl)(hs2:starEach [b,c] X.env=[(false,eval b X.env),(false,eval c X.env)]:=by rfl) :
  JI X tg (.Call (.Name "range" p) [a,b,c] [] pos) (Rx f) :=
 ⟨PI.imp (gU hg hm ha.pa hs hs2) fun σ H Q h=>by
  obtain⟨Γ,μ,env,S,ds,w,S',hK,R,e,q⟩:=h
  obtain⟨⟨d,S1⟩,e1,e⟩:=bind_some e
  refine⟨Γ,μ,env,S,d,S1,hK,R,e1,fun v μ1 H1 x1 R1 r1=>?_⟩
  dsimp only at e
  split at e
  .rename_i i j
   by_cases hj:(-1000000<=i/\i<=1000000)/\-1000000<=j/\j<=1000000
   .rw[if_pos hj] at e
    cases e
    obtain⟨v,u,t,rfl,r,r',r''⟩:=r1.three
    cases r
    cases r'
    cases r''
    exact⟨i,j,rfl,⟨hj.1.1,hj.1.2,hj.2.1,hj.2.2⟩,q _ μ1 H1 x1 R1 (vX i _)⟩
   .rw[if_neg hj] at e;cases e
  .cases e⟩
def cA(i j:Int):Prop:=i.natAbs<2^1024/\j.natAbs<2^1024
theorem cA.ok{i j:Int}(h:cA i j):IntMulOk i j:=by
 have h1:=PyProof.Rows.intBits_le h.1
 have h2:=PyProof.Rows.intBits_le h.2
 have h3:Builtin.Int.intTooBig (Builtin.Int.intBits i+Builtin.Int.intBits j)=false:=by
  unfold Builtin.Int.intTooBig
  refine decide_eq_false ?_
  have:(4096:Int)<=bitsLine:=by decide
  omega
 unfold IntMulOk
 rw[h3]
 simp
theorem Rq{X:Cx}:OpR X (binaryOp .Mult) (rI cA fun i j=>.int (i*j)):=opI fun _ _ _ _ _ _ _ hc q=>PyProof.Rows.mul_int q hc.ok
def Xj(i j:Int):Bool:=decide (i.natAbs<2^1024)&&decide (j.natAbs<2^1024)
def Nm:=oI Xj fun i j=>.int (i*j)
theorem Qa{K:U0a}:G6 K (rI cA fun i j=>.int (i*j)) Nm:=XM _ fun i j h=>by
 unfold Xj at h
 rw[U00,decide_eq_true_eq,decide_eq_true_eq] at h
 exact h
def Ve(neg:Bool)(_:Store):D->D->Option D
 |.str a,.str b=>some (.bl (neg ^^ decide (a=b)))
 |_,_=>none
theorem oK{K:U0a}:G6 K jB (Ve true):=by
 intro Γ μ σ H env S x y dx dy d hK R rx ry e Q q
 unfold Ve at e
 split at e
 .rename_i a b
  cases e;cases rx;cases ry
  refine .inl ⟨rfl,?_⟩
  have:decide (V.str a=V.str b)=decide (a=b):=by simp
  rw[this]
  exact q _ H (Same.refl H) (by simpa using VR.bl (!decide (a=b)))
 .cases e
end VS
end
section
namespace L2
open PySem PySem.Spec PyProof PyProof.Rows
section
variable{X:Cx}
def tD(K:U0a):List V->Hp->VK->Prop:=fun xs H Q=>∃(p:Addr)(ns:List Int),xs=[.ref p]/\SqL K H p (ns.map V.int)/\Q (.int ns.sum) H
theorem iz(hc:X.calm=true):Dn X (.builtin "sum") (tD X.K):=by
 intro pins s σ H xs us Q I r h
 obtain⟨p,ns,rfl,hq,q⟩:=h
 obtain⟨u,rfl,rx⟩:=vals1 r
 cases rx
 obtain⟨its,rv,pl,hz⟩:=I.list hq
 have hi:IntsAre its ns:=intsAre_of rv
 obtain⟨ys,hy⟩:=hi.allInts.items
 have hn:=hi.numsOf
 have hl:=pl.isList
 rw[hy] at hl
 refine sum_intListG (I.ok.hd hc) hl fun h' tk t' hk=>⟨.int ns.sum,H,I.kept (h':=h') (t':=tk) hk,⟨t',?_⟩,q⟩
 have e:its=(intItems ys).toList:=by rw[←hy]
 rw[e,nums_intItems] at hn
 rw[preSum_eq,U6b (by simp),hn]
end
end L2
end
section
namespace HT
open PySem PySem.Spec PyProof PyProof.Rows
section
variable{P0:Program}{wd:World}{Ar:Around}{Er:Value->Shared->Prop}{sh:Shared}
variable{J:Addr}{fp wr:List Addr}{n:Nat}{P:Nat->Value->Prop}{St:Nat->Heap->Prop}{Rr:Result->Shared->Prop}{dv:Value}
end
end HT
namespace L2
open PySem PySem.Spec PyProof PyProof.Rows
section
variable{X:Cx}
end
end L2
end
section
namespace VS
open PySem PySem.Spec L2
theorem wD:bootBuiltins "sum"=some (.builtin "sum"):=by decide +kernel
def bf(S:Store):List D->Option D
 |[x]=>(listOf S x).bind fun ds=>(intsOf ds).map fun ns=>.int ns.sum
 |_=>none
theorem oJ{K:U0a}:N8 K (tD K) bf:=by
 intro Γ μ σ H env S xs ds d hK R rs e Q q
 unfold bf at e
 split at e
 .obtain⟨es,e1,e⟩:=bind_some e
  obtain⟨ns,e2,e4⟩:=map_some e
  subst e4
  obtain⟨v,rfl,r⟩:=rs.one
  obtain⟨a,ys,rfl,ha,rx⟩:=VR.list R r e1
  have:=JK e2
  subst this
  have:=rx.Rj
  subst this
  exact⟨a,ns,rfl,SqL.of ha,q _ H (Same.refl H) (.int _)⟩
 .cases e
end VS
end
section
namespace VS
open PySem PySem.Spec L2
def bR(i j:Nat)(a:Bf):Ba:=fun env S=>(a env S).bind fun p=>match p.1 with
 |[d,e]=>some (.nx,(env.set i (some d)).set j (some e),p.2)
 |_=>none
theorem oN(i j:Nat)(a:Bf)(env:VS.Env)(S:Store):bR i j a env S=(a env S).bind fun p=>match p.1 with
 |[d,e]=>some (.nx,(env.set i (some d)).set j (some e),p.2)
 |_=>none:=rfl
theorem vO{X:Cx}{i j:Nat}{x y:Str}{a b:Expr}{fa:Bf}{px py pt pos:Pos}{kt k2 pt2}(hc:X.calm=true)(hN:X.N.Nodup)(ha:JA X [a,b] fa)(hi:X.N[i]?=some x:=by rfl)(hj:X.N[j]?=some y:=by rfl)(hij:i≠j:=by decide)
  (hx:X.env.scope.names.lookup x=some .local:=by rfl) (hy:X.env.scope.names.lookup y=some .local:=by rfl)
  (hw:swappedStores [.Tuple [.Name x px,.Name y py] kt pt] (.Tuple [a,b] k2 pt2) X.env=pure (some [x,y]):=by rfl)
  (hs:swapsWithSole [.Tuple [.Name x px,.Name y py] kt pt] (.Tuple [a,b] k2 pt2) pos.line X.env=pure false:=by rfl) :
  JS X (.Assign [.Tuple [.Name x px,.Name y py] kt pt] (.Tuple [a,b] k2 pt2) pos) (bR i j fa):=⟨PS.imp (uU hc hN hi hj hij hx hy ha.pa hw hs) fun E σ H h=>by
 obtain⟨Γ,μ,env,S,fl,env',S',hK,R,e,q⟩:=h
 obtain⟨⟨ds,S1⟩,e1,e⟩:=bind_some e
 match ds,e with
 |[d1,d2],e =>
  cases e
  refine⟨Γ,μ,env,S,[d1,d2],S1,hK,R,e1,fun vs μ1 H1 x1 R1 r1=>?_⟩
  cases r1 with
  |cons p q1 =>
   cases q1 with
   |cons p' q2 =>
    cases q2
    exact⟨_,_,rfl,q μ1 _ H1 x1 ((R1.Vc i p).Vc j p')⟩⟩
end VS
end
section
namespace VS
def at1(bs:List (List St2))(i w:Nat):St2:=(bs.getD i []).getD w (0,0)
def inS(p:St2)(x:Int):Bool:=decide (p.1<=x)&&decide (x<p.2)
def KN(bs:List (List St2))(w:Nat)(x:Int)(ns:List Nat):List Nat:=ns.filter fun i=>inS (at1 bs i w) x
def steps(E:List Int):List St2:=E.zip E.tail
def CP(bs:List (List St2))(w:Nat)(ns:List Nat):List Int:=FZ (ns.map (fun i=>(at1 bs i w).1)++ns.map (fun i=>(at1 bs i w).2))
def CQ(bs:List (List St2)):Nat->Nat->List Nat->List (List St2×List Nat)
 |0,_,ns=>if ns=[] then [] else [([],ns)]
 |k+1,w,ns=>if ns=[] then [] else (steps (CP bs w ns)).flatMap fun p=>(CQ bs k (w+1) (KN bs w p.1 ns)).map fun c=>(p::c.1,c.2)
def JV(g:Int->Int)(a:Int):Nat->Int
 |0=>0
 |n+1=>JV g a n+g (a+n)
def QV:List St2->Int
 |[]=>1
 |p::r=>(p.2-p.1)*QV r
def csum(F:List Nat->Int)(cs:List (List St2×List Nat)):Int:=(cs.map fun c=>QV c.1*F c.2).sum
theorem Td(g:Int->Int)(a:Int)(m:Nat):∀n:Nat,JV g a (m+n)=JV g a m+JV g (a+m) n
 |0=>by simp[JV]
 |n+1=>by
  rw[show m+(n+1)=m+n+1 by omega,JV,Td g a m n,JV,show a+((m+n:Nat):Int)=a+m+n by omega]
  omega
theorem Ld(g:Int->Int)(a v:Int):∀n:Nat,(∀x,a<=x->x<a+n->g x=v)->JV g a n=n*v
 |0,_=>by simp[JV]
 |n+1,h=>by
  rw[JV,Ld g a v n (fun x h1 h2=>h x h1 (by omega)),h (a+n) (by omega) (by omega)]
  rw[show((n+1:Nat):Int)=n+1 by omega,Int.add_mul,Int.one_mul]
theorem GP(a b:Int)(r:List Int):steps (a::b::r)=(a,b)::steps (b::r):=rfl
theorem Pa:∀{E:List Int},E.Pairwise (·<·)->∀p∈steps E,p.1<p.2/\p.1∈E/\p.2∈E/\∀e∈E,e<=p.1∨p.2<=e
 |[],_,p,h=>by simp[steps] at h
 |[a],_,p,h=>by simp[steps] at h
 |a::b::r,hp,p,h=>by
  have hab:=(U1l.mp hp).1
  have ht:=(U1l.mp hp).2
  rw[GP] at h
  rcases U0q.mp h with z|z
  .subst z
   refine⟨hab b U0u,by simp,by simp,fun e he=>?_⟩
   rcases U0q.mp he with q|q
   .left;show e<=a;omega
   .right
    show b<=e
    rcases U0q.mp q with q|q
    .omega
    .exact U74 ((U1l.mp ht).1 e q)
  .obtain⟨h1,h2,h3,h4⟩:=Pa ht p z
   refine⟨h1,U0t _ h2,U0t _ h3,fun e he=>?_⟩
   rcases U0q.mp he with q|q
   .left;rw[q];exact U74 (hab _ h2)
   .exact h4 e q
def T9(E:List Int)(g:Int->Int):Int:=((steps E).map fun p=>(p.2-p.1)*g p.1).sum
theorem W8(g:Int->Int)(B:Int):∀(r:List Int)(a:Int),(a::r).Pairwise (·<·)->(∀p∈steps (a::r),∀x,p.1<=x->x<p.2->g x=g p.1)->(∀x,(∀e∈a::r,e<=x)->g x=0)->(∀e∈a::r,e<=B)->T9 (a::r) g=JV g a (B-a).toNat
 |[],a,hp,hc,ho,hB=>by
  have:JV g a (B-a).toNat=(B-a).toNat*0:=Ld g a 0 _ fun x h1 _=>ho x (by simpa using h1)
  rw[this];simp[T9,steps]
 |b::r,a,hp,hc,ho,hB=>by
  have hab:=(U1l.mp hp).1 b U0u
  have ht:=(U1l.mp hp).2
  have hb:=hB b (by simp)
  have ih:=W8 g B r b ht (fun p h=>hc p (by rw[GP];exact U0t _ h)) (fun x h=>ho x fun e he=>by
   rcases U0q.mp he with q|q
   .have:=h b U0u;omega
   .exact h e q) fun e he=>hB e (U0t _ he)
  have e1:(B-a).toNat=(b-a).toNat+(B-b).toNat:=by omega
  have e2:JV g a (b-a).toNat=(b-a).toNat*g a:=Ld g a (g a) _ fun x h1 h2=>hc (a,b) (by rw[GP];exact U0u) x h1 (by show x<b;omega)
  have e3:(((b-a).toNat:Nat):Int)=b-a:=by omega
  rw[e1,Td,e2,e3,show a+(b-a)=b by omega,←ih]
  simp[T9,GP]
theorem fY{E:List Int}{g:Int->Int}{A:Int}{N:Nat}(hp:E.Pairwise (·<·))(hc:∀p∈steps E,∀x,p.1<=x->x<p.2->g x=g p.1)(h0:∀x,(∀e∈E,x<e)->g x=0)(h1:∀x,(∀e∈E,e<=x)->g x=0)(hb:∀e∈E,A<=e/\e<=A+N):T9 E g=JV g A N:=by
 cases E with
 |nil =>
  have:JV g A N=N*0:=Ld g A 0 _ fun x _ _=>h0 x fun e he=>by simp at he
  rw[this];simp[T9,steps]
 |cons a r =>
  have ha:=hb a U0u
  rw[W8 g (A+N) r a hp hc h1 fun e he=>(hb e he).2]
  have e1:N=(a-A).toNat+(A+N-a).toNat:=by omega
  have e2:JV g A (a-A).toNat=(a-A).toNat*0:=Ld g A 0 _ fun x _ h2=>h0 x fun e he=>by
   rcases U0q.mp he with q|q
   .omega
   .have:=(U1l.mp hp).1 e q;omega
  have e3:A+(((a-A).toNat:Nat):Int)=a:=by omega
  conv=>rhs;rw[e1,Td,e2,e3]
  simp
theorem Jd{ns:List Int}{x:Int}:x∈FZ ns↔x∈ns:=(U5k _ _).mem_iff.trans ((SetP.Ol ns).2.2 x)
theorem Nt(ns:List Int):(FZ ns).Pairwise (·<·):=by
 obtain⟨o1,o2,o3⟩:=SetP.Ol ns
 have hp:(FZ ns).Perm (SetP.once ns):=U5k _ _
 have hs:(FZ ns).Pairwise (·<=·):=by
  have:=List.pairwise_mergeSort (le:=fun a b:Int=>decide (a<=b)) (by intro a b c h1 h2;simp at *;omega) (by intro a b;simp;omega) (SetP.once ns)
  exact this.imp fun h=>by simpa using h
 exact(hs.and (hp.nodup_iff.mpr o1)).imp fun⟨h,n⟩=>by omega
theorem Je(ns:List Int):(FZ ns).length<=ns.length:=by
 obtain⟨o1,o2,o3⟩:=SetP.Ol ns
 have hp:(FZ ns).Perm (SetP.once ns):=U5k _ _
 rw[hp.length_eq];omega
theorem M6{p:St2}{x:Int}:inS p x=true↔p.1<=x/\x<p.2:=by simp[inS]
def Wide(bs:List (List St2))(A:Int)(N:Nat)(w k:Nat)(ns:List Nat):Prop:=∀i∈ns,∀v,w<=v->v<w+k->(at1 bs i v).1<(at1 bs i v).2/\A<=(at1 bs i v).1/\(at1 bs i v).2<=A+N
theorem Wide.sub{bs:List (List St2)}{A:Int}{N w k:Nat}{ns ms:List Nat}(h:Wide bs A N w (k+1) ns)(hs:∀i∈ms,i∈ns):Wide bs A N (w+1) k ms:=fun i hi v h1 h2=>h i (hs i hi) v (by omega) (by omega)
theorem dO{bs:List (List St2)}{w:Nat}{ns:List Nat}:∀i∈ns,(at1 bs i w).1∈CP bs w ns/\(at1 bs i w).2∈CP bs w ns:=fun i hi =>
 ⟨Jd.mpr (U3g _ (U5m hi)),Jd.mpr (U1h _ (U5m hi))⟩
theorem Wm{bs:List (List St2)}{w:Nat}{ns:List Nat}{e:Int}(h:e∈CP bs w ns):∃i∈ns,e=(at1 bs i w).1∨e=(at1 bs i w).2:=by
 rcases U1k.mp (Jd.mp h) with z|z
 .obtain⟨i,hi,e⟩:=U1t.mp z;exact⟨i,hi,.inl e.symm⟩
 .obtain⟨i,hi,e⟩:=U1t.mp z;exact⟨i,hi,.inr e.symm⟩
theorem QB{bs:List (List St2)}{A:Int}{N w k:Nat}{ns:List Nat}(hw:Wide bs A N w (k+1) ns):∀e∈CP bs w ns,A<=e/\e<=A+N:=fun e he=>by
 obtain⟨i,hi,q⟩:=Wm he
 have:=hw i hi w (U0o _) (by omega)
 omega
def Rm(bs:List (List St2)):Nat->List Int->List Nat->List Nat
 |_,[],ns=>ns
 |w,x::xs,ns=>Rm bs (w+1) xs (KN bs w x ns)
def lows(c:List St2):List Int:=c.map fun p=>p.1
def own1(i:Nat)(ns:List Nat):Int:=if ns=[i] then 1 else 0
def ownStep(acc:List Int)(c:List St2×List Nat):List Int:=match c.2 with|[i]=>acc.set i (acc.getD i 0+QV c.1)|_=>acc
theorem SX(acc:List Int)(c:List St2×List Nat):(ownStep acc c).length=acc.length:=by
 unfold ownStep;split<;>simp
theorem cW(acc:List Int)(c:List St2×List Nat)(j:Nat)(hj:j<acc.length):(ownStep acc c).getD j 0=acc.getD j 0+QV c.1*own1 j c.2:=by
 unfold ownStep own1
 split
 .rename_i i e
  rw[e]
  by_cases q:i=j
  .subst q
   simp[hj]
  .have:¬([i]=[j]):=fun z=>q (by simpa using z)
   rw[if_neg this]
   simp[U0k,U21 q]
 .rename_i h
  have:¬(c.2=[j]):=fun z=>h j z
  rw[if_neg this];simp
theorem Xp:∀(cs:List (List St2×List Nat))(acc:List Int)(j:Nat),j<acc.length->(cs.foldl ownStep acc).getD j 0=acc.getD j 0+csum (own1 j) cs
 |[],acc,j,_=>by simp[csum]
 |c::cs,acc,j,hj=>by
  rw[U1v,Xp cs _ j (by rw[SX];exact hj),cW acc c j hj]
  simp only[csum,U0m,U3o]
  omega
theorem O6:∀(cs:List (List St2×List Nat))(acc:List Int),(cs.foldl ownStep acc).length=acc.length
 |[],_=>rfl
 |c::cs,acc=>by rw[U1v,O6 cs,SX]
theorem zX{cs ds:List (List St2×List Nat)}(acc:List Int)(h:∀j,csum (own1 j) cs=csum (own1 j) ds):cs.foldl ownStep acc=ds.foldl ownStep acc:=by
 refine U7g (by rw[O6,O6]) fun j h1 h2=>?_
 rw[O6] at h1
 have:=Xp cs acc j h1
 have q:=Xp ds acc j h1
 rw[h j,←q] at this
 rw[U0k,U0k,U0g (by rw[O6];exact h1),U0g (by rw[O6];exact h1)] at this
 exact this
end VS
end
section
namespace VS
def Vh{α:Type}:List (List α)->List (List α)
 |[]=>[[]]
 |l::r=>l.flatMap fun x=>(Vh r).map (x::·)
def Cov(bs:List (List St2))(A:Int)(N:Nat):Nat->List (List Int)->List Nat->Prop
 |_,[],_=>True
 |w,E::r,ns=>(E.Pairwise (·<·)/\(∀i∈ns,(at1 bs i w).1∈E/\(at1 bs i w).2∈E)/\∀e∈E,A<=e/\e<=A+N)/\Cov bs A N (w+1) r ns
theorem WD:∀(c:List St2),(∀p∈c,p.1<p.2)->0<QV c
 |[],_=>by decide
 |p::r,h=>by
  have h1:=h p U0u
  exact Int.mul_pos (by omega) (WD r fun q hq=>h q (U0t _ hq))
end VS
end
section
namespace VS
def Eh(acc:List St2)(p:St2):List St2:=match acc.getLast? with
 |some q=>if q.2=p.1 then acc.dropLast++[(q.1,p.2)] else acc++[p]
 |none=>acc++[p]
def Ib(l:List St2):Int:=(l.map fun p=>p.2-p.1).sum
theorem Qf(a b:List St2):Ib (a++b)=Ib a+Ib b:=by unfold Ib;rw[U1b,List.sum_append]
theorem Qd(p:St2):Ib [p]=p.2-p.1:=by simp[Ib]
theorem ZR(acc:List St2)(p:St2):Ib (Eh acc p)=Ib acc+(p.2-p.1):=by
 rcases U4 acc with rfl|⟨l,q,rfl⟩
 .simp[Eh,Ib]
 .rw[U4a]
  unfold Eh
  rw[U3x]
  show Ib (if q.2=p.1 then _ else _)=_
  split
  .rename_i h
   rw[U3y,Qf,Qd,Qf,Qd]
   show _+(p.2-q.1)=_
   omega
  .rw[Qf,Qd]
theorem Yi:∀(l acc:List St2),Ib (l.foldl Eh acc)=Ib acc+Ib l
 |[],acc=>by simp[Ib]
 |p::r,acc=>by
  rw[U1v,Yi r,ZR]
  show _=Ib acc+Ib ([p]++r)
  rw[Qf,Qd,Int.add_assoc]
abbrev Tr3:=Int×Int×Int
def Bp(acc:List Tr3)(p:Tr3):List Tr3:=match acc.getLast? with
 |some q=>if q.2.1=p.1/\q.2.2=p.2.2 then acc.dropLast++[(q.1,p.2.1,p.2.2)] else acc++[p]
 |none=>acc++[p]
def S1(vs:List St2):Int:=((steps (FZ (vs.map (fun p=>p.1)++vs.map fun p=>p.2))).map fun p=>(p.2-p.1)*(if vs.any (fun v=>inS v p.1) then 1 else 0)).sum
def szs(cs:List (List St2×List Nat)):Int:=(cs.map fun c=>QV c.1).sum
theorem YB{α:Type}(f:α->List (List St2×List Nat)):∀l:List α,szs (l.flatMap f)=(l.map fun a=>szs (f a)).sum
 |[]=>rfl
 |a::r=>by
  have:=YB f r
  unfold szs at this ⊢
  rw[U7a,U1b,List.sum_append,this,U0m,U3o]
theorem jd(p:St2)(cs:List (List St2×List Nat)):szs (cs.map fun c=>(p::c.1,c.2))=(p.2-p.1)*szs cs:=by
 unfold szs
 induction cs with
 |nil=>simp
 |cons c r ih =>
  rw[U0m,U0m,U3o,ih,U0m,U3o,Int.mul_add]
  rfl
theorem dW(bs:List (List St2))(w:Nat)(ns:List Nat):szs (CQ bs 1 w ns)=S1 (ns.map fun i=>at1 bs i w):=by
 rw[CQ]
 split
 .rename_i h
  subst h
  have:FZ ([]:List Int)=[]:=U29.mp (Nat.le_zero.mp (Je []))
  simp[S1,szs,this,steps]
 .rw[YB]
  unfold S1 CP
  rw[U0d,U0d]
  refine congrArg List.sum (List.map_congr_left fun p _=>?_)
  rw[jd]
  congr 1
  rw[CQ]
  have e:(ns.map fun i=>at1 bs i w).any (fun v=>inS v p.1)=!decide (KN bs w p.1 ns=[]):=by
   rw[U26,List.any_map,U5c,Bool.not_eq_true',decide_eq_false_iff_not]
   unfold KN
   rw[U47]
   simp
  rw[e]
  split
  .rename_i h;rw[decide_eq_true h];rfl
  .rename_i h;rw[decide_eq_false h];rfl
end VS
end
section
namespace VS
theorem iH(acc:List Tr3)(a c b l:Int):Bp (Bp acc (a,c,l)) (c,b,l)=Bp acc (a,b,l):=by
 have key:∀(pre:List Tr3)(q:Int),Bp (pre++[(q,c,l)]) (c,b,l)=pre++[(q,b,l)]:=by
  intro pre q
  unfold Bp
  rw[U3x]
  show(if c=c/\l=l then _ else _)=_
  rw[if_pos ⟨rfl,rfl⟩,U3y];rfl
 rcases U4 acc with rfl|⟨r,q,rfl⟩
 .exact key [] a
 .rw[U4a]
  have e:∀z:Int,Bp (r++[q]) (a,z,l)=if q.2.1=a/\q.2.2=l then r++[(q.1,z,l)] else r++[q]++[(a,z,l)]:=by
   intro z
   unfold Bp
   rw[U3x]
   show(if q.2.1=a/\q.2.2=l then (r++[q]).dropLast++[(q.1,z,l)] else _)=_
   rw[U3y]
  rw[e,e]
  split
  .exact key r q.1
  .exact key (r++[q]) a
def Hj(L:Int->Int)(acc:List Tr3)(p:St2):List Tr3:=if 0<L p.1 then Bp acc (p.1,p.2,L p.1) else acc
theorem iV(L:Int->Int){a c d:Int}(r:List Int)(acc:List Tr3)(h:L c=L a):(steps (a::c::d::r)).foldl (Hj L) acc=(steps (a::d::r)).foldl (Hj L) acc:=by
 rw[GP,GP,GP,U1v,U1v,U1v]
 congr 1
 unfold Hj
 simp only[h]
 split
 .exact iH ..
 .rfl
theorem Mt(L:Int->Int):∀(r:List Int)(a:Int)(E:List Int)(acc:List Tr3),(a::r).Pairwise (·<·)->E.Sublist r->(∀p x,a<=p->p<=x->(∀e∈E,¬(p<e/\e<=x))->L x=L p)->(∀x,a<=x->(∀e∈E,e<=x)->L x=0) ->
  (steps (a::r)).foldl (Hj L) acc=(steps (a::E)).foldl (Hj L) acc
 |[],a,E,acc,_,hs,_,_=>by rw[List.sublist_nil.mp hs]
 |c::r,a,E,acc,hp,hs,hc,hz=>by
  obtain⟨p1,p2⟩:=U1l.mp hp
  obtain⟨p3,p4⟩:=U1l.mp p2
  have hac:=p1 c U0u
  cases hs with
  |cons _ hs =>
   have ih:=Mt L r a E acc (U1l.mpr ⟨fun x hx=>p1 x (U0t _ hx),p4⟩) hs hc hz
   rw[←ih]
   cases r with
   |nil =>
    have hE:E=[]:=List.sublist_nil.mp hs
    have h0:=hz a (Int.le_refl _) (by rw[hE];intro e he;cases he)
    show Hj L acc (a,c)=acc
    unfold Hj
    rw[if_neg (by show ¬(0<L a);omega)]
   |cons d r =>
    refine iV L r acc (hc a c (Int.le_refl _) (by omega) fun e he q=>?_)
    have:=p3 e (hs.subset he)
    omega
  |cons_cons _ hs =>
   rename_i E'
   rw[GP,GP,U1v,U1v]
   refine Mt L r c E' _ p2 hs (fun p x h1 h2 h3=>hc p x (by omega) h2 fun e he q=>?_) (fun x h1 h2=>hz x (by omega) fun e he=>?_)
   .rcases U0q.mp he with z|z
    .omega
    .exact h3 e z q
   .rcases U0q.mp he with z|z
    .omega
    .exact h2 e z
theorem Ua:∀(M E:List Int),M.Pairwise (·<·)->E.Pairwise (·<·)->(∀e∈E,e∈M)->E.Sublist M
 |[],E,_,_,h=>by
  cases E with
  |nil=>exact U6m.refl _
  |cons e r=>exact absurd (h e U0u) (by simp)
 |m::M,[],_,_,_=>List.nil_sublist _
 |m::M,e::E,hM,hE,h=>by
  obtain⟨a1,a2⟩:=U1l.mp hM
  obtain⟨b1,b2⟩:=U1l.mp hE
  rcases U0q.mp (h e U0u) with z|z
  .subst z
   refine U6m.cons₂ _ (Ua M E a2 b2 fun x hx=>?_)
   rcases U0q.mp (h x (U0t _ hx)) with y|y
   .have:=b1 x hx;omega
   .exact y
  .refine U6m.cons _ (Ua M (e::E) a2 hE fun x hx=>?_)
   rcases U0q.mp (h x hx) with y|y
   .have h1:=a1 e z
    rcases U0q.mp hx with q|q
    .omega
    .have:=b1 x q;omega
   .exact y
theorem iw{L:Int->Int}{M E:List Int}(hM:M.Pairwise (·<·))(hE:E.Pairwise (·<·))(hs:∀e∈E,e∈M)(hc:∀p x,p<=x->(∀e∈E,¬(p<e/\e<=x))->L x=L p)(h0:∀x,(∀e∈E,x<e)->L x=0)(h1:∀x,(∀e∈E,e<=x)->L x=0)(acc:List Tr3) :
  (steps M).foldl (Hj L) acc=(steps E).foldl (Hj L) acc:=by
 cases M with
 |nil =>
  cases E with
  |nil=>rfl
  |cons e r=>exact absurd (hs e U0u) (by simp)
 |cons a r =>
  obtain⟨p1,p2⟩:=U1l.mp hM
  cases E with
  |nil=>exact Mt L r a [] acc hM (List.nil_sublist _) (fun p x _ h2 h3=>hc p x h2 h3) (fun x _ h2=>h1 x h2)
  |cons e E =>
   obtain⟨q1,q2⟩:=U1l.mp hE
   by_cases h:a=e
   .subst h
    refine Mt L r a E acc hM (Ua r E p2 q2 fun x hx=>?_) (fun p x k1 k2 k3=>hc p x k2 fun y hy z=>?_) (fun x k1 k2=>h1 x fun y hy=>?_)
    .rcases U0q.mp (hs x (U0t _ hx)) with y|y
     .have:=q1 x hx;omega
     .exact y
    .rcases U0q.mp hy with w|w
     .omega
     .exact k3 y w z
    .rcases U0q.mp hy with w|w
     .omega
     .exact k2 y w
   .have hae:∀x∈e::E,x∈r:=fun x hx=>by
     rcases U0q.mp (hs x hx) with y|y
     .rcases U0q.mp hx with w|w
      .omega
      .have k:=q1 x w
       rcases U0q.mp (hs e U0u) with u|u
       .omega
       .have:=p1 e u;omega
     .exact y
    rw[Mt L r a (e::E) acc hM (Ua r (e::E) p2 hE hae) (fun p x _ k2 k3=>hc p x k2 k3) (fun x _ k2=>h1 x k2),GP,U1v]
    have z:=h0 a fun x hx=>p1 x (hae x hx)
    congr 1
    unfold Hj
    rw[if_neg (by show ¬(0<L a);omega)]
theorem mU{vs:List St2}{M:List Int}{A:Int}{N:Nat}(hM:M.Pairwise (·<·))(hs:∀v∈vs,v.1∈M/\v.2∈M)(hb:∀e∈M,A<=e/\e<=A+N):S1 vs=((steps M).map fun p=>(p.2-p.1)*(if vs.any (fun v=>inS v p.1) then 1 else 0)).sum:=by
 have key:∀E:List Int,E.Pairwise (·<·)->(∀v∈vs,v.1∈E/\v.2∈E)->(∀e∈E,A<=e/\e<=A+N)->T9 E (fun x=>if vs.any (fun v=>inS v x) then 1 else 0)=JV (fun x=>if vs.any (fun v=>inS v x) then 1 else 0) A N:=by
  intro E h1 h2 h3
  have non:∀x:Int,(∀v∈vs,inS v x=false)->(if vs.any (fun v=>inS v x) then (1:Int) else 0)=0:=fun x hx=>by
   rw[if_neg]
   rw[U5c]
   rintro⟨v,hv,k⟩
   rw[hx v hv] at k;cases k
  refine fY h1 (fun p hp x k1 k2=>?_) (fun x hx=>non x fun v hv=>?_) (fun x hx=>non x fun v hv=>?_) h3
  .have e:vs.any (fun v=>inS v x)=vs.any (fun v=>inS v p.1):=by
    obtain⟨s1,s2,s3,s4⟩:=Pa h1 p hp
    rw[U26,U5c,U5c]
    constructor
    .rintro⟨v,hv,k⟩
     obtain⟨y1,y2⟩:=M6.mp k
     refine⟨v,hv,M6.mpr ⟨?_,by omega⟩⟩
     rcases s4 _ (h2 v hv).1 with z|z<;>omega
    .rintro⟨v,hv,k⟩
     obtain⟨y1,y2⟩:=M6.mp k
     refine⟨v,hv,M6.mpr ⟨by omega,?_⟩⟩
     rcases s4 _ (h2 v hv).2 with z|z<;>omega
   rw[e]
  .have:=hx _ (h2 v hv).1
   rw[Bool.eq_false_iff]
   intro k
   have:=M6.mp k
   omega
  .have:=hx _ (h2 v hv).2
   rw[Bool.eq_false_iff]
   intro k
   have:=M6.mp k
   omega
 have k1:=key M hM hs hb
 have k2:=key (FZ (vs.map (fun p=>p.1)++vs.map fun p=>p.2)) (Nt _) (fun v hv=>⟨Jd.mpr (U3g _ (U5m (f:=fun p:St2=>p.1) hv)),Jd.mpr (U1h _ (U5m (f:=fun p:St2=>p.2) hv))⟩) (fun e he=>by
  rcases U1k.mp (Jd.mp he) with h|h
  .obtain⟨v,hv,rfl⟩:=U1t.mp h
   exact hb _ (hs v hv).1
  .obtain⟨v,hv,rfl⟩:=U1t.mp h
   exact hb _ (hs v hv).2)
 unfold T9 at k1 k2
 unfold S1
 rw[k2,←k1]
end VS
end
section
namespace W14
open PySem L2 VS
def V4:Ba :=
 (Dk (Vg (eCB Ks (Aa (Ab 0) (Aa (eC (.ty "int")) Ae))) (jG (eCB Ks (Aa (Ab 0) (Aa (eC (.ty "bool")) Ae))))))
def Cu:Cz:=En 1 1 V4
def V6:Ba :=
 (Dk (Vg (BR Cu (Aa (Ab 0) Ae)) (eUn (Xg Bc.D3) (Ab 0))))
def Ey:Cz:=En 1 1 V6
def Rc:Ba :=
 (Bm (sIf (tOr (JR (BK (eCB Ks (Aa (Ab 0) (Aa (eC (.ty "tuple")) Ae))))) (BK (eOp (oEq true) (eCB Ef (Aa (Ab 0) Ae)) (eC (.int 2)))))
  (Dk (eC (.bl false)))
  Dh)
  (Dk (Vg (BR Cu (Aa (eOp oIx (Ab 0) (eC (.int 0))) Ae)) (Vg (BR Cu (Aa (eOp oIx (Ab 0) (eC (.int 1))) Ae)) (eOp oLt (eOp oIx (Ab 0) (eC (.int 0))) (eOp oIx (Ab 0) (eC (.int 1))))))))
def Hf:Cz:=En 1 1 Rc
def RN:Bf :=
 DK 1 [] (Dp (Ab 1)) (Pat.sem (.nm 0)) G3 (BR Hf (Aa (Ab 0) Ae))
def Yq:Ba :=
 (Bm (sIf (tOr (JR (BK (BR Ey (Aa (Ab 0) Ae)))) (tOr (JR (BK (eCB Ks (Aa (Ab 1) (Aa (eC (.ty "tuple")) Ae))))) (BK (eOp (oEq true) (eCB Ef (Aa (Ab 1) Ae)) (Ab 0)))))
  (Dk (eC (.bl false)))
  Dh)
  (Dk (eCB Ob (Aa (Bt RN) Ae))))
def Jm:Cz:=En 2 2 Yq
def Qm:Bf :=
 DK 1 [1] (Dp (Ab 2)) (Pat.sem (.nm 0)) G3 (BR Jm (Aa (Ab 1) (Aa (Ab 0) Ae)))
def Wh:Ba :=
 (Bm (sIf (tOr (JR (BK (eCB Ks (Aa (Ab 0) (Aa (eC (.ty "tuple")) Ae))))) (BK (eOp (oEq true) (eCB Ef (Aa (Ab 0) Ae)) (eC (.int 2)))))
  (Dk (eC (.bl false)))
  Dh)
  (Bm (Bj 1 (eOp oIx (Ab 0) (eC (.int 0))))
  (Bm (Bj 2 (eOp oIx (Ab 0) (eC (.int 1))))
  (Bm (sIf (tOr (JR (BK (BR Ey (Aa (Ab 1) Ae)))) (tOr (JR (BK (eCB Ks (Aa (Ab 2) (Aa (eC (.ty "list")) Ae))))) (BK (eOp oGt (eCB Ef (Aa (Ab 2) Ae)) (eUn (Uh Bc.D3) (Ab 1))))))
  (Dk (eC (.bl false)))
  Dh)
  (Dk (eCB Ob (Aa (Bt Qm) Ae)))))))
def J7:Cz:=En 1 3 Wh
def Ss:Ba :=
 (sIf (JR (BK (BR J7 (Aa (Ab 0) Ae))))
  Kz
  Dh)
def El:Cz:=En 1 1 Ss
def Sq:Ba :=
 (Bm (Fb (BR El (Aa (Ab 0) Ae)))
  (sIf (BK (eOp (oEq true) (eOp oIx (Ab 0) (eC (.int 0))) (Ab 1)))
  Kz
  Dh))
def Ez:Cz:=En 2 2 Sq
def Nb:Bf :=
 DK 1 [1] (Dp (Ab 0)) (Pat.sem (.nm 0)) G3 (eOp oIx (eOp oIx (Ab 0) (Ab 1)) (eC (.int 0)))
def NZ:Bf :=
 DK 1 [1] (Dp (Ab 0)) (Pat.sem (.nm 0)) G3 (eOp oIx (eOp oIx (Ab 0) (Ab 1)) (eC (.int 1)))
def Rf:Ba :=
 (Dk (Tj (eOp Dd (Bt Nb) (Bt NZ))))
def Hg:Cz:=En 2 2 Rf
def NT:Ba :=
 (Bm (Bj 2 (BR Hg (Aa (Ab 0) (Aa (Ab 1) Ae))))
  (Dk (Oq (Aa (Ab 2) (Aa (eSl oSl (Ab 2) (GD (eC (.int 1))) GF) Ae)))))
def Cy:Cz:=En 2 3 NT
def KC(rec:Cz):Bf :=
 DK 1 [0] (Dp (Ab 1)) (Pat.sem (.nm 0)) G3 (eOp oIx (Ab 1) (Ab 0))
def K9(rec:Cz):Bf :=
 DK 1 [0,2,5] (Dp (Ab 1)) (Pat.sem (.nm 0)) (BK (RB oLe oLt (eOp oIx (eOp oIx (eOp oIx (Ab 1) (Ab 0)) (Ab 2)) (eC (.int 0))) (Ab 3) (eOp oIx (eOp oIx (eOp oIx (Ab 1) (Ab 0)) (Ab 2)) (eC (.int 1))))) (Ab 0)
def KH(rec:Cz):Ba :=
 (Fb (Dt Ed (Ab 4) (Aa (BZ (Aa (eOp Dd (BZ (Aa (BZ (Aa (Ab 5) (Aa (Ab 6) Ae))) Ae)) (Ab 8)) (Aa (Ab 9) Ae))) Ae)))
def Ng(rec:Cz):Ba :=
 JL (Dp (BR rec (Aa (Ab 0) (Aa (Ab 7) (Aa (eOp Dd (Ab 2) (eC (.int 1))) (Aa (Ab 3) Ae)))))) (Pat.sem (.tp [(.nm 8),(.nm 9)]))
  (KH rec)
def KD(rec:Cz):Ba :=
 (Bm (Bj 7 (Bt (K9 rec)))
  (Ng rec))
def Nf(rec:Cz):Ba :=
 JL (Dp (BR Cy (Aa (Bt (KC rec)) (Aa (Ab 2) Ae)))) (Pat.sem (.tp [(.nm 5),(.nm 6)]))
  (KD rec)
def Lk(rec:Cz):Ba :=
 (Bm (sIf (BK (eOp (oEq false) (eCB Ef (Aa (Ab 1) Ae)) (eC (.int 0))))
  (Dk (Bt Ae))
  Dh)
  (Bm (sIf (BK (eOp (oEq false) (Ab 2) (Ab 3)))
  (Dk (Bt (Aa (BZ (Aa (BZ Ae) (Aa (Ab 1) Ae))) Ae)))
  Dh)
  (Bm (Bj 4 (G5 Ae))
  (Bm (Nf rec)
  (Dk (Ab 4))))))
def Cd:Nat->Cz
 |0=>fun _=>none
 |n+1=>En 4 10 (Lk (Cd n))
def V5:Ba :=
 (Dk (BR (Cd 4) (Aa (eOp oIx (Ab 0) (eC (.int 1))) (Aa (Hx (Aa (eCB Ef (Aa (eOp oIx (Ab 0) (eC (.int 1))) Ae)) Ae)) (Aa (eC (.int 0)) (Aa (eOp oIx (Ab 0) (eC (.int 0))) Ae))))))
def Gg:Cz:=En 1 1 V5
def Ph:Ba :=
 (sIf (G4 (BK (eOp oGt (eCB Ef (Aa (Ab 1) Ae)) (eC (.int 0)))) (BK (eOp (oEq false) (eOp oIx (eOp oIx (Ab 1) (eUn Em (eC (.int 1)))) (eC (.int 1))) (Ab 2))))
  (Ie (BZ (Aa (eOp oIx (eOp oIx (Ab 1) (eUn Em (eC (.int 1)))) (eC (.int 0))) (Aa (Ab 3) Ae))) (Ab 1) (eUn Em (eC (.int 1))))
  (Fb (Dt Ed (Ab 1) (Aa (BZ (Aa (Ab 2) (Aa (Ab 3) Ae))) Ae))))
def RM:Ba :=
 JL (Dp (Ab 0)) (Pat.sem (.tp [(.nm 2),(.nm 3)]))
  Ph
def Yp:Ba :=
 (Bm (Bj 1 (G5 Ae))
  (Bm RM
  (Dk (Ab 1))))
def Jl:Cz:=En 1 4 Yp
def MN:Bf :=
 DK 2 [1] (Dp (BR Gg (Aa (Ab 0) Ae))) (Pat.sem (.tp [(.nm 0),(.nm 1)])) (BK (eOp oGe (eCB Ef (Aa (Ab 1) Ae)) (Ab 2))) (eOp oIx (Ab 0) (eC (.int 0)))
def Qt:Ba :=
 (Dk (BR Jl (Aa (Bt MN) Ae)))
def Fo:Cz:=En 2 2 Qt
def Sh:Ba :=
 (Bm (Fb (BR Ez (Aa (Ab 0) (Aa (eC (.int 1)) Ae))))
  (Dk (BR Fo (Aa (Ab 0) (Aa (eC (.int 1)) Ae)))))
def Fx:Cz:=En 1 1 Sh
def Jx:Bf :=
 DK 2 [] (Dp (BR Fx (Aa (Ab 0) Ae))) (Pat.sem (.tp [(.nm 0),(.nm 1)])) G3 (eOp Dy (Ab 1) (Ab 0))
def PJ:Ba :=
 (Dk (eCB bf (Aa (Bt Jx) Ae)))
def Ec:Cz:=En 1 1 PJ
def V1:Ba :=
 (sIf (tOr (JR (BK (BR Cu (Aa (Ab 1) Ae)))) (tOr (BK (eOp oLt (Ab 1) (eC (.int 0)))) (BK (eOp oGe (Ab 1) (eOp oIx (Ab 0) (eC (.int 0)))))))
  Kz
  Dh)
def Ew:Cz:=En 2 2 V1
def Ln:Bf :=
 DK 1 [1,2] (Dp (Ab 0)) (Pat.sem (.nm 0)) (BK (RB oLe oLt (eOp oIx (eOp oIx (Ab 0) (Ab 1)) (eC (.int 0))) (Ab 2) (eOp oIx (eOp oIx (Ab 0) (Ab 1)) (eC (.int 1))))) (Ab 0)
def Ox:Bf :=
 DK 1 [1] (Dp (Ab 3)) (Pat.sem (.nm 0)) G3 (eOp Dd (eSl oSl (Ab 0) GF (GD (Ab 1))) (eSl oSl (Ab 0) (GD (eOp Dd (Ab 1) (eC (.int 1)))) GF))
def Sy:Ba :=
 (Bm (Bj 3 (Bt Ln))
  (Dk (Bt Ox)))
def Gw:Cz:=En 3 4 Sy
def Yr:Ba :=
 (Bm (Fb (BR El (Aa (Ab 0) Ae)))
  (Bm (sIf (BK (eOp (oEq false) (eOp oIx (Ab 0) (eC (.int 0))) (eC (.int 1))))
  Kz
  Dh)
  (Bm (Fb (BR Ew (Aa (Ab 0) (Aa (Ab 1) Ae))))
  (Bm (sIf (JR (BK (BR Cu (Aa (Ab 2) Ae))))
  Kz
  Dh)
  (Dk (BZ (Aa (eOp Dy (eOp oIx (Ab 0) (eC (.int 0))) (eC (.int 1))) (Aa (BR Gw (Aa (eOp oIx (Ab 0) (eC (.int 1))) (Aa (Ab 1) (Aa (Ab 2) Ae)))) Ae))))))))
def HN:Cz:=En 3 3 Yr
def JQ:Ba :=
 (sIf (G4 (BK (eOp oGt (eCB Ef (Aa (Ab 1) Ae)) (eC (.int 0)))) (G4 (BK (eOp (oEq false) (eOp oIx (eOp oIx (Ab 1) (eUn Em (eC (.int 1)))) (eC (.int 1))) (Ab 2))) (BK (eOp (oEq false) (eOp oIx (eOp oIx (Ab 1) (eUn Em (eC (.int 1)))) (eC (.int 2))) (Ab 4)))))
  (Ie (BZ (Aa (eOp oIx (eOp oIx (Ab 1) (eUn Em (eC (.int 1)))) (eC (.int 0))) (Aa (Ab 3) (Aa (Ab 4) Ae)))) (Ab 1) (eUn Em (eC (.int 1))))
  (Fb (Dt Ed (Ab 1) (Aa (BZ (Aa (Ab 2) (Aa (Ab 3) (Aa (Ab 4) Ae)))) Ae))))
def Lq:Ba :=
 JL (Dp (Ab 0)) (Pat.sem (.tp [(.nm 2),(.nm 3),(.nm 4)]))
  JQ
def QS:Ba :=
 (Bm (Bj 1 (G5 Ae))
  (Bm Lq
  (Dk (Ab 1))))
def FQ:Cz:=En 1 5 QS
def Ia:Ba :=
 (Bm (Bj 5 (BR Ec (Aa (BR HN (Aa (Ab 0) (Aa (Ab 1) (Aa (Ab 3) Ae)))) Ae)))
  (sIf (BK (eOp oGt (Ab 5) (eC (.int 0))))
  (Fb (Dt Ed (Ab 2) (Aa (BZ (Aa (Ab 3) (Aa (Ab 4) (Aa (Ab 5) Ae)))) Ae)))
  Dh))
def Jw:Ba :=
 JL (Dp (BR Cy (Aa (eOp oIx (Ab 0) (eC (.int 1))) (Aa (Ab 1) Ae)))) (Pat.sem (.tp [(.nm 3),(.nm 4)]))
  Ia
def PB:Ba :=
 (Bm (Fb (BR Ez (Aa (Ab 0) (Aa (eC (.int 2)) Ae))))
  (Bm (Fb (BR Ew (Aa (Ab 0) (Aa (Ab 1) Ae))))
  (Bm (Bj 2 (G5 Ae))
  (Bm Jw
  (Dk (BR FQ (Aa (Ab 2) Ae)))))))
def Cv:Cz:=En 2 6 PB
def Sw:Ba :=
 (Bm (Bj 2 (eOp oMod (eOp Ju (eOp Dd (eOp Dd (eOp oMod (Ab 0) (eC (.int 2147483647))) (eOp Ju (eC (.int 7919)) (Ab 1))) (eC (.int 1))) (eC (.int 48271))) (eC (.int 2147483647))))
  (Bm (Bj 2 (eOp oMod (eOp Ju (Ab 2) (Ab 2)) (eC (.int 2147483629))))
  (Dk (eOp oDiv (eOp oMod (eOp Ju (eOp Dd (Ab 2) (eOp Ju (eC (.int 40692)) (eOp Dd (Ab 1) (eC (.int 3))))) (eC (.int 69621))) (eC (.int 2147483579))) (eC (.int 8))))))
def Hq:Cz:=En 2 3 Sw
def Wd:Ba :=
 (Dk (Bt (Aa (eOp Nm (eOp oMod (Ab 0) (eOp Nm (eOp Nm (eOp Nm (eOp Fd (eC (.int 10)) (eC (.int 50))) (eOp Fd (eC (.int 10)) (eC (.int 50)))) (eOp Fd (eC (.int 10)) (eC (.int 50)))) (eOp Fd (eC (.int 10)) (eC (.int 50))))) (eCB Py (Aa (eOp oGe (Ab 0) (eOp Fd (eC (.int 10)) (eC (.int 18)))) Ae))) (Aa (Ab 0) (Aa (eC (.int 0)) Ae)))))
def Hz:Cz:=En 1 1 Wd
def Qn:Ba :=
 (Bm (Ie (eOp Dd (eOp oIx (Ab 0) (eC (.int 2))) (eC (.int 1))) (Ab 0) (eC (.int 2)))
  (Bm (sIf (BK (eOp oGt (eOp oIx (Ab 0) (eC (.int 0))) (eC (.int 0))))
  (Bm (Bj 2 (eOp oMod (eOp oIx (Ab 0) (eC (.int 0))) (Ab 1)))
  (Bm (Ie (eOp oDiv (eOp oIx (Ab 0) (eC (.int 0))) (Ab 1)) (Ab 0) (eC (.int 0)))
  (Dk (Ab 2))))
  Dh)
  (Dk (eOp oMod (BR Hq (Aa (eOp oIx (Ab 0) (eC (.int 1))) (Aa (eOp oIx (Ab 0) (eC (.int 2))) Ae))) (Ab 1)))))
def Ao:JX:=runM 2 3 Qn
def Lp:Bf :=
 DK 1 [2,0] (Dp (Ab 1)) (Pat.sem (.nm 0)) G3 (Dt Od (Ab 1) (Aa (Bg Ao (Aa (Ab 2) (Aa (eCB Ef (Aa (Ab 1) Ae)) Ae))) Ae))
def QM:Ba :=
 (Bm (Bj 2 (Xb nList (Aa (Ab 1) Ae)))
  (Dk (Bt Lp)))
def FP:JX:=runM 2 3 QM
def NQ:Bf :=
 DK 2 [] (Dp (Ab 6)) (Pat.sem (.tp [(.nm 0),(.nm 1)])) G3 (BZ (Aa (eCB UW (Aa (Ab 0) (Aa (Ab 1) Ae))) (Aa (eCB Xd (Aa (Ab 0) (Aa (Ab 1) Ae))) Ae)))
def K8:Ba :=
 (Bm (Bj 5 (Bg FP (Aa (Ab 0) (Aa (Hx (Aa (eOp Ju (eC (.int 2)) (Ab 2)) Ae)) Ae))))
  (Bm (Bj 6 (Oq (Aa (eUn (PL 0) (Ab 5)) (Aa (eUn (PL 1) (Ab 5)) Ae))))
  (Fb (Dt Ed (Ab 3) (Aa (Bt NQ) Ae)))))
def NK:Ba :=
 JL (Ej (Aa (Ab 1) Ae)) (Pat.sem (.nm 4))
  K8
def K7:Bf :=
 DK 1 [0] (Dp (Ab 1)) (Pat.sem (.nm 0)) G3 (eOp oIx (Ab 0) (Ab 1))
def NP:Bf :=
 DK 1 [3] (Ej (Aa (Ab 2) Ae)) (Pat.sem (.nm 0)) G3 (eCB TJ (Aa (Bt K7) Ae))
def Rb:Ba :=
 (Bm (Bj 3 (G5 Ae))
  (Bm NK
  (Dk (Bt NP))))
def G8:JX:=runM 3 7 Rb
def Lh:Ba :=
 (Bm (Bj 10 (Bg Ao (Aa (Ab 0) (Aa (Ab 5) Ae))))
  (Fb (Dt Ed (Ab 8) (Aa (BZ (Aa (Ab 10) (Aa (eOp Dd (eOp Dd (Ab 10) (eC (.int 1))) (eOp oIx (Bt (Aa (eC (.int 0)) (Aa (Bg Ao (Aa (Ab 0) (Aa (eOp Dy (Ab 5) (Ab 10)) Ae))) Ae))) (Bg Ao (Aa (Ab 0) (Aa (eC (.int 2)) Ae))))) Ae))) Ae))))
def Ov:Ba :=
 JL (Ej (Aa (Ab 1) Ae)) (Pat.sem (.nm 9))
  Lh
def Lg:Ba :=
 (Bm (Bj 8 (G5 Ae))
  (Bm Ov
  (Fb (Dt Ed (Ab 6) (Aa (eCB TJ (Aa (Ab 8) Ae)) Ae)))))
def Ou:Ba :=
 JL (Ej (Aa (Ab 4) Ae)) (Pat.sem (.nm 7))
  Lg
def Lf:Bf :=
 DK 1 [] (Rx (Aa (eC (.int 0)) (Aa (eOp Ju (eC (.int 2)) (Ab 2)) (Aa (eC (.int 2)) Ae)))) (Pat.sem (.nm 0)) G3 (BZ (Aa (BZ (Aa (eOp oMod (Ab 0) (eC (.int 3))) (Aa (eOp Dd (eOp oMod (Ab 0) (eC (.int 3))) (eC (.int 1))) Ae))) (Aa (BZ (Aa (eOp oDiv (Ab 0) (eC (.int 3))) (Aa (eOp Dd (eOp oDiv (Ab 0) (eC (.int 3))) (eC (.int 1))) Ae))) Ae)))
def Sv:Ba :=
 (Bm (Bj 4 (eOp oIx (Bt (Aa (Bg Ao (Aa (Ab 0) (Aa (eOp Dd (Ab 2) (eC (.int 1))) Ae))) (Aa (Ab 2) (Aa (eOp Dd (eC (.int 1)) (Bg Ao (Aa (Ab 0) (Aa (Ab 2) Ae)))) Ae)))) (Bg Ao (Aa (Ab 0) (Aa (eC (.int 3)) Ae)))))
  (Bm (Bj 5 (eOp oIx (Bt (Aa (eC (.int 2)) (Aa (eC (.int 3)) (Aa (eC (.int 5)) (Aa (Ab 3) Ae))))) (Bg Ao (Aa (Ab 0) (Aa (eC (.int 4)) Ae)))))
  (Bm (Bj 6 (G5 Ae))
  (Bm Ou
  (Bm (Bj 11 (Bg Ao (Aa (Ab 0) (Aa (eC (.int 8)) Ae))))
  (Bm (sIf (G4 (BK (eOp (oEq false) (Ab 11) (eC (.int 1)))) (BK (eOp oGt (Ab 4) (eC (.int 1)))))
  (Ie (eOp oIx (Ab 6) (Bg Ao (Aa (Ab 0) (Aa (eOp Dy (Ab 4) (eC (.int 1))) Ae)))) (Ab 6) (eUn Em (eC (.int 1))))
  Dh)
  (Bm (sIf (G4 (BK (eOp (oEq false) (Ab 1) (eC (.int 2)))) (BK (eOp (oEq false) (Ab 11) (eC (.int 2)))))
  (Bm (Bj 12 (Bt (Aa (BZ (Aa (BZ (Aa (eC (.int 0)) (Aa (eC (.int 3)) Ae))) (Aa (BZ (Aa (eC (.int 0)) (Aa (eC (.int 1)) Ae))) Ae))) (Aa (BZ (Aa (BZ (Aa (eC (.int 0)) (Aa (eC (.int 3)) Ae))) (Aa (BZ (Aa (eC (.int 2)) (Aa (eC (.int 3)) Ae))) Ae))) (Aa (BZ (Aa (BZ (Aa (eC (.int 0)) (Aa (eC (.int 1)) Ae))) (Aa (BZ (Aa (eC (.int 0)) (Aa (eC (.int 3)) Ae))) Ae))) (Aa (BZ (Aa (BZ (Aa (eC (.int 2)) (Aa (eC (.int 3)) Ae))) (Aa (BZ (Aa (eC (.int 0)) (Aa (eC (.int 3)) Ae))) Ae))) Ae))))))
  (Bj 6 (eOp Dd (Ab 12) (eSl oSl (Ab 6) GF (GD (Bg Ao (Aa (Ab 0) (Aa (eOp Dy (Ab 2) (eC (.int 3))) Ae))))))))
  Dh)
  (Bm (sIf (G4 (BK (eOp (oEq false) (Ab 1) (eC (.int 2)))) (BK (eOp (oEq false) (Ab 11) (eC (.int 3)))))
  (Bj 6 (G5 Lf))
  Dh)
  (Bm (sIf (G4 (BK (eOp oGt (Ab 11) (eC (.int 5)))) (BK (eOp oGt (Ab 3) (eC (.int 8)))))
  (Bj 6 (R9 G8 (Aa (Ab 0) (Aa (Ab 1) (Aa (Ab 4) Ae)))))
  Dh)
  (Dk (Ab 6)))))))))))
def Gu:JX:=runM 4 13 Sv
def Li:Ba :=
 (Fb (Dt Ed (Ab 4) (Aa (eCB UW (Aa (eOp Dd (eOp Dd (eOp oIx (Ab 4) (eUn Em (eC (.int 1)))) (eC (.int 1))) (Bg Ao (Aa (Ab 0) (Aa (Ab 2) Ae)))) (Aa (eOp Dd (eOp Dy (eOp Dy (eOp Fd (eC (.int 10)) (eC (.int 9))) (eC (.int 200))) (Ab 1)) (Ab 5)) Ae))) Ae)))
def Ow:Ba :=
 JL (Ej (Aa (Ab 1) Ae)) (Pat.sem (.nm 5))
  Li
def Sx:Ba :=
 (Bm (Bj 2 (eOp oIx (Bt (Aa (eC (.int 1)) (Aa (eC (.int 3)) (Aa (eOp oDiv (eOp Fd (eC (.int 10)) (eC (.int 9))) (Ab 1)) Ae)))) (Bg Ao (Aa (Ab 0) (Aa (eC (.int 3)) Ae)))))
  (Bm (Bj 3 (eOp oIx (Bt (Aa (eC (.int 0)) (Aa (eOp Dy (eC (.int 0)) (Bg Ao (Aa (Ab 0) (Aa (eC (.int 10)) Ae)))) (Aa (eOp Dy (eC (.int 0)) (eOp Fd (eC (.int 10)) (eC (.int 9)))) Ae)))) (Bg Ao (Aa (Ab 0) (Aa (eC (.int 3)) Ae)))))
  (Bm (Bj 4 (G5 (Aa (Ab 3) Ae)))
  (Bm Ow
  (Bm (sIf (BK (eOp (oEq false) (Bg Ao (Aa (Ab 0) (Aa (eC (.int 3)) Ae))) (eC (.int 0))))
  (Ie (eOp Fd (eC (.int 10)) (eC (.int 9))) (Ab 4) (eUn Em (eC (.int 1))))
  Dh)
  (Bm (sIf (BK (eOp (oEq false) (Bg Ao (Aa (Ab 0) (Aa (eC (.int 6)) Ae))) (eC (.int 0))))
  (Ie (eOp Dy (eC (.int 0)) (eOp Fd (eC (.int 10)) (eC (.int 9)))) (Ab 4) (eC (.int 0)))
  Dh)
  (Dk (Ab 4))))))))
def Gv:JX:=runM 2 6 Sx
def Mi:Bf :=
 DK 1 [0,3] (Ej (Aa (Ab 1) Ae)) (Pat.sem (.nm 0)) G3 (Bg Gv (Aa (Ab 1) (Aa (Ab 2) Ae)))
def Q7:Bf :=
 DK 3 [] (Rk (Aa (Ab 5) (Aa (Ab 7) Ae))) (Pat.sem (.tp [(.nm 0),(.tp [(.nm 1),(.nm 2)])])) G3 (BZ (Aa (eOp oIx (Ab 0) (Ab 1)) (Aa (eOp oIx (Ab 0) (Ab 2)) Ae)))
def Q8:Ba :=
 (Fb (Dt Ed (Ab 6) (Aa (eCB TJ (Aa (Bt Q7) Ae)) Ae)))
def Q6:Ba :=
 JL (Dp (Ab 4)) (Pat.sem (.nm 7))
  Q8
def V3:Ba :=
 (Bm (Bj 3 (eOp oIx (Bt (Aa (eC (.int 8)) (Aa (eOp oIx (Bt (Aa (eC (.int 0)) (Aa (eC (.int 40)) (Aa (eC (.int 20)) (Aa (eC (.int 12)) Ae))))) (Ab 1)) Ae))) (eCB Py (Aa (eOp (oEq false) (Bg Ao (Aa (Ab 0) (Aa (eC (.int 3)) Ae))) (eC (.int 0))) Ae))))
  (Bm (Bj 4 (Bg Gu (Aa (Ab 0) (Aa (Ab 1) (Aa (Ab 2) (Aa (Ab 3) Ae))))))
  (Bm (Bj 5 (Bt Mi))
  (Bm (Bj 6 (G5 Ae))
  (Bm Q6
  (Dk (BZ (Aa (Ab 4) (Aa (Ab 5) (Aa (BZ (Aa (Ab 1) (Aa (Ab 6) Ae))) Ae))))))))))
def Gf:JX:=runM 3 8 V3
def Wf:Ba :=
 (Dk (BZ (Aa (eOp oIx (Ab 0) (eC (.int 0))) (Aa (Xc nList (Aa (eOp oIx (Ab 0) (eC (.int 1))) Ae)) Ae))))
def IK:Cz:=En 1 1 Wf
def Mh:Bf :=
 DK 3 [] (Rk (Aa (Ab 4) (Aa (Ab 1) Ae))) (Pat.sem (.tp [(.tp [(.nm 1),(.nm 2)]),(.nm 0)])) (tOr (BK (eOp oLt (Ab 0) (Ab 1))) (BK (eOp oGe (Ab 0) (Ab 2)))) (eC (.int 1))
def Q5:Ba :=
 (sIf (BK (eOp (oEq false) (Bt Mh) (Bt Ae)))
  (Fb (Dt Ed (Ab 2) (Aa (Ab 3) Ae)))
  Dh)
def Q0:Ba :=
 JL (Xw (Aa (Ab 0) Ae)) (Pat.sem (.tp [(.nm 3),(.nm 4)]))
  Q5
def V2:Ba :=
 (Bm (Bj 2 (G5 Ae))
  (Bm Q0
  (Dk (Ab 2))))
def Ge:Cz:=En 2 5 V2
def O1:Ba :=
 (Bm (Bj 7 (eOp oIx (Bt (Aa (BZ (Aa (Ab 4) (Aa (Ab 6) Ae))) (Aa (BZ (Aa (Ab 6) (Aa (Ab 4) Ae))) Ae))) (Ab 2)))
  (sIf (BK (eOp (oEq true) (BR Ge (Aa (Ab 0) (Aa (Ab 7) Ae))) (Bt Ae)))
  (Bm (Bj 8 (eOp oIx (Ab 1) (eOp Dy (eC (.int 1)) (Ab 2))))
  (Bj 5 (eOp Dy (eOp Dd (Ab 5) (eOp oIx (Ab 8) (eOp Dd (Ab 6) (eC (.int 1))))) (eOp oIx (Ab 8) (Ab 6)))))
  Dh))
def Ql:Ba :=
 JL (Ej (Aa (eOp Dy (eCB Ef (Aa (eOp oIx (Ab 1) (eOp Dy (eC (.int 1)) (Ab 2))) Ae)) (eC (.int 1))) Ae)) (Pat.sem (.nm 6))
  O1
def Nz:Ba :=
 (Bm (Bj 5 (eC (.int 0)))
  (Bm Ql
  (Bm (bR 9 10 (Aa (eOp oIx (eOp oIx (Ab 1) (Ab 2)) (Ab 4)) (Aa (eOp oIx (eOp oIx (Ab 1) (Ab 2)) (eOp Dd (Ab 4) (eC (.int 1)))) Ae)))
  (Bm (sIf (G4 (BK (eOp (oEq true) (Ab 3) (Bt Ae))) (BK (eOp (oEq false) (eSl oSl (eOp oIx (Ab 3) (eUn Em (eC (.int 1)))) (GD (eC (.int 1))) GF) (BZ (Aa (Ab 9) (Aa (Ab 5) Ae))))))
  (Bj 9 (eOp oIx (Dt Px (Ab 3) Ae) (eC (.int 0))))
  Dh)
  (sIf (BK (eOp oGt (Ab 5) (eC (.int 0))))
  (Fb (Dt Ed (Ab 3) (Aa (BZ (Aa (Ab 9) (Aa (Ab 10) (Aa (Ab 5) Ae)))) Ae)))
  Dh)))))
def Qk:Ba :=
 JL (Ej (Aa (eOp Dy (eCB Ef (Aa (eOp oIx (Ab 1) (Ab 2)) Ae)) (eC (.int 1))) Ae)) (Pat.sem (.nm 4))
  Nz
def Wg:Ba :=
 (Bm (Bj 3 (G5 Ae))
  (Bm Qk
  (Dk (Ab 3))))
def IV:Cz:=En 3 11 Wg
def Ul:Ba :=
 (Bm (Bj 10 (Og Cv (Aa (Ab 6) (Aa (Ab 7) Ae))))
  (Bm (sIf (tOr (BK (eOp (Ve true) (eCB Jj (Aa (Ab 10) Ae)) (eCB Jj (Aa (Ab 8) Ae)))) (BK (eOp (oEq true) (Ab 6) (Ab 5))))
  (Dk (eC (.bl false)))
  Dh)
  (Fb (Dt Ed (Ab 10) (Aa (eC .non) Ae)))))
def eO:Ba :=
 JL (Ej (Aa (eC (.int 2)) Ae)) (Pat.sem (.nm 9))
  Ul
def Uk:Ba :=
 (Bm (Bj 8 (BR IV (Aa (Ab 3) (Aa (Ab 4) (Aa (Ab 7) Ae)))))
  eO)
def eN:Ba :=
 JL (Dp (BZ (Aa (eC (.int 0)) (Aa (eC (.int 1)) (Aa (eC (.int 0)) Ae))))) (Pat.sem (.nm 7))
  Uk
def Uj:Ba :=
 (Bm (Bj 2 (Og Hz (Aa (Ab 1) Ae)))
  (Bm (bT (Bg Gf (Aa (Ab 2) (Aa (eC (.int 2)) (Aa (eC (.int 10)) Ae)))) (Pat.sem (.tp [(.nm 3),(.nm 4),(.nm 5)])))
  (Bm (Bj 6 (BR IK (Aa (Ab 5) Ae)))
  eN)))
def Xr:Ba :=
 JL (Dp (eOp Dd (eSl oSl (Ab 0) GF (GD (eC (.int 4)))) (Bt (Aa (eCB Ef (Aa (Ab 0) Ae)) Ae)))) (Pat.sem (.nm 1))
  Uj
def nG:Ba :=
 (Bm Xr
  (Dk (eOp (oEq false) (BR Cv (Aa (BZ (Aa (eC (.int 2)) (Aa (Bt (Aa (BZ (Aa (BZ (Aa (eC (.int 0)) (Aa (eC (.int 1)) Ae))) (Aa (BZ (Aa (eC (.int 0)) (Aa (eC (.int 2)) Ae))) Ae))) (Aa (BZ (Aa (BZ (Aa (eC (.int 1)) (Aa (eC (.int 4)) Ae))) (Aa (BZ (Aa (eC (.int 7)) (Aa (eC (.int 9)) Ae))) Ae))) Ae))) Ae))) (Aa (eC (.int 0)) Ae))) (Bt (Aa (BZ (Aa (eC (.int 0)) (Aa (eC (.int 4)) (Aa (eC (.int 2)) Ae)))) Ae)))))
def Vo:Cz:=En 1 11 nG
end W14
end
section
namespace W14
open PySem PySem.Spec L2 VS
def top (i : Nat) : Stmt := PySem.Challenge.pw_boxcover_k14_lengths_across_told.main.body.getD i (.Pass ⟨0, 0, 0, 0⟩)
abbrev Jq:Stmt:=top 7
abbrev Js:Stmt:=top 8
abbrev Ik:Stmt:=top 9
abbrev Ka:Stmt:=top 10
abbrev Jf:Stmt:=top 11
abbrev JD:Stmt:=top 12
abbrev JB:Stmt:=top 13
abbrev Gi:Stmt:=top 15
abbrev Hr:Stmt:=top 16
abbrev Gj:Stmt:=top 17
abbrev Jr:Stmt:=top 18
abbrev M8:Stmt:=top 20
abbrev Gy:Stmt:=top 21
abbrev J9:Stmt:=top 22
abbrev FT:Stmt:=top 23
abbrev Jo:Stmt:=top 25
abbrev HW:Stmt:=top 26
abbrev M9:Stmt:=top 27
abbrev Hh:Stmt:=top 28
abbrev GC:Stmt:=top 29
abbrev JF:Stmt:=top 31
abbrev Kl:Stmt:=top 32
abbrev Jp:Stmt:=top 33
abbrev G9:Stmt:=top 34
abbrev Gh:Stmt:=top 35
abbrev IW:Stmt:=top 36
abbrev JH:Stmt:=top 37
abbrev Hw:Stmt:=top 38
abbrev Km:Stmt:=top 39
abbrev Ir:Stmt:=top 41
abbrev Ko:Stmt:=top 44
abbrev Nj:Stmt:=top 45
theorem Zg:CK ["thing"] ["thing"] (Al Jq):=⟨rfl,rfl,rfl,by decide +kernel,rfl,by decide +kernel,by decide +kernel⟩
theorem Zi:CK ["thing"] ["thing"] (Al Js):=⟨rfl,rfl,rfl,by decide +kernel,rfl,by decide +kernel,by decide +kernel⟩
theorem X5:CK ["thing"] ["thing"] (Al Ik):=⟨rfl,rfl,rfl,by decide +kernel,rfl,by decide +kernel,by decide +kernel⟩
theorem gD:CK ["ways","thing"] ["ways","thing"] (Al Ka):=⟨rfl,rfl,rfl,by decide +kernel,rfl,by decide +kernel,by decide +kernel⟩
theorem Qi:CK ["thing","ways","boxes"] ["thing"] (Al Jf):=⟨rfl,rfl,rfl,by decide +kernel,rfl,by decide +kernel,by decide +kernel⟩
theorem ZC:CK ["heap"] ["heap"] (Al JD):=⟨rfl,rfl,rfl,by decide +kernel,rfl,by decide +kernel,by decide +kernel⟩
theorem Z9:CK ["heap","ways"] ["heap","ways"] (Al JB):=⟨rfl,rfl,rfl,by decide +kernel,rfl,by decide +kernel,by decide +kernel⟩
theorem X6:CK ["boxes","way"] ["boxes","way"] (Al Gi):=⟨rfl,rfl,rfl,by decide +kernel,rfl,by decide +kernel,by decide +kernel⟩
theorem QL:CK ["boxes","way","ends"] ["boxes","way"] (Al Hr):=⟨rfl,rfl,rfl,by decide +kernel,rfl,by decide +kernel,by decide +kernel⟩
theorem Gx:CK ["boxes","numbers","way","ways","cells","low","high","there","rest","held_by"] ["boxes","numbers","way","ways"] (Al Gj):=⟨rfl,rfl,rfl,by decide +kernel,rfl,by decide +kernel,by decide +kernel⟩
theorem Zh:CK ["heap"] ["heap"] (Al Jr):=⟨rfl,rfl,rfl,by decide +kernel,rfl,by decide +kernel,by decide +kernel⟩
theorem Pb:CK ["stretches","pieces","low","high"] ["stretches"] (Al M8):=⟨rfl,rfl,rfl,by decide +kernel,rfl,by decide +kernel,by decide +kernel⟩
theorem Vx:CK ["heap","least"] ["heap","least"] (Al Gy):=⟨rfl,rfl,rfl,by decide +kernel,rfl,by decide +kernel,by decide +kernel⟩
theorem Z8:CK ["heap"] ["heap"] (Al J9):=⟨rfl,rfl,rfl,by decide +kernel,rfl,by decide +kernel,by decide +kernel⟩
theorem S7:CK ["heap"] ["heap"] (Al FT):=⟨rfl,rfl,rfl,by decide +kernel,rfl,by decide +kernel,by decide +kernel⟩
theorem Zf:CK ["heap","way"] ["heap","way"] (Al Jo):=⟨rfl,rfl,rfl,by decide +kernel,rfl,by decide +kernel,by decide +kernel⟩
theorem RV:CK ["boxes","way","number","there"] ["boxes","way","number"] (Al HW):=⟨rfl,rfl,rfl,by decide +kernel,rfl,by decide +kernel,by decide +kernel⟩
theorem gF:CK ["heap","way","number"] ["heap","way","number"] (Al M9):=⟨rfl,rfl,rfl,by decide +kernel,rfl,by decide +kernel,by decide +kernel⟩
theorem Hy:CK ["steps","longest","low","high","what"] ["steps"] (Al Hh):=⟨rfl,rfl,rfl,by decide +kernel,rfl,by decide +kernel,by decide +kernel⟩
theorem HD:CK ["heap","way","steps","low","high","length"] ["heap","way"] (Al GC):=⟨rfl,rfl,rfl,by decide +kernel,rfl,by decide +kernel,by decide +kernel⟩
theorem Ot:CK ["cell","k","number"] ["cell","k"] (Al JF):=⟨rfl,rfl,rfl,by decide +kernel,rfl,by decide +kernel,by decide +kernel⟩
theorem cQ:CK ["cell"] ["cell"] (Al Kl):=⟨rfl,rfl,rfl,by decide +kernel,rfl,by decide +kernel,by decide +kernel⟩
theorem SM:CK ["pot","many","told"] ["pot","many"] (Al Jp):=⟨rfl,rfl,rfl,by decide +kernel,rfl,by decide +kernel,by decide +kernel⟩
theorem Pr:CK ["pot","things","left"] ["pot","things"] (Al G9):=⟨rfl,rfl,rfl,by decide +kernel,rfl,by decide +kernel,by decide +kernel⟩
theorem Iw:CK ["pot","ways","count","sides","way","ends","two"] ["pot","ways","count"] (Al Gh):=⟨rfl,rfl,rfl,by decide +kernel,rfl,by decide +kernel,by decide +kernel⟩
theorem Dv:CK ["pot","ways","most","many","count","wide","found","k","box","way","low","kind","ring"] ["pot","ways","most","many"] (Al IW):=⟨rfl,rfl,rfl,by decide +kernel,rfl,by decide +kernel,by decide +kernel⟩
theorem Ji:CK ["pot","many","step","here","found","k"] ["pot","many"] (Al JH):=⟨rfl,rfl,rfl,by decide +kernel,rfl,by decide +kernel,by decide +kernel⟩
theorem J8:CK ["pot","ways","most","many","small","marks","boxes","box"] ["pot","ways","most"] (Al Hw):=⟨rfl,rfl,rfl,by decide +kernel,rfl,by decide +kernel,by decide +kernel⟩
theorem cR:CK ["heap"] ["heap"] (Al Km):=⟨rfl,rfl,rfl,by decide +kernel,rfl,by decide +kernel,by decide +kernel⟩
theorem Mg:CK ["small","spot","found","number","box"] ["small","spot"] (Al Ir):=⟨rfl,rfl,rfl,by decide +kernel,rfl,by decide +kernel,by decide +kernel⟩
theorem GQ:CK ["small","marks","way","found","k","length","j","spot","some","low","high"] ["small","marks","way"] (Al Ko):=⟨rfl,rfl,rfl,by decide +kernel,rfl,by decide +kernel,by decide +kernel⟩
theorem Jb:CK ["script","cell","pot","small","marks","heap","handed","way","due","turn","found"] ["script"] (Al Nj):=⟨rfl,rfl,rfl,by decide +kernel,rfl,by decide +kernel,by decide +kernel⟩
section
variable{P:Program}{w:World}{K:U0a}{mg:Str->Option Value}{base:Heap}
set_option maxHeartbeats 4000000 in
theorem Zr{f:Addr}{fd:FuncData}(F:Fun K "is_whole" "is_whole" Jq f fd)(B:Blt mg):DG P w K mg base CX0 1 f fd ["thing"] (spP K Cu 1) :=
 fnP F Zg fun cdv A outer s H E hr =>
  (Ay (Cj (Uo (Cm MJ O4 rfl (B.is "isinstance") Hs (Ac (Ad 0) (Ac (Rh (n:="int") rfl (B.is "int") Xx) Ah))) (Xu (vQ (Cm MJ O4 rfl (B.is "isinstance") Hs (Ac (Ad 0) (Ac (Rh (n:="bool") rfl (B.is "bool") rF) Ah))))))))
set_option maxHeartbeats 4000000 in
theorem Zu{f:Addr}{fd:FuncData}(F:Fun K "are_ways" "are_ways" Js f fd)(B:Blt mg){d_MOST_BOXES:Addr}(M_MOST_BOXES:mg "MOST_BOXES"=some (.ref d_MOST_BOXES))(T_MOST_BOXES:∀h,K.In h->U5j P w h d_MOST_BOXES Bc.D3)(c_is_whole:CN P w K mg base "is_whole" 1 Cu):DG P w K mg base CX0 2 f fd ["thing"] (spP K Ey 1) :=
 fnP F Zi fun cdv A outer s H E hr =>
  (Ay (Cj (Uo (Bw c_is_whole hr (by omega) rfl (Ac (Ad 0) Ah)) (Xu (lX T_MOST_BOXES (Ad 0) rfl M_MOST_BOXES)))))
set_option maxHeartbeats 4000000 in
theorem X8{f:Addr}{fd:FuncData}(F:Fun K "is_stretch" "is_stretch" Ik f fd)(B:Blt mg)(c_is_whole:CN P w K mg base "is_whole" 1 Cu):DG P w K mg base CX0 2 f fd ["thing"] (spP K Hf 1) :=
 fnP F X5 fun cdv A outer s H E hr =>
  (Av (Ep (JM (Ma (La (LR (Cm MJ O4 rfl (B.is "isinstance") Hs (Ac (Ad 0) (Ac (Rh (n:="tuple") rfl (B.is "tuple") MK) Ah))))) (Oe (Ci (Mq hr) Oc (Cm Dw HX rfl (B.is "len") Ih (Ac (Ad 0) Ah)) Ag (CW _)))))
   (Ay (Cj UJ))
   Ds)
   (Ay (Cj (Uo (Bw c_is_whole hr (by omega) rfl (Ac (Bh BP BL (Ad 0) Ag (fun _ _=>rfl)) Ah)) (Uo (Bw c_is_whole hr (by omega) rfl (Ac (Bh BP BL (Ad 0) Ag (fun _ _=>rfl)) Ah)) (Xu (Um UG R7 (Bh BP BL (Ad 0) Ag (fun _ _=>rfl)) (Bh BP BL (Ad 0) Ag (fun _ _=>rfl)) (CW _))))))))
set_option maxHeartbeats 4000000 in
theorem gj{f:Addr}{fd:FuncData}(F:Fun K "is_box" "is_box" Ka f fd)(B:Blt mg)(c_are_ways:CN P w K mg base "are_ways" 2 Ey)(c_is_stretch:CN P w K mg base "is_stretch" 2 Hf):DG P w K mg base CX0 3 f fd ["ways","thing"] (spP K Jm 2) :=
 fnP F gD fun cdv A outer s H E hr =>
  (Av (Ep (JM (Ma (La (LR (Bw c_are_ways hr (by omega) rfl (Ac (Ad 0) Ah)))) (Ma (La (LR (Cm MJ O4 rfl (B.is "isinstance") Hs (Ac (Ad 1) (Ac (Rh (n:="tuple") rfl (B.is "tuple") MK) Ah))))) (Oe (Ci (Mq hr) Oc (Cm Dw HX rfl (B.is "len") Ih (Ac (Ad 1) Ah)) (Ad 0) (CW _))))))
   (Ay (Cj UJ))
   Ds)
   (Ay (Cj (Cm (Z1 rfl) aU rfl (B.is "all") fD (Ac (Fi rfl (Eb.of (sc:=Al Ka) (N:=["ways","thing"]) (N2:=["part"]) (k:=1) (caps:=[]) (by decide +kernel)) rfl (Eu (Ad 1)) ⟨fun _ _ _ _ _=>⟨(Bk (i:=0) (show U2c (["part"]:List Str) by decide +kernel)),Gn,(Bw c_is_stretch hr (by omega) rfl (Ac (Ad 0) Ah))⟩⟩) Ah)))))
set_option maxHeartbeats 4000000 in
theorem cj{f:Addr}{fd:FuncData}(F:Fun K "is_heap" "is_heap" Jf f fd)(B:Blt mg){d_MOST_BOXES:Addr}(M_MOST_BOXES:mg "MOST_BOXES"=some (.ref d_MOST_BOXES))(T_MOST_BOXES:∀h,K.In h->U5j P w h d_MOST_BOXES Bc.D3)(c_are_ways:CN P w K mg base "are_ways" 2 Ey)(c_is_box:CN P w K mg base "is_box" 3 Jm):DG P w K mg base CX0 4 f fd ["thing"] (spP K J7 1) :=
 fnP F Qi fun cdv A outer s H E hr =>
  (Av (Ep (JM (Ma (La (LR (Cm MJ O4 rfl (B.is "isinstance") Hs (Ac (Ad 0) (Ac (Rh (n:="tuple") rfl (B.is "tuple") MK) Ah))))) (Oe (Ci (Mq hr) Oc (Cm Dw HX rfl (B.is "len") Ih (Ac (Ad 0) Ah)) Ag (CW _)))))
   (Ay (Cj UJ))
   Ds)
   (Av (CZ (i:=1) Qi.nd (Bh BP BL (Ad 0) Ag (fun _ _=>rfl)))
   (Av (CZ (i:=2) Qi.nd (Bh BP BL (Ad 0) Ag (fun _ _=>rfl)))
   (Av (Ep (JM (Ma (La (LR (Bw c_are_ways hr (by omega) rfl (Ac (Ad 1) Ah)))) (Ma (La (LR (Cm MJ O4 rfl (B.is "isinstance") Hs (Ac (Ad 2) (Ac (Rh (n:="list") rfl (B.is "list") Ry) Ah))))) (Oe (Ci Nk Ky (Cm Dw HX rfl (B.is "len") Ih (Ac (Ad 2) Ah)) (lW T_MOST_BOXES (Ad 1) rfl M_MOST_BOXES (fun _ _=>rfl)) (CW _))))))
   (Ay (Cj UJ))
   Ds)
   (Ay (Cj (Cm (Z1 rfl) aU rfl (B.is "all") fD (Ac (Fi rfl (Eb.of (sc:=Al Jf) (N:=["thing","ways","boxes"]) (N2:=["box","ways"]) (k:=1) (caps:=[1]) (by decide +kernel)) rfl (Eu (Ad 2)) ⟨fun _ _ _ _ _=>⟨(Bk (i:=0) (show U2c (["box","ways"]:List Str) by decide +kernel)),Gn,(Bw c_is_box hr (by omega) rfl (Ac (Ad 1) (Ac (Ad 0) Ah)))⟩⟩) Ah))))))))
set_option maxHeartbeats 4000000 in
theorem ZJ{f:Addr}{fd:FuncData}(F:Fun K "need_heap" "need_heap" JD f fd)(B:Blt mg)(c_is_heap:CN P w K mg base "is_heap" 4 J7):DG P w K mg base CX0 5 f fd ["heap"] (spP K El 1) :=
 fnP F ZC fun cdv A outer s H E hr =>
  (Ay (Ep (La (LR (Bw c_is_heap hr (by omega) rfl (Ac (Ad 0) Ah))))
   (Ay Oo)
   Ds))
set_option maxHeartbeats 4000000 in
theorem ZG{f:Addr}{fd:FuncData}(F:Fun K "need_ways" "need_ways" JB f fd)(B:Blt mg)(c_need_heap:CN P w K mg base "need_heap" 5 El):DG P w K mg base CX0 6 f fd ["heap","ways"] (spP K Ez 2) :=
 fnP F Z9 fun cdv A outer s H E hr =>
  (Av (Fz (Bw c_need_heap hr (by omega) rfl (Ac (Ad 0) Ah)))
   (Ay (Ep (Ci (Mq hr) Oc (Bh BP BL (Ad 0) Ag (fun _ _=>rfl)) (Ad 1) (CW _))
   (Ay Oo)
   Ds)))
set_option maxHeartbeats 4000000 in
theorem XC{f:Addr}{fd:FuncData}(F:Fun K "ends_along" "ends_along" Gi f fd)(B:Blt mg):DG P w K mg base CX0 1 f fd ["boxes","way"] (spP K Hg 2) :=
 fnP F X6 fun cdv A outer s H E hr =>
  (Ay (Cj (dG rfl (Bd Dr Dq (Fi rfl (Eb.of (sc:=Al Gi) (N:=["boxes","way"]) (N2:=["box","way"]) (k:=1) (caps:=[1]) (by decide +kernel)) rfl (Eu (Ad 0)) ⟨fun _ _ _ _ _=>⟨(Bk (i:=0) (show U2c (["box","way"]:List Str) by decide +kernel)),Gn,(Bh BP BL (Bh BP BL (Ad 0) (Ad 1) (fun _ _=>rfl)) Ag (fun _ _=>rfl))⟩⟩) (Fi rfl (Eb.of (sc:=Al Gi) (N:=["boxes","way"]) (N2:=["box","way"]) (k:=1) (caps:=[1]) (by decide +kernel)) rfl (Eu (Ad 0)) ⟨fun _ _ _ _ _=>⟨(Bk (i:=0) (show U2c (["box","way"]:List Str) by decide +kernel)),Gn,(Bh BP BL (Bh BP BL (Ad 0) (Ad 1) (fun _ _=>rfl)) Ag (fun _ _=>rfl))⟩⟩)) rfl (B.is "sorted") rfl (B.is "set"))))
set_option maxHeartbeats 4000000 in
theorem Vy{f:Addr}{fd:FuncData}(F:Fun K "steps_along" "steps_along" Hr f fd)(B:Blt mg)(Bz:mg "zip"=none)(c_ends_along:CN P w K mg base "ends_along" 1 Hg):DG P w K mg base CX0 2 f fd ["boxes","way"] (spP K Cy 2) :=
 fnP F QL fun cdv A outer s H E hr =>
  (Av (CZ (i:=2) QL.nd (Bw c_ends_along hr (by omega) rfl (Ac (Ad 0) (Ac (Ad 1) Ah))))
   (Ay (Cj (Uw rfl (Ac (Ad 2) (Ac (MF QD QF (Ad 2) (O7 Ag) O8) Ah)) rfl (B.is "list") rfl Bz))))
set_option maxHeartbeats 4000000 in
theorem K6{f:Addr}{fd:FuncData}(F:Fun K "cells_from" "cells_from" Gj f fd)(B:Blt mg)(c_steps_along:CN P w K mg base "steps_along" 2 Cy){n k:Nat}(hk:2<=k)(c_cells_from:CN P w K mg base "cells_from" k (Cd n)):DG P w K mg base CX0 (k+1) f fd ["boxes","numbers","way","ways"] (spP K (Cd (n+1)) 4) :=
 fnP F Gx fun cdv A outer s H E hr =>
  (Av (Ep (Ci (Ga hr) GZ (Cm Dw HX rfl (B.is "len") Ih (Ac (Ad 1) Ah)) Ag (CW _))
   (Ay (Cj (Et Ah Az)))
   Ds)
   (Av (Ep (Ci (Ga hr) GZ (Ad 2) (Ad 3) (CW _))
   (Ay (Cj (Et (Ac (Bx (Ac (Bx Ah Az) (Ac (Ad 1) Ah)) (Aj (Aj Az))) Ah) (Aj Az))))
   Ds)
   (Av (CZ (i:=4) Gx.nd (Ij Ah Az))
   (Av (Gz rfl (Eu (Bw c_steps_along hr (by omega) rfl (Ac (Fi rfl (Eb.of (sc:=Al Gj) (N:=["boxes","numbers","way","ways","cells","low","high","there","rest","held_by"]) (N2:=["number","boxes"]) (k:=1) (caps:=[0]) (by decide +kernel)) rfl (Eu (Ad 1)) ⟨fun _ _ _ _ _=>⟨(Bk (i:=0) (show U2c (["number","boxes"]:List Str) by decide +kernel)),Gn,(Bh BP BL (Ad 1) (Ad 0) (fun _ _=>rfl))⟩⟩) (Ac (Ad 2) Ah)))) (Ht rfl (Cg (Bk (i:=5) Gx.nd) (Cg (Bk (i:=6) Gx.nd) Gp)))
   (Av (Q9 (i:=7) rfl Gx.nd (Eb.of (sc:=Al Gj) (N:=["boxes","numbers","way","ways","cells","low","high","there","rest","held_by"]) (N2:=["number","boxes","way","low"]) (k:=1) (caps:=[0,2,5]) (by decide +kernel)) rfl (Eu (Ad 1)) ⟨fun _ _ _ _ _=>⟨(Bk (i:=0) (show U2c (["number","boxes","way","low"]:List Str) by decide +kernel)),(Rv (Yh n8 dw UG R7 (Bh BP BL (Bh BP BL (Bh BP BL (Ad 1) (Ad 0) (fun _ _=>rfl)) (Ad 2) (fun _ _=>rfl)) Ag (fun _ _=>rfl)) (Ad 3) (Bh BP BL (Bh BP BL (Bh BP BL (Ad 1) (Ad 0) (fun _ _=>rfl)) (Ad 2) (fun _ _=>rfl)) Ag (fun _ _=>rfl)))),(Ad 0)⟩⟩)
   (Ay (Gz rfl (Eu (Bw c_cells_from hr (by omega) rfl (Ac (Ad 0) (Ac (Ad 7) (Ac (Bd Dr Dq (Ad 2) Ag) (Ac (Ad 3) Ah)))))) (Ht rfl (Cg (Bk (i:=8) Gx.nd) (Cg (Bk (i:=9) Gx.nd) Gp)))
   (Ay (Fz (HY U1r U1z U10 Fw Ft (Ad 4) (Ac (Bx (Ac (Bd Dr Dq (Bx (Ac (Bx (Ac (Ad 5) (Ac (Ad 6) Ah)) (Aj (Aj Az))) Ah) (Aj Az)) (Ad 8)) (Ac (Ad 9) Ah)) (Aj (Aj Az))) Ah)))) U2e))) U2e)
   (Ay (Cj (Ad 4)))))))
set_option maxHeartbeats 4000000 in
theorem Zt{f:Addr}{fd:FuncData}(F:Fun K "cells_of" "cells_of" Jr f fd)(B:Blt mg)(c_cells_from:CN P w K mg base "cells_from" 6 (Cd 4)):DG P w K mg base CX0 7 f fd ["heap"] (spP K Gg 1) :=
 fnP F Zh fun cdv A outer s H E hr =>
  (Ay (Cj (Bw c_cells_from hr (by omega) rfl (Ac (Bh BP BL (Ad 0) Ag (fun _ _=>rfl)) (Ac (Ra rfl (Ac (Cm Dw HX rfl (B.is "len") Ih (Ac (Bh BP BL (Ad 0) Ag (fun _ _=>rfl)) Ah)) Ah) rfl (B.is "list") rfl (B.is "range")) (Ac Ag (Ac (Bh BP BL (Ad 0) Ag (fun _ _=>rfl)) Ah)))))))
set_option maxHeartbeats 4000000 in
theorem gb{f:Addr}{fd:FuncData}(F:Fun K "joined" "joined" M8 f fd)(B:Blt mg):DG P w K mg base CX0 1 f fd ["stretches"] (spP K Jl 1) :=
 fnP F Pb fun cdv A outer s H E hr =>
  (Av (CZ (i:=1) Pb.nd (Ij Ah Az))
   (Av (Gz rfl (Eu (Ad 0)) (Ht rfl (Cg (Bk (i:=2) Pb.nd) (Cg (Bk (i:=3) Pb.nd) Gp)))
   (Ay (Ep (JM (Mr (Ci Nk Ky (Cm Dw HX rfl (B.is "len") Ih (Ac (Ad 1) Ah)) Ag (CW _)) (M5 (Ci (Ga hr) GZ (Bh BP BL (Bh BP BL (Ad 1) (Ku Ja Ii Ag) (fun _ _=>rfl)) Ag (fun _ _=>rfl)) (Ad 2) (CW _)))))
   (Ay (Kd (Bx (Ac (Bh BP BL (Bh BP BL (Ad 1) (Ku Ja Ii Ag) (fun _ _=>rfl)) Ag (fun _ _=>rfl)) (Ac (Ad 3) Ah)) (Aj (Aj Az))) (Ad 1) (Ku Ja Ii Ag)))
   (Ay (Fz (HY U1r U1z U10 Fw Ft (Ad 1) (Ac (Bx (Ac (Ad 2) (Ac (Ad 3) Ah)) (Aj (Aj Az))) Ah)))))) U2e)
   (Ay (Cj (Ad 1)))))
set_option maxHeartbeats 4000000 in
theorem Vz{f:Addr}{fd:FuncData}(F:Fun K "pieces_held" "pieces_held" Gy f fd)(B:Blt mg)(c_joined:CN P w K mg base "joined" 1 Jl)(c_cells_of:CN P w K mg base "cells_of" 7 Gg):DG P w K mg base CX0 8 f fd ["heap","least"] (spP K Fo 2) :=
 fnP F Vx fun cdv A outer s H E hr =>
  (Ay (Cj (Bw c_joined hr (by omega) rfl (Ac (Fi rfl (Eb.of (sc:=Al Gy) (N:=["heap","least"]) (N2:=["cell","numbers","least"]) (k:=2) (caps:=[1]) (by decide +kernel)) rfl (Eu (Bw c_cells_of hr (by omega) rfl (Ac (Ad 0) Ah))) ⟨fun _ _ _ _ _=>⟨(Ht rfl (Cg (Bk (i:=0) (show U2c (["cell","numbers","least"]:List Str) by decide +kernel)) (Cg (Bk (i:=1) (show U2c (["cell","numbers","least"]:List Str) by decide +kernel)) Gp))),(Rv (Ci XQ Uc (Cm Dw HX rfl (B.is "len") Ih (Ac (Ad 1) Ah)) (Ad 2) (CW _))),(Bh BP BL (Ad 0) Ag (fun _ _=>rfl))⟩⟩) Ah))))
set_option maxHeartbeats 4000000 in
theorem ZF{f:Addr}{fd:FuncData}(F:Fun K "pieces_of" "pieces_of" J9 f fd)(B:Blt mg)(c_need_ways:CN P w K mg base "need_ways" 6 Ez)(c_pieces_held:CN P w K mg base "pieces_held" 8 Fo):DG P w K mg base CX0 9 f fd ["heap"] (spP K Fx 1) :=
 fnP F Z8 fun cdv A outer s H E hr =>
  (Av (Fz (Bw c_need_ways hr (by omega) rfl (Ac (Ad 0) (Ac Ag Ah))))
   (Ay (Cj (Bw c_pieces_held hr (by omega) rfl (Ac (Ad 0) (Ac Ag Ah))))))
set_option maxHeartbeats 4000000 in
theorem S9{f:Addr}{fd:FuncData}(F:Fun K "covered_length" "covered_length" FT f fd)(B:Blt mg)(Bs:mg "sum"=none)(c_pieces_of:CN P w K mg base "pieces_of" 9 Fx):DG P w K mg base CX0 10 f fd ["heap"] (spP K Ec 1) :=
 fnP F S7 fun cdv A outer s H E hr =>
  (Ay (Cj (Cm (iz rfl) oJ rfl Bs wD (Ac (Fi rfl (Eb.of (sc:=Al FT) (N:=["heap"]) (N2:=["low","high"]) (k:=2) (caps:=[]) (by decide +kernel)) rfl (Eu (Bw c_pieces_of hr (by omega) rfl (Ac (Ad 0) Ah))) ⟨fun _ _ _ _ _=>⟨(Ht rfl (Cg (Bk (i:=0) (show U2c (["low","high"]:List Str) by decide +kernel)) (Cg (Bk (i:=1) (show U2c (["low","high"]:List Str) by decide +kernel)) Gp))),Gn,(Bd Hi G7 (Ad 1) (Ad 0))⟩⟩) Ah))))
set_option maxHeartbeats 4000000 in
theorem Zm{f:Addr}{fd:FuncData}(F:Fun K "need_way" "need_way" Jo f fd)(B:Blt mg)(c_is_whole:CN P w K mg base "is_whole" 1 Cu):DG P w K mg base CX0 2 f fd ["heap","way"] (spP K Ew 2) :=
 fnP F Zf fun cdv A outer s H E hr =>
  (Ay (Ep (JM (Ma (La (LR (Bw c_is_whole hr (by omega) rfl (Ac (Ad 1) Ah)))) (Ma (Ci UG R7 (Ad 1) Ag (CW _)) (Oe (Ci XQ Uc (Ad 1) (Bh BP BL (Ad 0) Ag (fun _ _=>rfl)) (CW _))))))
   (Ay Oo)
   Ds))
set_option maxHeartbeats 4000000 in
theorem ZP{f:Addr}{fd:FuncData}(F:Fun K "cut_boxes" "cut_boxes" HW f fd)(B:Blt mg):DG P w K mg base CX0 1 f fd ["boxes","way","number"] (spP K Gw 3) :=
 fnP F RV fun cdv A outer s H E hr =>
  (Av (Q9 (i:=3) rfl RV.nd (Eb.of (sc:=Al HW) (N:=["boxes","way","number","there"]) (N2:=["box","way","number"]) (k:=1) (caps:=[1,2]) (by decide +kernel)) rfl (Eu (Ad 0)) ⟨fun _ _ _ _ _=>⟨(Bk (i:=0) (show U2c (["box","way","number"]:List Str) by decide +kernel)),(Rv (Yh n8 dw UG R7 (Bh BP BL (Bh BP BL (Ad 0) (Ad 1) (fun _ _=>rfl)) Ag (fun _ _=>rfl)) (Ad 2) (Bh BP BL (Bh BP BL (Ad 0) (Ad 1) (fun _ _=>rfl)) Ag (fun _ _=>rfl)))),(Ad 0)⟩⟩)
   (Ay (Cj (Fi rfl (Eb.of (sc:=Al HW) (N:=["boxes","way","number","there"]) (N2:=["box","way"]) (k:=1) (caps:=[1]) (by decide +kernel)) rfl (Eu (Ad 3)) ⟨fun _ _ _ _ _=>⟨(Bk (i:=0) (show U2c (["box","way"]:List Str) by decide +kernel)),Gn,(Bd Dr Dq (MF QD QF (Ad 0) O8 (O7 (Ad 1))) (MF QD QF (Ad 0) (O7 (Bd Dr Dq (Ad 1) Ag)) O8))⟩⟩))))
set_option maxHeartbeats 4000000 in
theorem gk{f:Addr}{fd:FuncData}(F:Fun K "cut_at" "cut_at" M9 f fd)(B:Blt mg)(c_need_heap:CN P w K mg base "need_heap" 5 El)(c_need_way:CN P w K mg base "need_way" 2 Ew)(c_is_whole:CN P w K mg base "is_whole" 1 Cu)(c_cut_boxes:CN P w K mg base "cut_boxes" 1 Gw):DG P w K mg base CX0 6 f fd ["heap","way","number"] (spP K HN 3) :=
 fnP F gF fun cdv A outer s H E hr =>
  (Av (Fz (Bw c_need_heap hr (by omega) rfl (Ac (Ad 0) Ah)))
   (Av (Ep (Ci (Ga hr) GZ (Bh BP BL (Ad 0) Ag (fun _ _=>rfl)) Ag (CW _))
   (Ay Oo)
   Ds)
   (Av (Fz (Bw c_need_way hr (by omega) rfl (Ac (Ad 0) (Ac (Ad 1) Ah))))
   (Av (Ep (La (LR (Bw c_is_whole hr (by omega) rfl (Ac (Ad 2) Ah))))
   (Ay Oo)
   Ds)
   (Ay (Cj (Bx (Ac (Bd Hi G7 (Bh BP BL (Ad 0) Ag (fun _ _=>rfl)) Ag) (Ac (Bw c_cut_boxes hr (by omega) rfl (Ac (Bh BP BL (Ad 0) Ag (fun _ _=>rfl)) (Ac (Ad 1) (Ac (Ad 2) Ah)))) Ah)) (Aj (Aj Az)))))))))
set_option maxHeartbeats 4000000 in
theorem VP{f:Addr}{fd:FuncData}(F:Fun K "joined_alike" "joined_alike" Hh f fd)(B:Blt mg):DG P w K mg base CX0 1 f fd ["steps"] (spP K FQ 1) :=
 fnP F Hy fun cdv A outer s H E hr =>
  (Av (CZ (i:=1) Hy.nd (Ij Ah Az))
   (Av (Gz rfl (Eu (Ad 0)) (Ht rfl (Cg (Bk (i:=2) Hy.nd) (Cg (Bk (i:=3) Hy.nd) (Cg (Bk (i:=4) Hy.nd) Gp))))
   (Ay (Ep (JM (Mr (Ci Nk Ky (Cm Dw HX rfl (B.is "len") Ih (Ac (Ad 1) Ah)) Ag (CW _)) (Mr (Ci (Ga hr) GZ (Bh BP BL (Bh BP BL (Ad 1) (Ku Ja Ii Ag) (fun _ _=>rfl)) Ag (fun _ _=>rfl)) (Ad 2) (CW _)) (M5 (Ci (Ga hr) GZ (Bh BP BL (Bh BP BL (Ad 1) (Ku Ja Ii Ag) (fun _ _=>rfl)) Ag (fun _ _=>rfl)) (Ad 4) (CW _))))))
   (Ay (Kd (Bx (Ac (Bh BP BL (Bh BP BL (Ad 1) (Ku Ja Ii Ag) (fun _ _=>rfl)) Ag (fun _ _=>rfl)) (Ac (Ad 3) (Ac (Ad 4) Ah))) (Aj (Aj (Aj Az)))) (Ad 1) (Ku Ja Ii Ag)))
   (Ay (Fz (HY U1r U1z U10 Fw Ft (Ad 1) (Ac (Bx (Ac (Ad 2) (Ac (Ad 3) (Ac (Ad 4) Ah))) (Aj (Aj (Aj Az)))) Ah)))))) U2e)
   (Ay (Cj (Ad 1)))))
set_option maxHeartbeats 4000000 in
theorem S8{f:Addr}{fd:FuncData}(F:Fun K "lengths_across" "lengths_across" GC f fd)(B:Blt mg)(c_need_ways:CN P w K mg base "need_ways" 6 Ez)(c_need_way:CN P w K mg base "need_way" 2 Ew)(c_steps_along:CN P w K mg base "steps_along" 2 Cy)(c_covered_length:CN P w K mg base "covered_length" 10 Ec)(c_cut_at:CN P w K mg base "cut_at" 6 HN)(c_joined_alike:CN P w K mg base "joined_alike" 1 FQ):DG P w K mg base CX0 11 f fd ["heap","way"] (spP K Cv 2) :=
 fnP F HD fun cdv A outer s H E hr =>
  (Av (Fz (Bw c_need_ways hr (by omega) rfl (Ac (Ad 0) (Ac Ag Ah))))
   (Av (Fz (Bw c_need_way hr (by omega) rfl (Ac (Ad 0) (Ac (Ad 1) Ah))))
   (Av (CZ (i:=2) HD.nd (Ij Ah Az))
   (Av (Gz rfl (Eu (Bw c_steps_along hr (by omega) rfl (Ac (Bh BP BL (Ad 0) Ag (fun _ _=>rfl)) (Ac (Ad 1) Ah)))) (Ht rfl (Cg (Bk (i:=3) HD.nd) (Cg (Bk (i:=4) HD.nd) Gp)))
   (Av (CZ (i:=5) HD.nd (Bw c_covered_length hr (by omega) rfl (Ac (Bw c_cut_at hr (by omega) rfl (Ac (Ad 0) (Ac (Ad 1) (Ac (Ad 3) Ah)))) Ah)))
   (Ay (Ep (Ci Nk Ky (Ad 5) Ag (CW _))
   (Ay (Fz (HY U1r U1z U10 Fw Ft (Ad 2) (Ac (Bx (Ac (Ad 3) (Ac (Ad 4) (Ac (Ad 5) Ah))) (Aj (Aj (Aj Az)))) Ah))))
   Ds))) U2e)
   (Ay (Cj (Bw c_joined_alike hr (by omega) rfl (Ac (Ad 2) Ah))))))))
set_option maxHeartbeats 4000000 in
theorem ZL{f:Addr}{fd:FuncData}(F:Fun K "_law_mixed" "_law_mixed" JF f fd)(B:Blt mg):DG P w K mg base CX0 1 f fd ["cell","k"] (spP K Hq 2) :=
 fnP F Ot fun cdv A outer s H E hr =>
  (Av (CZ (i:=2) Ot.nd (Bd LK Jk (Bd M4 Lx (Bd Dr Dq (Bd Dr Dq (Bd LK Jk (Ad 0) Ag) (Bd M4 Lx Ag (Ad 1))) Ag) Ag) Ag))
   (Av (CZ (i:=2) Ot.nd (Bd LK Jk (Bd M4 Lx (Ad 2) (Ad 2)) Ag))
   (Ay (Cj (Bd Oj QJ (Bd LK Jk (Bd M4 Lx (Bd Dr Dq (Ad 2) (Bd M4 Lx Ag (Bd Dr Dq (Ad 1) Ag))) Ag) Ag) Ag)))))
set_option maxHeartbeats 4000000 in
theorem cY{f:Addr}{fd:FuncData}(F:Fun K "_law_pot" "_law_pot" Kl f fd)(B:Blt mg):DG P w K mg base CX0 1 f fd ["cell"] (spP K Hz 1) :=
 fnP F cQ fun cdv A outer s H E hr =>
  (Ay (Cj (Et (Ac (Bd Rq Qa (Bd LK Jk (Ad 0) (Bd Rq Qa (Bd Rq Qa (Bd Rq Qa (Bd K1 J3 Ag Ag) (Bd K1 J3 Ag Ag)) (Bd K1 J3 Ag Ag)) (Bd K1 J3 Ag Ag))) (Mv Wt aR rfl (B.is "int") Xx (Ac (Um XQ Uc (Ad 0) (Bd K1 J3 Ag Ag) (CW _)) Ah))) (Ac (Ad 0) (Ac Ag Ah))) (Aj (Aj (Aj Az))))))
set_option maxHeartbeats 4000000 in
theorem Zn{f:Addr}{fd:FuncData}(F:Fun K "_law_take" "_law_take" Jp f fd)(B:Blt mg)(c_law_mixed:CN P w K mg base "_law_mixed" 1 Hq):DG P w K mg base CX0 2 f fd ["pot","many"] (spM K Ao 2) :=
 fnM F SM fun cdv A outer s H E hr =>
  (Av (Kd (Bd Dr Dq (Bh BP BL (Ad 0) Ag (fun _ _=>rfl)) Ag) (Ad 0) Ag)
   (Av (Ep (Ci Nk Ky (Bh BP BL (Ad 0) Ag (fun _ _=>rfl)) Ag (CW _))
   (Av (CZ (i:=2) SM.nd (Bd LK Jk (Bh BP BL (Ad 0) Ag (fun _ _=>rfl)) (Ad 1)))
   (Av (Kd (Bd Oj QJ (Bh BP BL (Ad 0) Ag (fun _ _=>rfl)) (Ad 1)) (Ad 0) Ag)
   (Ay (Cj (Ad 2)))))
   Ds)
   (Ay (Cj (Bd LK Jk (Bw c_law_mixed hr (by omega) rfl (Ac (Bh BP BL (Ad 0) Ag (fun _ _=>rfl)) (Ac (Bh BP BL (Ad 0) Ag (fun _ _=>rfl)) Ah))) (Ad 1))))))
set_option maxHeartbeats 4000000 in
theorem VN{f:Addr}{fd:FuncData}(F:Fun K "_law_mixed_up" "_law_mixed_up" G9 f fd)(B:Blt mg)(c_law_take:JZ P w K mg base "_law_take" 2 Ao):DG P w K mg base CX0 3 f fd ["pot","things"] (spM K FP 2) :=
 fnM F Pr fun cdv A outer s H E hr =>
  (Av (CZ (i:=2) Pr.nd (qP Rg YJ rfl (B.is "list") Ry (Ac (Ad 1) Ah)))
   (Ay (Cj (Fi rfl (Eb.of (sc:=Al G9) (N:=["pot","things","left"]) (N2:=["thing","left","pot"]) (k:=1) (caps:=[2,0]) (by decide +kernel)) rfl (Eu (Ad 1)) ⟨fun _ _ _ _ _=>⟨(Bk (i:=0) (show U2c (["thing","left","pot"]:List Str) by decide +kernel)),Gn,(HY U1r PySem.F.slot_list_pop PySem.F.type_list_pop lC jt (Ad 1) (Ac (Di c_law_take hr (by omega) rfl (Ac (Ad 2) (Ac (Cm Dw HX rfl (B.is "len") Ih (Ac (Ad 1) Ah)) Ah))) Ah))⟩⟩))))
set_option maxHeartbeats 4000000 in
theorem X7{f:Addr}{fd:FuncData}(F:Fun K "_law_unlike" "_law_unlike" Gh f fd)(B:Blt mg)(Bz:mg "zip"=none)(c_law_mixed_up:JZ P w K mg base "_law_mixed_up" 3 FP):DG P w K mg base CX0 4 f fd ["pot","ways","count"] (spM K G8 3) :=
 fnM F Iw fun cdv A outer s H E hr =>
  (Av (CZ (i:=3) Iw.nd (Ij Ah Az))
   (Av (Gz rfl (Hu rfl (B.is "range") (Ac (Ad 1) Ah)) (Bk (i:=4) Iw.nd)
   (Av (CZ (i:=5) Iw.nd (Di c_law_mixed_up hr (by omega) rfl (Ac (Ad 0) (Ac (Ra rfl (Ac (Bd M4 Lx Ag (Ad 2)) Ah) rfl (B.is "list") rfl (B.is "range")) Ah))))
   (Av (CZ (i:=6) Iw.nd (Uw rfl (Ac (lZ (Ad 5)) (Ac (lY (Ad 5)) Ah)) rfl (B.is "list") rfl Bz))
   (Ay (Fz (HY U1r U1z U10 Fw Ft (Ad 3) (Ac (Fi rfl (Eb.of (sc:=Al Gh) (N:=["pot","ways","count","sides","way","ends","two"]) (N2:=["one","other"]) (k:=2) (caps:=[]) (by decide +kernel)) rfl (Eu (Ad 6)) ⟨fun _ _ _ _ _=>⟨(Ht rfl (Cg (Bk (i:=0) (show U2c (["one","other"]:List Str) by decide +kernel)) (Cg (Bk (i:=1) (show U2c (["one","other"]:List Str) by decide +kernel)) Gp))),Gn,(Bx (Ac (Cm (Ws rfl) YH rfl (B.is "min") fC (Ac (Ad 0) (Ac (Ad 1) Ah))) (Ac (Cm (j5 rfl) ju rfl (B.is "max") wG (Ac (Ad 0) (Ac (Ad 1) Ah))) Ah)) (Aj (Aj Az)))⟩⟩) Ah)))))) U2e)
   (Ay (Cj (Fi rfl (Eb.of (sc:=Al Gh) (N:=["pot","ways","count","sides","way","ends","two"]) (N2:=["k","sides"]) (k:=1) (caps:=[3]) (by decide +kernel)) rfl (Hu rfl (B.is "range") (Ac (Ad 2) Ah)) ⟨fun _ _ _ _ _=>⟨(Bk (i:=0) (show U2c (["k","sides"]:List Str) by decide +kernel)),Gn,(Mv Ni RG rfl (B.is "tuple") MK (Ac (Fi rfl (Eb.of (N:=["k","sides"]) (N2:=["side","k"]) (k:=1) (caps:=[0]) (by kernel_rfl)) rfl (Eu (Ad 1)) ⟨fun _ _ _ _ _=>⟨(Bk (i:=0) (show U2c (["side","k"]:List Str) by decide +kernel)),Gn,(Bh BP BL (Ad 0) (Ad 1) (fun _ _=>rfl))⟩⟩) Ah))⟩⟩)))))
set_option maxHeartbeats 4000000 in
theorem ZK{f:Addr}{fd:FuncData}(F:Fun K "_law_small" "_law_small" IW f fd)(B:Blt mg)(c_law_take:JZ P w K mg base "_law_take" 2 Ao)(c_law_unlike:JZ P w K mg base "_law_unlike" 4 G8):DG P w K mg base CX0 5 f fd ["pot","ways","most","many"] (spM K Gu 4) :=
 fnM F Dv fun cdv A outer s H E hr =>
  (Av (CZ (i:=4) Dv.nd (Bh BP BL (Et (Ac (Di c_law_take hr (by omega) rfl (Ac (Ad 0) (Ac (Bd Dr Dq (Ad 2) Ag) Ah))) (Ac (Ad 2) (Ac (Bd Dr Dq Ag (Di c_law_take hr (by omega) rfl (Ac (Ad 0) (Ac (Ad 2) Ah)))) Ah))) (Aj (Aj (Aj Az)))) (Di c_law_take hr (by omega) rfl (Ac (Ad 0) (Ac Ag Ah))) (fun _ _=>rfl)))
   (Av (CZ (i:=5) Dv.nd (Bh BP BL (Et (Ac Ag (Ac Ag (Ac Ag (Ac (Ad 3) Ah)))) (Aj (Aj (Aj (Aj Az))))) (Di c_law_take hr (by omega) rfl (Ac (Ad 0) (Ac Ag Ah))) (fun _ _=>rfl)))
   (Av (CZ (i:=6) Dv.nd (Ij Ah Az))
   (Av (Gz rfl (Hu rfl (B.is "range") (Ac (Ad 4) Ah)) (Bk (i:=7) Dv.nd)
   (Av (CZ (i:=8) Dv.nd (Ij Ah Az))
   (Av (Gz rfl (Hu rfl (B.is "range") (Ac (Ad 1) Ah)) (Bk (i:=9) Dv.nd)
   (Av (CZ (i:=10) Dv.nd (Di c_law_take hr (by omega) rfl (Ac (Ad 0) (Ac (Ad 5) Ah))))
   (Ay (Fz (HY U1r U1z U10 Fw Ft (Ad 8) (Ac (Bx (Ac (Ad 10) (Ac (Bd Dr Dq (Bd Dr Dq (Ad 10) Ag) (Bh BP BL (Et (Ac Ag (Ac (Di c_law_take hr (by omega) rfl (Ac (Ad 0) (Ac (Bd Hi G7 (Ad 5) (Ad 10)) Ah))) Ah)) (Aj (Aj Az))) (Di c_law_take hr (by omega) rfl (Ac (Ad 0) (Ac Ag Ah))) (fun _ _=>rfl))) Ah)) (Aj (Aj Az))) Ah))))) U2e)
   (Ay (Fz (HY U1r U1z U10 Fw Ft (Ad 6) (Ac (Mv Ni RG rfl (B.is "tuple") MK (Ac (Ad 8) Ah)) Ah)))))) U2e)
   (Av (CZ (i:=11) Dv.nd (Di c_law_take hr (by omega) rfl (Ac (Ad 0) (Ac Ag Ah))))
   (Av (Ep (JM (Mr (Ci (Ga hr) GZ (Ad 11) Ag (CW _)) (M5 (Ci Nk Ky (Ad 4) Ag (CW _)))))
   (Ay (Kd (Bh BP BL (Ad 6) (Di c_law_take hr (by omega) rfl (Ac (Ad 0) (Ac (Bd Hi G7 (Ad 4) Ag) Ah))) (fun _ _=>rfl)) (Ad 6) (Ku Ja Ii Ag)))
   Ds)
   (Av (Ep (JM (Mr (Ci (Ga hr) GZ (Ad 1) Ag (CW _)) (M5 (Ci (Ga hr) GZ (Ad 11) Ag (CW _)))))
   (Av (CZ (i:=12) Dv.nd (Et (Ac (Bx (Ac (Bx (Ac Ag (Ac Ag Ah)) (Aj (Aj Az))) (Ac (Bx (Ac Ag (Ac Ag Ah)) (Aj (Aj Az))) Ah)) (Aj (Aj Az))) (Ac (Bx (Ac (Bx (Ac Ag (Ac Ag Ah)) (Aj (Aj Az))) (Ac (Bx (Ac Ag (Ac Ag Ah)) (Aj (Aj Az))) Ah)) (Aj (Aj Az))) (Ac (Bx (Ac (Bx (Ac Ag (Ac Ag Ah)) (Aj (Aj Az))) (Ac (Bx (Ac Ag (Ac Ag Ah)) (Aj (Aj Az))) Ah)) (Aj (Aj Az))) (Ac (Bx (Ac (Bx (Ac Ag (Ac Ag Ah)) (Aj (Aj Az))) (Ac (Bx (Ac Ag (Ac Ag Ah)) (Aj (Aj Az))) Ah)) (Aj (Aj Az))) Ah)))) (Aj (Aj (Aj (Aj Az))))))
   (Ay (CZ (i:=6) Dv.nd (Bd Dr Dq (Ad 12) (MF QD QF (Ad 6) O8 (O7 (Di c_law_take hr (by omega) rfl (Ac (Ad 0) (Ac (Bd Hi G7 (Ad 2) Ag) Ah)))))))))
   Ds)
   (Av (Ep (JM (Mr (Ci (Ga hr) GZ (Ad 1) Ag (CW _)) (M5 (Ci (Ga hr) GZ (Ad 11) Ag (CW _)))))
   (Ay (Zx (i:=6) rfl Dv.nd (Eb.of (sc:=Al IW) (N:=["pot","ways","most","many","count","wide","found","k","box","way","low","kind","ring"]) (N2:=["k"]) (k:=1) (caps:=[]) (by decide +kernel)) rfl (iJ rfl (B.is "range") (Ac Ag (Ac (Bd M4 Lx Ag (Ad 2)) (Ac Ag Ah)))) ⟨fun _ _ _ _ _=>⟨(Bk (i:=0) (show U2c (["k"]:List Str) by decide +kernel)),Gn,(Bx (Ac (Bx (Ac (Bd LK Jk (Ad 0) Ag) (Ac (Bd Dr Dq (Bd LK Jk (Ad 0) Ag) Ag) Ah)) (Aj (Aj Az))) (Ac (Bx (Ac (Bd Oj QJ (Ad 0) Ag) (Ac (Bd Dr Dq (Bd Oj QJ (Ad 0) Ag) Ag) Ah)) (Aj (Aj Az))) Ah)) (Aj (Aj Az)))⟩⟩))
   Ds)
   (Av (Ep (JM (Mr (Ci Nk Ky (Ad 11) Ag (CW _)) (M5 (Ci Nk Ky (Ad 3) Ag (CW _)))))
   (Ay (CZ (i:=6) Dv.nd (lU c_law_unlike hr (by omega) rfl (Ac (Ad 0) (Ac (Ad 1) (Ac (Ad 4) Ah))))))
   Ds)
   (Ay (Cj (Ad 6))))))))))))
set_option maxHeartbeats 4000000 in
theorem ZM{f:Addr}{fd:FuncData}(F:Fun K "_law_marks" "_law_marks" JH f fd)(B:Blt mg)(c_law_take:JZ P w K mg base "_law_take" 2 Ao):DG P w K mg base CX0 3 f fd ["pot","many"] (spM K Gv 2) :=
 fnM F Ji fun cdv A outer s H E hr =>
  (Av (CZ (i:=2) Ji.nd (Bh BP BL (Et (Ac Ag (Ac Ag (Ac (Bd Oj QJ (Bd K1 J3 Ag Ag) (Ad 1)) Ah))) (Aj (Aj (Aj Az)))) (Di c_law_take hr (by omega) rfl (Ac (Ad 0) (Ac Ag Ah))) (fun _ _=>rfl)))
   (Av (CZ (i:=3) Ji.nd (Bh BP BL (Et (Ac Ag (Ac (Bd Hi G7 Ag (Di c_law_take hr (by omega) rfl (Ac (Ad 0) (Ac Ag Ah)))) (Ac (Bd Hi G7 Ag (Bd K1 J3 Ag Ag)) Ah))) (Aj (Aj (Aj Az)))) (Di c_law_take hr (by omega) rfl (Ac (Ad 0) (Ac Ag Ah))) (fun _ _=>rfl)))
   (Av (CZ (i:=4) Ji.nd (Ij (Ac (Ad 3) Ah) (Aj Az)))
   (Av (Gz rfl (Hu rfl (B.is "range") (Ac (Ad 1) Ah)) (Bk (i:=5) Ji.nd)
   (Ay (Fz (HY U1r U1z U10 Fw Ft (Ad 4) (Ac (Cm (Ws rfl) YH rfl (B.is "min") fC (Ac (Bd Dr Dq (Bd Dr Dq (Bh BP BL (Ad 4) (Ku Ja Ii Ag) (fun _ _=>rfl)) Ag) (Di c_law_take hr (by omega) rfl (Ac (Ad 0) (Ac (Ad 2) Ah)))) (Ac (Bd Dr Dq (Bd Hi G7 (Bd Hi G7 (Bd K1 J3 Ag Ag) Ag) (Ad 1)) (Ad 5)) Ah))) Ah)))) U2e)
   (Av (Ep (Ci (Ga hr) GZ (Di c_law_take hr (by omega) rfl (Ac (Ad 0) (Ac Ag Ah))) Ag (CW _))
   (Ay (Kd (Bd K1 J3 Ag Ag) (Ad 4) (Ku Ja Ii Ag)))
   Ds)
   (Av (Ep (Ci (Ga hr) GZ (Di c_law_take hr (by omega) rfl (Ac (Ad 0) (Ac Ag Ah))) Ag (CW _))
   (Ay (Kd (Bd Hi G7 Ag (Bd K1 J3 Ag Ag)) (Ad 4) Ag))
   Ds)
   (Ay (Cj (Ad 4)))))))))
set_option maxHeartbeats 4000000 in
theorem Zq{f:Addr}{fd:FuncData}(F:Fun K "_law_heap" "_law_heap" Hw f fd)(B:Blt mg)(Bz:mg "zip"=none)(c_law_take:JZ P w K mg base "_law_take" 2 Ao)(c_law_small:JZ P w K mg base "_law_small" 5 Gu)(c_law_marks:JZ P w K mg base "_law_marks" 3 Gv):DG P w K mg base CX0 6 f fd ["pot","ways","most"] (spM K Gf 3) :=
 fnM F J8 fun cdv A outer s H E hr =>
  (Av (CZ (i:=3) J8.nd (Bh BP BL (Et (Ac Ag (Ac (Bh BP BL (Et (Ac Ag (Ac Ag (Ac Ag (Ac Ag Ah)))) (Aj (Aj (Aj (Aj Az))))) (Ad 1) (fun _ _=>rfl)) Ah)) (Aj (Aj Az))) (Mv Wt aR rfl (B.is "int") Xx (Ac (Um (Ga hr) GZ (Di c_law_take hr (by omega) rfl (Ac (Ad 0) (Ac Ag Ah))) Ag (CW _)) Ah)) (fun _ _=>rfl)))
   (Av (CZ (i:=4) J8.nd (Di c_law_small hr (by omega) rfl (Ac (Ad 0) (Ac (Ad 1) (Ac (Ad 2) (Ac (Ad 3) Ah))))))
   (Av (Q9 (i:=5) rfl J8.nd (Eb.of (sc:=Al Hw) (N:=["pot","ways","most","many","small","marks","boxes","box"]) (N2:=["way","pot","many"]) (k:=1) (caps:=[0,3]) (by decide +kernel)) rfl (Hu rfl (B.is "range") (Ac (Ad 1) Ah)) ⟨fun _ _ _ _ _=>⟨(Bk (i:=0) (show U2c (["way","pot","many"]:List Str) by decide +kernel)),Gn,(Di c_law_marks hr (by omega) rfl (Ac (Ad 1) (Ac (Ad 2) Ah)))⟩⟩)
   (Av (CZ (i:=6) J8.nd (Ij Ah Az))
   (Av (Gz rfl (Eu (Ad 4)) (Bk (i:=7) J8.nd)
   (Ay (Fz (HY U1r U1z U10 Fw Ft (Ad 6) (Ac (Mv Ni RG rfl (B.is "tuple") MK (Ac (Fi rfl (Eb.of (sc:=Al Hw) (N:=["pot","ways","most","many","small","marks","boxes","box"]) (N2:=["some","low","high"]) (k:=3) (caps:=[]) (by decide +kernel)) rfl (eU rfl Bz (Ac (Ad 5) (Ac (Ad 7) Ah))) ⟨fun _ _ _ _ _=>⟨(Ht rfl (Cg (Bk (i:=0) (show U2c (["some","low","high"]:List Str) by decide +kernel)) (Cg (Ht rfl (Cg (Bk (i:=1) (show U2c (["some","low","high"]:List Str) by decide +kernel)) (Cg (Bk (i:=2) (show U2c (["some","low","high"]:List Str) by decide +kernel)) Gp))) Gp))),Gn,(Bx (Ac (Bh BP BL (Ad 0) (Ad 1) (fun _ _=>rfl)) (Ac (Bh BP BL (Ad 0) (Ad 2) (fun _ _=>rfl)) Ah)) (Aj (Aj Az)))⟩⟩) Ah)) Ah)))) U2e)
   (Ay (Cj (Bx (Ac (Ad 4) (Ac (Ad 5) (Ac (Bx (Ac (Ad 1) (Ac (Ad 6) Ah)) (Aj (Aj Az))) Ah))) (Aj (Aj (Aj Az)))))))))))
set_option maxHeartbeats 4000000 in
theorem cZ{f:Addr}{fd:FuncData}(F:Fun K "_law_own" "_law_own" Km f fd)(B:Blt mg):DG P w K mg base CX0 1 f fd ["heap"] (spP K IK 1) :=
 fnP F cR fun cdv A outer s H E hr =>
  (Ay (Cj (Bx (Ac (Bh BP BL (Ad 0) Ag (fun _ _=>rfl)) (Ac (qQ Rg YJ rfl (B.is "list") Ry (Ac (Bh BP BL (Ad 0) Ag (fun _ _=>rfl)) Ah)) Ah)) (Aj (Aj Az)))))
set_option maxHeartbeats 4000000 in
theorem Zo{f:Addr}{fd:FuncData}(F:Fun K "_law_held" "_law_held" Ir f fd)(B:Blt mg)(Bz:mg "zip"=none)(Be:mg "enumerate"=none):DG P w K mg base CX0 1 f fd ["small","spot"] (spP K Ge 2) :=
 fnP F Mg fun cdv A outer s H E hr =>
  (Av (CZ (i:=2) Mg.nd (Ij Ah Az))
   (Av (Gz rfl (qO rfl Be (Ac (Ad 0) Ah)) (Ht rfl (Cg (Bk (i:=3) Mg.nd) (Cg (Bk (i:=4) Mg.nd) Gp)))
   (Ay (Ep (Ci (Ga hr) GZ (Fi rfl (Eb.of (sc:=Al Ir) (N:=["small","spot","found","number","box"]) (N2:=["one","low","high"]) (k:=3) (caps:=[]) (by decide +kernel)) rfl (eU rfl Bz (Ac (Ad 4) (Ac (Ad 1) Ah))) ⟨fun _ _ _ _ _=>⟨(Ht rfl (Cg (Ht rfl (Cg (Bk (i:=1) (show U2c (["one","low","high"]:List Str) by decide +kernel)) (Cg (Bk (i:=2) (show U2c (["one","low","high"]:List Str) by decide +kernel)) Gp))) (Cg (Bk (i:=0) (show U2c (["one","low","high"]:List Str) by decide +kernel)) Gp))),(Rv (JM (Ma (Ci UG R7 (Ad 0) (Ad 1) (CW _)) (Oe (Ci XQ Uc (Ad 0) (Ad 2) (CW _)))))),Ag⟩⟩) (Et Ah Az) (CW _))
   (Ay (Fz (HY U1r U1z U10 Fw Ft (Ad 2) (Ac (Ad 3) Ah))))
   Ds)) U2e)
   (Ay (Cj (Ad 2)))))
set_option maxHeartbeats 4000000 in
theorem cg{f:Addr}{fd:FuncData}(F:Fun K "_law_due" "_law_due" Ko f fd)(B:Blt mg)(c_law_held:CN P w K mg base "_law_held" 1 Ge):DG P w K mg base CX0 2 f fd ["small","marks","way"] (spP K IV 3) :=
 fnP F GQ fun cdv A outer s H E hr =>
  (Av (CZ (i:=3) GQ.nd (Ij Ah Az))
   (Av (Gz rfl (Hu rfl (B.is "range") (Ac (Bd Hi G7 (Cm Dw HX rfl (B.is "len") Ih (Ac (Bh BP BL (Ad 1) (Ad 2) (fun _ _=>rfl)) Ah)) Ag) Ah)) (Bk (i:=4) GQ.nd)
   (Av (CZ (i:=5) GQ.nd Ag)
   (Av (Gz rfl (Hu rfl (B.is "range") (Ac (Bd Hi G7 (Cm Dw HX rfl (B.is "len") Ih (Ac (Bh BP BL (Ad 1) (Bd Hi G7 Ag (Ad 2)) (fun _ _=>rfl)) Ah)) Ag) Ah)) (Bk (i:=6) GQ.nd)
   (Av (CZ (i:=7) GQ.nd (Bh BP BL (Et (Ac (Bx (Ac (Ad 4) (Ac (Ad 6) Ah)) (Aj (Aj Az))) (Ac (Bx (Ac (Ad 6) (Ac (Ad 4) Ah)) (Aj (Aj Az))) Ah)) (Aj (Aj Az))) (Ad 2) (fun _ _=>rfl)))
   (Ay (Ep (Ci (Mq hr) Oc (Bw c_law_held hr (by omega) rfl (Ac (Ad 0) (Ac (Ad 7) Ah))) (Et Ah Az) (CW _))
   (Av (CZ (i:=8) GQ.nd (Bh BP BL (Ad 1) (Bd Hi G7 Ag (Ad 2)) (fun _ _=>rfl)))
   (Ay (CZ (i:=5) GQ.nd (Bd Hi G7 (Bd Dr Dq (Ad 5) (Bh BP BL (Ad 8) (Bd Dr Dq (Ad 6) Ag) (fun _ _=>rfl))) (Bh BP BL (Ad 8) (Ad 6) (fun _ _=>rfl))))))
   Ds))) U2e)
   (Av (vO (i:=9) (j:=10) rfl GQ.nd (Ac (Bh BP BL (Bh BP BL (Ad 1) (Ad 2) (fun _ _=>rfl)) (Ad 4) (fun _ _=>rfl)) (Ac (Bh BP BL (Bh BP BL (Ad 1) (Ad 2) (fun _ _=>rfl)) (Bd Dr Dq (Ad 4) Ag) (fun _ _=>rfl)) Ah)))
   (Av (Ep (JM (Mr (Ci (Mq hr) Oc (Ad 3) (Et Ah Az) (CW _)) (M5 (Ci (Ga hr) GZ (MF QD QF (Bh BP BL (Ad 3) (Ku Ja Ii Ag) (fun _ _=>rfl)) (O7 Ag) O8) (Bx (Ac (Ad 9) (Ac (Ad 5) Ah)) (Aj (Aj Az))) (CW _)))))
   (Ay (CZ (i:=9) GQ.nd (Bh BP BL (lV U1r PySem.F.slot_list_pop PySem.F.type_list_pop vB uI (Ad 3)) Ag (fun _ _=>rfl))))
   Ds)
   (Ay (Ep (Ci Nk Ky (Ad 5) Ag (CW _))
   (Ay (Fz (HY U1r U1z U10 Fw Ft (Ad 3) (Ac (Bx (Ac (Ad 9) (Ac (Ad 10) (Ac (Ad 5) Ah))) (Aj (Aj (Aj Az)))) Ah))))
   Ds)))))) U2e)
   (Ay (Cj (Ad 3)))))
set_option maxHeartbeats 4000000 in
theorem v9{f:Addr}{fd:FuncData}(F:Fun K "law" "law" Nj f fd)(B:Blt mg)(c_law_pot:CN P w K mg base "_law_pot" 1 Hz)(c_law_heap:JZ P w K mg base "_law_heap" 6 Gf)(c_law_own:CN P w K mg base "_law_own" 1 IK)(c_law_due:CN P w K mg base "_law_due" 2 IV)(c_lengths_across:CN P w K mg base "lengths_across" 11 Cv):DG P w K mg base CX0 12 f fd ["script"] (spP K Vo 1) :=
 fnP F Jb fun cdv A outer s H E hr =>
  (Av (Gz rfl (Eu (Bd Dr Dq (MF QD QF (Ad 0) O8 (O7 Ag)) (Et (Ac (Cm Dw HX rfl (B.is "len") Ih (Ac (Ad 0) Ah)) Ah) (Aj Az)))) (Bk (i:=1) Jb.nd)
   (Av (CZ (i:=2) Jb.nd (Yk c_law_pot hr (by omega) rfl (Ac (Ad 1) Ah)))
   (Av (vP (Di c_law_heap hr (by omega) rfl (Ac (Ad 2) (Ac Ag (Ac Ag Ah)))) (Ht rfl (Cg (Bk (i:=3) Jb.nd) (Cg (Bk (i:=4) Jb.nd) (Cg (Bk (i:=5) Jb.nd) Gp)))))
   (Av (CZ (i:=6) Jb.nd (Bw c_law_own hr (by omega) rfl (Ac (Ad 5) Ah)))
   (Ay (Gz rfl (Eu (Bx (Ac Ag (Ac Ag (Ac Ag Ah))) (Aj (Aj (Aj Az))))) (Bk (i:=7) Jb.nd)
   (Av (CZ (i:=8) Jb.nd (Bw c_law_due hr (by omega) rfl (Ac (Ad 3) (Ac (Ad 4) (Ac (Ad 7) Ah)))))
   (Ay (Gz rfl (Hu rfl (B.is "range") (Ac Ag Ah)) (Bk (i:=9) Jb.nd)
   (Av (CZ (i:=10) Jb.nd (Yk c_lengths_across hr (by omega) rfl (Ac (Ad 6) (Ac (Ad 7) Ah))))
   (Av (Ep (JM (Ma (Ci (Mq hr) oK (Cm (VB hr) YG rfl (B.is "repr") bM (Ac (Ad 10) Ah)) (Cm (VB hr) YG rfl (B.is "repr") bM (Ac (Ad 8) Ah)) (CW _)) (Oe (Ci (Mq hr) Oc (Ad 6) (Ad 5) (CW _)))))
   (Ay (Cj UJ))
   Ds)
   (Ay (Fz (HY U1r U1z U10 Fw Ft (Ad 10) (Ac vR Ah)))))) U2e))) U2e))))) U2e)
   (Ay (Cj (Um (Ga hr) GZ (Bw c_lengths_across hr (by omega) rfl (Ac (Bx (Ac Ag (Ac (Et (Ac (Bx (Ac (Bx (Ac Ag (Ac Ag Ah)) (Aj (Aj Az))) (Ac (Bx (Ac Ag (Ac Ag Ah)) (Aj (Aj Az))) Ah)) (Aj (Aj Az))) (Ac (Bx (Ac (Bx (Ac Ag (Ac Ag Ah)) (Aj (Aj Az))) (Ac (Bx (Ac Ag (Ac Ag Ah)) (Aj (Aj Az))) Ah)) (Aj (Aj Az))) Ah)) (Aj (Aj Az))) Ah)) (Aj (Aj Az))) (Ac Ag Ah))) (Et (Ac (Bx (Ac Ag (Ac Ag (Ac Ag Ah))) (Aj (Aj (Aj Az)))) Ah) (Aj Az)) (CW _)))))
end
end W14
end
section
namespace W14
open PySem L2 VS
theorem Lj(i:Int):Cu [.int i]=some (.bl true):=by
 simp[Cu,V4,Ck,Aw,CT,Bl,Am,Fg,Vu,rB,Dc,den,-U0d,-U0e]
theorem T5{n:Int}(h:n=1∨n=2∨n=3):Ey [.int n]=some (.bl true):=by
 have e:(Spec.lookup (.int n) Bc.D3).isSome=true:=by rw[Bc.yK];exact decide_eq_true h
 simp[Ey,V6,Ck,Aw,vf,Bl,Am,Vu,Gd,Dc,den,Cw,age,Bq,BX,Ax,-U0d,-U0e,Lj,Xg,e]
theorem XD(p:St2):Hf [Aq p]=some (.bl (decide (p.1<p.2))):=by
 have h:Cp [] (Aq p)=some (pS p):=fu [] p
 simp only[Aq] at h ⊢
 simp[Hf,Rc,J4,Ck,Jz,Kg,Aw,CT,BJ,Bl,Am,Fg,Vu,Cq,R0,Rn,Gd,oI,Hl,oLt,oEq,oIx,Ef,VS.listOf,Br,Dc,den,Cw,age,Bq,BX,Ax,-U0d,-U0e,Lj,h,pS]
theorem lu(n:Nat)(b:List St2)(hb:∀p∈b,p.1<p.2)(hl:b.length<=1000):RN [some (.int n),some (Af b)] []=some (b.map (fun _=>D.bl true),[]):=by
 unfold RN DK
 have e:Dp (Ab 1) [some (.int n),some (Af b)] []=some ((b.map Aq,[]),[]):=by simp[Aw,VS.listOf,Br,VS.idOf,Fq,-U0d,-U0e,Af]
 rw[e]
 simp only[U0b]
 rw[Yy (by simp) (fun _=>.bl true) _ (by simp;omega)]
 .simp[Function.comp_def]
 .intro d hd
  obtain⟨p,hp,rfl⟩:=U1t.mp hd
  refine⟨_,rfl,?_⟩
  have h1:=XD p
  rw[decide_eq_true (hb p hp)] at h1
  simp[Aw,Bl,Am,HJ,Gd,Cw,Bq,Ax,U0s,-U0d,-U0e,h1]
theorem VD{α:Type}(l:List α):Ob.boolsOf (l.map fun _=>D.bl true)=some (l.map fun _=>true):=by
 have:=aC (l.map fun _=>true)
 rw[U0d] at this
 exact this
theorem iQ{n:Nat}{b:List St2}(hn:n=1∨n=2∨n=3)(hb:∀p∈b,p.1<p.2)(hl:b.length=n):Jm [.int n,Af b]=some (.bl true):=by
 have hw:Ey [.int n]=some (.bl true):=T5 (by omega)
 have hc:=lu n b hb (by omega)
 have h:Cp [] (Af b)=some (pB b):=gA [] b
 have hlen:Ef [] [Af b]=some (.int n):=by simp[Ef,Af,Br,hl]
 simp[Jm,Yq,Bm,sIf,Dk,Dh,VS.tOr,VS.JR,BK,BR,eCB,Aa,Ae,Ab,eC,eOp,Bt,En,den,Cw,age,Bq,BX,Ax,hw,h,pB,hlen,oEq,hc,Ob,VS.listOf,VD]
theorem pW{n:Nat}(h:n=1∨n=2∨n=3):Uh Bc.D3 [] (.int n)=some (.int ([0,20,10,6].getD n 0:Nat)):=by
 rcases h with h|h|h<;>subst h<;>rfl
theorem iM{n:Nat}{m:Bool}{bs:List (List St2)}(g:Good n bs):Qm [some (Ak m n bs),some (.int n),some (.lst m (bs.map Af))] []=some (bs.map (fun _=>D.bl true),[]):=by
 have few:=g.few
 unfold Qm DK
 have e:Dp (Ab 2) [some (Ak m n bs),some (.int n),some (.lst m (bs.map Af))] []=some ((bs.map Af,[]),[]):=by simp[Aw,VS.listOf,Br,VS.idOf,Fq,-U0d,-U0e]
 rw[e]
 simp only[U0b]
 rw[Yy (by simp) (fun _=>.bl true) _ (by simp;omega)]
 .simp[Function.comp_def]
 .intro d hd
  obtain⟨b,hb,rfl⟩:=U1t.mp hd
  refine⟨_,rfl,?_⟩
  have h1:=iQ g.ways (fun p hp=>((g.box b hb).2 p hp).1) (g.box b hb).1
  simp[Aw,Bl,Am,HJ,Gd,den,Cw,age,Bq,BX,Ax,U0s,-U0d,-U0e,h1]
theorem dI{n:Nat}{m:Bool}{bs:List (List St2)}(g:Good n bs):J7 [Ak m n bs]=some (.bl true):=by
 have hw:Ey [.int n]=some (.bl true):=T5 (by have:=g.ways;omega)
 have hc:=iM (m:=m) g
 have h:=RJ [] m n bs
 have h2:=Uv [] m bs
 have hm:=pW g.ways
 have hle:¬(([0,20,10,6].getD n 0:Nat):Int)<(bs.length:Int):=by have:=g.most;omega
 unfold Ak at h hc ⊢
 simp only[U0k] at hm hle
 simp[J7,Wh,Bm,sIf,Dk,Dh,Bj,VS.tOr,VS.JR,BK,BR,eCB,Aa,Ae,Ab,eC,eOp,eUn,Bt,En,den,Cw,age,Bq,BX,Ax,hw,h,h2,hc,oEq,oIx,oGt,oI,Hl,Ef,VS.Br,VS.listOf,Ob,VD,hm,hle]
theorem RZ{n:Nat}{m:Bool}{bs:List (List St2)}(g:Good n bs):El [Ak m n bs]=some .non:=by
 have h:=dI (m:=false) g
 simp[El,Ss,Jz,Kg,gG,Aw,Bl,Am,Cq,Rn,Gd,Dc,Cw,Bq,Ax,-U0d,-U0e,h]
end W14
end
section
namespace W14
open PySem L2 VS
theorem DR{sem:Cz}{a:Bf}{env:VS.Env}{S S':Store}{ds es:List D}{r:D}(h:a env S=some (ds,S'))(hp:Ax ds=true)(ha:Bq ds=es)(hr:sem es=some r):BR sem a env S=some (r,S'):=by
 rw[Gd,h]
 simp only[U0b,Ca 0 S' hp,ha,hr,hp,Bool.true_or,if_true]
def GJ(bs:List (List St2))(w:Nat):List Int:=bs.map fun b=>(b.getD w (0,0)).1
def FW(bs:List (List St2))(w:Nat):List Int:=bs.map fun b=>(b.getD w (0,0)).2
theorem col{bs:List (List St2)}{w:Nat}(hw:∀b∈bs,w<b.length)(hl:bs.length<=1000)(S:Store)(e0:VS.Env)(h0:∀d:D,(e0.set 0 (some d))[0]?=some (some d)/\(e0.set 0 (some d))[1]?=some (some (.int w))) :
  Fy [] e0 (Pat.sem (.nm 0)) G3 (eOp oIx (eOp oIx (Ab 0) (Ab 1)) (eC (.int 0))) (bs.map Af) [] S=some ((GJ bs w).map .int,S) /\
  Fy [] e0 (Pat.sem (.nm 0)) G3 (eOp oIx (eOp oIx (Ab 0) (Ab 1)) (eC (.int 1))) (bs.map Af) [] S=some ((FW bs w).map .int,S):=by
 have key:∀b∈bs,atI (b.map Aq) (w:Int)=some (Aq (b.getD w (0,0))):=fun b hb=>by
  have h:=hw b hb
  refine Kh ?_
  rw[U0y,U0g h]
  simp[h]
 constructor
 .rw[J6 (by simp) Af (fun b=>.int (b.getD w (0,0)).1) bs (by omega)]
  .rw[GJ,U0d];rfl
  .intro b hb
   refine⟨_,DN _ _ _,?_⟩
   have ha:=key b hb
   simp only[Aq] at ha
   simp[Aw,CT,BJ,oIx,VS.listOf,Br,-U0d,-U0e,h0,Af,ha]
 .rw[J6 (by simp) Af (fun b=>.int (b.getD w (0,0)).2) bs (by omega)]
  .rw[FW,U0d];rfl
  .intro b hb
   refine⟨_,DN _ _ _,?_⟩
   have ha:=key b hb
   simp only[Aq] at ha
   simp[Aw,CT,BJ,oIx,VS.listOf,Br,-U0d,-U0e,h0,Af,ha]
theorem Yu{cs:List (List St2)}{w:Nat}(hl:cs.length<=20):(SetP.once (GJ cs w++FW cs w)).length<64/\(GJ cs w++FW cs w).length<1000:=by
 have h1:=(SetP.Ol (GJ cs w++FW cs w)).2.1
 have h2:(GJ cs w++FW cs w).length=cs.length+cs.length:=by simp[GJ,FW]
 omega
theorem iW(a b:List Int):intsOf (a.map D.int++b.map D.int)=some (a++b):=by rw[←U1b];exact Le _
theorem bG{m:Bool}{cs:List (List St2)}{w:Nat}(hw:∀b∈cs,w<b.length)(hl:cs.length<=20):Hg [.lst m (cs.map Af),.int w]=some (.lst true ((FZ (GJ cs w++FW cs w)).map .int)):=by
 obtain⟨c1,c2⟩:=col hw (by omega) [] [none,some (.int w)] fun d=>⟨rfl,rfl⟩
 have e:Dp (Ab 0) [some (.lst m (cs.map Af)),some (.int w)] []=some ((cs.map Af,[]),[]):=by simp[Aw,VS.listOf,Br,VS.idOf,Fq,-U0d,-U0e]
 have e1:Nb [some (.lst m (cs.map Af)),some (.int w)] []=some ((GJ cs w).map .int,[]):=by
  unfold Nb DK
  rw[e]
  exact c1
 have e2:NZ [some (.lst m (cs.map Af)),some (.int w)] []=some ((FW cs w).map .int,[]):=by
  unfold NZ DK
  rw[e]
  exact c2
 obtain⟨h1,h2⟩:=Yu (w:=w) hl
 have h3:(GJ cs w).length+(FW cs w).length<=1000000:=by simp at h2;omega
 have h4:(GJ cs w).length+(FW cs w).length<1000:=by simpa using h2
 simp[Hg,Rf,Ck,BJ,Dj,Zy,Dd,VS.listOf,Dc,den,-U0d,-U0e,e1,e2,iW,h1,h3,h4]
theorem Xy:∀a b:List Int,Df (a.map D.int) (b.map D.int)=(a.zip b).map Aq
 |[],_=>by simp[Df]
 |_::_,[]=>by simp[Df]
 |p::a,q::b=>by simp[Df,Xy a b,Aq]
theorem fW(E:List Int):Df (E.map D.int) (E.map D.int).tail=(steps E).map Aq:=by
 rw[←List.map_tail,Xy];rfl
theorem Ms(E:List Int):(steps E).length<=E.length:=by simp[steps]
theorem YC{m:Bool}{cs:List (List St2)}{w:Nat}(hw:∀b∈cs,w<b.length)(hl:cs.length<=20)(hne:cs≠[]):Cy [.lst m (cs.map Af),.int w]=some (.lst true ((steps (FZ (GJ cs w++FW cs w))).map Aq)):=by
 have h0:=bG (m:=false) hw hl
 have hl1:=Je (GJ cs w++FW cs w)
 obtain⟨_,h2⟩:=Yu (w:=w) hl
 have pos:1<=(FZ (GJ cs w++FW cs w)).length:=by
  cases cs with
  |nil=>exact absurd rfl hne
  |cons b r =>
   have:(b.getD w (0,0)).1∈FZ (GJ (b::r) w++FW (b::r) w):=Jd.mpr (by simp[GJ])
   exact List.length_pos_of_mem this
 generalize FZ (GJ cs w++FW cs w)=E at *
 have c:=Tp (xs:=E.map D.int) (a:=1) (by decide) (by simp;omega)
 have z:=fW E
 have hz:(steps E).length<=1000000:=by have:=Ms E;omega
 have c':cut (E.map D.int) (some 1) none=(E.map D.int).drop 1:=c
 have hd:∀(k:Nat)(S:Store),Cw k S ((steps E).map Aq)=some ((steps E).map Aq):=fun k S=>Ca k S (Bo (HS _ fun p _=>Gb p))
 simp[Cy,NT,J4,CV,Ck,Aw,CT,Bl,Am,TY,TX,Uq,Gd,QC,oSl,VS.listOf,Br,Dc,den,Cw,age,Bq,BX,Ax,U0s,-U0d,-U0e,h0,c',z,hz,hd]
def DX(m:Bool)(ns:List Nat):D:=.lst m (ns.map fun(i:Nat)=>D.int i)
def encC(c:List St2×List Nat):D:=.tup [Af c.1,DX false c.2]
theorem Pg(m:Bool)(ns:List Nat):BX (DX m ns)=true:=by
 have:=Iu (ns.map fun(i:Nat)=>(i:Int))
 rw[U0d] at this
 rw[DX,BX];exact this
theorem Z5(m:Bool)(ns:List Nat):age (DX m ns)=DX false ns:=by
 have:=Pn (ns.map fun(i:Nat)=>(i:Int))
 rw[U0d] at this
 rw[DX,age]
 exact congrArg (D.lst false) this
theorem gK(c:List St2×List Nat):BX (encC c)=true:=by
 rw[encC,BX,Ax,Ax,Ax,gM,Pg];rfl
theorem Nu:∀cs:List (List St2×List Nat),Ax (cs.map encC)=true
 |[]=>rfl
 |c::r=>by rw[U0m,Ax,gK,Nu r];rfl
theorem fG{n:Nat}{bs:List (List St2)}(hb:∀b∈bs,b.length=n){i w:Nat}(hi:i<bs.length)(hw:w<n):atI (bs.map Af) (i:Int)=some (Af (bs.getD i []))/\atI ((bs.getD i []).map Aq) (w:Int)=some (Aq (at1 bs i w)):=by
 have h1:bs[i]?=some bs[i]:=U0g hi
 have h2:bs.getD i []=bs[i]:=by rw[U0k,h1];rfl
 have h3:w<bs[i].length:=by rw[hb _ (U1s hi)];exact hw
 refine⟨Kh (by rw[U0y,h1,h2];rfl),Kh ?_⟩
 rw[at1,h2,U0y,U0g h3,U0k,U0g h3]
 rfl
theorem qx(rec:Cz){n:Nat}{m m':Bool}{bs:List (List St2)}(hb:∀b∈bs,b.length=n)(hn:0<n){ns:List Nat}(hi:∀i∈ns,i<bs.length)(hl:ns.length<=20)(r:VS.Env)(S:Store) :
  KC rec (some (.lst m (bs.map Af))::some (DX m' ns)::r) S=some ((ns.map fun i=>bs.getD i []).map Af,S):=by
 unfold KC DK
 have e:Dp (Ab 1) (some (.lst m (bs.map Af))::some (DX m' ns)::r) S=some ((ns.map fun(i:Nat)=>D.int i,[]),S):=by simp[Aw,VS.listOf,Br,VS.idOf,Fq,-U0d,-U0e,DX]
 rw[e]
 simp only[U0b]
 rw[J6 (by simp) (fun(i:Nat)=>D.int i) (fun i=>Af (bs.getD i [])) ns (by omega)]
 .rw[U0d];rfl
 .intro i hi'
  obtain⟨h1,_⟩:=fG hb (hi i hi') hn
  exact⟨_,DN _ _ _,by simp[Aw,BJ,HJ,oIx,VS.listOf,Br,U0s,-U0d,-U0e,h1]⟩
theorem qw(rec:Cz){n:Nat}{m m':Bool}{bs:List (List St2)}(hb:∀b∈bs,b.length=n){ns:List Nat}(hi:∀i∈ns,i<bs.length)(hl:ns.length<=20){w:Nat}(hw:w<n)(x:Int)(z3 z4:Option D)(r:VS.Env)(S:Store) :
  K9 rec (some (.lst m (bs.map Af))::some (DX m' ns)::some (.int w)::z3::z4::some (.int x)::r) S=some ((KN bs w x ns).map (fun(i:Nat)=>D.int i),S):=by
 unfold K9 DK
 have e:Dp (Ab 1) (some (.lst m (bs.map Af))::some (DX m' ns)::some (.int w)::z3::z4::some (.int x)::r) S=some ((ns.map fun(i:Nat)=>D.int i,[]),S):=by simp[Aw,VS.listOf,Br,VS.idOf,Fq,-U0d,-U0e,DX]
 rw[e]
 simp only[U0b]
 rw[M7 (by simp) (fun(i:Nat)=>D.int i) (fun i=>inS (at1 bs i w) x) (fun i=>.int i) _ _ (by simp;omega)]
 .rfl
 .intro i hi'
  obtain⟨h1,h2⟩:=fG hb (hi i hi') hw
  refine⟨_,DN _ _ _,?_,fun _=>by simp[Aw,HJ,U0s,-U0d,-U0e]⟩
  simp only[Aq] at h2
  generalize bs.getD i []=B at *
  generalize ((w:Nat):Int)=w' at *
  generalize ((i:Nat):Int)=i' at *
  by_cases g:(at1 bs i w).1<=x<;>simp[Aw,CT,BJ,Wn,Cq,HJ,oI,Hl,oLt,oLe,oIx,VS.listOf,Br,U0s,-U0d,-U0e,h1,h2,Af,inS,g]
theorem Jt{bs:List (List St2)}:∀(k w:Nat)(ns:List Nat),ns.length<=20->(CQ bs k w ns).length<=40^k
 |0,w,ns,_=>by rw[CQ];split<;>simp
 |k+1,w,ns,hl=>by
  rw[CQ]
  split
  .simp
  .have h1:(steps (CP bs w ns)).length<=40:=by
    have:=Ms (CP bs w ns)
    have h2:=Je (ns.map (fun i=>(at1 bs i w).1)++ns.map (fun i=>(at1 bs i w).2))
    rw[U0n,U0j,U0j] at h2
    unfold CP at this ⊢
    omega
   have h2:∀l:List St2,(l.flatMap fun p=>(CQ bs k (w+1) (KN bs w p.1 ns)).map fun c=>(p::c.1,c.2)).length<=l.length*40^k:=fun l=>by
    induction l with
    |nil=>simp
    |cons p l ih =>
     rw[U7a,U0n,U0j,U0i,Nat.add_mul,Nat.one_mul]
     have:=Jt (bs:=bs) k (w+1) (KN bs w p.1 ns) (U06 (U3d _ _) hl)
     omega
   have h3:=h2 (steps (CP bs w ns))
   have h4:=U5b (40^k) h1
   rw[Nat.pow_succ,U7d]
   omega
end W14
end
section
namespace W14
open PySem L2 VS
theorem qy(rec:Cz)(e0 e1 e2 e3 z7:Option D)(p:St2)(c:List St2×List Nat)(acc:List D)(hl:acc.length<1000000)(hc:c.1.length<=3) :
  KH rec [e0,e1,e2,e3,some (.ref 0),some (.int p.1),some (.int p.2),z7,some (Af c.1),some (DX false c.2)] [some acc]=some (.nx,[e0,e1,e2,e3,some (.ref 0),some (.int p.1),some (.int p.2),z7,some (Af c.1),some (DX false c.2)],[some (acc++[encC (p::c.1,c.2)])]):=by
 have h1:1+c.1.length<=1000000:=by omega
 have h2:c.1.length+1<=1000000:=by omega
 have h3:c.1.length<=999999:=by omega
 simp[KH,Gm,Aw,BJ,Bl,Am,Ho,Yv,Dd,VS.listOf,Ed,-U0d,-U0e,hl,h1,h2,h3,Af,encC,Aq]
theorem qu(rec:Cz){n w:Nat}{bs:List (List St2)}{there:List Nat}{cs:List (List St2×List Nat)}(hrec:rec [.lst false (bs.map Af),DX false there,.int ((w:Int)+1),.int n]=some (.lst true (cs.map encC)))(hcs:∀c∈cs,c.1.length<=3)(NS:D)(p:St2)(z8 z9:Option D)(acc:List D)(hl:acc.length+cs.length<=999999) :
  ∃z8' z9',Ng rec [some (.lst false (bs.map Af)),some NS,some (.int w),some (.int n),some (.ref 0),some (.int p.1),some (.int p.2),some (DX true there),z8,z9] [some acc] =
   some (.nx,[some (.lst false (bs.map Af)),some NS,some (.int w),some (.int n),some (.ref 0),some (.int p.1),some (.int p.2),some (DX true there),z8',z9'],[some (acc++(cs.map fun c=>(p::c.1,c.2)).map encC)]):=by
 have e:Dp (BR rec (Aa (Ab 0) (Aa (Ab 7) (Aa (eOp Dd (Ab 2) (eC (.int 1))) (Aa (Ab 3) Ae))))) [some (.lst false (bs.map Af)),some NS,some (.int w),some (.int n),some (.ref 0),some (.int p.1),some (.int p.2),some (DX true there),z8,z9] [some acc]=some ((cs.map encC,[]),[some acc]):=by
  rw[Fq,DR (ds:=[.lst false (bs.map Af),DX true there,.int ((w:Int)+1),.int n]) (S':=[some acc]) (by simp[Aw,CT,BJ,Bl,Am,Dd,VS.listOf,-U0d,-U0e]) (by simp[Ax,BX,Pg]) (by simp[Bq,age,Z5]) hrec]
  simp[Br,VS.listOf,VS.idOf]
 unfold Ng
 rw[Fp,e]
 obtain⟨env',S',e2,z8',z9',he,hS⟩:=Eo (w:=[]) (g:=Pat.sem (.tp [(.nm 8),(.nm 9)])) (b:=KH rec) (ds:=cs.map encC) (env:=[some (.lst false (bs.map Af)),some NS,some (.int w),some (.int n),some (.ref 0),some (.int p.1),some (.int p.2),some (DX true there),z8,z9]) (S:=[some acc])
  (fun i env S=>∃z8 z9,env=[some (.lst false (bs.map Af)),some NS,some (.int w),some (.int n),some (.ref 0),some (.int p.1),some (.int p.2),some (DX true there),z8,z9]/\S=[some (acc++((cs.take i).map fun c=>(p::c.1,c.2)).map encC)])
  ⟨z8,z9,rfl,by simp⟩ (fun i env S _=>by simp) (fun i d env S hd q=>by
   obtain⟨z8,z9,he,hS⟩:=q
   subst he hS
   rw[U0y] at hd
   obtain⟨c,hc,rfl⟩:=U2t.mp hd
   have hi:=(U0l.mp hc).1
   refine⟨_,by simp[DN,Iv,Gs,Fv,-U0d,-U0e,encC],_,_,qy rec _ _ _ _ _ p c _ (by simp;omega) (hcs c (U18 hc)),_,_,rfl,?_⟩
   rw[U4k,hc]
   simp)
 subst he hS
 refine⟨z8',z9',e2.trans ?_⟩
 have:(cs.map encC).length=cs.length:=by simp
 rw[this,U3p]
theorem Mz{bs:List (List St2)}:∀(k w:Nat)(ns:List Nat)(c:List St2×List Nat),c∈CQ bs k w ns->c.1.length=k
 |0,w,ns,c,h=>by
  rw[CQ] at h
  split at h
  .simp at h
  .have:c=([],ns):=by simpa using h
   rw[this];rfl
 |k+1,w,ns,c,h=>by
  rw[CQ] at h
  split at h
  .simp at h
  .obtain⟨p,_,h2⟩:=U7h.mp h
   obtain⟨d,h3,rfl⟩:=U1t.mp h2
   rw[U0i,Mz k (w+1) _ d h3]
theorem Yb(bs:List (List St2))(w:Nat)(ns:List Nat):FZ (GJ (ns.map fun i=>bs.getD i []) w++FW (ns.map fun i=>bs.getD i []) w)=CP bs w ns:=by
 unfold GJ FW CP at1
 rw[U0d,U0d];rfl
theorem qt(rec:Cz){n w k:Nat}{bs:List (List St2)}{ns:List Nat}(hb:∀b∈bs,b.length=n)(hi:∀i∈ns,i<bs.length)(hl:ns.length<=20)(hne:ns≠[])(hw:w<n)(hk:k<=2)
  (ih:∀ms:List Nat,(∀i∈ms,i<bs.length)->ms.length<=20->rec [.lst false (bs.map Af),DX false ms,.int ((w:Int)+1),.int n]=some (.lst true ((CQ bs k (w+1) ms).map encC))) :
  ∃z5 z6 z7 z8 z9,Nf rec [some (.lst false (bs.map Af)),some (DX false ns),some (.int w),some (.int n),some (.ref 0),none,none,none,none,none] [some []] =
   some (.nx,[some (.lst false (bs.map Af)),some (DX false ns),some (.int w),some (.int n),some (.ref 0),z5,z6,z7,z8,z9],[some ((CQ bs (k+1) w ns).map encC)]):=by
 have c1:=qx rec (m:=false) (m':=false) hb (by omega) hi hl [some (.int w),some (.int n),some (.ref 0),none,none,none,none,none] [some []]
 have h1:=YC (m:=false) (cs:=ns.map fun i=>bs.getD i []) (w:=w) (fun b hb'=>by
  obtain⟨i,hi',rfl⟩:=U1t.mp hb'
  have h:=hi i hi'
  rw[U0k,U0g h]
  show w<bs[i].length
  rw[hb _ (U1s h)];exact hw) (by rw[U0j];exact hl) (by simpa using hne)
 rw[Yb] at h1
 have e:Dp (BR Cy (Aa (Bt (KC rec)) (Aa (Ab 2) Ae))) [some (.lst false (bs.map Af)),some (DX false ns),some (.int w),some (.int n),some (.ref 0),none,none,none,none,none] [some []]=some (((steps (CP bs w ns)).map Aq,[]),[some []]):=by
  rw[Fq,DR (ds:=[.lst true ((ns.map fun i=>bs.getD i []).map Af),.int w]) (S':=[some []]) (by simp only[Am,Bl,Dj,Aw,c1,U0b];rfl) (by rw[Ax,BX,Zk];rfl) (by rw[Bq,age,dX,Bq,Bq];rfl) h1]
  simp[Br,VS.listOf,VS.idOf]
 have hst:(steps (CP bs w ns)).length<=40:=by
  have:=Ms (CP bs w ns)
  have h2:=Je (ns.map (fun i=>(at1 bs i w).1)++ns.map (fun i=>(at1 bs i w).2))
  rw[U0n,U0j,U0j] at h2
  unfold CP at this ⊢
  omega
 have hcl:∀x,(CQ bs k (w+1) (KN bs w x ns)).length<=1600:=fun x=>by
  have:=Jt (bs:=bs) k (w+1) (KN bs w x ns) (U06 (U3d _ _) hl)
  have h2:40^k<=40^2:=Nat.pow_le_pow_right (by decide) hk
  omega
 let f:St2->List (List St2×List Nat):=fun p=>(CQ bs k (w+1) (KN bs w p.1 ns)).map fun c=>(p::c.1,c.2)
 have hf:∀l:List St2,(l.flatMap f).length<=l.length*1600:=fun l=>by
  induction l with
  |nil=>simp
  |cons p l ih =>
   rw[U7a,U0n,U0i,Nat.add_mul,Nat.one_mul]
   have:(f p).length<=1600:=by rw[U0j];exact hcl p.1
   omega
 unfold Nf
 rw[Fp,e]
 obtain⟨env',S',e2,z5,z6,z7,z8,z9,he,hS⟩:=Eo (w:=[]) (g:=Pat.sem (.tp [(.nm 5),(.nm 6)])) (b:=KD rec) (ds:=(steps (CP bs w ns)).map Aq) (env:=[some (.lst false (bs.map Af)),some (DX false ns),some (.int w),some (.int n),some (.ref 0),none,none,none,none,none]) (S:=[some []])
  (fun i env S=>∃z5 z6 z7 z8 z9,env=[some (.lst false (bs.map Af)),some (DX false ns),some (.int w),some (.int n),some (.ref 0),z5,z6,z7,z8,z9]/\S=[some ((((steps (CP bs w ns)).take i).flatMap f).map encC)])
  ⟨none,none,none,none,none,rfl,by simp⟩ (fun i env S _=>by simp) (fun i d env S hd q=>by
   obtain⟨z5,z6,z7,z8,z9,he,hS⟩:=q
   subst he hS
   rw[U0y] at hd
   obtain⟨p,hp,rfl⟩:=U2t.mp hd
   have hi':=(U0l.mp hp).1
   have h2:=hf ((steps (CP bs w ns)).take i)
   rw[U19] at h2
   obtain⟨z8',z9',l1⟩:=qu rec (n:=n) (w:=w) (bs:=bs) (there:=KN bs w p.1 ns) (cs:=CQ bs k (w+1) (KN bs w p.1 ns)) (ih _ (fun i hi'=>hi i (U3k.mp hi').1) (U06 (U3d _ _) hl)) (fun c hc=>by rw[Mz _ _ _ _ hc];omega) (DX false ns) p z8 z9 ((((steps (CP bs w ns)).take i).flatMap f).map encC) (by
    have h3:=hcl p.1
    rw[U0j]
    have h4:min i (steps (CP bs w ns)).length<=40:=by omega
    have h5:=U5b 1600 h4
    omega)
   have c2:=qw rec (m:=false) (m':=false) hb hi hl hw p.1 (some (.int n)) (some (.ref 0)) [some (.int p.2),z7,z8,z9] [some ((((steps (CP bs w ns)).take i).flatMap f).map encC)]
   have s1:(Bj 7 (Bt (K9 rec))) [some (.lst false (bs.map Af)),some (DX false ns),some (.int w),some (.int n),some (.ref 0),some (.int p.1),some (.int p.2),z7,z8,z9] [some ((((steps (CP bs w ns)).take i).flatMap f).map encC)]=some (.nx,[some (.lst false (bs.map Af)),some (DX false ns),some (.int w),some (.int n),some (.ref 0),some (.int p.1),some (.int p.2),some (DX true (KN bs w p.1 ns)),z8,z9],[some ((((steps (CP bs w ns)).take i).flatMap f).map encC)]):=by
    rw[CV,Dj,c2];rfl
   refine⟨_,by simp[DN,Iv,Gs,Fv,-U0d,-U0e,Aq];rfl,_,_,(show KD rec _ _=_ by unfold KD;rw[BW s1];exact l1),_,_,_,_,_,rfl,?_⟩
   rw[U4k,hp]
   simp[f])
 subst he hS
 refine⟨z5,z6,z7,z8,z9,e2.trans ?_⟩
 have:((steps (CP bs w ns)).map Aq).length=(steps (CP bs w ns)).length:=by simp
 rw[this,U3p,CQ,if_neg hne]
theorem qp{n:Nat}{bs:List (List St2)}(hb:∀b∈bs,b.length=n)(hn:n<=3):∀(k d w:Nat)(ns:List Nat),w+k=n->(∀i∈ns,i<bs.length)->ns.length<=20->Cd (d+k+1) [.lst false (bs.map Af),DX false ns,.int w,.int n]=some (.lst true ((CQ bs k w ns).map encC)):=by
 have hlen:∀(ns:List Nat)(r:VS.Env)(S:Store),eCB Ef (Aa (Ab 1) Ae) (some (.lst false (bs.map Af))::some (DX false ns)::r) S=some (.int ns.length,S):=fun ns r S=>by simp[Aw,Bl,Am,Fg,Ef,VS.listOf,Br,-U0d,-U0e,DX]
 have first:∀(ns:List Nat)(r:VS.Env),ns≠[]->(sIf (BK (eOp (oEq false) (eCB Ef (Aa (Ab 1) Ae)) (eC (.int 0)))) (Dk (Bt Ae)) Dh) (some (.lst false (bs.map Af))::some (DX false ns)::r) []=some (.nx,some (.lst false (bs.map Af))::some (DX false ns)::r,[]):=fun ns r h=>by
  have h0:¬((ns.length:Int)=0):=by have:=List.length_pos_iff.mpr h;omega
  simp only[Jz,Cq,BJ,hlen,U0b,CT]
  simp[Ck,Kg,Bl,Dj,oEq,-U0d,-U0e,h0]
  exact h
 have nil:∀(k w:Nat),Cd (k+1) [.lst false (bs.map Af),DX false [],.int w,.int n]=some (.lst true []):=fun k w=>by
  simp[Cd,Lk,J4,CV,Ck,Jz,Kg,Aw,CT,BJ,Bl,Am,Fg,Cq,Dj,O9,Ho,oEq,Ef,VS.listOf,Br,Dc,den,Cw,U0s,-U0d,-U0e,DX]
 intro k
 induction k with
 |zero =>
  intro d w ns hw hi hl
  by_cases h:ns=[]
  .subst h
   rw[nil,CQ,if_pos rfl];rfl
  .rw[CQ,if_neg h]
   have hwn:w=n:=by omega
   subst hwn
   have f1:=first ns [some (.int w),some (.int w),none,none,none,none,none,none] h
   unfold Cd
   rw[Dc]
   simp only[U0i,U1a,U0m,U1e,U14,U15,U0s,U1c,U2d,U11,if_true]
   unfold Lk
   rw[BW f1]
   have hd:=Kc 0 [] (Pg false ns)
   simp[J4,CV,Ck,Jz,Kg,Aw,BJ,Bl,Am,Cq,Dj,O9,Ho,oEq,den,Cw,-U0d,-U0e,hd,encC,Af]
 |succ k ih =>
  intro d w ns hw hi hl
  by_cases h:ns=[]
  .subst h
   rw[nil,CQ,if_pos rfl];rfl
  .have hwn:¬((w:Int)=(n:Int)):=by omega
   have f1:=first ns [some (.int w),some (.int n),none,none,none,none,none,none] h
   have f2:(sIf (BK (eOp (oEq false) (Ab 2) (Ab 3))) (Dk (Bt (Aa (BZ (Aa (BZ Ae) (Aa (Ab 1) Ae))) Ae))) Dh) [some (.lst false (bs.map Af)),some (DX false ns),some (.int w),some (.int n),none,none,none,none,none,none] []=some (.nx,[some (.lst false (bs.map Af)),some (DX false ns),some (.int w),some (.int n),none,none,none,none,none,none],[]):=by
    simp[Ck,Jz,Kg,Aw,BJ,Bl,Am,Cq,Dj,Ho,oEq,-U0d,-U0e,hwn]
   have f3:(Bj 4 (G5 Ae)) [some (.lst false (bs.map Af)),some (DX false ns),some (.int w),some (.int n),none,none,none,none,none,none] []=some (.nx,[some (.lst false (bs.map Af)),some (DX false ns),some (.int w),some (.int n),some (.ref 0),none,none,none,none,none],[some []]):=by
    simp[CV,Bl,O9,-U0d,-U0e]
   obtain⟨z5,z6,z7,z8,z9,f4⟩:=qt (Cd (d+(k+1))) (w:=w) (k:=k) hb hi hl h (by omega) (by omega) fun ms h1 h2=>by
    have:=ih d (w+1) ms (by omega) h1 h2
    rw[show((w+1:Nat):Int)=(w:Int)+1 by omega] at this
    exact this
   rw[Cd,Dc]
   simp only[U0i,U1a,U0m,U1e,U14,U15,U0s,U1c,U2d,U11,if_true]
   unfold Lk
   rw[BW f1,BW f2,BW f3,BW f4]
   have hd:∀(j:Nat)(S:Store),Cw j S ((CQ bs (k+1) w ns).map encC)=some ((CQ bs (k+1) w ns).map encC):=fun j S=>Ca j S (Nu (CQ bs (k+1) w ns))
   simp[Ck,Aw,den,-U0d,-U0e,hd,Nu]
theorem list_range{a:Bf}{env:VS.Env}{S S':Store}{n:Nat}(h:a env S=some ([.int n],S'))(hn:n<=1000):Hx a env S=some (DX true (U0h n),S'):=by
 have hr:r62 (n:Int):=by unfold r62;omega
 have up:upD 0 n=(U0h n).map fun(i:Nat)=>D.int i:=by unfold upD;simp
 rw[Qu,h,U0b]
 show(if r62 (n:Int)/\(n:Int).toNat<=1000 then _ else _)=_
 rw[if_pos ⟨hr,by omega⟩,U3c,up,DX]
theorem mG{n:Nat}{bs:List (List St2)}(g:Good n bs):Gg [Ak false n bs]=some (.lst true ((CQ bs n 0 (U0h bs.length)).map encC)):=by
 have n3:=g.n3
 have few:=g.few
 have h:=qp (bs:=bs) (fun b hb=>(g.box b hb).1) n3.2 n (3-n) 0 (U0h bs.length) (by omega) (fun i hi=>U1n.mp hi) (by simpa using few)
 rw[show 3-n+n+1=4 by omega] at h
 have hd:=fun(j:Nat) (S:Store)=>Ca j S (Nu (CQ bs n 0 (U0h bs.length)))
 have t1:(eOp oIx (Ab 0) (eC (.int 1))) [some (Ak false n bs)] []=some (.lst false (bs.map Af),[]):=by simp[Aw,CT,BJ,oIx,VS.listOf,Br,-U0d,-U0e,Ak]
 have t0:(eOp oIx (Ab 0) (eC (.int 0))) [some (Ak false n bs)] []=some (.int n,[]):=by simp[Aw,CT,BJ,oIx,VS.listOf,Br,-U0d,-U0e,Ak]
 have t2:(Aa (eCB Ef (Aa (eOp oIx (Ab 0) (eC (.int 1))) Ae)) Ae) [some (Ak false n bs)] []=some ([.int bs.length],[]):=by
  simp only[Am,Bl,Fg,t1,U0b]
  simp[Ef,Br,VS.listOf]
 have t3:=list_range t2 (by omega)
 have a1:(Aa (eOp oIx (Ab 0) (eC (.int 1))) (Aa (Hx (Aa (eCB Ef (Aa (eOp oIx (Ab 0) (eC (.int 1))) Ae)) Ae)) (Aa (eC (.int 0)) (Aa (eOp oIx (Ab 0) (eC (.int 0))) Ae)))) [some (Ak false n bs)] []=some ([.lst false (bs.map Af),DX true (U0h bs.length),.int 0,.int n],[]):=by
  rw[Am,t1,U0b,Am,t3,U0b,Am,CT,U0b,Am,t0]
  rfl
 have c:=DR (sem:=Cd 4) a1 (by simp[Ax,BX,Pg]) (es:=[.lst false (bs.map Af),DX false (U0h bs.length),.int 0,.int n]) (by simp[Bq,age,Z5]) h
 unfold Gg
 rw[Dc]
 simp only[U0i,U1a,U0m,U1e,U14,U15,U1c,U2d,U11,if_true]
 unfold V5
 rw[Ck,c]
 show den 0 [] (.lst true _)=_
 rw[den,hd];rfl
end W14
end
section
namespace W14
open PySem L2 VS
theorem lD(c k:Int):∃v,Hq [.int c,.int k]=some (.int v):=by
 have hc:∀t:Int,-18446744073709551616<t%2147483647/\t%2147483647<18446744073709551616:=fun t=>by omega
 simp[Hq,Sw,J4,CV,Ck,Aw,CT,BJ,oI,Vi,TF,Qz,Dd,Ju,oDiv,oMod,VS.listOf,Dc,den,U0s,-U0d,-U0e,hc]
theorem Es(x y z m:Int)(h0:0<m)(h1:m<2^63):∃r x' z',Ao [x,y,z] [.int m]=some (.int r,[x',y,z'])/\0<=r/\r<m:=by
 have hm:m<18446744073709551616:=by omega
 by_cases h:0<x
 .simp[Ao,Qn,J4,CV,Ck,Jz,Kg,Kp,Aw,CT,BJ,Bl,Am,Cq,Gd,oI,Hl,TF,Qz,Dd,oDiv,oMod,oGt,oIx,VS.listOf,Br,Ly,intsOf,den,U0s,-U0d,-U0e,h,h0,hm]
  exact⟨U7p _ (by omega),U64 _ h0⟩
 .obtain⟨v,hv⟩:=lD y (z+1)
  simp[Ao,Qn,J4,CV,Ck,Jz,Kg,Kp,Aw,CT,BJ,Bl,Am,Cq,Gd,oI,Hl,TF,Qz,Dd,oDiv,oMod,oGt,oIx,VS.listOf,Br,Ly,intsOf,den,Cw,age,Bq,BX,Ax,U0s,-U0d,-U0e,h,h0,hm,hv]
  exact⟨U7p _ (by omega),U64 _ h0⟩
theorem Oh{k:Nat}(hk:k<=300):((10:Int)^k).natAbs<2^1024:=by
 rw[Int.natAbs_pow]
 refine U4z (Nat.pow_le_pow_right (by decide) hk) ?_
 decide +kernel
theorem pow10(k:Nat)(hk:k<=1000)(env:VS.Env)(S:Store):eOp Fd (eC (.int 10)) (eC (.int k)) env S=some (.int (10^k),S):=by
 have h:Oa 10 (k:Int)=true:=by
  unfold Oa
  simp
  omega
 rw[BJ,CT,U0b,CT,U0b]
 show(if Oa 10 (k:Int)=true then some (D.int (10^(k:Int).toNat)) else none).map _=_
 rw[if_pos h,U3c];rfl
theorem Ru{a b:Bb}{env:VS.Env}{S S1 S2:Store}{i j:Int}(ha:a env S=some (.int i,S1))(hb:b env S1=some (.int j,S2))(hi:i.natAbs<2^1024)(hj:j.natAbs<2^1024):eOp Nm a b env S=some (.int (i*j),S2):=by
 have h:Xj i j=true:=by
  unfold Xj
  rw[U00]
  exact⟨decide_eq_true hi,decide_eq_true hj⟩
 rw[BJ,ha,U0b,hb,U0b]
 show(if Xj i j=true then some (D.int (i*j)) else none).map _=_
 rw[if_pos h];rfl
theorem uW(c:Int):∃x,Hz [.int c]=some (.lst true [.int x,.int c,.int 0]):=by
 have p:=pow10 50 (by decide) [some (.int c)] []
 have q1:=Ru p p (Oh (by decide)) (Oh (by decide))
 rw[←U77] at q1
 have q2:=Ru q1 p (Oh (by decide)) (Oh (by decide))
 rw[←U77] at q2
 have q3:=Ru q2 p (Oh (by decide)) (Oh (by decide))
 rw[←U77] at q3
 have hp:(0:Int)<10^(50+50+50+50):=Int.pow_pos (by decide)
 have m1:eOp oMod (Ab 0) (eOp Nm (eOp Nm (eOp Nm (eOp Fd (eC (.int 10)) (eC (.int 50))) (eOp Fd (eC (.int 10)) (eC (.int 50)))) (eOp Fd (eC (.int 10)) (eC (.int 50)))) (eOp Fd (eC (.int 10)) (eC (.int 50)))) [some (.int c)] []=some (.int (c%10^(50+50+50+50)),[]):=by
  have v:Ab 0 [some (.int c)] []=some (.int c,[]):=rfl
  have h:Qz c (10^(50+50+50+50))=true:=decide_eq_true hp
  rw[BJ,v,U0b]
  refine(congrArg (fun z=>U61 z _) q3).trans ?_
  rw[U0b]
  show(if Qz c (10^(50+50+50+50))=true then some (D.int (c%10^(50+50+50+50))) else none).map _=_
  rw[if_pos h];rfl
 have hb:(c%10^(50+50+50+50)).natAbs<2^1024 :=
  U20 (Int.natAbs_lt_natAbs_of_nonneg_of_lt (U7p _ (Int.ne_of_gt hp)) (U64 _ hp)) (Oh (by decide))
 obtain⟨b,hb1,hb2⟩:∃b:Int,eCB Py (Aa (eOp oGe (Ab 0) (eOp Fd (eC (.int 10)) (eC (.int 18)))) Ae) [some (.int c)] []=some (.int b,[])/\b.natAbs<2^1024:=by
  by_cases h:(1000000000000000000:Int)<=c
  .exact⟨1,by simp[Aw,CT,BJ,Bl,Am,Fg,oI,Hl,Oa,Fd,oGe,Py,-U0d,-U0e,h],by decide +kernel⟩
  .exact⟨0,by simp[Aw,CT,BJ,Bl,Am,Fg,oI,Hl,Oa,Fd,oGe,Py,-U0d,-U0e,h],by decide +kernel⟩
 have q4:=Ru m1 hb1 hb hb2
 refine⟨c%10^(50+50+50+50)*b,?_⟩
 have v:∀S,Ab 0 [some (.int c)] S=some (.int c,S):=fun _=>rfl
 unfold Hz
 rw[Dc]
 simp only[U0i,U1a,U0m,U1e,U14,U15,U1c,U2k,if_true]
 unfold Wd
 rw[Ck,Dj,Am,q4]
 generalize c%10^(50+50+50+50)*b=x
 simp[Aw,CT,Bl,Am,den,Cw,-U0d,-U0e]
end W14
end
section
namespace W14
open PySem L2 VS
theorem Y8{sem:Cz}{a:Bf}{env:VS.Env}{S S':Store}{d d':D}{cs:List D}(h:BR sem a env S=some (d,S'))(ht:N7 S'.length d=some (d',cs)):Og sem a env S=some (d',S'++[some cs]):=by
 rw[iY,h,U0b]
 show(N7 S'.length d).bind _=_
 rw[ht];rfl
theorem Ip{sem:JX}{a:Bf}{env:VS.Env}{S S':Store}{i:Nat}{rest es:List D}{ns ms:List Int}{r:D}(h:a env S=some (.ref i::rest,S'))(hi:S'[i]?=some (some (ns.map D.int)))(hp:Ax rest=true)(ha:Bq rest=es)(hr:sem ns es=some (r,ms)):Bg sem a env S=some (r,S'.set i (some (ms.map D.int))):=by
 rw[Mx,h]
 simp only[U0b,hi,Le,Ca 0 _ hp,ha,hr,hp,Bool.true_or,if_true]
theorem jZ{sem:JX}{a:Bf}{env:VS.Env}{S S':Store}{d d':D}{cs:List D}(h:Bg sem a env S=some (d,S'))(ht:N7 S'.length d=some (d',cs)):R9 sem a env S=some (d',S'++[some cs]):=by
 rw[iZ,h,U0b]
 show(N7 S'.length d).bind _=_
 rw[ht];rfl
theorem j6{sem:Cz}{a:Bf}{env:VS.Env}{S S':Store}{ds es fs:List D}{r:D}(h:a env S=some (ds,S'))(hd:Cw 0 S' ds=some es)(ha:Bq es=fs)(hr:sem fs=some r)(hn:newD r=true):BR sem a env S=some (r,S'):=by
 rw[Gd,h]
 simp only[U0b,hd,ha,hr,hn,Bool.or_true,if_true]
theorem J5{g:Store->D->List D->Option (D×Store)}{o:Bb}{a:Bf}{env:VS.Env}{S S1 S2 S3:Store}{d r:D}{cs ds:List D}(h:o env S=some (d,S1))(hl:VS.listOf S1 d=some cs)(h2:a env S1=some (ds,S2))(h3:g S2 d ds=some (r,S3)):Dt g o a env S=some (r,S3):=by
 rw[Yv,h,U0b]
 show(if (VS.listOf S1 d).isSome=true then _ else _)=_
 rw[hl]
 show(a env S1).bind _=_
 rw[h2]
 exact h3
theorem Xi(S:Store)(a:Option (List D))(l:List (Option (List D))):(S++a::l)[S.length]?=some a:=by simp
theorem sY(S:Store)(a c:Option (List D))(l:List (Option (List D))):(S++a::l).set S.length c=S++c::l:=by
 rw[U6j _ _ (by omega)]
 simp
end W14
end
section
namespace W14
open PySem L2 VS
theorem kJ{S:Store}{i:Nat}{l:List D}{r:Int}(h:S[i]?=some (some l))(h0:0<=r)(h1:r<l.length)(h2:r<2^63)(hn:r.toNat<l.length):Od S (.ref i) [.int r]=some (l[r.toNat],S.set i (some (l.eraseIdx r.toNat))):=by
 have hix:seqIndex? r l.length=some r.toNat:=PySem.StrLaws.seqIndex_nonneg h0 h1
 rw[Od,h]
 show(if -(2^63)<=r/\r<2^63 then (seqIndex? r l.length).bind _ else _)=_
 rw[if_pos ⟨by omega,h2⟩,hix,U0b,U0g hn]
 rfl
theorem WM{α:Type}:∀(l:List α)(i:Nat)(h:i<l.length),(l[i]::l.eraseIdx i).Perm l
 |a::r,0,_=>by simp
 |a::r,i+1,h=>by
  have h':i<r.length:=by simpa using h
  show(r[i]::a::r.eraseIdx i).Perm (a::r)
  exact(U4h.swap ..).trans ((WM r i h').cons a)
def toI:D->Option Int
 |.int i=>some i
 |_=>none
theorem aN:∀{es:List D},(∀e∈es,∃n,e=.int n)->(es.filterMap toI).map .int=es
 |[],_=>rfl
 |e::r,h=>by
  obtain⟨n,rfl⟩:=h e U0u
  rw[U25 (show toI (.int n)=some n from rfl),U0m,aN fun e he=>h e (U0t _ he)]
theorem iT{es:List D}{ns:List Int}(hp:es.Perm (ns.map .int)):∃ms:List Int,es=ms.map .int/\ms.Perm ns:=by
 refine⟨es.filterMap toI,(aN fun e he=>?_).symm,?_⟩
 .obtain⟨n,_,q⟩:=U1t.mp (hp.mem_iff.mp he)
  exact⟨n,q.symm⟩
 .have:=hp.filterMap toI
  rw[U4y] at this
  have e:(fun n:Int=>toI (.int n))=some:=rfl
  rw[show(toI∘D.int)=some from rfl,List.filterMap_some] at this
  exact this
theorem yF(x y z:Int)(ds:List D)(hl:ds.length<=1000):∃(es:List D)(x' z':Int),Lp [some (.ref 0),some (.lst false ds),some (.ref 1)] [some [.int x,.int y,.int z],some ds]=some (es,[some [.int x',.int y,.int z'],some []])/\es.Perm ds:=by
 have e:Dp (Ab 1) [some (.ref 0),some (.lst false ds),some (.ref 1)] [some [.int x,.int y,.int z],some ds]=some ((ds,[]),[some [.int x,.int y,.int z],some ds]):=by simp[Aw,VS.listOf,Br,VS.idOf,Fq,-U0d,-U0e]
 unfold Lp DK
 rw[e]
 simp only[U0b]
 obtain⟨ys,S',e2,left,x',z',hS,hi,hp⟩:=Yx (w:=[]) (e0:=HJ 1 [2,0] [some (.ref 0),some (.lst false ds),some (.ref 1)]) (g:=Pat.sem (.nm 0)) (ds:=ds) (S:=[some [.int x,.int y,.int z],some ds])
  (f:=Dt Od (Ab 1) (Aa (Bg Ao (Aa (Ab 2) (Aa (eCB Ef (Aa (Ab 1) Ae)) Ae))) Ae))
  (fun i ys S=>∃(left:List D)(x' z':Int),S=[some [.int x',.int y,.int z'],some left]/\ys.length=min i ds.length/\(ys++left).Perm ds)
  ⟨ds,x,z,rfl,by simp,.refl _⟩ (fun i ys S q=>by obtain⟨left,x',z',h1,h2,h3⟩:=q;exact⟨by simp,by omega⟩)
  (fun i d ys S hd q=>by
   obtain⟨left,x',z',h1,h2,h3⟩:=q
   subst h1
   have hi:i<ds.length:=(U0l.mp hd).1
   have hlen:=h3.length_eq
   rw[U0n] at hlen
   obtain⟨r,x2,z2,e3,r0,r1⟩:=Es x' y z' left.length (by omega) (by omega)
   have hrn:r.toNat<left.length:=by omega
   have v1:∀a:List D,Ab 1 [some d,some (.ref 1),some (.ref 0)] [some a,some left]=some (.ref 1,[some a,some left]):=fun a=>rfl
   have v2:∀a:List D,Ab 2 [some d,some (.ref 1),some (.ref 0)] [some a,some left]=some (.ref 0,[some a,some left]):=fun a=>rfl
   have hL:eCB Ef (Aa (Ab 1) Ae) [some d,some (.ref 1),some (.ref 0)] [some [.int x',.int y,.int z'],some left]=some (.int left.length,[some [.int x',.int y,.int z'],some left]):=by
    rw[Fg,Am,v1]
    simp[Bl,Ef,Br,VS.listOf]
   have ht:Bg Ao (Aa (Ab 2) (Aa (eCB Ef (Aa (Ab 1) Ae)) Ae)) [some d,some (.ref 1),some (.ref 0)] [some [.int x',.int y,.int z'],some left]=some (.int r,[some [.int x2,.int y,.int z2],some left]) :=
    Ip (ns:=[x',y,z']) (rest:=[.int left.length]) (es:=[.int left.length]) (i:=0) (S':=[some [.int x',.int y,.int z'],some left]) (by rw[Am,v2];simp[Am,Bl,hL]) rfl (by simp[Ax,BX]) (by simp[Bq,age]) e3
   have hpop:Dt Od (Ab 1) (Aa (Bg Ao (Aa (Ab 2) (Aa (eCB Ef (Aa (Ab 1) Ae)) Ae))) Ae) [some d,some (.ref 1),some (.ref 0)] [some [.int x',.int y,.int z'],some left]=some (left[r.toNat],[some [.int x2,.int y,.int z2],some (left.eraseIdx r.toNat)]) :=
    J5 (v1 _) (cs:=left) rfl (ds:=[.int r]) (S2:=[some [.int x2,.int y,.int z2],some left]) (by rw[Am,ht];rfl) (kJ (i:=1) rfl r0 r1 (by omega) hrn)
   refine⟨[some d,some (.ref 1),some (.ref 0)],left[r.toNat],_,by rw[DN];rfl,hpop,left.eraseIdx r.toNat,x2,z2,rfl,by simp;omega,?_⟩
   rw[U56]
   exact((WM left r.toNat hrn).append_left ys).trans h3)
 subst hS
 have hl:=hp.length_eq
 rw[U0n,hi,U5y] at hl
 have:left=[]:=U29.mp (by omega)
 subst this
 rw[U2k] at hp
 exact⟨ys,x',z',e2,hp⟩
theorem Zw(x y z:Int)(ns:List Int)(hl:ns.length<=1000):∃(ms:List Int)(x' z':Int),FP [x,y,z] [.lst false (ns.map .int)]=some (.lst true (ms.map .int),[x',y,z'])/\ms.Perm ns:=by
 obtain⟨es,x',z',e,hp⟩:=yF x y z (ns.map .int) (by simpa using hl)
 obtain⟨ms,rfl,hm⟩:=iT hp
 refine⟨ms,x',z',?_,hm⟩
 simp[FP,QM,J4,CV,Ck,Aw,Bl,Am,Dj,mD,nList,VS.listOf,Br,Ly,intsOf,den,U0s,-U0d,-U0e,e]
end W14
end
section
namespace W14
open PySem L2 VS
def mn(i j:Int):Int:=if j<i then j else i
def mx(i j:Int):Int:=if j>i then j else i
theorem eY{α β:Type}{f:α->Option β}{g:α->β}:∀{l:List α},(∀a∈l,f a=some (g a))->l.filterMap f=l.map g
 |[],_=>rfl
 |a::r,h=>by rw[U25 (h a U0u),U0m,eY fun b hb=>h b (U0t _ hb)]
theorem bD(a:Nat)(ms:List Int)(ha:a<=1):HT.half a (ms.map D.int)=(U0h ((ms.length+1-a)/2)).map fun k=>D.int (ms.getD (a+2*k) 0):=by
 unfold HT.half
 rw[U0j]
 refine eY fun k hk=>?_
 have h:=U1n.mp hk
 have h2:a+2*k<ms.length:=by omega
 rw[U0y,U0g h2,U0k,U0g h2]
 rfl
def Ml(ms:List Int)(c:Nat):List St2:=(U0h c).map fun k=>(mn (ms.getD (0+2*k) 0) (ms.getD (1+2*k) 0),mx (ms.getD (0+2*k) 0) (ms.getD (1+2*k) 0))
structure jJ(c:Nat)(m:Int)(s:List St2):Prop where
 len:s.length=c
 all:∀p∈s,0<=p.1/\p.1<p.2/\p.2<=m
theorem oF{ms:List Int}{c:Nat}(hp:ms.Perm ((U0h (2*c)).map fun(i:Nat)=>(i:Int))):jJ c (2*c-1) (Ml ms c):=by
 have hlen:ms.length=2*c:=by rw[hp.length_eq];simp
 have hn:ms.Nodup:=hp.nodup_iff.mpr (by
  show U6c (·≠·) _
  rw[List.pairwise_map]
  exact List.nodup_range.imp fun h e=>h (by omega))
 refine⟨by unfold Ml;simp,fun p hq=>?_⟩
 obtain⟨k,hk,rfl⟩:=U1t.mp hq
 have h:=U1n.mp hk
 have a0:0+2*k<ms.length:=by omega
 have a1:1+2*k<ms.length:=by omega
 rw[U0k,U0g a0,U0k,U0g a1,U4r,U4r]
 have ne:ms[0+2*k]≠ms[1+2*k]:=fun e=>by
  have:=(List.getElem_inj hn).mp e
  omega
 have b:∀x∈ms,0<=x/\x<=2*c-1:=fun x hx=>by
  obtain⟨i,hi,rfl⟩:=U1t.mp (hp.mem_iff.mp hx)
  have:=U1n.mp hi
  omega
 have b0:=b _ (U1s a0)
 have b1:=b _ (U1s a1)
 unfold mn mx
 simp only
 split<;>split<;>omega
theorem u6(n:Nat)(F G:Nat->D):Df ((U0h n).map F) ((U0h n).map G)=(U0h n).map fun k=>D.tup [F k,G k]:=by
 generalize U0h n=l
 induction l with
 |nil=>rfl
 |cons a r ih=>rw[U0m,U0m,Df,ih,U0m]
theorem fO(r:VS.Env)(S:Store)(ms:List Int)(c:Nat)(hc:c<=1000)(h:r[6]?=some (some (.lst true ((U0h c).map fun k=>D.tup [.int (ms.getD (0+2*k) 0),.int (ms.getD (1+2*k) 0)])))):NQ r S=some ((Ml ms c).map Aq,S):=by
 have e:Dp (Ab 6) r S=some (((U0h c).map fun k=>D.tup [.int (ms.getD (0+2*k) 0),.int (ms.getD (1+2*k) 0)],[]),S):=by simp[Aw,VS.listOf,Br,VS.idOf,Fq,-U0d,-U0e,h]
 unfold NQ DK
 rw[e]
 simp only[U0b]
 rw[J6 (by simp) (fun k=>D.tup [.int (ms.getD (0+2*k) 0),.int (ms.getD (1+2*k) 0)]) (fun k=>Aq (mn (ms.getD (0+2*k) 0) (ms.getD (1+2*k) 0),mx (ms.getD (0+2*k) 0) (ms.getD (1+2*k) 0))) (U0h c) (by simp;omega)]
 .unfold Ml;rw[U0d];rfl
 .intro k _
  generalize ms.getD (0+2*k) 0=a
  generalize ms.getD (1+2*k) 0=b
  exact⟨_,by simp[HJ,DN,Iv,Gs,Fv,U0s,-U0d,-U0e];rfl,by simp[Aw,Bl,Am,Fg,Ho,Xd,UW,-U0d,-U0e,Aq,mn,mx]⟩
def EY(ss:List (List St2)):List D:=ss.map fun s=>.lst true (s.map Aq)
theorem range_list{a:Bf}{env:VS.Env}{S S':Store}{j:Int}(n:Nat)(h:a env S=some ([.int j],S'))(hn:j.toNat=n)(h0:-1000000<=j)(h1:j<=1000000)(h2:n<=1000):Hx a env S=some (.lst true (upD 0 n),S'):=by
 rw[Qu,h,U0b]
 show(if r62 j/\j.toNat<=1000 then some (D.lst true (upD 0 j.toNat),S') else none)=_
 rw[hn,if_pos ⟨WL h0 h1,h2⟩]
theorem fP(x y z:Int)(w c:Nat)(hc:c<=20)(ss:List (List St2))(hs:ss.length<=3)(z5 z6:Option D)(k:D):∃(s:List St2)(x' z':Int)(d5 d6:Option D),jJ c (2*c-1) s /\
  K8 [some (.ref 0),some (.int w),some (.int c),some (.ref 1),some k,z5,z6] [some [.int x,.int y,.int z],some (EY ss)]=some (.nx,[some (.ref 0),some (.int w),some (.int c),some (.ref 1),some k,d5,d6],[some [.int x',.int y,.int z'],some (EY (ss++[s]))]):=by
 obtain⟨ms,x',z',e1,hp⟩:=Zw x y z ((U0h (2*c)).map fun(i:Nat)=>(i:Int)) (by simp;omega)
 have hlen:ms.length=2*c:=by rw[hp.length_eq];simp
 have hU:upD 0 (2*c)=((U0h (2*c)).map fun(i:Nat)=>(i:Int)).map D.int:=by
  unfold upD
  rw[U0d]
  simp only[U5z];rfl
 have s1:(Bj 5 (Bg FP (Aa (Ab 0) (Aa (Hx (Aa (eOp Ju (eC (.int 2)) (Ab 2)) Ae)) Ae)))) [some (.ref 0),some (.int w),some (.int c),some (.ref 1),some k,z5,z6] [some [.int x,.int y,.int z],some (EY ss)]=some (.nx,[some (.ref 0),some (.int w),some (.int c),some (.ref 1),some k,some (.lst true (ms.map .int)),z6],[some [.int x',.int y,.int z'],some (EY ss)]):=by
  have l1:=range_list (a:=Aa (eOp Ju (eC (.int 2)) (Ab 2)) Ae) (env:=[some (.ref 0),some (.int w),some (.int c),some (.ref 1),some k,z5,z6]) (S:=[some [.int x,.int y,.int z],some (EY ss)]) (S':=[some [.int x,.int y,.int z],some (EY ss)]) (j:=2*(c:Int)) (2*c) (by simp[Aw,CT,BJ,Bl,Am,Vi,Ju,VS.listOf,-U0d,-U0e]) (by omega) (by omega) (by omega) (by omega)
  rw[hU] at l1
  have v0:Ab 0 [some (.ref 0),some (.int w),some (.int c),some (.ref 1),some k,z5,z6] [some [.int x,.int y,.int z],some (EY ss)]=some (.ref 0,[some [.int x,.int y,.int z],some (EY ss)]):=rfl
  rw[CV,Ip (ns:=[x,y,z]) (rest:=[.lst true (((U0h (2*c)).map fun(i:Nat)=>(i:Int)).map D.int)]) (es:=[.lst false (((U0h (2*c)).map fun(i:Nat)=>(i:Int)).map D.int)]) (i:=0) (S':=[some [.int x,.int y,.int z],some (EY ss)]) (by rw[Am,v0,U0b,Am,l1];rfl) rfl (by rw[Ax,BX,Iu,Ax];rfl) (by rw[Bq,age,Pn,Bq]) e1]
  rfl
 have s2:(Bj 6 (Oq (Aa (eUn (PL 0) (Ab 5)) (Aa (eUn (PL 1) (Ab 5)) Ae)))) [some (.ref 0),some (.int w),some (.int c),some (.ref 1),some k,some (.lst true (ms.map .int)),z6] [some [.int x',.int y,.int z'],some (EY ss)]=some (.nx,[some (.ref 0),some (.int w),some (.int c),some (.ref 1),some k,some (.lst true (ms.map .int)),some (.lst true ((U0h c).map fun k=>D.tup [.int (ms.getD (0+2*k) 0),.int (ms.getD (1+2*k) 0)]))],[some [.int x',.int y,.int z'],some (EY ss)]):=by
  have u0:∀a:Nat,eUn (PL a) (Ab 5) [some (.ref 0),some (.int w),some (.int c),some (.ref 1),some k,some (.lst true (ms.map .int)),z6] [some [.int x',.int y,.int z'],some (EY ss)]=some (.lst true (HT.half a (ms.map .int)),[some [.int x',.int y,.int z'],some (EY ss)]):=fun a=>rfl
  have c0:(ms.length+1-0)/2=c:=by omega
  have c1:(ms.length+1-1)/2=c:=by omega
  rw[CV,QC,Am,u0,U0b,Am,u0,bD 0 ms (by decide),bD 1 ms (by decide),c0,c1]
  show((if (Df ((U0h c).map fun k=>D.int (ms.getD (0+2*k) 0)) ((U0h c).map fun k=>D.int (ms.getD (1+2*k) 0))).length<=1000000 then some (D.lst true (Df ((U0h c).map fun k=>D.int (ms.getD (0+2*k) 0)) ((U0h c).map fun k=>D.int (ms.getD (1+2*k) 0))),_) else none):Option (D×Store)).bind _=_
  rw[u6,if_pos (by rw[U0j,U24];omega)]
  rfl
 have c1:=fO [some (.ref 0),some (.int w),some (.int c),some (.ref 1),some k,some (.lst true (ms.map .int)),some (.lst true ((U0h c).map fun k=>D.tup [.int (ms.getD (0+2*k) 0),.int (ms.getD (1+2*k) 0)]))] [some [.int x',.int y,.int z'],some (EY ss)] ms c (by omega) rfl
 refine⟨Ml ms c,x',z',some (.lst true (ms.map .int)),some (.lst true ((U0h c).map fun k=>D.tup [.int (ms.getD (0+2*k) 0),.int (ms.getD (1+2*k) 0)])),oF hp,?_⟩
 unfold K8
 rw[BW s1,BW s2,Gm,J5 (d:=.ref 1) (cs:=EY ss) (ds:=[.lst true ((Ml ms c).map Aq)]) (r:=.non) (S1:=[some [.int x',.int y,.int z'],some (EY ss)]) (S2:=[some [.int x',.int y,.int z'],some (EY ss)]) (S3:=[some [.int x',.int y,.int z'],some (EY (ss++[Ml ms c]))]) rfl rfl (by rw[Am,Dj,c1];rfl) (by
  show(if (EY ss).length<1000000 then some (D.non,[some [.int x',.int y,.int z'],some (EY ss++[.lst true ((Ml ms c).map Aq)])]) else none)=_
  rw[if_pos (by unfold EY;rw[U0j];omega)]
  unfold EY
  rw[U1b];rfl)]
 rfl
theorem fM(ss:List (List St2))(k c:Nat)(hk:k<c)(hs:ss.length<=3)(hS:∀s∈ss,s.length=c)(S:Store)(hSt:S[1]?=some (some (EY ss))):K7 [some (.int k),some (.ref 1)] S=some ((ss.map fun s=>s.getD k (0,0)).map Aq,S):=by
 have e:Dp (Ab 1) [some (.int k),some (.ref 1)] S=some ((EY ss,[(1,EY ss)]),S):=by
  simp[Aw,VS.listOf,Br,VS.idOf,Fq,-U0d,-U0e,hSt]
 unfold K7 DK
 rw[e]
 simp only[U0b]
 rw[show EY ss=ss.map fun s=>.lst true (s.map Aq) from rfl,J6 (by intro p hp;rw[U03.mp hp];exact hSt) (fun s=>.lst true (s.map Aq)) (fun s=>Aq (s.getD k (0,0))) ss (by omega)]
 .rw[U0d];rfl
 .intro s hs
  have hl:=hS s hs
  have ha:atI (s.map Aq) (k:Int)=some (Aq (s.getD k (0,0))):=Kh (by
   rw[U0y,U0k,U0g (show k<s.length by omega)];rfl)
  exact⟨_,by rw[DN],by simp[Aw,BJ,HJ,oIx,VS.listOf,Br,U0s,-U0d,-U0e,ha]⟩
end W14
end
section
namespace W14
open PySem L2 VS
structure Sm(n:Nat)(m:Int)(b:List St2):Prop where
 len:b.length=n
 all:∀p∈b,0<=p.1/\p.1<p.2/\p.2<=m
theorem fL(x y z:Int)(n c:Nat)(hn:n<=3)(hc:c<=20):∃(bs:List (List St2))(x' z':Int),G8 [x,y,z] [.int n,.int c]=some (.lst true (bs.map Af),[x',y,z'])/\bs.length=c/\∀b∈bs,Sm n (2*c-1) b:=by
 have s1:(Bj 3 (G5 Ae)) [some (.ref 0),some (.int n),some (.int c),none,none,none,none] [some [.int x,.int y,.int z]]=some (.nx,[some (.ref 0),some (.int n),some (.int c),some (.ref 1),none,none,none],[some [.int x,.int y,.int z],some (EY [])]):=by simp[CV,Bl,O9,-U0d,-U0e,EY]
 have e:Ej (Aa (Ab 1) Ae) [some (.ref 0),some (.int n),some (.int c),some (.ref 1),none,none,none] [some [.int x,.int y,.int z],some (EY [])]=some ((upD 0 n,[]),[some [.int x,.int y,.int z],some (EY [])]):=LC _ (by simp[Aw,Bl,Am,-U0d,-U0e];rfl) (by simp) (by omega) (by omega)
 obtain⟨env',S',e2,ss,x',z',z4,z5,z6,he,hS,hl,hs⟩:=Eo (w:=[]) (g:=Pat.sem (.nm 4)) (b:=K8) (ds:=upD 0 n) (env:=[some (.ref 0),some (.int n),some (.int c),some (.ref 1),none,none,none]) (S:=[some [.int x,.int y,.int z],some (EY [])])
  (fun i env S=>∃(ss:List (List St2))(x' z':Int)(z4 z5 z6:Option D),env=[some (.ref 0),some (.int n),some (.int c),some (.ref 1),z4,z5,z6]/\S=[some [.int x',.int y,.int z'],some (EY ss)]/\ss.length=min i n/\∀s∈ss,jJ c (2*c-1) s)
  ⟨[],x,z,none,none,none,rfl,rfl,by simp,fun s h=>by cases h⟩ (fun i env S _=>by simp) (fun i d env S hd q=>by
   obtain⟨ss,x',z',z4,z5,z6,he,hS,hl,hs⟩:=q
   obtain⟨hi,rfl⟩:=Ls hd
   subst he hS
   obtain⟨s,x2,z2,d5,d6,hs1,e3⟩:=fP x' y z' n c hc ss (by omega) z5 z6 (.int (0+i))
   refine⟨_,DN _ _ _,_,_,e3,ss++[s],x2,z2,_,_,_,rfl,rfl,by simp;omega,fun t ht=>?_⟩
   rcases U1k.mp ht with q|q
   .exact hs t q
   .rw[U03.mp q];exact hs1)
 rw[Ke,U5y] at hl
 subst he hS
 have l1:NK [some (.ref 0),some (.int n),some (.int c),some (.ref 1),none,none,none] [some [.int x,.int y,.int z],some (EY [])]=some (.nx,[some (.ref 0),some (.int n),some (.int c),some (.ref 1),z4,z5,z6],[some [.int x',.int y,.int z'],some (EY ss)]):=by
  unfold NK
  rw[Fp,e]
  exact e2
 have c3:NP [some (.ref 0),some (.int n),some (.int c),some (.ref 1),z4,z5,z6] [some [.int x',.int y,.int z'],some (EY ss)]=some ((U0h c).map (fun k=>Af (ss.map fun s=>s.getD k (0,0))),[some [.int x',.int y,.int z'],some (EY ss)]):=by
  have e:Ej (Aa (Ab 2) Ae) [some (.ref 0),some (.int n),some (.int c),some (.ref 1),z4,z5,z6] [some [.int x',.int y,.int z'],some (EY ss)]=some ((upD 0 c,[]),[some [.int x',.int y,.int z'],some (EY ss)]):=LC _ (by simp[Aw,Bl,Am,-U0d,-U0e];rfl) (by simp) (by omega) (by omega)
  unfold NP DK
  rw[e]
  simp only[U0b]
  exact rD (by simp) c _ (by omega) fun k hk=>⟨_,DN _ _ _,by
   have:=fM ss k c hk (by omega) (fun s h=>(hs s h).len) [some [.int x',.int y,.int z'],some (EY ss)] rfl
   rw[Fg,Am,Dj]
   show(((K7 [some (.int k),some (.ref 1)] [some [.int x',.int y,.int z'],some (EY ss)]).bind _).bind _).bind _=_
   rw[this]
   simp[Bl,HJ,TJ,VS.listOf,Br,U0s,-U0d,-U0e,Af]⟩
 refine⟨(U0h c).map (fun k=>ss.map fun s=>s.getD k (0,0)),x',z',?_,by simp,fun b hb=>?_⟩
 .unfold G8
  rw[Ly]
  simp only[U0i,U1a,U0m,U1e,U14,U15,U0s,U1c,U2d,U11,if_true]
  unfold Rb
  rw[BW s1,BW l1,Ck,Dj,c3]
  have hf:Ax ((U0h c).map fun k=>Af (ss.map fun s=>s.getD k (0,0)))=true:=Bo (HS _ fun k _=>Jh _)
  simp only[U0b,List.getElem?_cons_zero]
  rw[show([D.int x',.int y,.int z']:List D)=([x',y,z'].map D.int) from rfl,Le]
  show U17 _ (den 1 _ (.lst true _))=_
  rw[den,Ca 1 _ hf,U0d];rfl
 .obtain⟨k,hk,rfl⟩:=U1t.mp hb
  have hk':=U1n.mp hk
  refine⟨by simpa using hl,fun p hp=>?_⟩
  obtain⟨s,h1,rfl⟩:=U1t.mp hp
  have hs1:=hs s h1
  have hlt:k<s.length:=by rw[hs1.len];exact hk'
  rw[U0k,U0g hlt]
  exact hs1.all _ (U1s hlt)
end W14
end
section
namespace W14
open PySem L2 VS
structure Mk(m:Nat)(ms:List Int):Prop where
 rise:ms.Pairwise (·<·)
 len:ms.length=m+1
 near:∀x∈ms,-1000000000<=x/\x<=1000000000
theorem Qg{n:Nat}:ixN (n+1) (-1)=some n:=by
 unfold ixN
 rw[if_neg (by omega),if_pos (by omega)]
 congr 1
 omega
theorem Qh{α:Type}(l:List α)(a:α):atI (l++[a]) (-1)=some a:=by
 unfold atI
 rw[U0n,U0i,U1a,Qg,U0b]
 simp
theorem lF(x y z:Int)(m:Nat)(st hr:Int)(hm:m<=40)(h0:0<st)(h1:st<=1000000000)(pre:List Int)(l:Int)(i:Nat)(hi:pre.length=i)(hl2:i<=100)(hl:l<=1000000000-200-m+i-1):∃(v x' z':Int),l<v/\v<=1000000000-200-m+i /\
  Li [some (.ref 0),some (.int m),some (.int st),some (.int hr),some (.ref 1),some (.int i)] [some [.int x,.int y,.int z],some ((pre++[l]).map .int)]=some (.nx,[some (.ref 0),some (.int m),some (.int st),some (.int hr),some (.ref 1),some (.int i)],[some [.int x',.int y,.int z'],some ((pre++[l]++[v]).map .int)]):=by
 obtain⟨t,x',z',e1,t0,t1⟩:=Es x y z st h0 (by omega)
 obtain⟨v,hv⟩:∃v:Int,v=(if (1000000000:Int)-200-m+i<l+1+t then (1000000000:Int)-200-m+i else l+1+t):=⟨_,rfl⟩
 refine⟨v,x',z',by rw[hv];split<;>omega,by rw[hv];split<;>omega,?_⟩
 have ha:atI ((pre++[l]).map D.int) (-1)=some (.int l):=by
  rw[U1b];exact Qh _ _
 have i1:eOp oIx (Ab 4) (eUn Em (eC (.int 1))) [some (.ref 0),some (.int m),some (.int st),some (.int hr),some (.ref 1),some (.int i)] [some [.int x,.int y,.int z],some ((pre++[l]).map .int)]=some (.int l,[some [.int x,.int y,.int z],some ((pre++[l]).map .int)]):=by
  have v4:Ab 4 [some (.ref 0),some (.int m),some (.int st),some (.int hr),some (.ref 1),some (.int i)] [some [.int x,.int y,.int z],some ((pre++[l]).map .int)]=some (.ref 1,[some [.int x,.int y,.int z],some ((pre++[l]).map .int)]):=rfl
  rw[BJ,v4,U0b]
  show((some (oIx [some [.int x,.int y,.int z],some ((pre++[l]).map .int)] (.ref 1) (.int (-1)))).bind _)=_
  show U17 _ (atI ((pre++[l]).map D.int) (-1))=_
  rw[ha];rfl
 have t2:Bg Ao (Aa (Ab 0) (Aa (Ab 2) Ae)) [some (.ref 0),some (.int m),some (.int st),some (.int hr),some (.ref 1),some (.int i)] [some [.int x,.int y,.int z],some ((pre++[l]).map .int)]=some (.int t,[some [.int x',.int y,.int z'],some ((pre++[l]).map .int)]) :=
  Ip (ns:=[x,y,z]) (rest:=[.int st]) (es:=[.int st]) (i:=0) (S':=[some [.int x,.int y,.int z],some ((pre++[l]).map .int)]) rfl rfl (by simp[Ax,BX]) (by simp[Bq,age]) e1
 have k1:eOp Dd (eOp Dy (eOp Dy (eOp Fd (eC (.int 10)) (eC (.int 9))) (eC (.int 200))) (Ab 1)) (Ab 5) [some (.ref 0),some (.int m),some (.int st),some (.int hr),some (.ref 1),some (.int i)] [some [.int x',.int y,.int z'],some ((pre++[l]).map .int)]=some (.int (1000000000-200-m+i),[some [.int x',.int y,.int z'],some ((pre++[l]).map .int)]):=by simp[Aw,CT,BJ,oI,Hl,Oa,Dd,Dy,Fd,VS.listOf,-U0d,-U0e]
 unfold Li
 rw[Gm,J5 (d:=.ref 1) (cs:=(pre++[l]).map .int) (ds:=[.int v]) (r:=.non) (S1:=[some [.int x,.int y,.int z],some ((pre++[l]).map .int)]) (S2:=[some [.int x',.int y,.int z'],some ((pre++[l]).map .int)]) (S3:=[some [.int x',.int y,.int z'],some ((pre++[l]++[v]).map .int)]) rfl rfl (by
  rw[Am,Fg,Am,BJ,BJ,i1,U0b,CT,U0b]
  show((((some (D.int (l+1),_):Option (D×Store)).bind _).bind _).bind _).bind _=_
  rw[U0b,t2,U0b]
  show(((some (D.int (l+1+t),_):Option (D×Store)).bind _).bind _).bind _=_
  rw[U0b,Am,k1,hv]
  rfl) (by
  show(if ((pre++[l]).map D.int).length<1000000 then some (D.non,[some [.int x',.int y,.int z'],some ((pre++[l]).map D.int++[D.int v])]) else none)=_
  rw[if_pos (by simp;omega),U1b (l₁:=pre++[l])]
  rfl)]
 rfl
end W14
end
section
namespace W14
open PySem L2 VS
theorem pY(x y z:Int)(m:Nat)(st hr:Int)(hm:m<=40)(h0:0<st)(h1:st<=1000000000)(hr0:-1000000000<=hr)(hr1:hr<=0):∃(pre:List Int)(l x' z':Int)(z5:Option D),
  Ow [some (.ref 0),some (.int m),some (.int st),some (.int hr),some (.ref 1),none] [some [.int x,.int y,.int z],some [.int hr]]=some (.nx,[some (.ref 0),some (.int m),some (.int st),some (.int hr),some (.ref 1),z5],[some [.int x',.int y,.int z'],some ((pre++[l]).map .int)]) /\
  pre.length=m/\(pre++[l]).Pairwise (·<·)/\(∀e∈pre++[l],-1000000000<=e)/\l<=1000000000-201:=by
 have e:Ej (Aa (Ab 1) Ae) [some (.ref 0),some (.int m),some (.int st),some (.int hr),some (.ref 1),none] [some [.int x,.int y,.int z],some [.int hr]]=some ((upD 0 m,[]),[some [.int x,.int y,.int z],some [.int hr]]):=LC _ (by simp[Aw,Bl,Am,-U0d,-U0e];rfl) (by simp) (by omega) (by omega)
 obtain⟨env',S',e2,pre,l,x',z',z5,he,hS,hl,hp,hb,hq⟩:=Eo (w:=[]) (g:=Pat.sem (.nm 5)) (b:=Li) (ds:=upD 0 m) (env:=[some (.ref 0),some (.int m),some (.int st),some (.int hr),some (.ref 1),none]) (S:=[some [.int x,.int y,.int z],some [.int hr]])
  (fun i env S=>∃(pre:List Int)(l x' z':Int)(z5:Option D),env=[some (.ref 0),some (.int m),some (.int st),some (.int hr),some (.ref 1),z5]/\S=[some [.int x',.int y,.int z'],some ((pre++[l]).map .int)]/\pre.length=min i m/\(pre++[l]).Pairwise (·<·)/\(∀e∈pre++[l],-1000000000<=e)/\l<=1000000000-200-m+(min i m:Nat)-1)
  ⟨[],hr,x,z,none,rfl,rfl,by simp,by simp,by simpa using hr0,by simp;omega⟩ (fun i env S _=>by simp) (fun i d env S hd q=>by
   obtain⟨pre,l,x',z',z5,he,hS,hl,hp,hb,hq⟩:=q
   obtain⟨hi,rfl⟩:=Ls hd
   subst he hS
   have hi':min i m=i:=by omega
   rw[hi'] at hl hq
   obtain⟨v,x2,z2,v1,v2,e3⟩:=lF x' y z' m st hr hm h0 h1 pre l i hl (by omega) hq
   rw[U5z]
   refine⟨_,DN _ _ _,_,_,e3,pre++[l],v,x2,z2,_,rfl,rfl,by simp;omega,?_,?_,?_⟩
   .refine U3w.mpr ⟨hp,by simp,fun a ha b hb'=>?_⟩
    rw[U03.mp hb']
    rcases U1k.mp ha with q|q
    .have:=(U3w.mp hp).2.2 a q l (by simp);omega
    .rw[U03.mp q];exact v1
   .intro e he
    rcases U1k.mp he with q|q
    .exact hb e q
    .rw[U03.mp q]
     have:=hb l (by simp);omega
   .have:min (i+1) m=i+1:=by omega
    rw[this];omega)
 rw[Ke,U5y] at hl hq
 subst he hS
 refine⟨pre,l,x',z',z5,?_,hl,hp,hb,by omega⟩
 unfold Ow
 rw[Fp,e]
 exact e2
theorem lE(x y z:Int)(m:Nat)(h1:8<=m)(h2:m<=40):∃(ms:List Int)(x' z':Int),Gv [x,y,z] [.int m]=some (.lst true (ms.map .int),[x',y,z'])/\Mk m ms:=by
 obtain⟨r1,x1,z1,e1,p1,p2⟩:=Es x y z 3 (by decide) (by decide)
 obtain⟨st,f1,st0,st1⟩:∃st:Int,atI [D.int 1,D.int 3,D.int (1000000000/(m:Int))] r1=some (.int st)/\0<st/\st<=1000000000:=by
  have:r1=0∨r1=1∨r1=2:=by omega
  rcases this with rfl|rfl|rfl
  .exact⟨1,by simp,by decide,by decide⟩
  .exact⟨3,by simp,by decide,by decide⟩
  .refine⟨1000000000/(m:Int),by simp,?_,Int.ediv_le_self _ (by decide)⟩
   have:(1:Int)<=1000000000/(m:Int):=(Int.le_ediv_iff_mul_le (by omega)).mpr (by omega)
   omega
 obtain⟨r2,x2,z2,e2,q1,q2⟩:=Es x1 y z1 10 (by decide) (by decide)
 obtain⟨r3,x3,z3,e3,q3,q4⟩:=Es x2 y z2 3 (by decide) (by decide)
 obtain⟨hr,f2,hr0,hr1⟩:∃hr:Int,atI [D.int 0,D.int (0-r2),D.int (-1000000000)] r3=some (.int hr)/\-1000000000<=hr/\hr<=0:=by
  have:r3=0∨r3=1∨r3=2:=by omega
  rcases this with rfl|rfl|rfl
  .exact⟨0,by simp,by decide,by decide⟩
  .exact⟨0-r2,by simp,by omega,by omega⟩
  .exact⟨-1000000000,by simp,by decide,by decide⟩
 obtain⟨pre,l,x4,z4,z5,e4,hl,hp,hb,hq⟩:=pY x3 y z3 m st hr h2 st0 st1 hr0 hr1
 obtain⟨r5,x5,z5',e5,_,_⟩:=Es x4 y z4 3 (by decide) (by decide)
 have hm0:(0:Int)<m:=by omega
 have hm1:(m:Int)<18446744073709551616:=by omega
 have hmN:0<m:=by omega
 have s1:(Bj 2 (eOp oIx (Bt (Aa (eC (.int 1)) (Aa (eC (.int 3)) (Aa (eOp oDiv (eOp Fd (eC (.int 10)) (eC (.int 9))) (Ab 1)) Ae)))) (Bg Ao (Aa (Ab 0) (Aa (eC (.int 3)) Ae))))) [some (.ref 0),some (.int m),none,none,none,none] [some [.int x,.int y,.int z]]=some (.nx,[some (.ref 0),some (.int m),some (.int st),none,none,none],[some [.int x1,.int y,.int z1]]):=by
  simp[CV,Aw,CT,BJ,Bl,Am,Dj,Mx,oI,TF,Oa,oDiv,Fd,oIx,VS.listOf,Br,intsOf,den,Cw,age,Bq,BX,Ax,-U0d,-U0e,e1,f1,hmN,hm1]
 have s2:(Bj 3 (eOp oIx (Bt (Aa (eC (.int 0)) (Aa (eOp Dy (eC (.int 0)) (Bg Ao (Aa (Ab 0) (Aa (eC (.int 10)) Ae)))) (Aa (eOp Dy (eC (.int 0)) (eOp Fd (eC (.int 10)) (eC (.int 9)))) Ae)))) (Bg Ao (Aa (Ab 0) (Aa (eC (.int 3)) Ae))))) [some (.ref 0),some (.int m),some (.int st),none,none,none] [some [.int x1,.int y,.int z1]]=some (.nx,[some (.ref 0),some (.int m),some (.int st),some (.int hr),none,none],[some [.int x3,.int y,.int z3]]):=by
  rw[Int.zero_sub] at f2
  simp[CV,Aw,CT,BJ,Bl,Am,Dj,Mx,oI,Hl,Oa,Dy,Fd,oIx,VS.listOf,Br,intsOf,den,Cw,age,Bq,BX,Ax,-U0d,-U0e,e2,e3,f2]
 have s3:(Bj 4 (G5 (Aa (Ab 3) Ae))) [some (.ref 0),some (.int m),some (.int st),some (.int hr),none,none] [some [.int x3,.int y,.int z3]]=some (.nx,[some (.ref 0),some (.int m),some (.int st),some (.int hr),some (.ref 1),none],[some [.int x3,.int y,.int z3],some [.int hr]]):=by simp[CV,Aw,Bl,Am,O9,-U0d,-U0e]
 have t5:∀(a:List D)(c:Int)(x y z x' z' r:Int),Ao [x,y,z] [.int c]=some (.int r,[x',y,z'])->BK (eOp (oEq false) (Bg Ao (Aa (Ab 0) (Aa (eC (.int c)) Ae))) (eC (.int 0))) [some (.ref 0),some (.int m),some (.int st),some (.int hr),some (.ref 1),z5] [some [.int x,.int y,.int z],some a]=some (decide (r=0),[some [.int x',.int y,.int z'],some a]):=fun a c x y z x' z' r h=>by
  have t2:Bg Ao (Aa (Ab 0) (Aa (eC (.int c)) Ae)) [some (.ref 0),some (.int m),some (.int st),some (.int hr),some (.ref 1),z5] [some [.int x,.int y,.int z],some a]=some (.int r,[some [.int x',.int y,.int z'],some a]) :=
   Ip (ns:=[x,y,z]) (rest:=[.int c]) (es:=[.int c]) (i:=0) (S':=[some [.int x,.int y,.int z],some a]) rfl rfl (by simp[Ax,BX]) (by simp[Bq,age]) h
  rw[Cq,BJ,t2,U0b]
  simp[CT,oEq,-U0d,-U0e]
 obtain⟨l',hl',s4⟩:∃l':Int,(l'=l∨l'=1000000000)/\(sIf (BK (eOp (oEq false) (Bg Ao (Aa (Ab 0) (Aa (eC (.int 3)) Ae))) (eC (.int 0)))) (Ie (eOp Fd (eC (.int 10)) (eC (.int 9))) (Ab 4) (eUn Em (eC (.int 1)))) Dh) [some (.ref 0),some (.int m),some (.int st),some (.int hr),some (.ref 1),z5] [some [.int x4,.int y,.int z4],some ((pre++[l]).map .int)]=some (.nx,[some (.ref 0),some (.int m),some (.int st),some (.int hr),some (.ref 1),z5],[some [.int x5,.int y,.int z5'],some ((pre++[l']).map .int)]):=by
  have ts:=t5 ((pre++[l]).map .int) 3 x4 y z4 x5 z5' r5 e5
  by_cases h:r5=0
  .rw[decide_eq_true h] at ts
   refine⟨1000000000,.inr rfl,?_⟩
   rw[Ig ts,Kp]
   have p9:=pow10 9 (by decide) [some (.ref 0),some (.int m),some (.int st),some (.int hr),some (.ref 1),z5] [some [.int x5,.int y,.int z5'],some ((pre++[l]).map .int)]
   have hx:ixN ((pre++[l]).map D.int).length (-1)=some pre.length:=by
    rw[U0j,U0n];exact Qg
   refine(congrArg (fun z=>U61 z _) p9).trans ?_
   show(ixN ((pre++[l]).map D.int).length (-1)).bind _=_
   rw[hx]
   show some (Fl.nx,_,[some [.int x5,.int y,.int z5'],some (((pre++[l]).map D.int).set pre.length (.int (10^9)))])=_
   rw[U1b,U1b,U6j _ _ (by simp)]
   simp
  .rw[decide_eq_false h] at ts
   exact⟨l,.inl rfl,by rw[GK ts];rfl⟩
 have hp':(pre++[l']).Pairwise (·<·):=by
  obtain⟨a1,_,a3⟩:=U3w.mp hp
  refine U3w.mpr ⟨a1,by simp,fun a ha b hb'=>?_⟩
  rw[U03.mp hb']
  have:=a3 a ha l (by simp)
  rcases hl' with h|h<;>omega
 have hn':∀e∈pre++[l'],-1000000000<=e/\e<=1000000000:=fun e he=>by
  rcases U1k.mp he with q|q
  .have:=hb e (U3g _ q)
   have:=(U3w.mp hp).2.2 e q l (by simp)
   omega
  .rw[U03.mp q]
   have:=hb l (by simp)
   rcases hl' with h|h<;>omega
 have len':(pre++[l']).length=m+1:=by simp[hl]
 generalize pre++[l']=ms at *
 obtain⟨r6,x6,z6,e6,_,_⟩:=Es x5 y z5' 6 (by decide) (by decide)
 obtain⟨ns,hns,s5⟩:∃ns:List Int,Mk m ns/\(sIf (BK (eOp (oEq false) (Bg Ao (Aa (Ab 0) (Aa (eC (.int 6)) Ae))) (eC (.int 0)))) (Ie (eOp Dy (eC (.int 0)) (eOp Fd (eC (.int 10)) (eC (.int 9)))) (Ab 4) (eC (.int 0))) Dh) [some (.ref 0),some (.int m),some (.int st),some (.int hr),some (.ref 1),z5] [some [.int x5,.int y,.int z5'],some (ms.map .int)]=some (.nx,[some (.ref 0),some (.int m),some (.int st),some (.int hr),some (.ref 1),z5],[some [.int x6,.int y,.int z6],some (ns.map .int)]):=by
  have ts:=t5 (ms.map .int) 6 x5 y z5' x6 z6 r6 e6
  by_cases h:r6=0
  .rw[decide_eq_true h] at ts
   cases ms with
   |nil=>simp at len'
   |cons a r =>
    refine⟨-1000000000::r,⟨?_,by simpa using len',fun e he=>?_⟩,?_⟩
    .obtain⟨a1,a2⟩:=U1l.mp hp'
     refine U1l.mpr ⟨fun b hb'=>?_,a2⟩
     have:=a1 b hb'
     have:=hn' a U0u
     omega
    .rcases U0q.mp he with q|q
     .omega
     .exact hn' e (U0t _ q)
    .have w1:eOp Dy (eC (.int 0)) (eOp Fd (eC (.int 10)) (eC (.int 9))) [some (.ref 0),some (.int m),some (.int st),some (.int hr),some (.ref 1),z5] [some [.int x6,.int y,.int z6],some ((a::r).map .int)]=some (.int (-1000000000),[some [.int x6,.int y,.int z6],some ((a::r).map .int)]):=by simp[CT,BJ,oI,Hl,Oa,Dy,Fd,-U0d,-U0e]
     rw[Ig ts,Kp,w1]
     show(ixN ((a::r).map D.int).length 0).bind _=_
     rw[U0m,U0i,nF]
     rfl
  .rw[decide_eq_false h] at ts
   exact⟨ms,⟨hp',len',hn'⟩,by rw[GK ts];rfl⟩
 refine⟨ns,x6,z6,?_,hns⟩
 unfold Gv
 rw[Ly]
 simp only[U0i,U1a,U0m,U1e,U14,U15,U0s,U1c,U2d,U11,if_true]
 unfold Sx
 rw[BW s1,BW s2,BW s3,BW e4,BW s4,BW s5]
 simp[Ck,Aw,intsOf,den,-U0d,-U0e]
end W14
end
section
namespace W14
open PySem L2 VS
theorem at2(a b c:Option (List D))(R:Store):(a::b::(R++[c]))[R.length+2]?=some c:=by
 show(R++[c])[R.length]?=some c
 exact Xi R c []
theorem put2(a b c d:Option (List D))(R:Store):(a::b::(R++[c])).set (R.length+2) d=a::b::(R++[d]):=by
 show a::b::(R++[c]).set R.length d=_
 rw[sY R c d []]
theorem Lw{x y z c r x' z':Int}{a:Bb}{env:VS.Env}{S:Store}(h:Ao [x,y,z] [.int c]=some (.int r,[x',y,z']))(h0:env[0]?=some (some (.ref 0)))(ha:a env (some [.int x,.int y,.int z]::S)=some (.int c,some [.int x,.int y,.int z]::S)):Bg Ao (Aa (Ab 0) (Aa a Ae)) env (some [.int x,.int y,.int z]::S)=some (.int r,some [.int x',.int y,.int z']::S):=by
 have v0:Ab 0 env (some [.int x,.int y,.int z]::S)=some (.ref 0,some [.int x,.int y,.int z]::S):=by rw[Aw,h0];rfl
 exact Ip (ns:=[x,y,z]) (rest:=[.int c]) (es:=[.int c]) (i:=0) (S':=some [.int x,.int y,.int z]::S) (by rw[Am,v0,U0b,Am,ha];rfl) rfl (by simp[Ax,BX]) (by simp[Bq,age]) h
theorem jr(x y z:Int)(e1 e2 e3 e4 z7 z9 z10 z11 z12:Option D)(wd:Int)(h0:0<wd)(h1:wd<=40)(f:List D)(R:Store)(bx:List St2)(hb:bx.length<=3):∃(p:St2)(x' z':Int),(0<=p.1/\p.1<p.2/\p.2<=wd) /\
  Lh [some (.ref 0),e1,e2,e3,e4,some (.int wd),some (.ref 1),z7,some (.ref (R.length+2)),z9,z10,z11,z12] (some [.int x,.int y,.int z]::some f::(R++[some (bx.map Aq)]))=some (.nx,[some (.ref 0),e1,e2,e3,e4,some (.int wd),some (.ref 1),z7,some (.ref (R.length+2)),z9,some (.int p.1),z11,z12],some [.int x',.int y,.int z']::some f::(R++[some ((bx++[p]).map Aq)])):=by
 obtain⟨lo,x1,z1,t1,l0,l1⟩:=Es x y z wd h0 (by omega)
 obtain⟨u,x2,z2,t2,u0,u1⟩:=Es x1 y z1 (wd-lo) (by omega) (by omega)
 obtain⟨r,x3,z3,t3,r0,r1⟩:=Es x2 y z2 2 (by decide) (by decide)
 obtain⟨k,f1,k0,k1⟩:∃k:Int,atI [D.int 0,D.int u] r=some (.int k)/\0<=k/\k<wd-lo:=by
  have:r=0∨r=1:=by omega
  rcases this with rfl|rfl
  .exact⟨0,by simp,by decide,by omega⟩
  .exact⟨u,by simp,u0,u1⟩
 refine⟨(lo,lo+1+k),x3,z3,⟨l0,by show lo<lo+1+k;omega,by show lo+1+k<=wd;omega⟩,?_⟩
 have s1:(Bj 10 (Bg Ao (Aa (Ab 0) (Aa (Ab 5) Ae)))) [some (.ref 0),e1,e2,e3,e4,some (.int wd),some (.ref 1),z7,some (.ref (R.length+2)),z9,z10,z11,z12] (some [.int x,.int y,.int z]::some f::(R++[some (bx.map Aq)]))=some (.nx,[some (.ref 0),e1,e2,e3,e4,some (.int wd),some (.ref 1),z7,some (.ref (R.length+2)),z9,some (.int lo),z11,z12],some [.int x1,.int y,.int z1]::some f::(R++[some (bx.map Aq)])):=by
  rw[CV,Lw t1 rfl rfl];rfl
 have q2:Bg Ao (Aa (Ab 0) (Aa (eOp Dy (Ab 5) (Ab 10)) Ae)) [some (.ref 0),e1,e2,e3,e4,some (.int wd),some (.ref 1),z7,some (.ref (R.length+2)),z9,some (.int lo),z11,z12] (some [.int x1,.int y,.int z1]::some f::(R++[some (bx.map Aq)]))=some (.int u,some [.int x2,.int y,.int z2]::some f::(R++[some (bx.map Aq)])):=Lw t2 rfl rfl
 have q3:Bg Ao (Aa (Ab 0) (Aa (eC (.int 2)) Ae)) [some (.ref 0),e1,e2,e3,e4,some (.int wd),some (.ref 1),z7,some (.ref (R.length+2)),z9,some (.int lo),z11,z12] (some [.int x2,.int y,.int z2]::some f::(R++[some (bx.map Aq)]))=some (.int r,some [.int x3,.int y,.int z3]::some f::(R++[some (bx.map Aq)])):=Lw t3 rfl rfl
 have q4:eOp oIx (Bt (Aa (eC (.int 0)) (Aa (Bg Ao (Aa (Ab 0) (Aa (eOp Dy (Ab 5) (Ab 10)) Ae))) Ae))) (Bg Ao (Aa (Ab 0) (Aa (eC (.int 2)) Ae))) [some (.ref 0),e1,e2,e3,e4,some (.int wd),some (.ref 1),z7,some (.ref (R.length+2)),z9,some (.int lo),z11,z12] (some [.int x1,.int y,.int z1]::some f::(R++[some (bx.map Aq)]))=some (.int k,some [.int x3,.int y,.int z3]::some f::(R++[some (bx.map Aq)])):=by
  rw[BJ,Dj,Am,CT,U0b,Am,q2,U0b,Bl,U0b]
  simp only[U0b]
  rw[q3,U0b]
  show U17 _ (atI [D.int 0,D.int u] r)=_
  rw[f1];rfl
 have v10:∀S:Store,Ab 10 [some (.ref 0),e1,e2,e3,e4,some (.int wd),some (.ref 1),z7,some (.ref (R.length+2)),z9,some (.int lo),z11,z12] S=some (.int lo,S):=fun S=>rfl
 unfold Lh
 rw[BW s1,Gm,J5 (d:=.ref (R.length+2)) (cs:=bx.map Aq) (ds:=[Aq (lo,lo+1+k)]) (r:=.non) (S1:=some [.int x1,.int y,.int z1]::some f::(R++[some (bx.map Aq)])) (S2:=some [.int x3,.int y,.int z3]::some f::(R++[some (bx.map Aq)])) (S3:=some [.int x3,.int y,.int z3]::some f::(R++[some ((bx++[(lo,lo+1+k)]).map Aq)])) (by rw[Aw];simp[at2]) (by rw[VS.listOf,at2];rfl) (by
  rw[Am,Ho,Am,v10,U0b,Am,BJ,BJ,v10,U0b,CT,U0b]
  show(((((some (D.int (lo+1),_):Option (D×Store)).bind _).bind _).bind _).bind _).bind _=_
  rw[U0b,q4]
  rfl) (by
  unfold Ed
  simp only[at2]
  rw[if_pos (by rw[U0j];omega),put2,U1b]
  rfl)]
 rfl
end W14
end
section
namespace W14
open PySem L2 VS
theorem jq(x y z:Int)(n:Nat)(hn:n<=3)(e2 e3 e4 z7 z8 z9 z10 z11 z12:Option D)(wd:Int)(h0:0<wd)(h1:wd<=40)(bs:List (List St2))(hbs:bs.length<=100)(R:Store):∃(b:List St2)(x' z':Int)(R':Store)(y8 y9 y10:Option D),Sm n wd b /\
  Lg [some (.ref 0),some (.int n),e2,e3,e4,some (.int wd),some (.ref 1),z7,z8,z9,z10,z11,z12] (some [.int x,.int y,.int z]::some (bs.map Af)::R)=some (.nx,[some (.ref 0),some (.int n),e2,e3,e4,some (.int wd),some (.ref 1),z7,y8,y9,y10,z11,z12],some [.int x',.int y,.int z']::some ((bs++[b]).map Af)::R'):=by
 have s1:(Bj 8 (G5 Ae)) [some (.ref 0),some (.int n),e2,e3,e4,some (.int wd),some (.ref 1),z7,z8,z9,z10,z11,z12] (some [.int x,.int y,.int z]::some (bs.map Af)::R)=some (.nx,[some (.ref 0),some (.int n),e2,e3,e4,some (.int wd),some (.ref 1),z7,some (.ref (R.length+2)),z9,z10,z11,z12],some [.int x,.int y,.int z]::some (bs.map Af)::(R++[some (([]:List St2).map Aq)])):=rfl
 have e:Ej (Aa (Ab 1) Ae) [some (.ref 0),some (.int n),e2,e3,e4,some (.int wd),some (.ref 1),z7,some (.ref (R.length+2)),z9,z10,z11,z12] (some [.int x,.int y,.int z]::some (bs.map Af)::(R++[some (([]:List St2).map Aq)]))=some ((upD 0 n,[]),some [.int x,.int y,.int z]::some (bs.map Af)::(R++[some (([]:List St2).map Aq)])):=LC _ rfl (by simp) (by omega) (by omega)
 obtain⟨env',S',e5,bx,x',z',y9,y10,he,hS,hl,hb⟩:=Eo (w:=[]) (g:=Pat.sem (.nm 9)) (b:=Lh) (ds:=upD 0 n) (env:=[some (.ref 0),some (.int n),e2,e3,e4,some (.int wd),some (.ref 1),z7,some (.ref (R.length+2)),z9,z10,z11,z12]) (S:=some [.int x,.int y,.int z]::some (bs.map Af)::(R++[some (([]:List St2).map Aq)]))
  (fun i env S=>∃(bx:List St2)(x' z':Int)(y9 y10:Option D),env=[some (.ref 0),some (.int n),e2,e3,e4,some (.int wd),some (.ref 1),z7,some (.ref (R.length+2)),y9,y10,z11,z12]/\S=some [.int x',.int y,.int z']::some (bs.map Af)::(R++[some (bx.map Aq)])/\bx.length=min i n/\∀p∈bx,0<=p.1/\p.1<p.2/\p.2<=wd)
  ⟨[],x,z,z9,z10,rfl,rfl,by simp,fun p h=>by cases h⟩ (fun i env S _=>by simp) (fun i d env S hd q=>by
   obtain⟨bx,x',z',y9,y10,he,hS,hl,hb⟩:=q
   obtain⟨hi,rfl⟩:=Ls hd
   subst he hS
   obtain⟨p,x2,z2,hp,e6⟩:=jr x' y z' (some (.int n)) e2 e3 e4 z7 (some (.int (0+i))) y10 z11 z12 wd h0 h1 (bs.map Af) R bx (by omega)
   refine⟨_,DN _ _ _,_,_,e6,bx++[p],x2,z2,_,_,rfl,rfl,by simp;omega,fun q hq=>?_⟩
   rcases U1k.mp hq with h|h
   .exact hb q h
   .rw[U03.mp h];exact hp)
 rw[Ke,U5y] at hl
 subst he hS
 have l1:Ov [some (.ref 0),some (.int n),e2,e3,e4,some (.int wd),some (.ref 1),z7,some (.ref (R.length+2)),z9,z10,z11,z12] (some [.int x,.int y,.int z]::some (bs.map Af)::(R++[some (([]:List St2).map Aq)]))=some (.nx,[some (.ref 0),some (.int n),e2,e3,e4,some (.int wd),some (.ref 1),z7,some (.ref (R.length+2)),y9,y10,z11,z12],some [.int x',.int y,.int z']::some (bs.map Af)::(R++[some (bx.map Aq)])):=by
  unfold Ov
  rw[Fp,e]
  exact e5
 refine⟨bx,x',z',R++[some (bx.map Aq)],some (.ref (R.length+2)),y9,y10,⟨hl,hb⟩,?_⟩
 unfold Lg
 rw[BW s1,BW l1,Gm,J5 (d:=.ref 1) (cs:=bs.map Af) (ds:=[Af bx]) (r:=.non) (S1:=some [.int x',.int y,.int z']::some (bs.map Af)::(R++[some (bx.map Aq)])) (S2:=some [.int x',.int y,.int z']::some (bs.map Af)::(R++[some (bx.map Aq)])) (S3:=some [.int x',.int y,.int z']::some ((bs++[bx]).map Af)::(R++[some (bx.map Aq)])) rfl rfl (by
  have v8:Ab 8 [some (.ref 0),some (.int n),e2,e3,e4,some (.int wd),some (.ref 1),z7,some (.ref (R.length+2)),y9,y10,z11,z12] (some [.int x',.int y,.int z']::some (bs.map Af)::(R++[some (bx.map Aq)]))=some (.ref (R.length+2),some [.int x',.int y,.int z']::some (bs.map Af)::(R++[some (bx.map Aq)])):=by rw[Aw];simp[at2]
  rw[Am,Fg,Am,v8]
  simp[Bl,TJ,Br,VS.listOf,at2,Af]) (by
  show(if (bs.map Af).length<1000000 then some (D.non,some [.int x',.int y,.int z']::some (bs.map Af++[Af bx])::(R++[some (bx.map Aq)])) else none)=_
  rw[if_pos (by rw[U0j];omega),U1b]
  rfl)]
 rfl
theorem jm(x y z:Int)(n c:Nat)(hn:n<=3)(hc:c<=20)(e2 e3:Option D)(wd:Int)(h0:0<wd)(h1:wd<=40):∃(bs:List (List St2))(x' z':Int)(R':Store)(y7 y8 y9 y10:Option D),bs.length=c/\(∀b∈bs,Sm n wd b) /\
  Ou [some (.ref 0),some (.int n),e2,e3,some (.int c),some (.int wd),some (.ref 1),none,none,none,none,none,none] [some [.int x,.int y,.int z],some []]=some (.nx,[some (.ref 0),some (.int n),e2,e3,some (.int c),some (.int wd),some (.ref 1),y7,y8,y9,y10,none,none],some [.int x',.int y,.int z']::some (bs.map Af)::R'):=by
 have e:Ej (Aa (Ab 4) Ae) [some (.ref 0),some (.int n),e2,e3,some (.int c),some (.int wd),some (.ref 1),none,none,none,none,none,none] [some [.int x,.int y,.int z],some []]=some ((upD 0 c,[]),[some [.int x,.int y,.int z],some []]):=LC _ rfl (by simp) (by omega) (by omega)
 obtain⟨env',S',e5,bs,x',z',R',y7,y8,y9,y10,he,hS,hl,hb⟩:=Eo (w:=[]) (g:=Pat.sem (.nm 7)) (b:=Lg) (ds:=upD 0 c) (env:=[some (.ref 0),some (.int n),e2,e3,some (.int c),some (.int wd),some (.ref 1),none,none,none,none,none,none]) (S:=[some [.int x,.int y,.int z],some []])
  (fun i env S=>∃(bs:List (List St2))(x' z':Int)(R':Store)(y7 y8 y9 y10:Option D),env=[some (.ref 0),some (.int n),e2,e3,some (.int c),some (.int wd),some (.ref 1),y7,y8,y9,y10,none,none]/\S=some [.int x',.int y,.int z']::some (bs.map Af)::R'/\bs.length=min i c/\∀b∈bs,Sm n wd b)
  ⟨[],x,z,[],none,none,none,none,rfl,rfl,by simp,fun p h=>by cases h⟩ (fun i env S _=>by simp) (fun i d env S hd q=>by
   obtain⟨bs,x',z',R',y7,y8,y9,y10,he,hS,hl,hb⟩:=q
   obtain⟨hi,rfl⟩:=Ls hd
   subst he hS
   obtain⟨b,x2,z2,R2,w8,w9,w10,hb2,e6⟩:=jq x' y z' n hn e2 e3 (some (.int c)) (some (.int (0+i))) y8 y9 y10 none none wd h0 h1 bs (by omega) R'
   refine⟨_,DN _ _ _,_,_,e6,bs++[b],x2,z2,R2,_,_,_,_,rfl,rfl,by simp;omega,fun q hq=>?_⟩
   rcases U1k.mp hq with h|h
   .exact hb q h
   .rw[U03.mp h];exact hb2)
 rw[Ke,U5y] at hl
 subst he hS
 refine⟨bs,x',z',R',y7,y8,y9,y10,hl,hb,?_⟩
 unfold Ou
 rw[Fp,e]
 exact e5
end W14
end
section
namespace W14
open PySem L2 VS
theorem rC{α:Type}{F:α->D}(bs:List α){r:Int}(h0:0<=r):∃cs:List α,cut (bs.map F) none (some r)=cs.map F/\(cs.length:Int)<=r/\∀c∈cs,c∈bs:=by
 unfold cut
 rw[←U70,←U71]
 refine⟨_,rfl,?_,fun c hc=>List.mem_of_mem_drop (List.mem_of_mem_take hc)⟩
 rw[U19,U0j]
 have h1:HT.sIx bs.length 0 none=0:=rfl
 have h2:HT.sIx bs.length bs.length (some r)<=r.toNat:=by
  unfold HT.sIx
  simp only
  split<;>omega
 omega
def Hold(F:D)(T:Store)(bs:List (List St2)):Prop:=F=.lst true (bs.map Af)∨∃j,F=.ref (j+1)/\T[j]?=some (some (bs.map Af))
theorem QX{a b:FJ}{env:VS.Env}{S:Store}{p q:Prop}[Decidable p][Decidable q](h1:a env S=some (decide p,S))(h2:b env S=some (decide q,S)):G4 a b env S=some (decide (p/\q),S):=by
 rw[Kf,h1,U0b]
 by_cases h:p
 .simp[h,h2]
 .simp[h]
theorem jj(x y z:Int)(n:Nat)(e2 e3 y7 y8 y9 y10 y12:Option D)(c:Nat)(hc:c<=20)(wd kind:Int)(bs:List (List St2))(hl:bs.length=c)(R:Store)(P:List St2->Prop)(hP:∀b∈bs,P b):∃(bs':List (List St2))(x' z':Int),bs'.length=c/\(∀b∈bs',P b) /\
  (sIf (G4 (BK (eOp (oEq false) (Ab 11) (eC (.int 1)))) (BK (eOp oGt (Ab 4) (eC (.int 1))))) (Ie (eOp oIx (Ab 6) (Bg Ao (Aa (Ab 0) (Aa (eOp Dy (Ab 4) (eC (.int 1))) Ae)))) (Ab 6) (eUn Em (eC (.int 1)))) Dh) [some (.ref 0),some (.int n),e2,e3,some (.int c),some (.int wd),some (.ref 1),y7,y8,y9,y10,some (.int kind),y12] (some [.int x,.int y,.int z]::some (bs.map Af)::R) =
  some (.nx,[some (.ref 0),some (.int n),e2,e3,some (.int c),some (.int wd),some (.ref 1),y7,y8,y9,y10,some (.int kind),y12],some [.int x',.int y,.int z']::some (bs'.map Af)::R):=by
 have k1:BK (eOp (oEq false) (Ab 11) (eC (.int 1))) [some (.ref 0),some (.int n),e2,e3,some (.int c),some (.int wd),some (.ref 1),y7,y8,y9,y10,some (.int kind),y12] (some [.int x,.int y,.int z]::some (bs.map Af)::R)=some (decide (kind=1),some [.int x,.int y,.int z]::some (bs.map Af)::R):=by simp[Aw,CT,BJ,Cq,oEq,-U0d,-U0e]
 have k2:BK (eOp oGt (Ab 4) (eC (.int 1))) [some (.ref 0),some (.int n),e2,e3,some (.int c),some (.int wd),some (.ref 1),y7,y8,y9,y10,some (.int kind),y12] (some [.int x,.int y,.int z]::some (bs.map Af)::R)=some (decide (1<(c:Int)),some [.int x,.int y,.int z]::some (bs.map Af)::R):=rfl
 have ts:G4 (BK (eOp (oEq false) (Ab 11) (eC (.int 1)))) (BK (eOp oGt (Ab 4) (eC (.int 1)))) [some (.ref 0),some (.int n),e2,e3,some (.int c),some (.int wd),some (.ref 1),y7,y8,y9,y10,some (.int kind),y12] (some [.int x,.int y,.int z]::some (bs.map Af)::R)=some (decide (kind=1/\1<(c:Int)),some [.int x,.int y,.int z]::some (bs.map Af)::R):=QX k1 k2
 by_cases h:kind=1/\1<(c:Int)
 .rw[decide_eq_true h] at ts
  obtain⟨r,x',z',t1,r0,r1⟩:=Es x y z ((c:Int)-1) (by omega) (by omega)
  have hr:r.toNat<bs.length:=by omega
  refine⟨bs.set (c-1) bs[r.toNat],x',z',by rw[U3v];exact hl,fun b hb=>?_,?_⟩
  .rcases List.mem_or_eq_of_mem_set hb with q|q
   .exact hP b q
   .rw[q];exact hP _ (U1s hr)
  .have q1:eOp oIx (Ab 6) (Bg Ao (Aa (Ab 0) (Aa (eOp Dy (Ab 4) (eC (.int 1))) Ae))) [some (.ref 0),some (.int n),e2,e3,some (.int c),some (.int wd),some (.ref 1),y7,y8,y9,y10,some (.int kind),y12] (some [.int x,.int y,.int z]::some (bs.map Af)::R)=some (Af bs[r.toNat],some [.int x',.int y,.int z']::some (bs.map Af)::R):=by
    have v6:Ab 6 [some (.ref 0),some (.int n),e2,e3,some (.int c),some (.int wd),some (.ref 1),y7,y8,y9,y10,some (.int kind),y12] (some [.int x,.int y,.int z]::some (bs.map Af)::R)=some (.ref 1,some [.int x,.int y,.int z]::some (bs.map Af)::R):=rfl
    rw[BJ,v6,U0b,Lw t1 rfl rfl,U0b]
    show U17 _ (atI (bs.map Af) r)=_
    rw[fJ (j:=r.toNat) (by omega) (by simpa using hr)]
    simp
   rw[Ig ts,Kp,q1]
   show(ixN (bs.map Af).length (-1)).bind _=_
   have hx:ixN (bs.map Af).length (-1)=some (c-1):=by
    rw[U0j,hl,show c=(c-1)+1 by omega];exact Qg
   rw[hx]
   show some (Fl.nx,_,some [.int x',.int y,.int z']::some ((bs.map Af).set (c-1) (Af bs[r.toNat]))::R)=_
   rw[←List.map_set]
 .rw[decide_eq_false h] at ts
  exact⟨bs,x,z,hl,hP,by rw[GK ts];rfl⟩
theorem oR:∀b∈[[((0:Int),(3:Int)),(0,1)],[(0,3),(2,3)],[(0,1),(0,3)],[(2,3),(0,3)]],Sm 2 3 b:=by
 intro b hb
 simp only[U0q,U1f,or_false] at hb
 rcases hb with rfl|rfl|rfl|rfl<;>exact⟨rfl,by decide⟩
theorem ji(x y z:Int)(n most:Nat)(h4:4<=most)(h20:most<=20)(e3 y7 y8 y9 y10 y12:Option D)(c:Nat)(wd kind:Int)(bs:List (List St2))(hl:bs.length<=most)(R:Store)(m:Int)(hm:3<=m)(hP:∀b∈bs,Sm n m b):∃(bs':List (List St2))(x' z':Int)(F:D)(w12:Option D),Hold F (some (bs.map Af)::R) bs'/\bs'.length<=most/\(∀b∈bs',Sm n m b) /\
  (sIf (G4 (BK (eOp (oEq false) (Ab 1) (eC (.int 2)))) (BK (eOp (oEq false) (Ab 11) (eC (.int 2)))))
  (Bm (Bj 12 (Bt (Aa (BZ (Aa (BZ (Aa (eC (.int 0)) (Aa (eC (.int 3)) Ae))) (Aa (BZ (Aa (eC (.int 0)) (Aa (eC (.int 1)) Ae))) Ae))) (Aa (BZ (Aa (BZ (Aa (eC (.int 0)) (Aa (eC (.int 3)) Ae))) (Aa (BZ (Aa (eC (.int 2)) (Aa (eC (.int 3)) Ae))) Ae))) (Aa (BZ (Aa (BZ (Aa (eC (.int 0)) (Aa (eC (.int 1)) Ae))) (Aa (BZ (Aa (eC (.int 0)) (Aa (eC (.int 3)) Ae))) Ae))) (Aa (BZ (Aa (BZ (Aa (eC (.int 2)) (Aa (eC (.int 3)) Ae))) (Aa (BZ (Aa (eC (.int 0)) (Aa (eC (.int 3)) Ae))) Ae))) Ae))))))
  (Bj 6 (eOp Dd (Ab 12) (eSl oSl (Ab 6) GF (GD (Bg Ao (Aa (Ab 0) (Aa (eOp Dy (Ab 2) (eC (.int 3))) Ae))))))))
  Dh) [some (.ref 0),some (.int n),some (.int most),e3,some (.int c),some (.int wd),some (.ref 1),y7,y8,y9,y10,some (.int kind),y12] (some [.int x,.int y,.int z]::some (bs.map Af)::R) =
  some (.nx,[some (.ref 0),some (.int n),some (.int most),e3,some (.int c),some (.int wd),some F,y7,y8,y9,y10,some (.int kind),w12],some [.int x',.int y,.int z']::some (bs.map Af)::R):=by
 have k1:BK (eOp (oEq false) (Ab 1) (eC (.int 2))) [some (.ref 0),some (.int n),some (.int most),e3,some (.int c),some (.int wd),some (.ref 1),y7,y8,y9,y10,some (.int kind),y12] (some [.int x,.int y,.int z]::some (bs.map Af)::R)=some (decide ((n:Int)=2),some [.int x,.int y,.int z]::some (bs.map Af)::R):=by simp[Aw,CT,BJ,Cq,oEq,-U0d,-U0e]
 have k2:BK (eOp (oEq false) (Ab 11) (eC (.int 2))) [some (.ref 0),some (.int n),some (.int most),e3,some (.int c),some (.int wd),some (.ref 1),y7,y8,y9,y10,some (.int kind),y12] (some [.int x,.int y,.int z]::some (bs.map Af)::R)=some (decide (kind=2),some [.int x,.int y,.int z]::some (bs.map Af)::R):=by simp[Aw,CT,BJ,Cq,oEq,-U0d,-U0e]
 have ts:=QX k1 k2
 by_cases h:(n:Int)=2/\kind=2
 .rw[decide_eq_true h] at ts
  have hn:n=2:=by omega
  obtain⟨r,x',z',t1,r0,r1⟩:=Es x y z ((most:Int)-3) (by omega) (by omega)
  obtain⟨cs,c1,c2,c3⟩:=rC (F:=Af) bs r0
  refine⟨[[((0:Int),(3:Int)),(0,1)],[(0,3),(2,3)],[(0,1),(0,3)],[(2,3),(0,3)]]++cs,x',z',.lst true (([[((0:Int),(3:Int)),(0,1)],[(0,3),(2,3)],[(0,1),(0,3)],[(2,3),(0,3)]]++cs).map Af),some (.lst true ([[((0:Int),(3:Int)),(0,1)],[(0,3),(2,3)],[(0,1),(0,3)],[(2,3),(0,3)]].map Af)),.inl rfl,by simp;omega,fun b hb=>?_,?_⟩
  .rcases U1k.mp hb with q|q
   .have:=oR b q
    exact⟨by rw[hn];exact this.len,fun p hp=>by have:=this.all p hp;omega⟩
   .exact hP b (c3 b q)
  .rw[Ig ts]
   have s1:∀a:Bf,(a=(Aa (BZ (Aa (BZ (Aa (eC (.int 0)) (Aa (eC (.int 3)) Ae))) (Aa (BZ (Aa (eC (.int 0)) (Aa (eC (.int 1)) Ae))) Ae))) (Aa (BZ (Aa (BZ (Aa (eC (.int 0)) (Aa (eC (.int 3)) Ae))) (Aa (BZ (Aa (eC (.int 2)) (Aa (eC (.int 3)) Ae))) Ae))) (Aa (BZ (Aa (BZ (Aa (eC (.int 0)) (Aa (eC (.int 1)) Ae))) (Aa (BZ (Aa (eC (.int 0)) (Aa (eC (.int 3)) Ae))) Ae))) (Aa (BZ (Aa (BZ (Aa (eC (.int 2)) (Aa (eC (.int 3)) Ae))) (Aa (BZ (Aa (eC (.int 0)) (Aa (eC (.int 3)) Ae))) Ae))) Ae)))))->(Bj 12 (Bt a)) [some (.ref 0),some (.int n),some (.int most),e3,some (.int c),some (.int wd),some (.ref 1),y7,y8,y9,y10,some (.int kind),y12] (some [.int x,.int y,.int z]::some (bs.map Af)::R)=some (.nx,[some (.ref 0),some (.int n),some (.int most),e3,some (.int c),some (.int wd),some (.ref 1),y7,y8,y9,y10,some (.int kind),some (.lst true ([[((0:Int),(3:Int)),(0,1)],[(0,3),(2,3)],[(0,1),(0,3)],[(2,3),(0,3)]].map Af))],some [.int x,.int y,.int z]::some (bs.map Af)::R):=fun a ha=>by rw[ha];rfl
   rw[BW (s1 _ rfl),CV,BJ]
   have v12:∀(g:Option D)(S:Store),Ab 12 [some (.ref 0),some (.int n),some (.int most),e3,some (.int c),some (.int wd),some (.ref 1),y7,y8,y9,y10,some (.int kind),some (.lst true ([[((0:Int),(3:Int)),(0,1)],[(0,3),(2,3)],[(0,1),(0,3)],[(2,3),(0,3)]].map Af))] S=some (.lst true ([[((0:Int),(3:Int)),(0,1)],[(0,3),(2,3)],[(0,1),(0,3)],[(2,3),(0,3)]].map Af),S):=fun _ S=>rfl
   have v6:∀(S:Store),S[1]?=some (some (bs.map Af))->Ab 6 [some (.ref 0),some (.int n),some (.int most),e3,some (.int c),some (.int wd),some (.ref 1),y7,y8,y9,y10,some (.int kind),some (.lst true ([[((0:Int),(3:Int)),(0,1)],[(0,3),(2,3)],[(0,1),(0,3)],[(2,3),(0,3)]].map Af))] S=some (.ref 1,S):=fun S _=>rfl
   have q1:eSl oSl (Ab 6) GF (GD (Bg Ao (Aa (Ab 0) (Aa (eOp Dy (Ab 2) (eC (.int 3))) Ae)))) [some (.ref 0),some (.int n),some (.int most),e3,some (.int c),some (.int wd),some (.ref 1),y7,y8,y9,y10,some (.int kind),some (.lst true ([[((0:Int),(3:Int)),(0,1)],[(0,3),(2,3)],[(0,1),(0,3)],[(2,3),(0,3)]].map Af))] (some [.int x,.int y,.int z]::some (bs.map Af)::R)=some (.lst true (cs.map Af),some [.int x',.int y,.int z']::some (bs.map Af)::R):=by
    rw[Uq,v6 _ rfl,U0b,TY,U0b,TX,Lw t1 rfl rfl]
    show(some (D.lst true (cut (bs.map Af) none (some r)),some [.int x',.int y,.int z']::some (bs.map Af)::R):Option (D×Store))=_
    rw[c1]
   rw[v12 none,U0b,q1,U0b]
   show(U17 _ (if ([[((0:Int),(3:Int)),(0,1)],[(0,3),(2,3)],[(0,1),(0,3)],[(2,3),(0,3)]].map Af).length+(cs.map Af).length<=1000000 then some (D.lst true ([[((0:Int),(3:Int)),(0,1)],[(0,3),(2,3)],[(0,1),(0,3)],[(2,3),(0,3)]].map Af++cs.map Af)) else none)).bind _=_
   rw[if_pos (by simp;omega),←U1b]
   rfl
 .rw[decide_eq_false h] at ts
  exact⟨bs,x,z,.ref 1,y12,.inr ⟨0,rfl,rfl⟩,hl,hP,by rw[GK ts];rfl⟩
end W14
end
section
namespace W14
open PySem L2 VS
def lat(i:Nat):List St2:=[(((i:Int)*2)%3,((i:Int)*2)%3+1),(((i:Int)*2)/3,((i:Int)*2)/3+1)]
theorem vJ{i:Nat}{m:Int}(hi:i<10)(hm:8<=m):Sm 2 m (lat i):=by
 refine⟨rfl,fun p hp=>?_⟩
 unfold lat at hp
 simp only[U0q,U1f,or_false] at hp
 rcases hp with rfl|rfl
 .simp only;omega
 .simp only;omega
theorem jo(r:VS.Env)(S:Store)(most:Nat)(hm:most<=20)(h:r[2]?=some (some (.int most))):Lf r S=some ((U0h most).map (fun i=>Af (lat i)),S):=by
 have e:Rx (Aa (eC (.int 0)) (Aa (eOp Ju (eC (.int 2)) (Ab 2)) (Aa (eC (.int 2)) Ae))) r S=some ((upW 0 most,[]),S):=by
  have a1:Aa (eC (.int 0)) (Aa (eOp Ju (eC (.int 2)) (Ab 2)) (Aa (eC (.int 2)) Ae)) r S=some ([.int 0,.int (2*most),.int 2],S):=by simp[Aw,CT,BJ,Bl,Am,Vi,Ju,VS.listOf,-U0d,-U0e,h]
  have e2:MP 0 (2*(most:Int))=most:=by unfold MP;omega
  rw[dJ,a1,U0b]
  show(if (-1000000<=(0:Int)/\(0:Int)<=1000000)/\-1000000<=2*(most:Int)/\2*(most:Int)<=1000000 then some ((upW 0 (MP 0 (2*(most:Int))),([]:List (Nat×List D))),S) else none)=_
  rw[if_pos ⟨⟨by decide,by decide⟩,by omega,by omega⟩,e2]
 unfold Lf DK
 rw[e]
 simp only[U0b]
 unfold upW
 rw[J6 (by simp) (fun i:Nat=>D.int (0+(i:Nat)*2)) (fun i=>Af (lat i)) (U0h most) (by simp;omega)]
 intro i _
 exact⟨_,DN _ _ _,by simp[Aw,CT,BJ,Bl,Am,Ho,HJ,oI,TF,Qz,Dd,oDiv,oMod,VS.listOf,U0s,-U0d,-U0e,Af,Aq,lat]⟩
theorem jh(p:List D)(n most:Nat)(h20:most<=20)(h2:n=2->most<=10)(e3 y7 y8 y9 y10 y12:Option D)(c:Nat)(wd kind:Int)(F:D)(T:Store)(bs:List (List St2))(hF:Hold F T bs)(hl:bs.length<=most)(m:Int)(hm:8<=m)(hP:∀b∈bs,Sm n m b):∃(bs':List (List St2))(F':D)(T':Store),Hold F' T' bs'/\bs'.length<=most/\(∀b∈bs',Sm n m b) /\
  (sIf (G4 (BK (eOp (oEq false) (Ab 1) (eC (.int 2)))) (BK (eOp (oEq false) (Ab 11) (eC (.int 3))))) (Bj 6 (G5 Lf)) Dh) [some (.ref 0),some (.int n),some (.int most),e3,some (.int c),some (.int wd),some F,y7,y8,y9,y10,some (.int kind),y12] (some p::T) =
  some (.nx,[some (.ref 0),some (.int n),some (.int most),e3,some (.int c),some (.int wd),some F',y7,y8,y9,y10,some (.int kind),y12],some p::T'):=by
 have k1:BK (eOp (oEq false) (Ab 1) (eC (.int 2))) [some (.ref 0),some (.int n),some (.int most),e3,some (.int c),some (.int wd),some F,y7,y8,y9,y10,some (.int kind),y12] (some p::T)=some (decide ((n:Int)=2),some p::T):=by simp[Aw,CT,BJ,Cq,oEq,-U0d,-U0e]
 have k2:BK (eOp (oEq false) (Ab 11) (eC (.int 3))) [some (.ref 0),some (.int n),some (.int most),e3,some (.int c),some (.int wd),some F,y7,y8,y9,y10,some (.int kind),y12] (some p::T)=some (decide (kind=3),some p::T):=by simp[Aw,CT,BJ,Cq,oEq,-U0d,-U0e]
 have ts:=QX k1 k2
 by_cases h:(n:Int)=2/\kind=3
 .rw[decide_eq_true h] at ts
  have hn:n=2:=by omega
  have c1:=jo [some (.ref 0),some (.int n),some (.int most),e3,some (.int c),some (.int wd),some F,y7,y8,y9,y10,some (.int kind),y12] (some p::T) most h20 rfl
  refine⟨(U0h most).map lat,.ref (T.length+1),T++[some (((U0h most).map lat).map Af)],.inr ⟨T.length,rfl,Xi T _ []⟩,by simp,fun b hb=>?_,?_⟩
  .obtain⟨i,hi,rfl⟩:=U1t.mp hb
   have:=U1n.mp hi
   have:=h2 hn
   rw[hn]
   exact vJ (by omega) hm
  .rw[Ig ts,CV,O9,c1,U0d]
   rfl
 .rw[decide_eq_false h] at ts
  exact⟨bs,F,T,hF,hl,hP,by rw[GK ts];rfl⟩
theorem jg(x y z:Int)(n most many:Nat)(hn:n<=3)(h20:most<=20)(hM:8<many->2*most<=many)(y7 y8 y9 y10 y12:Option D)(c:Nat)(hc:c<=most)(wd kind:Int)(F:D)(T:Store)(bs:List (List St2))(hF:Hold F T bs)(hl:bs.length<=most)(hP:∀b∈bs,Sm n many b):∃(bs':List (List St2))(F':D)(T':Store)(x' z':Int),Hold F' T' bs'/\bs'.length<=most/\(∀b∈bs',Sm n many b) /\
  (sIf (G4 (BK (eOp oGt (Ab 11) (eC (.int 5)))) (BK (eOp oGt (Ab 3) (eC (.int 8))))) (Bj 6 (R9 G8 (Aa (Ab 0) (Aa (Ab 1) (Aa (Ab 4) Ae))))) Dh) [some (.ref 0),some (.int n),some (.int most),some (.int many),some (.int c),some (.int wd),some F,y7,y8,y9,y10,some (.int kind),y12] (some [.int x,.int y,.int z]::T) =
  some (.nx,[some (.ref 0),some (.int n),some (.int most),some (.int many),some (.int c),some (.int wd),some F',y7,y8,y9,y10,some (.int kind),y12],some [.int x',.int y,.int z']::T'):=by
 have k1:BK (eOp oGt (Ab 11) (eC (.int 5))) [some (.ref 0),some (.int n),some (.int most),some (.int many),some (.int c),some (.int wd),some F,y7,y8,y9,y10,some (.int kind),y12] (some [.int x,.int y,.int z]::T)=some (decide (5<kind),some [.int x,.int y,.int z]::T):=rfl
 have k2:BK (eOp oGt (Ab 3) (eC (.int 8))) [some (.ref 0),some (.int n),some (.int most),some (.int many),some (.int c),some (.int wd),some F,y7,y8,y9,y10,some (.int kind),y12] (some [.int x,.int y,.int z]::T)=some (decide (8<(many:Int)),some [.int x,.int y,.int z]::T):=rfl
 have ts:=QX k1 k2
 by_cases h:5<kind/\8<(many:Int)
 .rw[decide_eq_true h] at ts
  have hm:=hM (by omega)
  obtain⟨bs',x',z',u1,u2,u3⟩:=fL x y z n c hn (by omega)
  refine⟨bs',.ref (T.length+1),T++[some (bs'.map Af)],x',z',.inr ⟨T.length,rfl,Xi T _ []⟩,by omega,fun b hb=>?_,?_⟩
  .have:=u3 b hb
   exact⟨this.len,fun p hp=>by have:=this.all p hp;omega⟩
  .have v0:Ab 0 [some (.ref 0),some (.int n),some (.int most),some (.int many),some (.int c),some (.int wd),some F,y7,y8,y9,y10,some (.int kind),y12] (some [.int x,.int y,.int z]::T)=some (.ref 0,some [.int x,.int y,.int z]::T):=rfl
   rw[Ig ts,CV,jZ (d':=.ref (T.length+1)) (cs:=bs'.map Af) (Ip (ns:=[x,y,z]) (rest:=[.int n,.int c]) (es:=[.int n,.int c]) (i:=0) (S':=some [.int x,.int y,.int z]::T) (by rw[Am,v0];rfl) rfl (by simp[Ax,BX]) (by simp[Bq,age]) u1) (by
    show(if Ek (bs'.map Af)=true then some (D.ref (T.length+1),bs'.map Af) else none)=_
    rw[if_pos (CG bs')])]
   rfl
 .rw[decide_eq_false h] at ts
  exact⟨bs,F,T,x,z,hF,hl,hP,by rw[GK ts];rfl⟩
end W14
end
section
namespace W14
open PySem L2 VS
theorem Yw{F:D}{T:Store}{bs:List (List St2)}(h:Hold F T bs)(p:Option (List D)):den 1 (p::T) F=some (.lst true (bs.map Af)):=by
 have hp:Ax (bs.map Af)=true:=Bo (CG bs)
 rcases h with rfl|⟨j,rfl,h⟩
 .rw[den,Ca 1 _ hp];rfl
 .rw[den,if_neg (by omega)]
  show(match T[j]? with|some (some ds)=>if Ax ds=true then some (D.lst true ds) else none|_=>none)=_
  rw[h]
  show(if Ax (bs.map Af)=true then _ else _)=_
  rw[if_pos hp]
theorem jk(x y z:Int)(n most many:Nat)(hn:n<=3)(h4:4<=most)(h20:most<=20)(h2:n=2->most<=10)(hm8:8<=many)(hm40:many<=40)(hM:8<many->2*most<=many):∃(bs:List (List St2))(x' z':Int),Gu [x,y,z] [.int n,.int most,.int many]=some (.lst true (bs.map Af),[x',y,z'])/\bs.length<=most/\∀b∈bs,Sm n many b:=by
 obtain⟨r1,x1,z1,e1,p1,p2⟩:=Es x y z ((most:Int)+1) (by omega) (by omega)
 obtain⟨r2,x2,z2,e2,p3,p4⟩:=Es x1 y z1 most (by omega) (by omega)
 obtain⟨r3,x3,z3,e3,p5,p6⟩:=Es x2 y z2 3 (by decide) (by decide)
 obtain⟨c,f1,hc⟩:∃c:Nat,atI [D.int r1,D.int most,D.int (1+r2)] r3=some (.int c)/\c<=most:=by
  have:r3=0∨r3=1∨r3=2:=by omega
  rcases this with rfl|rfl|rfl
  .exact⟨r1.toNat,by rw[nH,U6t p1],by omega⟩
  .exact⟨most,by simp,U0o _⟩
  .exact⟨(1+r2).toNat,by rw[yP,U6t (by omega)],by omega⟩
 obtain⟨r4,x4,z4,e4,p7,p8⟩:=Es x3 y z3 4 (by decide) (by decide)
 obtain⟨wd,f2,w0,w1⟩:∃wd:Int,atI [D.int 2,D.int 3,D.int 5,D.int many] r4=some (.int wd)/\0<wd/\wd<=many:=by
  have:r4=0∨r4=1∨r4=2∨r4=3:=by omega
  rcases this with rfl|rfl|rfl|rfl
  .exact⟨2,by simp,by decide,by omega⟩
  .exact⟨3,by simp,by decide,by omega⟩
  .exact⟨5,by simp,by decide,by omega⟩
  .exact⟨many,by simp,by omega,by omega⟩
 obtain⟨bs,x5,z5,R5,y7,y8,y9,y10,b1,b2,l2⟩:=jm x4 y z4 n c hn (by omega) (some (.int most)) (some (.int many)) wd w0 (by omega)
 obtain⟨kind,x6,z6,e6,_,_⟩:=Es x5 y z5 8 (by decide) (by decide)
 have b2':∀b∈bs,Sm n many b:=fun b hb=>⟨(b2 b hb).len,fun p hp=>by have:=(b2 b hb).all p hp;omega⟩
 obtain⟨bs5,x7,z7,c1,c2,s5⟩:=jj x6 y z6 n (some (.int most)) (some (.int many)) y7 y8 y9 y10 none c (by omega) wd kind bs b1 R5 (Sm n many) b2'
 obtain⟨bs6,x8,z8,F6,w12,d0,d1,d2,s6⟩:=ji x7 y z7 n most h4 h20 (some (.int many)) y7 y8 y9 y10 none c wd kind bs5 (by omega) R5 many (by omega) c2
 obtain⟨bs7,F7,T7,g0,g1,g2,s7⟩:=jh [.int x8,.int y,.int z8] n most h20 h2 (some (.int many)) y7 y8 y9 y10 w12 c wd kind F6 _ bs6 d0 d1 many (by omega) d2
 obtain⟨bs8,F8,T8,x9,z9,i0,i1,i2,s8⟩:=jg x8 y z8 n most many hn h20 hM y7 y8 y9 y10 w12 c hc wd kind F7 T7 bs7 g0 g1 g2
 refine⟨bs8,x9,z9,?_,i1,i2⟩
 have s1:(Bj 4 (eOp oIx (Bt (Aa (Bg Ao (Aa (Ab 0) (Aa (eOp Dd (Ab 2) (eC (.int 1))) Ae))) (Aa (Ab 2) (Aa (eOp Dd (eC (.int 1)) (Bg Ao (Aa (Ab 0) (Aa (Ab 2) Ae)))) Ae)))) (Bg Ao (Aa (Ab 0) (Aa (eC (.int 3)) Ae))))) [some (.ref 0),some (.int n),some (.int most),some (.int many),none,none,none,none,none,none,none,none,none] [some [.int x,.int y,.int z]]=some (.nx,[some (.ref 0),some (.int n),some (.int most),some (.int many),some (.int c),none,none,none,none,none,none,none,none],[some [.int x3,.int y,.int z3]]):=by
  simp[CV,Aw,CT,BJ,Bl,Am,Dj,Mx,Dd,oIx,VS.listOf,Br,intsOf,den,Cw,age,Bq,BX,Ax,-U0d,-U0e,e1,e2,e3,f1]
 have s2:(Bj 5 (eOp oIx (Bt (Aa (eC (.int 2)) (Aa (eC (.int 3)) (Aa (eC (.int 5)) (Aa (Ab 3) Ae))))) (Bg Ao (Aa (Ab 0) (Aa (eC (.int 4)) Ae))))) [some (.ref 0),some (.int n),some (.int most),some (.int many),some (.int c),none,none,none,none,none,none,none,none] [some [.int x3,.int y,.int z3]]=some (.nx,[some (.ref 0),some (.int n),some (.int most),some (.int many),some (.int c),some (.int wd),none,none,none,none,none,none,none],[some [.int x4,.int y,.int z4]]):=by
  simp[CV,Aw,CT,BJ,Bl,Am,Dj,Mx,oIx,VS.listOf,Br,intsOf,den,Cw,age,Bq,BX,Ax,-U0d,-U0e,e4,f2]
 have s3:(Bj 6 (G5 Ae)) [some (.ref 0),some (.int n),some (.int most),some (.int many),some (.int c),some (.int wd),none,none,none,none,none,none,none] [some [.int x4,.int y,.int z4]]=some (.nx,[some (.ref 0),some (.int n),some (.int most),some (.int many),some (.int c),some (.int wd),some (.ref 1),none,none,none,none,none,none],[some [.int x4,.int y,.int z4],some []]):=rfl
 have s4:(Bj 11 (Bg Ao (Aa (Ab 0) (Aa (eC (.int 8)) Ae)))) [some (.ref 0),some (.int n),some (.int most),some (.int many),some (.int c),some (.int wd),some (.ref 1),y7,y8,y9,y10,none,none] (some [.int x5,.int y,.int z5]::some (bs.map Af)::R5)=some (.nx,[some (.ref 0),some (.int n),some (.int most),some (.int many),some (.int c),some (.int wd),some (.ref 1),y7,y8,y9,y10,some (.int kind),none],some [.int x6,.int y,.int z6]::some (bs.map Af)::R5):=by
  rw[CV,Lw e6 rfl rfl];rfl
 unfold Gu
 rw[Ly]
 simp only[U0i,U1a,U0m,U1e,U14,U15,U0s,U1c,U2d,U11,if_true]
 unfold Sv
 rw[BW s1,BW s2,BW s3,BW l2,BW s4,BW s5,BW s6,BW s7,BW s8,Ck]
 have v6:Ab 6 [some (.ref 0),some (.int n),some (.int most),some (.int many),some (.int c),some (.int wd),some F8,y7,y8,y9,y10,some (.int kind),w12] (some [.int x9,.int y,.int z9]::T8)=some (F8,some [.int x9,.int y,.int z9]::T8):=rfl
 rw[v6,U0b]
 show((intsOf ([x9,y,z9].map D.int)).bind fun ms=>(den 1 (some [.int x9,.int y,.int z9]::T8) F8).map fun r=>(r,ms))=_
 rw[Le,Yw i0];rfl
end W14
end
section
namespace W14
open PySem L2 VS
def Dl(ms:List Int):D:=.lst true (ms.map .int)
def placed(mss:List (List Int))(b:List St2):List St2:=(mss.zip b).map fun q=>(q.1.getD q.2.1.toNat 0,q.1.getD q.2.2.toNat 0)
theorem Vk{α β:Type}{F:α->D}{G:β->D}:∀(as:List α)(bs:List β),Df (as.map F) (bs.map G)=(as.zip bs).map fun q=>.tup [F q.1,G q.2]
 |[],_=>rfl
 |_::_,[]=>rfl
 |a::r,b::s=>by rw[U0m,U0m,Df,Vk r s];rfl
theorem qm(x y z:Int)(n many:Nat)(most sm:D)(hn:n<=3)(h0:8<=many)(h1:many<=40):∃(mss:List (List Int))(x' z':Int),Mi [some (.ref 0),some (.int n),some most,some (.int many),some sm,none,none,none] [some [.int x,.int y,.int z]]=some (mss.map Dl,[some [.int x',.int y,.int z']])/\mss.length=n/\∀ms∈mss,Mk many ms:=by
 have e:Ej (Aa (Ab 1) Ae) [some (.ref 0),some (.int n),some most,some (.int many),some sm,none,none,none] [some [.int x,.int y,.int z]]=some ((upD 0 n,[]),[some [.int x,.int y,.int z]]):=LC _ rfl (by simp) (by omega) (by omega)
 unfold Mi DK
 rw[e]
 simp only[U0b]
 obtain⟨ys,S',e2,mss,x',z',hy,hS,hl,hb⟩:=Yx (w:=[]) (e0:=HJ 1 [0,3] [some (.ref 0),some (.int n),some most,some (.int many),some sm,none,none,none]) (g:=Pat.sem (.nm 0)) (ds:=upD 0 n) (S:=[some [.int x,.int y,.int z]])
  (f:=(Bg Gv (Aa (Ab 1) (Aa (Ab 2) Ae))))
  (fun i ys S=>∃(mss:List (List Int))(x' z':Int),ys=mss.map Dl/\S=[some [.int x',.int y,.int z']]/\mss.length=min i n/\∀ms∈mss,Mk many ms)
  ⟨[],x,z,rfl,rfl,by simp,fun n hn=>by simp at hn⟩ (fun i ys S q=>by obtain⟨ns,x',z',h1,h2,h3,h4⟩:=q;exact⟨by simp,by rw[h1,U0j,h3];omega⟩)
  (fun i d ys S hd q=>by
   obtain⟨mss,x',z',h1,h2,h3,h4⟩:=q
   obtain⟨hi,rfl⟩:=Ls hd
   obtain⟨ms,x2,z2,e3,M⟩:=lE x' y z' many h0 (by assumption)
   subst h1 h2
   refine⟨[some (.int (0+i)),some (.ref 0),some (.int many)],Dl ms,[some [.int x2,.int y,.int z2]],by rw[DN];rfl,?_,mss++[ms],x2,z2,by simp,rfl,by simp;omega,fun n hn=>?_⟩
   .exact Ip (ns:=[x',y,z']) (rest:=[.int many]) (es:=[.int many]) (i:=0) (S':=[some [.int x',.int y,.int z']]) rfl rfl (by simp[Ax,BX]) (by simp[Bq,age]) e3
   .rcases U1k.mp hn with z|z
    .exact h4 n z
    .rw[U03.mp z];exact M)
 subst hy hS
 rw[Ke,U5y] at hl
 exact⟨mss,x',z',e2,hl,hb⟩
theorem bN{ms:List Int}{m:Nat}{v:Int}(hm:Mk m ms)(h0:0<=v)(h1:v<=m):atI (ms.map D.int) v=some (.int (ms.getD v.toNat 0)):=by
 have hl:v.toNat<ms.length:=by rw[hm.len];omega
 rw[fJ (j:=v.toNat) (by omega) (by simpa using hl),U0k,U0g hl]
 simp
theorem qj(r:VS.Env)(S:Store)(mss:List (List Int))(b:List St2)(m n:Nat)(hn:n<=3)(hl:mss.length=n)(hM:∀ms∈mss,Mk m ms)(hb:Sm n m b)(h5:r[5]?=some (some (.lst true (mss.map Dl))))(h7:r[7]?=some (some (Af b))):Q7 r S=some ((placed mss b).map Aq,S):=by
 have e:Rk (Aa (Ab 5) (Aa (Ab 7) Ae)) r S=some (((mss.zip b).map fun q=>D.tup [Dl q.1,Aq q.2],[]),S):=by
  have v5:Ab 5 r S=some (.lst true (mss.map Dl),S):=by rw[Aw,h5];rfl
  have v7:Ab 7 r S=some (Af b,S):=by rw[Aw,h7];rfl
  rw[Ym,Am,v5,U0b,Am,v7]
  show(some ((Df (mss.map Dl) (b.map Aq),([]:List (Nat×List D))),S))=_
  rw[Vk]
 unfold Q7 DK
 rw[e]
 simp only[U0b]
 rw[J6 (by simp) (fun q:List Int×St2=>D.tup [Dl q.1,Aq q.2]) (fun q=>Aq (q.1.getD q.2.1.toNat 0,q.1.getD q.2.2.toNat 0)) (mss.zip b) (by rw[U39];omega)]
 .unfold placed;rw[U0d];rfl
 .intro q hq
  obtain⟨ms,p⟩:=q
  have hm:=hM ms (U34 hq).1
  have hp:=hb.all p (U34 hq).2
  have a1:=bN hm hp.1 (by omega)
  have a2:=bN hm (v:=p.2) (by omega) hp.2.2
  exact⟨[some (Dl ms),some (.int p.1),some (.int p.2)],by simp[HJ,DN,Iv,Gs,Fv,U0s,-U0d,-U0e,Aq],by simp[Aw,BJ,Bl,Am,Ho,oIx,VS.listOf,Br,-U0d,-U0e,Dl,a1,a2,Aq]⟩
theorem WR{mss:List (List Int)}{b:List St2}{m n:Nat}(hl:mss.length=n)(hM:∀ms∈mss,Mk m ms)(hb:Sm n m b):(placed mss b).length=n/\∀p∈placed mss b,p.1<p.2/\-1000000000<=p.1/\p.2<=1000000000:=by
 have h1:=hb.len
 refine⟨by unfold placed;rw[U0j,U39];omega,fun p hp=>?_⟩
 obtain⟨q,hq,rfl⟩:=U1t.mp hp
 obtain⟨ms,p⟩:=q
 have hm:=hM ms (U34 hq).1
 have hp:=hb.all p (U34 hq).2
 have l1:p.1.toNat<ms.length:=by rw[hm.len];omega
 have l2:p.2.toNat<ms.length:=by rw[hm.len];omega
 simp only[U0k,U0g l1,U0g l2,U4r]
 exact⟨(U5q.mp hm.rise) _ _ l1 l2 (by omega),(hm.near _ (U1s l1)).1,(hm.near _ (U1s l2)).2⟩
end W14
end
section
namespace W14
open PySem L2 VS
structure Made(n m:Nat)(sm:List (List St2))(mss:List (List Int)):Prop where
 few:sm.length<=[0,20,10,6].getD n 0
 box:∀b∈sm,Sm n m b
 len:mss.length=n
 mks:∀ms∈mss,Mk m ms
 big:m<=40
theorem Made.good{n m:Nat}{sm:List (List St2)}{mss:List (List Int)}(h:Made n m sm mss)(hn:n=1∨n=2∨n=3):Good n (sm.map (placed mss)) :=
 ⟨hn,by rw[U0j];exact h.few,fun b hb=>by
  obtain⟨c,hc,rfl⟩:=U1t.mp hb
  exact WR h.len h.mks (h.box c hc)⟩
theorem qe(p:List D)(n m:Nat)(hn:n<=3)(most mn':D)(sm:List (List St2))(hsm:sm.length<=20)(hb:∀b∈sm,Sm n m b)(mss:List (List Int))(hl:mss.length=n)(hM:∀ms∈mss,Mk m ms):∃z7:Option D,
  Q6 [some (.ref 0),some (.int n),some most,some mn',some (.lst true (sm.map Af)),some (.lst true (mss.map Dl)),some (.ref 1),none] [some p,some []]=some (.nx,[some (.ref 0),some (.int n),some most,some mn',some (.lst true (sm.map Af)),some (.lst true (mss.map Dl)),some (.ref 1),z7],[some p,some ((sm.map (placed mss)).map Af)]):=by
 have e:Dp (Ab 4) [some (.ref 0),some (.int n),some most,some mn',some (.lst true (sm.map Af)),some (.lst true (mss.map Dl)),some (.ref 1),none] [some p,some []]=some ((sm.map Af,[]),[some p,some []]):=rfl
 obtain⟨env',S',e2,z7,he,hS⟩:=Eo (w:=[]) (g:=Pat.sem (.nm 7)) (b:=Q8) (ds:=sm.map Af) (env:=[some (.ref 0),some (.int n),some most,some mn',some (.lst true (sm.map Af)),some (.lst true (mss.map Dl)),some (.ref 1),none]) (S:=[some p,some []])
  (fun i env S=>∃z7:Option D,env=[some (.ref 0),some (.int n),some most,some mn',some (.lst true (sm.map Af)),some (.lst true (mss.map Dl)),some (.ref 1),z7]/\S=[some p,some (((sm.take i).map (placed mss)).map Af)])
  ⟨none,rfl,rfl⟩ (fun i env S _=>by simp) (fun i d env S hd q=>by
   obtain⟨z7,he,hS⟩:=q
   subst he hS
   rw[U0y] at hd
   obtain⟨b,hb',rfl⟩:=U2t.mp hd
   have hi:i<sm.length:=(U0l.mp hb').1
   refine⟨[some (.ref 0),some (.int n),some most,some mn',some (.lst true (sm.map Af)),some (.lst true (mss.map Dl)),some (.ref 1),some (Af b)],by rw[DN];rfl,[some (.ref 0),some (.int n),some most,some mn',some (.lst true (sm.map Af)),some (.lst true (mss.map Dl)),some (.ref 1),some (Af b)],[some p,some (((sm.take (i+1)).map (placed mss)).map Af)],?_,_,rfl,rfl⟩
   have c2:=qj [some (.ref 0),some (.int n),some most,some mn',some (.lst true (sm.map Af)),some (.lst true (mss.map Dl)),some (.ref 1),some (Af b)] [some p,some (((sm.take i).map (placed mss)).map Af)] mss b m n hn hl hM (hb b (U18 hb')) rfl rfl
   unfold Q8
   rw[Gm,J5 (d:=.ref 1) (cs:=((sm.take i).map (placed mss)).map Af) (ds:=[Af (placed mss b)]) (r:=.non) (S1:=[some p,some (((sm.take i).map (placed mss)).map Af)]) (S2:=[some p,some (((sm.take i).map (placed mss)).map Af)]) (S3:=[some p,some (((sm.take (i+1)).map (placed mss)).map Af)]) rfl rfl (by
    rw[Am,Fg,Am,Dj,c2];rfl) (by
    show(if (((sm.take i).map (placed mss)).map Af).length<1000000 then some (D.non,[some p,some (((sm.take i).map (placed mss)).map Af++[Af (placed mss b)])]) else none)=_
    rw[if_pos (by rw[U0j,U0j,U19];omega),U4k,hb',U50,U1b,U1b]
    rfl)]
   rfl)
 subst he hS
 have:(sm.map Af).length=sm.length:=by simp
 rw[this,U3p] at e2
 refine⟨z7,?_⟩
 unfold Q6
 rw[Fp,e]
 exact e2
theorem Qj:∀mss:List (List Int),Ax (mss.map Dl)=true
 |[]=>rfl
 |m::r=>by rw[U0m,Ax,Dl,BX,Iu,Qj r];rfl
theorem qd(x y z:Int)(n most:Nat)(h1:n=1∨n=2∨n=3)(h4:4<=most)(hm:most<=[0,20,10,6].getD n 0):∃(m:Nat)(sm:List (List St2))(mss:List (List Int))(x' z':Int),Gf [x,y,z] [.int n,.int most]=some (.tup [.lst true (sm.map Af),.lst true (mss.map Dl),Ak true n (sm.map (placed mss))],[x',y,z'])/\Made n m sm mss:=by
 obtain⟨r1,x1,z1,e1,_,_⟩:=Es x y z 3 (by decide) (by decide)
 obtain⟨m,f1,m8,m40,hM⟩:∃m:Nat,atI [D.int 8,D.int ([0,40,20,12].getD n 0:Nat)] (if r1=0 then 1 else 0)=some (.int m)/\8<=m/\m<=40/\(8<m->2*most<=m):=by
  by_cases h:r1=0
  .rw[if_pos h]
   refine⟨[0,40,20,12].getD n 0,by simp,?_⟩
   rcases h1 with rfl|rfl|rfl<;>simp at hm ⊢<;>omega
  .rw[if_neg h]
   exact⟨8,by simp,by decide,by decide,by omega⟩
 have hn3:n<=3:=by omega
 have h20:most<=20:=by rcases h1 with rfl|rfl|rfl<;>simp at hm<;>omega
 have h10:n=2->most<=10:=fun h=>by rw[h] at hm;simpa using hm
 obtain⟨sm,x2,z2,e2,s1,s2⟩:=jk x1 y z1 n most m hn3 h4 h20 h10 m8 m40 hM
 obtain⟨mss,x3,z3,e3,hl,hk⟩:=qm x2 y z2 n m (.int most) (.lst true (sm.map Af)) hn3 m8 m40
 obtain⟨z7,l1⟩:=qe [.int x3,.int y,.int z3] n m hn3 (.int most) (.int m) sm (by omega) s2 mss hl hk
 refine⟨m,sm,mss,x3,z3,?_,⟨by omega,s2,hl,hk,m40⟩⟩
 have f0:atI [D.int 0,D.int 40,D.int 20,D.int 12] (n:Int)=some (.int ([0,40,20,12].getD n 0:Nat)):=by
  rcases h1 with rfl|rfl|rfl<;>rfl
 have t1:(Bj 3 (eOp oIx (Bt (Aa (eC (.int 8)) (Aa (eOp oIx (Bt (Aa (eC (.int 0)) (Aa (eC (.int 40)) (Aa (eC (.int 20)) (Aa (eC (.int 12)) Ae))))) (Ab 1)) Ae))) (eCB Py (Aa (eOp (oEq false) (Bg Ao (Aa (Ab 0) (Aa (eC (.int 3)) Ae))) (eC (.int 0))) Ae)))) [some (.ref 0),some (.int n),some (.int most),none,none,none,none,none] [some [.int x,.int y,.int z]]=some (.nx,[some (.ref 0),some (.int n),some (.int most),some (.int m),none,none,none,none],[some [.int x1,.int y,.int z1]]):=by
  have a1:Bt (Aa (eC (.int 8)) (Aa (eOp oIx (Bt (Aa (eC (.int 0)) (Aa (eC (.int 40)) (Aa (eC (.int 20)) (Aa (eC (.int 12)) Ae))))) (Ab 1)) Ae)) [some (.ref 0),some (.int n),some (.int most),none,none,none,none,none] [some [.int x,.int y,.int z]]=some (.lst true [.int 8,.int ([0,40,20,12].getD n 0:Nat)],[some [.int x,.int y,.int z]]):=by
   have a2:eOp oIx (Bt (Aa (eC (.int 0)) (Aa (eC (.int 40)) (Aa (eC (.int 20)) (Aa (eC (.int 12)) Ae))))) (Ab 1) [some (.ref 0),some (.int n),some (.int most),none,none,none,none,none] [some [.int x,.int y,.int z]]=some (.int ([0,40,20,12].getD n 0:Nat),[some [.int x,.int y,.int z]]):=by
    show U17 _ (atI [D.int 0,D.int 40,D.int 20,D.int 12] (n:Int))=_
    rw[f0];rfl
   rw[Dj,Am,CT,U0b,Am,a2];rfl
  have a3:eCB Py (Aa (eOp (oEq false) (Bg Ao (Aa (Ab 0) (Aa (eC (.int 3)) Ae))) (eC (.int 0))) Ae) [some (.ref 0),some (.int n),some (.int most),none,none,none,none,none] [some [.int x,.int y,.int z]]=some (.int (if r1=0 then 1 else 0),[some [.int x1,.int y,.int z1]]):=by
   rw[Fg,Am,BJ,Lw e1 rfl rfl]
   by_cases h:r1=0<;>simp[CT,Bl,oEq,Py,-U0d,-U0e,h]
  rw[CV,BJ,a1,U0b,a3,U0b]
  show(U17 _ (atI [D.int 8,D.int ([0,40,20,12].getD n 0:Nat)] (if r1=0 then 1 else 0))).bind _=_
  rw[f1];rfl
 have t2:(Bj 4 (Bg Gu (Aa (Ab 0) (Aa (Ab 1) (Aa (Ab 2) (Aa (Ab 3) Ae)))))) [some (.ref 0),some (.int n),some (.int most),some (.int m),none,none,none,none] [some [.int x1,.int y,.int z1]]=some (.nx,[some (.ref 0),some (.int n),some (.int most),some (.int m),some (.lst true (sm.map Af)),none,none,none],[some [.int x2,.int y,.int z2]]):=by
  rw[CV,Ip (ns:=[x1,y,z1]) (rest:=[.int n,.int most,.int m]) (es:=[.int n,.int most,.int m]) (i:=0) (S':=[some [.int x1,.int y,.int z1]]) rfl rfl (by simp[Ax,BX]) (by simp[Bq,age]) e2];rfl
 have t3:(Bj 5 (Bt Mi)) [some (.ref 0),some (.int n),some (.int most),some (.int m),some (.lst true (sm.map Af)),none,none,none] [some [.int x2,.int y,.int z2]]=some (.nx,[some (.ref 0),some (.int n),some (.int most),some (.int m),some (.lst true (sm.map Af)),some (.lst true (mss.map Dl)),none,none],[some [.int x3,.int y,.int z3]]):=by
  rw[CV,Dj,e3];rfl
 have t4:(Bj 6 (G5 Ae)) [some (.ref 0),some (.int n),some (.int most),some (.int m),some (.lst true (sm.map Af)),some (.lst true (mss.map Dl)),none,none] [some [.int x3,.int y,.int z3]]=some (.nx,[some (.ref 0),some (.int n),some (.int most),some (.int m),some (.lst true (sm.map Af)),some (.lst true (mss.map Dl)),some (.ref 1),none],[some [.int x3,.int y,.int z3],some []]):=rfl
 unfold Gf
 rw[Ly]
 simp only[U0i,U1a,U0m,U1e,U14,U15,U0s,U1c,U2d,U11,if_true]
 unfold V3
 rw[BW t1,BW t2,BW t3,BW t4,BW l1]
 show((intsOf ([x3,y,z3].map D.int)).bind fun ms=>(den 1 [some [.int x3,.int y,.int z3],some ((sm.map (placed mss)).map Af)] (.tup [.lst true (sm.map Af),.lst true (mss.map Dl),.tup [.int n,.ref 1]])).map fun r=>(r,ms))=_
 have d1:=Ca 1 [some [.int x3,.int y,.int z3],some ((sm.map (placed mss)).map Af)] (Bo (CG sm))
 have d2:=Ca 1 [some [.int x3,.int y,.int z3],some ((sm.map (placed mss)).map Af)] (Qj mss)
 have d3:=Yw (F:=.ref 1) (T:=[some ((sm.map (placed mss)).map Af)]) (bs:=sm.map (placed mss)) (.inr ⟨0,rfl,rfl⟩) (some [.int x3,.int y,.int z3])
 generalize [some [D.int x3,D.int y,D.int z3],some ((sm.map (placed mss)).map Af)]=S at *
 have q1:den 1 S (.lst true (sm.map Af))=some (.lst true (sm.map Af)):=by rw[den,d1];rfl
 have q2:den 1 S (.lst true (mss.map Dl))=some (.lst true (mss.map Dl)):=by rw[den,d2];rfl
 have q0:den 1 S (.int n)=some (.int n):=by rw[den]
 have q3:den 1 S (.tup [.int n,.ref 1])=some (Ak true n (sm.map (placed mss))):=by
  rw[den]
  simp only[Cw,q0,d3,Option.map_some,U0b,Ak]
 rw[Le,U0b,den]
 simp only[Cw,q1,q2,q3,Option.map_some,U0b]
end W14
end
section
namespace W14
open PySem L2 VS
theorem Wc{n:Nat}{bs:List (List St2)}(g:Good n bs):Wide bs (-1000000000) 2000000000 0 n (U0h bs.length):=fun i hi v _ hv=>by
 have h:=U1n.mp hi
 have hb:=g.box bs[i] (U1s h)
 have h2:v<bs[i].length:=by rw[hb.1];omega
 have e0:bs.getD i []=bs[i]:=by rw[U0k,U0g h];rfl
 have e:at1 bs i v=bs[i][v]:=by
  rw[at1,e0,U0k,U0g h2];rfl
 have:=hb.2 bs[i][v] (U1s h2)
 rw[e]
 omega
theorem Yz{bs:List (List St2)}{A:Int}{N:Nat}:∀(k w:Nat)(ns:List Nat),Wide bs A N w k ns->∀c∈CQ bs k w ns,(∀p∈c.1,p.1<p.2/\A<=p.1/\p.2<=A+N)/\1<=c.2.length/\c.2.length<=ns.length
 |0,w,ns,_,c,h=>by
  rw[CQ] at h
  split at h
  .simp at h
  .rename_i hn
   have:c=([],ns):=by simpa using h
   rw[this]
   exact⟨fun p hp=>by simp at hp,List.length_pos_iff.mpr hn,U0o _⟩
 |k+1,w,ns,hw,c,h=>by
  rw[CQ] at h
  split at h
  .simp at h
  .obtain⟨p,h1,h2⟩:=U7h.mp h
   obtain⟨d,h3,rfl⟩:=U1t.mp h2
   obtain⟨q1,q2,q3⟩:=Yz k (w+1) _ (hw.sub fun i hi=>(U3k.mp hi).1) d h3
   obtain⟨s1,s2,s3,_⟩:=Pa (Nt _) p h1
   refine⟨fun p' hp=>?_,q2,U06 q3 (U3d ..)⟩
   rcases U0q.mp hp with z|z
   .rw[z];exact⟨s1,(QB hw _ s2).1,(QB hw _ s3).2⟩
   .exact q1 p' z
def jM(k:Nat)(cs:List (List St2×List Nat)):Prop:=∀c∈cs,(∀p∈c.1,p.1<p.2/\-1000000000<=p.1/\p.2<=1000000000)/\1<=c.2.length/\c.2.length<=k
theorem Qp{n:Nat}{bs:List (List St2)}(g:Good n bs):jM bs.length (CQ bs n 0 (U0h bs.length)):=fun c hc=>by
 obtain⟨h1,h2,h3⟩:=Yz n 0 _ (Wc g) c hc
 exact⟨fun p hp=>by have:=h1 p hp;omega,h2,by simpa using h3⟩
end W14
end
section
namespace W14
open PySem L2 VS
theorem ZQ{n:Nat}{bs:List (List St2)}(g:Good n bs):Ez [Ak false n bs,.int n]=some .non:=by
 have h1:=RZ (m:=false) g
 have s1:(Fb (BR El (Aa (Ab 0) Ae))) [some (Ak false n bs),some (.int n)] []=some (.nx,[some (Ak false n bs),some (.int n)],[]):=by
  rw[Gm,DR (ds:=[Ak false n bs]) (es:=[Ak false n bs]) (S':=[]) rfl (by simp[Ax,BX,Ak]) (by simp[Bq,age,Ak]) h1];rfl
 have t2:BK (eOp (oEq true) (eOp oIx (Ab 0) (eC (.int 0))) (Ab 1)) [some (Ak false n bs),some (.int n)] []=some (false,[]):=by
  simp[Aw,CT,BJ,Cq,oEq,oIx,VS.listOf,Br,-U0d,-U0e,Ak]
 unfold Ez
 rw[Dc]
 simp only[U0i,U1a,U0m,U1e,U14,U15,U1c,U2k,if_true]
 unfold Sq
 rw[BW s1,GK t2];rfl
theorem eG{n:Nat}{bs:List (List St2)}(g:Good n bs){r:VS.Env}{a:Bb}(h0:r[0]?=some (some (Ak false n bs)))(ha:a r []=some (.int n,[])):(Fb (BR Ez (Aa (Ab 0) (Aa a Ae)))) r []=some (.nx,r,[]):=by
 rw[Gm,DR (ds:=[Ak false n bs,.int n]) (es:=[Ak false n bs,.int n]) (S':=[]) (by simp[Am,Bl,Aw,h0,ha]) (by simp[Ax,BX,Ak]) (by simp[Bq,age,Ak]) (ZQ g)];rfl
end W14
end
section
namespace W14
open PySem L2 VS
def encJ(ms:List Int):D:=.lst false (ms.map .int)
def Dz(s:List Nat):D:=.tup (s.map fun(k:Nat)=>D.int k)
def Lz(mss:List (List Int)):List (List Nat):=Vh (mss.map fun ms=>U0h (ms.length-1))
theorem gJ(s:List Nat):BX (Dz s)=true:=by
 have:=Iu (s.map fun(i:Nat)=>(i:Int))
 rw[U0d] at this
 unfold Dz
 rw[BX];exact this
def cellOf:List (List Int)->List Nat->List St2
 |ms::r,k::s=>(ms.getD k 0,ms.getD (k+1) 0)::cellOf r s
 |_,_=>[]
theorem YD:∀ms:List Int,steps ms=(U0h (ms.length-1)).map fun k=>(ms.getD k 0,ms.getD (k+1) 0):=fun ms=>by
 unfold steps
 refine U7g (by simp) fun k h1 h2=>?_
 have hk:k<ms.length-1:=by simpa using h2
 rw[List.getElem_zip,List.getElem_map,List.getElem_range,List.getElem_tail,U0k,U0k,U0g (show k<ms.length by omega),U0g (show k+1<ms.length by omega)]
 rfl
theorem WQ:∀(mss:List (List Int))(s:List Nat),s∈Lz mss->s.length=mss.length/\∀q∈mss.zip s,q.2<q.1.length-1
 |[],s,h=>by
  have:s=[]:=by simpa [Lz,Vh] using h
  subst this
  exact⟨rfl,by simp⟩
 |ms::r,s,h=>by
  unfold Lz at h
  rw[U0m,Vh] at h
  obtain⟨k,h1,h2⟩:=U7h.mp h
  obtain⟨t,h3,rfl⟩:=U1t.mp h2
  obtain⟨a,b⟩:=WQ r t h3
  refine⟨by rw[U0i,U0i,a],fun q hq=>?_⟩
  rw[U43] at hq
  rcases U0q.mp hq with z|z
  .rw[z];exact U1n.mp h1
  .exact b q z
end W14
end
section
namespace W14
open PySem L2 VS
def ok1(q:St2×Nat):Bool:=decide (q.1.1<=q.2)&&decide ((q.2:Int)<q.1.2)
def JN(b:List St2)(s:List Nat):Bool:=(b.zip s).all ok1
def Fe(sm:List (List St2))(s:List Nat):List Nat:=((sm.zipIdx).filter fun q=>JN q.1 s).map fun q=>q.2
theorem Yt:∀(bs:List (List St2))(k:Nat),Kv k (bs.map Af)=(bs.zipIdx k).map fun q=>.tup [.int q.2,Af q.1]
 |[],k=>by simp[Kv]
 |b::r,k=>by simp[Kv,Yt r (k+1)]
theorem W5:∀is:List Int,Gq (is.map .int)=some (is.map .int)
 |[]=>by rw[U1e,Gq];rfl
 |i::r=>by rw[U0m,Gq,W5 r,toP];rfl
theorem WK(S:Store)(m:Bool)(is:List Int):Cp S (.lst m (is.map .int))=some (.list (is.map .int)):=by
 rw[Cp,den,Ca 0 S (Iu is)]
 show toP (.lst m (is.map .int))=_
 rw[toP,W5];rfl
theorem Yd(is:List Int):lev 1 (.list (is.map .int))=true:=by
 rw[lev,U6r,U3]
 exact fun _ _=>rfl
theorem qb(r:VS.Env)(S:Store)(b:List St2)(s:List Nat)(hb:b.length<=3)(r1:r[1]?=some (some (Dz s)))(r4:r[4]?=some (some (Af b))):Mh r S=some ((((b.zip s).filter fun q=>!ok1 q).map fun _=>(1:Int)).map .int,S):=by
 have v1:Ab 1 r S=some (Dz s,S):=by rw[Aw,r1];rfl
 have v4:Ab 4 r S=some (Af b,S):=by rw[Aw,r4];rfl
 have e:Rk (Aa (Ab 4) (Aa (Ab 1) Ae)) r S=some (((b.zip s).map fun q=>D.tup [Aq q.1,.int q.2],[]),S):=by
  rw[Ym,Am,v4,U0b,Am,v1]
  show(some ((Df (b.map Aq) (s.map fun(k:Nat)=>D.int k),([]:List (Nat×List D))),S))=_
  rw[Vk]
 unfold Mh DK
 rw[e]
 simp only[U0b]
 rw[M7 (by simp) (fun q:St2×Nat=>D.tup [Aq q.1,.int q.2]) (fun q=>!ok1 q) (fun _=>.int 1) _ _ (by rw[U39];simp;omega),U0d]
 .rfl
 .intro q _
  obtain⟨p,k⟩:=q
  refine⟨[some (.int k),some (.int p.1),some (.int p.2)],by simp[HJ,DN,Iv,Gs,Fv,U0s,-U0d,-U0e,Aq],?_,fun _=>rfl⟩
  have k1:BK (eOp oLt (Ab 0) (Ab 1)) [some (.int k),some (.int p.1),some (.int p.2)] S=some (decide ((k:Int)<p.1),S):=rfl
  have k2:BK (eOp oGe (Ab 0) (Ab 2)) [some (.int k),some (.int p.1),some (.int p.2)] S=some (decide (p.2<=(k:Int)),S):=rfl
  rw[R0,k1,U0b]
  unfold ok1
  by_cases h1:(k:Int)<p.1
  .have:¬(p.1<=(k:Int)):=by omega
   simp[h1,this]
  .have h2:p.1<=(k:Int):=by omega
   simp only[h1,decide_false,U1y,if_false,k2]
   by_cases h3:p.2<=(k:Int)
   .have:¬((k:Int)<p.2):=by omega
    simp[h2,h3,this]
   .have:(k:Int)<p.2:=by omega
    simp[h2,h3,this]
theorem qY(sm:List (List St2))(hl:sm.length<=20)(hb:∀b∈sm,b.length<=3)(s:List Nat):Ge [.lst false (sm.map Af),Dz s]=some (.lst true ((Fe sm s).map fun(i:Nat)=>D.int i)):=by
 have s1:(Bj 2 (G5 Ae)) [some (.lst false (sm.map Af)),some (Dz s),none,none,none] []=some (.nx,[some (.lst false (sm.map Af)),some (Dz s),some (.ref 0),none,none],[some []]):=rfl
 have e:Xw (Aa (Ab 0) Ae) [some (.lst false (sm.map Af)),some (Dz s),some (.ref 0),none,none] [some []]=some (((sm.zipIdx).map fun q=>D.tup [.int q.2,Af q.1],[]),[some []]):=by
  rw[←Yt sm 0];rfl
 obtain⟨env',S',e2,z3,z4,he,hS⟩:=Eo (w:=[]) (g:=Pat.sem (.tp [(.nm 3),(.nm 4)])) (b:=Q5) (ds:=(sm.zipIdx).map fun q=>D.tup [.int q.2,Af q.1]) (env:=[some (.lst false (sm.map Af)),some (Dz s),some (.ref 0),none,none]) (S:=[some []])
  (fun i env S=>∃z3 z4:Option D,env=[some (.lst false (sm.map Af)),some (Dz s),some (.ref 0),z3,z4]/\S=[some (((((sm.zipIdx).take i).filter fun q=>JN q.1 s).map fun q=>q.2).map fun(i:Nat)=>D.int i)])
  ⟨none,none,rfl,rfl⟩ (fun i env S _=>by simp) (fun i d env S hd q=>by
   obtain⟨z3,z4,he,hS⟩:=q
   subst he hS
   rw[U0y] at hd
   obtain⟨q,hq,rfl⟩:=U2t.mp hd
   have hi:i<(sm.zipIdx).length:=(U0l.mp hq).1
   rw[List.length_zipIdx] at hi
   have ht:(sm.zipIdx).take (i+1)=(sm.zipIdx).take i++[q]:=by rw[U4k,hq];rfl
   have hbq:q.1.length<=3:=hb _ (by
    have:=List.fst_mem_of_mem_zipIdx (U18 hq)
    exact this)
   have hL:∀l:List (List St2×Nat),((l.filter fun q=>JN q.1 s).map fun q=>q.2).length<=l.length:=fun l=>by rw[U0j];exact U3d ..
   have hL2:=hL ((sm.zipIdx).take i)
   rw[U19,List.length_zipIdx] at hL2
   generalize ha:(((sm.zipIdx).take i).filter fun q=>JN q.1 s).map (fun q=>q.2)=acc at *
   have c1:=qb [some (.lst false (sm.map Af)),some (Dz s),some (.ref 0),some (.int q.2),some (Af q.1)] [some (acc.map fun(i:Nat)=>D.int i)] q.1 s hbq rfl rfl
   have ts:BK (eOp (oEq false) (Bt Mh) (Bt Ae)) [some (.lst false (sm.map Af)),some (Dz s),some (.ref 0),some (.int q.2),some (Af q.1)] [some (acc.map fun(i:Nat)=>D.int i)]=some (JN q.1 s,[some (acc.map fun(i:Nat)=>D.int i)]):=by
    have q1:=Vt (neg:=false) (S:=[some (acc.map fun(i:Nat)=>D.int i)]) (m:=true) 1 (WK [some (acc.map fun(i:Nat)=>D.int i)] true (((q.1.zip s).filter fun q=>!ok1 q).map fun _=>(1:Int))) (Yd _) (by decide)
    rw[Cq,BJ,Dj,c1]
    show(U17 _ (eqP false [some (acc.map fun(i:Nat)=>D.int i)] (.lst true ((((q.1.zip s).filter fun q=>!ok1 q).map fun _=>(1:Int)).map .int)) (.lst true []))).bind _=_
    rw[q1]
    show some ((false ^^ ((((q.1.zip s).filter fun q=>!ok1 q).map fun _=>(1:Int)).map PyData.int).isEmpty),_)=_
    congr 2
    unfold JN
    rw[Bool.false_xor,U26,List.isEmpty_iff,List.map_eq_nil_iff,List.map_eq_nil_iff,U47,U3]
    simp
   refine⟨[some (.lst false (sm.map Af)),some (Dz s),some (.ref 0),some (.int q.2),some (Af q.1)],by simp[DN,Iv,Gs,Fv,-U0d,-U0e],[some (.lst false (sm.map Af)),some (Dz s),some (.ref 0),some (.int q.2),some (Af q.1)],[some (((((sm.zipIdx).take (i+1)).filter fun q=>JN q.1 s).map fun q=>q.2).map fun(i:Nat)=>D.int i)],?_,_,_,rfl,rfl⟩
   rw[ht,List.filter_append,U1b,ha]
   unfold Q5
   cases h:JN q.1 s with
   |true =>
    rw[h] at ts
    have hfp:List.filter (fun q:List St2×Nat=>JN q.1 s) [q]=[q]:=by simp[h]
    rw[Ig ts,Gm,hfp,J5 (d:=.ref 0) (cs:=acc.map fun(i:Nat)=>D.int i) (ds:=[.int q.2]) (r:=.non) (S1:=[some (acc.map fun(i:Nat)=>D.int i)]) (S2:=[some (acc.map fun(i:Nat)=>D.int i)]) (S3:=[some ((acc++[q.2]).map fun(i:Nat)=>D.int i)]) rfl rfl rfl (by
     show(if (acc.map fun(i:Nat)=>D.int i).length<1000000 then some (D.non,[some ((acc.map fun(i:Nat)=>D.int i)++[.int q.2])]) else none)=_
     rw[if_pos (by rw[U0j];omega),U1b];rfl)]
    rfl
   |false =>
    rw[h] at ts
    have hfn:List.filter (fun q:List St2×Nat=>JN q.1 s) [q]=[]:=by simp[h]
    rw[GK ts,hfn,U1e,U2k];rfl)
 subst he hS
 have:((sm.zipIdx).map fun q=>D.tup [.int q.2,Af q.1]).length=(sm.zipIdx).length:=by simp
 rw[this,U3p] at e2
 have l1:Q0 [some (.lst false (sm.map Af)),some (Dz s),some (.ref 0),none,none] [some []]=some (.nx,[some (.lst false (sm.map Af)),some (Dz s),some (.ref 0),z3,z4],[some ((Fe sm s).map fun(i:Nat)=>D.int i)]):=by
  unfold Q0
  rw[Fp,e]
  exact e2
 unfold Ge
 rw[Dc]
 simp only[U0i,U1a,U0m,U1e,U14,U15,U0s,U1c,U2d,U11,if_true]
 unfold V2
 rw[BW s1,BW l1]
 show den 0 [some ((Fe sm s).map fun(i:Nat)=>D.int i)] (.ref 0)=_
 have hp:Ax ((Fe sm s).map fun(i:Nat)=>D.int i)=true:=by
  have:=Iu ((Fe sm s).map fun(i:Nat)=>(i:Int))
  rw[U0d] at this
  exact this
 rw[den,if_neg (by omega)]
 show(if Ax ((Fe sm s).map fun(i:Nat)=>D.int i)=true then _ else _)=_
 rw[if_pos hp]
end W14
end
section
namespace W14
open PySem L2 VS
theorem RP{bs:List (List St2)}:∀(xs:List Int)(w:Nat)(ns:List Nat),Rm bs w xs ns=ns.filter fun i=>xs.zipIdx.all fun q=>inS (at1 bs i (w+q.2)) q.1
 |[],w,ns=>by
  rw[Rm]
  exact(U5l.mpr fun _ _=>rfl).symm
 |x::xs,w,ns=>by
  rw[Rm,RP xs (w+1),KN,List.filter_filter]
  refine U7b fun i _=>?_
  rw[U6h,U4v,Nat.add_zero,Bool.and_comm,U7e]
  congr 1
  rw[show xs.zipIdx 1=(xs.zipIdx 0).map fun q=>(q.1,q.2+1) by rw[List.zipIdx_eq_map_add];simp;intros;omega,U6r]
  refine congrArg (fun f=>List.all (xs.zipIdx 0) f) (funext fun q=>?_)
  simp only[Function.comp]
  rw[show w+(q.2+1)=w+1+q.2 by omega]
def QG(b:List St2)(xs:List Int):Bool:=(b.zip xs).all fun q=>inS q.1 q.2
theorem V0(b:List St2):∀(xs:List Int)(k:Nat),k+xs.length=b.length->QG (b.drop k) xs=(xs.zipIdx k).all fun q=>inS (b.getD q.2 (0,0)) q.1
 |[],k,_=>by simp[QG]
 |x::xs,k,h=>by
  have hk:k<b.length:=by simp at h;omega
  rw[U2s hk,U6h,U4v,←V0 b xs (k+1) (by simp at h ⊢;omega)]
  unfold QG
  rw[U43,U4v]
  congr 1
  rw[U0k,U0g hk];rfl
theorem aq{ms:List Int}{m i j:Nat}(h:Mk m ms)(hi:i<=m)(hj:j<=m):(ms.getD i 0<ms.getD j 0↔i<j)/\(ms.getD i 0<=ms.getD j 0↔i<=j):=by
 have l1:i<ms.length:=by rw[h.len];omega
 have l2:j<ms.length:=by rw[h.len];omega
 have r:=U5q.mp h.rise
 rw[U0k,U0k,U0g l1,U0g l2,U4r,U4r]
 rcases Nat.lt_trichotomy i j with q|q|q
 .have:=r i j l1 l2 q
  constructor<;>omega
 .subst q
  constructor<;>omega
 .have:=r j i l2 l1 q
  constructor<;>omega
theorem Wb{m:Nat}:∀(mss:List (List Int))(b:List St2)(s:List Nat),(∀ms∈mss,Mk m ms)->b.length=mss.length->s.length=mss.length->(∀p∈b,0<=p.1/\p.1<p.2/\p.2<=m)->(∀q∈mss.zip s,q.2<q.1.length-1)->QG (placed mss b) (lows (cellOf mss s))=JN b s
 |[],[],[],_,_,_,_,_=>rfl
 |[],_::_,_,_,h,_,_,_=>by simp at h
 |[],_,_::_,_,_,h,_,_=>by simp at h
 |_::_,[],_,_,h,_,_,_=>by simp at h
 |_::_,_,[],_,_,h,_,_=>by simp at h
 |ms::r,p::b,k::s,hM,h1,h2,hp,hq=>by
  have ih:=Wb r b s (fun x hx=>hM x (U0t _ hx)) (by simpa using h1) (by simpa using h2) (fun x hx=>hp x (U0t _ hx)) (fun x hx=>hq x (by rw[U43];exact U0t _ hx))
  have hm:=hM ms U0u
  have hpp:=hp p U0u
  have hk:=hq (ms,k) (by rw[U43];exact U0u)
  simp only[hm.len] at hk
  have e1:QG (placed (ms::r) (p::b)) (lows (cellOf (ms::r) (k::s)))=(inS (ms.getD p.1.toNat 0,ms.getD p.2.toNat 0) (ms.getD k 0)&&QG (placed r b) (lows (cellOf r s))):=rfl
  have e2:JN (p::b) (k::s)=(ok1 (p,k)&&JN b s):=rfl
  rw[e1,e2,ih]
  congr 1
  rw[U26,M6]
  have a:=(aq hm (i:=p.1.toNat) (j:=k) (by omega) (by omega)).2
  have c:=(aq hm (i:=k) (j:=p.2.toNat) (by omega) (by omega)).1
  simp only[a,c,ok1,U00,decide_eq_true_eq]
  omega
theorem V9:∀(mss:List (List Int))(s:List Nat),s.length=mss.length->(cellOf mss s).length=mss.length
 |[],[],_=>rfl
 |[],_::_,h=>by simp at h
 |_::_,[],h=>by simp at h
 |_::r,_::s,h=>by rw[cellOf,U0i,U0i,V9 r s (by simpa using h)]
theorem qZ{n m:Nat}{sm:List (List St2)}{mss:List (List Int)}(md:Made n m sm mss)(s:List Nat)(hs:s∈Lz mss):Fe sm s=Rm (sm.map (placed mss)) 0 (lows (cellOf mss s)) (U0h sm.length):=by
 obtain⟨pl,pq⟩:=WQ mss s hs
 rw[RP]
 unfold Fe
 have e:sm.zipIdx=(U0h sm.length).map fun i=>(sm.getD i [],i):=by
  refine U7g (by simp) fun i h1 h2=>?_
  have hi:i<sm.length:=by simpa using h1
  simp[U0g hi]
 rw[e,List.filter_map,U0d]
 have:((fun q:List St2×Nat=>q.2)∘fun i=>(sm.getD i [],i))=id:=rfl
 rw[this,List.map_id]
 refine U7b fun i hi=>?_
 have hi':=U1n.mp hi
 have hb:=md.box (sm.getD i []) (by rw[U0k,U0g hi'];exact U1s hi')
 have hl:(placed mss (sm.getD i [])).length=n:=(WR md.len md.mks hb).1
 have eb:(sm.map (placed mss)).getD i []=placed mss (sm.getD i []):=by
  rw[U0k,U0y,U0k,U0g hi'];rfl
 have hx:=V0 (placed mss (sm.getD i [])) (lows (cellOf mss s)) 0 (by
  rw[hl,lows,U0j,V9 mss s pl,md.len];omega)
 rw[U54,Wb mss (sm.getD i []) s md.mks (by rw[hb.len,md.len]) pl hb.all pq] at hx
 show JN (sm.getD i []) s=_
 rw[hx]
 refine congrArg (fun f=>List.all ((lows (cellOf mss s)).zipIdx 0) f) (funext fun q=>?_)
 rw[U7e]
 unfold at1
 rw[eb]
theorem Wo{n m:Nat}{sm:List (List St2)}{mss:List (List Int)}(md:Made n m sm mss):∀(k w:Nat),w+k=n->Cov (sm.map (placed mss)) (-1000000000) 2000000000 w (mss.drop w) (U0h sm.length)
 |0,w,h=>by
  rw[List.drop_of_length_le (by rw[md.len];omega)]
  trivial
 |k+1,w,h=>by
  have hw:w<mss.length:=by rw[md.len];omega
  rw[U2s hw]
  have hk:=md.mks mss[w] (U1s hw)
  refine⟨⟨hk.rise,fun i hi=>?_,fun e he=>by have:=hk.near e he;omega⟩,Wo md k (w+1) (by omega)⟩
  have hi':=U1n.mp hi
  have hb:=md.box sm[i] (U1s hi')
  have hwb:w<sm[i].length:=by rw[hb.len];omega
  have hp:=hb.all sm[i][w] (U1s hwb)
  have e:at1 (sm.map (placed mss)) i w=(mss[w].getD sm[i][w].1.toNat 0,mss[w].getD sm[i][w].2.toNat 0):=by
   have eb:(sm.map (placed mss)).getD i []=placed mss sm[i]:=by
    rw[U0k,U0y,U0g hi'];rfl
   unfold at1
   rw[eb]
   unfold placed
   rw[U0k,U0y,U0g (show w<(mss.zip sm[i]).length by rw[U39];omega),List.getElem_zip]
   rfl
  rw[e]
  have l1:sm[i][w].1.toNat<mss[w].length:=by rw[hk.len];omega
  have l2:sm[i][w].2.toNat<mss[w].length:=by rw[hk.len];omega
  constructor
  .show mss[w].getD _ 0∈_
   rw[U0k,U0g l1];exact U1s l1
  .show mss[w].getD _ 0∈_
   rw[U0k,U0g l2];exact U1s l2
end W14
end
section
namespace W14
open PySem L2 VS
theorem bB{r:VS.Env}{L:List D}{d:D}(h1:r[1]?=some (some (.ref 0))):eOp oIx (Ab 1) (eUn Em (eC (.int 1))) r [some (L++[d])]=some (d,[some (L++[d])]):=by
 have v1:Ab 1 r [some (L++[d])]=some (.ref 0,[some (L++[d])]):=by simp[Aw,h1]
 rw[BJ,v1,U0b]
 show U17 _ (atI (L++[d]) (-1))=_
 rw[Qh];rfl
theorem Yg{r:VS.Env}{L:List D}{d e:D}{v:Bb}(h1:r[1]?=some (some (.ref 0)))(hv:v r [some (L++[d])]=some (e,[some (L++[d])])):Ie v (Ab 1) (eUn Em (eC (.int 1))) r [some (L++[d])]=some (.nx,r,[some (L++[e])]):=by
 have v1:Ab 1 r [some (L++[d])]=some (.ref 0,[some (L++[d])]):=by simp[Aw,h1]
 rw[Kp,hv,U0b,v1,U0b]
 show(ixN (L++[d]).length (-1)).bind _=_
 rw[U0n,U0i,U1a,Qg]
 show some (Fl.nx,r,[some ((L++[d]).set L.length e)])=_
 rw[U6j _ _ (U0o _)];simp
theorem Us{r:VS.Env}{L:List D}{d:D}{a:Bb}{j:Nat}(h1:r[j]?=some (some (.ref 0)))(ha:a r [some L]=some (d,[some L]))(hl:L.length<1000000):Fb (Dt Ed (Ab j) (Aa a Ae)) r [some L]=some (.nx,r,[some (L++[d])]):=by
 rw[Gm,J5 (d:=.ref 0) (cs:=L) (ds:=[d]) (r:=.non) (S1:=[some L]) (S2:=[some L]) (S3:=[some (L++[d])]) (by simp[Aw,h1]) rfl (by rw[Am,ha];rfl) (by
  show(if L.length<1000000 then some (D.non,[some (L++[d])]) else none)=_
  rw[if_pos hl])]
 rfl
theorem eH{r:VS.Env}{L:List D}(h1:r[1]?=some (some (.ref 0))):BK (eOp oGt (eCB Ef (Aa (Ab 1) Ae)) (eC (.int 0))) r [some L]=some (decide (0<(L.length:Int)),[some L]):=by
 have v1:Ab 1 r [some L]=some (.ref 0,[some L]):=by simp[Aw,h1]
 rw[Cq,BJ,Fg,Am,v1]
 rfl
theorem qN(C:D)(acc:List St2)(p:St2)(hl:acc.length<1000000):Ph [some C,some (.ref 0),some (.int p.1),some (.int p.2)] [some (acc.map Aq)]=some (.nx,[some C,some (.ref 0),some (.int p.1),some (.int p.2)],[some ((Eh acc p).map Aq)]):=by
 have a1:∀S,(BZ (Aa (Ab 2) (Aa (Ab 3) Ae))) [some C,some (.ref 0),some (.int p.1),some (.int p.2)] S=some (Aq p,S):=fun S=>rfl
 have add:=Us (r:=[some C,some (.ref 0),some (.int p.1),some (.int p.2)]) (j:=1) rfl (a1 [some (acc.map Aq)]) (by rw[U0j];exact hl)
 have lg:=eH (r:=[some C,some (.ref 0),some (.int p.1),some (.int p.2)]) (L:=acc.map Aq) rfl
 unfold Ph
 rcases U4 acc with rfl|⟨l,q,rfl⟩
 .rw[GK (by rw[Kf,lg];rfl),add];rfl
 .rw[U4a] at *
  rw[U1b] at *
  have la:=bB (r:=[some C,some (.ref 0),some (.int p.1),some (.int p.2)]) (L:=l.map Aq) (d:=Aq q) rfl
  have t2:BK (eOp (oEq false) (eOp oIx (eOp oIx (Ab 1) (eUn Em (eC (.int 1)))) (eC (.int 1))) (Ab 2)) [some C,some (.ref 0),some (.int p.1),some (.int p.2)] [some (l.map Aq++[Aq q])]=some (decide (q.2=p.1),[some (l.map Aq++[Aq q])]):=by
   rw[Cq,BJ,BJ,la]
   simp[Aw,CT,oEq,oIx,VS.listOf,Br,-U0d,-U0e,Aq]
  have t1:G4 (BK (eOp oGt (eCB Ef (Aa (Ab 1) Ae)) (eC (.int 0)))) (BK (eOp (oEq false) (eOp oIx (eOp oIx (Ab 1) (eUn Em (eC (.int 1)))) (eC (.int 1))) (Ab 2))) [some C,some (.ref 0),some (.int p.1),some (.int p.2)] [some (l.map Aq++[q].map Aq)]=some (decide (q.2=p.1),[some (l.map Aq++[q].map Aq)]):=by
   rw[Kf,lg,decide_eq_true (by simp)]
   exact t2
  have v1:(BZ (Aa (eOp oIx (eOp oIx (Ab 1) (eUn Em (eC (.int 1)))) (eC (.int 0))) (Aa (Ab 3) Ae))) [some C,some (.ref 0),some (.int p.1),some (.int p.2)] [some (l.map Aq++[Aq q])]=some (Aq (q.1,p.2),[some (l.map Aq++[Aq q])]):=by
   rw[Ho,Am,BJ,la]
   simp[Aw,CT,Bl,Am,oIx,VS.listOf,Br,-U0d,-U0e,Aq]
  unfold Eh
  rw[U3x]
  by_cases h:q.2=p.1
  .rw[Ig (by rw[t1,decide_eq_true h])]
   show _=some (Fl.nx,_,[some ((if q.2=p.1 then (l++[q]).dropLast++[(q.1,p.2)] else l++[q]++[p]).map Aq)])
   rw[if_pos h,U3y,U1b]
   exact Yg rfl v1
  .rw[GK (by rw[t1,decide_eq_false h]),add]
   show _=some (Fl.nx,_,[some ((if q.2=p.1 then (l++[q]).dropLast++[(q.1,p.2)] else l++[q]++[p]).map Aq)])
   rw[if_neg h,U1b,U1b];rfl
theorem ZV(acc:List St2)(p:St2):(Eh acc p).length<=acc.length+1:=by
 unfold Eh
 split
 .split
  .rw[U0n,U5];simp
  .simp
 .simp
theorem Yj:∀l:List St2,(l.foldl Eh []).length<=l.length:=by
 have:∀(l acc:List St2),(l.foldl Eh acc).length<=acc.length+l.length:=by
  intro l
  induction l with
  |nil=>intro acc;simp
  |cons p r ih=>intro acc;have:=ih (Eh acc p);have:=ZV acc p;simp only[U1v,U0i];omega
 intro l
 simpa using this l []
theorem iG(l:List St2)(hl:l.length<=100000):Jl [.lst false (l.map Aq)]=some (.lst true ((l.foldl Eh []).map Aq)):=by
 have s1:(Bj 1 (G5 Ae)) [some (.lst false (l.map Aq)),none,none,none] []=some (.nx,[some (.lst false (l.map Aq)),some (.ref 0),none,none],[some []]):=rfl
 have l1:∃z2 z3,RM [some (.lst false (l.map Aq)),some (.ref 0),none,none] [some []]=some (.nx,[some (.lst false (l.map Aq)),some (.ref 0),z2,z3],[some ((l.foldl Eh []).map Aq)]):=by
  have e:Dp (Ab 0) [some (.lst false (l.map Aq)),some (.ref 0),none,none] [some []]=some ((l.map Aq,[]),[some []]):=rfl
  unfold RM
  rw[Fp,e]
  obtain⟨env',S',e2,z2,z3,he,hS⟩:=Eo (w:=[]) (g:=Pat.sem (.tp [(.nm 2),(.nm 3)])) (b:=Ph) (ds:=l.map Aq) (env:=[some (.lst false (l.map Aq)),some (.ref 0),none,none]) (S:=[some []])
   (fun i env S=>∃z2 z3,env=[some (.lst false (l.map Aq)),some (.ref 0),z2,z3]/\S=[some (((l.take i).foldl Eh []).map Aq)])
   ⟨none,none,rfl,rfl⟩ (fun i env S _=>by simp) (fun i d env S hd q=>by
    obtain⟨z2,z3,he,hS⟩:=q
    subst he hS
    rw[U0y] at hd
    obtain⟨p,hp,rfl⟩:=U2t.mp hd
    have:=Yj (l.take i)
    rw[U19] at this
    refine⟨[some (.lst false (l.map Aq)),some (.ref 0),some (.int p.1),some (.int p.2)],by simp[DN,Iv,Gs,Fv,-U0d,-U0e,Aq],_,_,qN _ _ p (by omega),_,_,rfl,?_⟩
    rw[U4k,hp,U50,U3z]
    rfl)
  subst he hS
  refine⟨z2,z3,e2.trans ?_⟩
  have:(l.map Aq).length=l.length:=by simp
  rw[this,U3p]
 obtain⟨z2,z3,l1⟩:=l1
 unfold Jl
 rw[Dc]
 simp only[U0i,U1a,U0m,U1e,U14,U15,U0s,U1c,U2d,U11,if_true]
 unfold Yp
 rw[BW s1,BW l1]
 generalize l.foldl Eh []=k
 have hd:∀(n:Nat)(S:Store),Cw n S (k.map Aq)=some (k.map Aq):=fun n S=>Ca n S (Bo (HS _ fun p _=>Gb p))
 have hp:Ax (k.map Aq)=true:=Bo (HS _ fun p _=>Gb p)
 simp[Ck,Aw,den,-U0d,-U0e,hd,hp]
end W14
end
section
namespace W14
open PySem L2 VS
def OD(w:Nat)(x:Int)(b:List St2):Bool:=decide ((b.getD w (0,0)).1<=x)&&decide (x<(b.getD w (0,0)).2)
def HF(bs:List (List St2))(w:Nat)(x:Int):List (List St2):=(bs.filter (OD w x)).map fun b=>b.eraseIdx w
theorem fH{b:List St2}{w:Nat}(h:w<b.length):atI (b.map Aq) (w:Int)=some (Aq (b.getD w (0,0))):=by
 refine Kh ?_
 rw[U0y,U0k,U0g h];rfl
theorem wB(r:VS.Env)(S:Store)(bs:List (List St2))(w:Nat)(x:Int)(hl:bs.length<=1000)(hb:∀b∈bs,w<b.length)(h0:r[0]?=some (some (.lst false (bs.map Af))))(h1:r[1]?=some (some (.int w)))(h2:r[2]?=some (some (.int x))):Ln r S=some ((bs.filter (OD w x)).map Af,S):=by
 have e:Dp (Ab 0) r S=some ((bs.map Af,[]),S):=by simp[Aw,VS.listOf,Br,VS.idOf,Fq,-U0d,-U0e,h0]
 have ec:HJ 1 [1,2] r=[none,some (.int w),some (.int x)]:=by simp[HJ,h1,h2]
 unfold Ln DK
 rw[e,ec]
 simp only[U0b]
 rw[M7 (by simp) Af (OD w x) Af _ _ (by simp;omega)]
 .simp
 .intro b hm
  have ha:=fH (hb b hm)
  refine⟨[some (Af b),some (.int w),some (.int x)],by rw[DN];rfl,?_,fun _=>rfl⟩
  have i1:∀k:D,eOp oIx (Ab 0) (Ab 1) [some (Af b),some (.int w),some (.int x)] S=some (Aq (b.getD w (0,0)),S):=fun _=>by
   show U17 _ (atI (b.map Aq) (w:Int))=_
   rw[ha];rfl
  unfold OD
  generalize b.getD w (0,0)=p at *
  by_cases q1:p.1<=x<;>simp[Aw,CT,BJ,Wn,Cq,oI,Hl,oLt,oLe,oIx,VS.listOf,Br,-U0d,-U0e,i1 .non,Aq,Af,ha,q1]
theorem wA(r:VS.Env)(S:Store)(bs:List (List St2))(w:Nat)(hl:bs.length<=1000)(hb:∀b∈bs,w<b.length/\b.length<=3)(h1:r[1]?=some (some (.int w)))(h3:r[3]?=some (some (.lst true (bs.map Af)))):Ox r S=some ((bs.map fun b=>b.eraseIdx w).map Af,S):=by
 have e:Dp (Ab 3) r S=some ((bs.map Af,[]),S):=by simp[Aw,VS.listOf,Br,VS.idOf,Fq,-U0d,-U0e,h3]
 have ec:HJ 1 [1] r=[none,some (.int w)]:=by simp[HJ,h1]
 unfold Ox DK
 rw[e,ec]
 simp only[U0b]
 rw[J6 (by simp) Af (fun b=>Af (b.eraseIdx w)) bs (by omega),U0d]
 .rfl
 .intro b hm
  obtain⟨q1,q2⟩:=hb b hm
  refine⟨[some (Af b),some (.int w)],by rw[DN];rfl,?_⟩
  have c1:cut (b.map Aq) none (some (w:Int))=(b.take w).map Aq:=by
   rw[vq (by omega) (by rw[U0j];omega),U71];rfl
  have c2:cut (b.map Aq) (some ((w:Int)+1)) none=(b.drop (w+1)).map Aq:=by
   rw[Tp (by omega) (by rw[U0j];omega),U70];rfl
  have v0:Ab 0 [some (Af b),some (.int w)] S=some (Af b,S):=rfl
  have v1:Ab 1 [some (Af b),some (.int w)] S=some (.int w,S):=rfl
  have l1:eSl oSl (Ab 0) GF (GD (Ab 1)) [some (Af b),some (.int w)] S=some (Af (b.take w),S):=by
   show(some (D.tup (cut (b.map Aq) none (some (w:Int))),S):Option (D×Store))=_
   rw[c1];rfl
  have l2:eSl oSl (Ab 0) (GD (eOp Dd (Ab 1) (eC (.int 1)))) GF [some (Af b),some (.int w)] S=some (Af (b.drop (w+1)),S):=by
   show(some (D.tup (cut (b.map Aq) (some ((w:Int)+1)) none),S):Option (D×Store))=_
   rw[c2];rfl
  rw[BJ,l1,U0b,l2,U0b]
  show U17 _ (if ((b.take w).map Aq).length+((b.drop (w+1)).map Aq).length<=1000000 then some (D.tup ((b.take w).map Aq++(b.drop (w+1)).map Aq)) else none)=_
  rw[if_pos (by rw[U0j,U0j,U19,U6f];omega),←U1b,←List.eraseIdx_eq_take_drop_succ]
  rfl
theorem Za{n:Nat}{bs:List (List St2)}(g:Good n bs){w:Nat}(hw:w<n)(x:Int):Gw [.lst false (bs.map Af),.int w,.int x]=some (.lst true ((HF bs w x).map Af)):=by
 have few:=g.few
 have n3:=g.n3
 have c1:=wB [some (.lst false (bs.map Af)),some (.int w),some (.int x),none] [] bs w x (by omega) (fun b hb=>by rw[(g.box b hb).1];exact hw) rfl rfl rfl
 have c2:=wA [some (.lst false (bs.map Af)),some (.int w),some (.int x),some (.lst true ((bs.filter (OD w x)).map Af))] [] (bs.filter (OD w x)) w (U06 (U3d ..) (by omega)) (fun b hb=>by
  rw[(g.box b (U3k.mp hb).1).1];omega) rfl rfl
 have s1:(Bj 3 (Bt Ln)) [some (.lst false (bs.map Af)),some (.int w),some (.int x),none] []=some (.nx,[some (.lst false (bs.map Af)),some (.int w),some (.int x),some (.lst true ((bs.filter (OD w x)).map Af))],[]):=by
  rw[CV,Dj,c1];rfl
 unfold Gw
 rw[Dc]
 simp only[U0i,U1a,U0m,U1e,U14,U15,U0s,U1c,U2d,U11,if_true]
 unfold Sy
 rw[BW s1,Ck,Dj,c2]
 show den 0 _ (.lst true _)=_
 rw[den,Ca 0 _ (Bo (CG _))];rfl
theorem Sg{n:Nat}{bs:List (List St2)}{w:Nat}(hw:w<n):Ew [Ak false n bs,.int w]=some .non:=by
 have c1:BR Cu (Aa (Ab 1) Ae) [some (Ak false n bs),some (.int w)] []=some (.bl true,[]) :=
  DR (ds:=[.int w]) (es:=[.int w]) (S':=[]) rfl (by simp[Ax,BX]) (by simp[Bq,age]) (Lj w)
 have k1:BK (eOp oLt (Ab 1) (eC (.int 0))) [some (Ak false n bs),some (.int w)] []=some (decide ((w:Int)<0),[]):=rfl
 have k2:BK (eOp oGe (Ab 1) (eOp oIx (Ab 0) (eC (.int 0)))) [some (Ak false n bs),some (.int w)] []=some (decide ((n:Int)<=w),[]):=rfl
 have ts:tOr (JR (BK (BR Cu (Aa (Ab 1) Ae)))) (tOr (BK (eOp oLt (Ab 1) (eC (.int 0)))) (BK (eOp oGe (Ab 1) (eOp oIx (Ab 0) (eC (.int 0)))))) [some (Ak false n bs),some (.int w)] []=some (false,[]):=by
  rw[R0,Rn,Cq,c1]
  simp only[U0b,U5d,U1y,if_false]
  rw[R0,k1,show decide ((w:Int)<0)=false from decide_eq_false (by omega)]
  simp only[U0b,U1y,if_false]
  rw[k2,show decide ((n:Int)<=w)=false from decide_eq_false (by omega)]
 unfold Ew
 rw[Dc]
 simp only[U0i,U1a,U0m,U1e,U14,U15,U1c,U2k,if_true]
 unfold V1
 rw[GK ts];rfl
def encK(m:Bool)(n:Nat)(bs:List (List St2)):D:=.tup [.int ((n:Int)-1),.lst m (bs.map Af)]
theorem iu{n:Nat}{bs:List (List St2)}(g:Good n bs)(h2:2<=n){w:Nat}(hw:w<n)(x:Int):HN [Ak false n bs,.int w,.int x]=some (encK true n (HF bs w x)):=by
 have h1:=RZ (m:=false) g
 have h3:=Sg (bs:=bs) hw
 have h4:=Za g hw x
 have hpu:Ax (bs.map Af)=true:=Bo (CG bs)
 have s1:(Fb (BR El (Aa (Ab 0) Ae))) [some (Ak false n bs),some (.int w),some (.int x)] []=some (.nx,[some (Ak false n bs),some (.int w),some (.int x)],[]):=by
  rw[Gm,DR (ds:=[Ak false n bs]) (es:=[Ak false n bs]) (S':=[]) rfl (by simp[Ax,BX,Ak]) (by simp[Bq,age,Ak]) h1];rfl
 have t2:BK (eOp (oEq false) (eOp oIx (Ab 0) (eC (.int 0))) (eC (.int 1))) [some (Ak false n bs),some (.int w),some (.int x)] []=some (false,[]):=by
  have:¬(n=1):=by omega
  simp[Aw,CT,BJ,Cq,oEq,oIx,VS.listOf,Br,-U0d,-U0e,Ak]
  omega
 have s2:(sIf (BK (eOp (oEq false) (eOp oIx (Ab 0) (eC (.int 0))) (eC (.int 1)))) Kz Dh) [some (Ak false n bs),some (.int w),some (.int x)] []=some (.nx,[some (Ak false n bs),some (.int w),some (.int x)],[]):=by rw[GK t2];rfl
 have s3:(Fb (BR Ew (Aa (Ab 0) (Aa (Ab 1) Ae)))) [some (Ak false n bs),some (.int w),some (.int x)] []=some (.nx,[some (Ak false n bs),some (.int w),some (.int x)],[]):=by
  rw[Gm,DR (ds:=[Ak false n bs,.int w]) (es:=[Ak false n bs,.int w]) (S':=[]) rfl (by simp[Ax,BX,Ak]) (by simp[Bq,age,Ak]) h3];rfl
 have c4:BR Cu (Aa (Ab 2) Ae) [some (Ak false n bs),some (.int w),some (.int x)] []=some (.bl true,[]) :=
  DR (ds:=[.int x]) (es:=[.int x]) (S':=[]) rfl (by simp[Ax,BX]) (by simp[Bq,age]) (Lj x)
 have s4:(sIf (JR (BK (BR Cu (Aa (Ab 2) Ae)))) Kz Dh) [some (Ak false n bs),some (.int w),some (.int x)] []=some (.nx,[some (Ak false n bs),some (.int w),some (.int x)],[]):=by
  rw[GK (by rw[Rn,Cq,c4];rfl)];rfl
 have c5:BR Gw (Aa (eOp oIx (Ab 0) (eC (.int 1))) (Aa (Ab 1) (Aa (Ab 2) Ae))) [some (Ak false n bs),some (.int w),some (.int x)] []=some (.lst true ((HF bs w x).map Af),[]) :=
  DR (ds:=[.lst false (bs.map Af),.int w,.int x]) (es:=[.lst false (bs.map Af),.int w,.int x]) (S':=[]) rfl (by simp[Ax,BX]) (by simp[Bq,age]) h4
 unfold HN
 rw[Dc]
 simp only[U0i,U1a,U0m,U1e,U14,U15,U1c,U2k,if_true]
 unfold Yr
 have o1:eOp Dy (eOp oIx (Ab 0) (eC (.int 0))) (eC (.int 1)) [some (Ak false n bs),some (.int w),some (.int x)] []=some (.int ((n:Int)-1),[]):=rfl
 rw[BW s1,BW s2,BW s3,BW s4,Ck,Ho,Am,o1,U0b,Am,c5]
 show den 0 _ (encK true n (HF bs w x))=_
 refine Kc 0 _ ?_
 simp[encK,BX,Ax,Bo (CG _)]
end W14
end
section
namespace W14
open PySem L2 VS
theorem gQ{bs:List (List St2)}(g:Good 1 bs):MN [some (Ak false 1 bs),some (.int 1)] []=some (((CQ bs 1 0 (U0h bs.length)).map fun c=>c.1.getD 0 (0,0)).map Aq,[]):=by
 have few:=g.few
 have hl:=Jt (bs:=bs) 1 0 (U0h bs.length) (by simpa using few)
 have hf:=Qp g
 have hd:=fun c=>Mz (bs:=bs) 1 0 (U0h bs.length) c
 have c2:BR Gg (Aa (Ab 0) Ae) [some (Ak false 1 bs),some (.int 1)] []=some (.lst true ((CQ bs 1 0 (U0h bs.length)).map encC),[]) :=
  DR (ds:=[Ak false 1 bs]) (es:=[Ak false 1 bs]) (S':=[]) rfl (by simp[Ax,BX,Ak]) (by simp[Bq,age,Ak]) (mG g)
 generalize CQ bs 1 0 (U0h bs.length)=cs at *
 have e:Dp (BR Gg (Aa (Ab 0) Ae)) [some (Ak false 1 bs),some (.int 1)] []=some ((cs.map encC,[]),[]):=by
  rw[Fq,c2];rfl
 have ec:HJ 2 [1] [some (Ak false 1 bs),some (.int 1)]=[none,none,some (.int 1)]:=rfl
 unfold MN DK
 rw[e,ec]
 simp only[U0b]
 rw[M7 (by simp) encC (fun _=>true) (fun c=>Aq (c.1.getD 0 (0,0))) cs [] (by simp;omega)]
 .rw[U5l.mpr (fun _ _=>rfl),U11,U0d];rfl
 .intro c hc
  have h1:=(hf c hc).2.1
  have h2:=hd c hc
  refine⟨[some (Af c.1),some (DX false c.2),some (.int 1)],by simp[DN,Iv,Gs,Fv,-U0d,-U0e,encC],?_,fun _=>?_⟩
  .simp[Aw,BJ,Bl,Am,Fg,Cq,oI,Hl,oGe,Ef,VS.listOf,Br,-U0d,-U0e,DX];omega
  .show U17 _ (atI (c.1.map Aq) ((0:Nat):Int))=_
   rw[fH (by omega)];rfl
theorem gP{bs:List (List St2)}(g:Good 1 bs):Fx [Ak false 1 bs]=some (.lst true ((((CQ bs 1 0 (U0h bs.length)).map fun c=>c.1.getD 0 (0,0)).foldl Eh []).map Aq)):=by
 have few:=g.few
 have hl:=Jt (bs:=bs) 1 0 (U0h bs.length) (by simpa using few)
 have c1:=gQ g
 have s1:=eG g (r:=[some (Ak false 1 bs)]) (a:=eC (.int 1)) rfl rfl
 have hl2:((CQ bs 1 0 (U0h bs.length)).map fun c=>c.1.getD 0 (0,0)).length<=100000:=by rw[U0j];omega
 generalize ((CQ bs 1 0 (U0h bs.length)).map fun c=>c.1.getD 0 (0,0))=l at *
 have h3:=iG l hl2
 have hp:∀k:List St2,Ax (k.map Aq)=true:=fun k=>Bo (HS _ fun p _=>Gb p)
 have ag:∀k:List St2,Bq (k.map Aq)=k.map Aq:=fun k=>Hv (HS _ fun p _=>Gb p)
 have h4:Fo [Ak false 1 bs,.int 1]=some (.lst true ((l.foldl Eh []).map Aq)):=by
  unfold Fo
  rw[Dc]
  simp only[U0i,U1a,U0m,U1e,U14,U15,U1c,U2k,if_true]
  unfold Qt
  rw[Ck,DR (ds:=[.lst true (l.map Aq)]) (es:=[.lst false (l.map Aq)]) (S':=[]) (by rw[Am,Dj,c1];rfl) (by rw[Ax,BX,hp,Ax];rfl) (by rw[Bq,age,ag,Bq]) h3]
  show den 0 _ (.lst true _)=_
  rw[den,Ca 0 _ (hp _)];rfl
 have c4:BR Fo (Aa (Ab 0) (Aa (eC (.int 1)) Ae)) [some (Ak false 1 bs)] []=some (.lst true ((l.foldl Eh []).map Aq),[]) :=
  DR (ds:=[Ak false 1 bs,.int 1]) (es:=[Ak false 1 bs,.int 1]) (S':=[]) rfl (by simp[Ax,BX,Ak]) (by simp[Bq,age,Ak]) h4
 unfold Fx
 rw[Dc]
 simp only[U0i,U1a,U0m,U1e,U14,U15,U1c,U2k,if_true]
 unfold Sh
 rw[BW s1,Ck,c4]
 show den 0 _ (.lst true _)=_
 rw[den,Ca 0 _ (hp _)];rfl
theorem YT:∀cs:List (List St2×List Nat),(∀c∈cs,c.1.length=1)->Ib (cs.map fun c=>c.1.getD 0 (0,0))=szs cs
 |[],_=>rfl
 |c::r,h=>by
  have ih:=YT r fun d hd=>h d (U0t _ hd)
  have h1:=h c U0u
  obtain⟨p,hp⟩:=List.length_eq_one_iff.mp h1
  unfold Ib szs at *
  rw[U0m,U0m,U3o,ih,U0m,U3o,hp]
  show(p.2-p.1)+_=(p.2-p.1)*1+_
  rw[U7q]
theorem iD{bs:List (List St2)}(g:Good 1 bs):Ec [Ak false 1 bs]=some (.int (szs (CQ bs 1 0 (U0h bs.length)))):=by
 have few:=g.few
 have hl:=Jt (bs:=bs) 1 0 (U0h bs.length) (by simpa using few)
 have h4:=gP g
 rw[←YT _ (fun c hc=>Mz 1 0 _ c hc)]
 have hl2:((CQ bs 1 0 (U0h bs.length)).map fun c=>c.1.getD 0 (0,0)).length<=100000:=by rw[U0j];omega
 generalize ((CQ bs 1 0 (U0h bs.length)).map fun c=>c.1.getD 0 (0,0))=l at *
 have jl:=Yi l []
 have jf:=Yj l
 generalize l.foldl Eh []=k at *
 have c4:BR Fx (Aa (Ab 0) Ae) [some (Ak false 1 bs)] []=some (.lst true (k.map Aq),[]) :=
  DR (ds:=[Ak false 1 bs]) (es:=[Ak false 1 bs]) (S':=[]) rfl (by simp[Ax,BX,Ak]) (by simp[Bq,age,Ak]) h4
 have c1:Jx [some (Ak false 1 bs)] []=some ((k.map fun p=>p.2-p.1).map .int,[]):=by
  have e:Dp (BR Fx (Aa (Ab 0) Ae)) [some (Ak false 1 bs)] []=some ((k.map Aq,[]),[]):=by
   rw[Fq,c4];rfl
  unfold Jx DK
  rw[e]
  simp only[U0b]
  rw[J6 (by simp) Aq (fun p=>.int (p.2-p.1)) k (by omega),U0d]
  .rfl
  .intro p hp
   exact⟨[some (.int p.1),some (.int p.2)],by simp[HJ,DN,Iv,Gs,Fv,U0s,-U0d,-U0e,Aq],by simp[Aw,BJ,oI,Hl,Dy,-U0d,-U0e]⟩
 have e0:Ib ([]:List St2)=0:=rfl
 rw[e0,U5z] at jl
 unfold Ec
 rw[Dc]
 simp only[U0i,U1a,U0m,U1e,U14,U15,U1c,U2k,if_true]
 unfold PJ
 rw[Ck,Fg,Am,Dj,c1,←jl]
 unfold Ib
 generalize (k.map fun p=>p.2-p.1)=l
 simp[Bl,VS.listOf,den,-U0d,-U0e,bf]
end W14
end
section
namespace W14
open PySem L2 VS
def Ai(p:Tr3):D:=.tup [.int p.1,.int p.2.1,.int p.2.2]
theorem rA(p:Tr3):Dm (Ai p)=true:=by simp[Ai,Dm,Ek]
theorem Io(k:List Tr3):Ek (k.map Ai)=true:=HS _ fun p _=>rA p
theorem mQ(C:D)(acc:List Tr3)(p:Tr3)(hl:acc.length<1000000):JQ [some C,some (.ref 0),some (.int p.1),some (.int p.2.1),some (.int p.2.2)] [some (acc.map Ai)]=some (.nx,[some C,some (.ref 0),some (.int p.1),some (.int p.2.1),some (.int p.2.2)],[some ((Bp acc p).map Ai)]):=by
 have a1:∀S,(BZ (Aa (Ab 2) (Aa (Ab 3) (Aa (Ab 4) Ae)))) [some C,some (.ref 0),some (.int p.1),some (.int p.2.1),some (.int p.2.2)] S=some (Ai p,S):=fun S=>rfl
 have add:=Us (r:=[some C,some (.ref 0),some (.int p.1),some (.int p.2.1),some (.int p.2.2)]) (j:=1) rfl (a1 [some (acc.map Ai)]) (by rw[U0j];exact hl)
 have lg:=eH (r:=[some C,some (.ref 0),some (.int p.1),some (.int p.2.1),some (.int p.2.2)]) (L:=acc.map Ai) rfl
 unfold JQ
 rcases U4 acc with rfl|⟨l,q,rfl⟩
 .rw[GK (by rw[Kf,lg];rfl),add];rfl
 .rw[U4a] at *
  rw[U1b] at *
  have la:=bB (r:=[some C,some (.ref 0),some (.int p.1),some (.int p.2.1),some (.int p.2.2)]) (L:=l.map Ai) (d:=Ai q) rfl
  have t2:BK (eOp (oEq false) (eOp oIx (eOp oIx (Ab 1) (eUn Em (eC (.int 1)))) (eC (.int 1))) (Ab 2)) [some C,some (.ref 0),some (.int p.1),some (.int p.2.1),some (.int p.2.2)] [some (l.map Ai++[Ai q])]=some (decide (q.2.1=p.1),[some (l.map Ai++[Ai q])]):=by
   rw[Cq,BJ,BJ,la]
   simp[Aw,CT,oEq,oIx,VS.listOf,Br,-U0d,-U0e,Ai]
  have t3:BK (eOp (oEq false) (eOp oIx (eOp oIx (Ab 1) (eUn Em (eC (.int 1)))) (eC (.int 2))) (Ab 4)) [some C,some (.ref 0),some (.int p.1),some (.int p.2.1),some (.int p.2.2)] [some (l.map Ai++[Ai q])]=some (decide (q.2.2=p.2.2),[some (l.map Ai++[Ai q])]):=by
   rw[Cq,BJ,BJ,la]
   simp[Aw,CT,oEq,oIx,VS.listOf,Br,-U0d,-U0e,Ai]
  have t1:G4 (BK (eOp oGt (eCB Ef (Aa (Ab 1) Ae)) (eC (.int 0)))) (G4 (BK (eOp (oEq false) (eOp oIx (eOp oIx (Ab 1) (eUn Em (eC (.int 1)))) (eC (.int 1))) (Ab 2))) (BK (eOp (oEq false) (eOp oIx (eOp oIx (Ab 1) (eUn Em (eC (.int 1)))) (eC (.int 2))) (Ab 4)))) [some C,some (.ref 0),some (.int p.1),some (.int p.2.1),some (.int p.2.2)] [some (l.map Ai++[q].map Ai)]=some (decide (q.2.1=p.1/\q.2.2=p.2.2),[some (l.map Ai++[q].map Ai)]):=by
   rw[Kf,lg,decide_eq_true (by simp)]
   show G4 _ _ _ [some (l.map Ai++[Ai q])]=some (_,[some (l.map Ai++[Ai q])])
   rw[Kf,t2]
   by_cases h:q.2.1=p.1
   .rw[decide_eq_true h]
    show BK _ _ _=_
    rw[t3]
    simp[h]
   .rw[decide_eq_false h,decide_eq_false (fun z=>h z.1)];rfl
  have v1:(BZ (Aa (eOp oIx (eOp oIx (Ab 1) (eUn Em (eC (.int 1)))) (eC (.int 0))) (Aa (Ab 3) (Aa (Ab 4) Ae)))) [some C,some (.ref 0),some (.int p.1),some (.int p.2.1),some (.int p.2.2)] [some (l.map Ai++[Ai q])]=some (Ai (q.1,p.2.1,p.2.2),[some (l.map Ai++[Ai q])]):=by
   rw[Ho,Am,BJ,la]
   simp[Aw,CT,Bl,Am,oIx,VS.listOf,Br,-U0d,-U0e,Ai]
  unfold Bp
  rw[U3x]
  by_cases h:q.2.1=p.1/\q.2.2=p.2.2
  .rw[Ig (by rw[t1,decide_eq_true h])]
   show _=some (Fl.nx,_,[some ((if q.2.1=p.1/\q.2.2=p.2.2 then (l++[q]).dropLast++[(q.1,p.2.1,p.2.2)] else l++[q]++[p]).map Ai)])
   rw[if_pos h,U3y,U1b]
   exact Yg rfl v1
  .rw[GK (by rw[t1,decide_eq_false h]),add]
   show _=some (Fl.nx,_,[some ((if q.2.1=p.1/\q.2.2=p.2.2 then (l++[q]).dropLast++[(q.1,p.2.1,p.2.2)] else l++[q]++[p]).map Ai)])
   rw[if_neg h,U1b,U1b];rfl
theorem Wa(l:List Tr3):(l.foldl Bp []).length<=l.length:=by
 have:∀(l acc:List Tr3),(l.foldl Bp acc).length<=acc.length+l.length:=by
  intro l
  induction l with
  |nil=>intro acc;simp
  |cons p r ih =>
   intro acc
   have h1:=ih (Bp acc p)
   have h2:(Bp acc p).length<=acc.length+1:=by
    unfold Bp
    split
    .split
     .rw[U0n,U5];simp
     .simp
    .simp
   simp only[U1v,U0i];omega
 simpa using this l []
theorem mO(l:List Tr3)(hl:l.length<=100000):FQ [.lst false (l.map Ai)]=some (.lst true ((l.foldl Bp []).map Ai)):=by
 have s1:(Bj 1 (G5 Ae)) [some (.lst false (l.map Ai)),none,none,none,none] []=some (.nx,[some (.lst false (l.map Ai)),some (.ref 0),none,none,none],[some []]):=rfl
 have l1:∃z2 z3 z4,Lq [some (.lst false (l.map Ai)),some (.ref 0),none,none,none] [some []]=some (.nx,[some (.lst false (l.map Ai)),some (.ref 0),z2,z3,z4],[some ((l.foldl Bp []).map Ai)]):=by
  have e:Dp (Ab 0) [some (.lst false (l.map Ai)),some (.ref 0),none,none,none] [some []]=some ((l.map Ai,[]),[some []]):=rfl
  unfold Lq
  rw[Fp,e]
  obtain⟨env',S',e2,z2,z3,z4,he,hS⟩:=Eo (w:=[]) (g:=Pat.sem (.tp [(.nm 2),(.nm 3),(.nm 4)])) (b:=JQ) (ds:=l.map Ai) (env:=[some (.lst false (l.map Ai)),some (.ref 0),none,none,none]) (S:=[some []])
   (fun i env S=>∃z2 z3 z4,env=[some (.lst false (l.map Ai)),some (.ref 0),z2,z3,z4]/\S=[some (((l.take i).foldl Bp []).map Ai)])
   ⟨none,none,none,rfl,rfl⟩ (fun i env S _=>by simp) (fun i d env S hd q=>by
    obtain⟨z2,z3,z4,he,hS⟩:=q
    subst he hS
    rw[U0y] at hd
    obtain⟨p,hp,rfl⟩:=U2t.mp hd
    have:=Wa (l.take i)
    rw[U19] at this
    refine⟨[some (.lst false (l.map Ai)),some (.ref 0),some (.int p.1),some (.int p.2.1),some (.int p.2.2)],by simp[DN,Iv,Gs,Fv,-U0d,-U0e,Ai],_,_,mQ _ _ p (by omega),_,_,_,rfl,?_⟩
    rw[U4k,hp,U50,U3z]
    rfl)
  subst he hS
  refine⟨z2,z3,z4,e2.trans ?_⟩
  have:(l.map Ai).length=l.length:=by simp
  rw[this,U3p]
 obtain⟨z2,z3,z4,l1⟩:=l1
 unfold FQ
 rw[Dc]
 simp only[U0i,U1a,U0m,U1e,U14,U15,U0s,U1c,U2d,U11,if_true]
 unfold QS
 rw[BW s1,BW l1]
 generalize l.foldl Bp []=k
 have hp:Ax (k.map Ai)=true:=Bo (Io k)
 have hd:∀(n:Nat)(S:Store),Cw n S (k.map Ai)=some (k.map Ai):=fun n S=>Ca n S hp
 simp[Ck,Aw,den,-U0d,-U0e,hd,hp]
end W14
end
section
namespace W14
open PySem L2 VS
theorem SN(bs:List (List St2)):(U0h bs.length).map (fun i=>bs.getD i [])=bs:=by
 refine List.ext_getElem? fun i=>?_
 rw[U0y]
 by_cases h:i<bs.length
 .rw[U5i h]
  simp[h]
 .rw[U36 (by simp;omega),U36 (by omega)];rfl
theorem fX{bs:List (List St2)}{w:Nat}(hw:∀b∈bs,w<b.length)(hl:bs.length<=20):Cy [.lst false (bs.map Af),.int w]=some (.lst true ((steps (CP bs w (U0h bs.length))).map Aq)):=by
 rw[←Yb,SN]
 by_cases hne:bs=[]
 .subst hne
  have h0:=bG (m:=false) (cs:=[]) (w:=w) hw hl
  have e:FZ (GJ [] w++FW [] w)=[]:=U29.mp (Nat.le_zero.mp (Je []))
  rw[e] at h0 ⊢
  rw[U1e,U1e] at h0
  have c:cut ([]:List D) (some 1) none=[]:=by simp[cut]
  have z:Df [] []=[]:=rfl
  simp[Cy,NT,J4,CV,Ck,Aw,CT,Bl,Am,TY,TX,Uq,Gd,QC,oSl,VS.listOf,Br,Dc,den,Cw,age,Bq,BX,Ax,U0s,-U0d,-U0e,h0,c,z,steps]
 .exact YC hw hl hne
theorem Tf{bs:List (List St2)}(g:Good 2 bs){w:Nat}(hw:w<2)(x:Int):Good 1 (HF bs w x):=by
 have few:=g.few
 refine⟨.inl rfl,?_,fun b hb=>?_⟩
 .unfold HF
  rw[U0j]
  exact U06 (U3d ..) few
 .obtain⟨c,hc,rfl⟩:=U1t.mp hb
  have h:=g.box c (U3k.mp hc).1
  refine⟨?_,fun p hp=>h.2 p (List.mem_of_mem_eraseIdx hp)⟩
  rw[List.length_eraseIdx,h.1,if_pos hw]
def GX(bs:List (List St2))(w:Nat)(x:Int):Int:=szs (CQ (HF bs w x) 1 0 (U0h (HF bs w x).length))
theorem uH{cs:List (List St2×List Nat)}{k:Nat}(h:jM k cs):0<=szs cs:=by
 unfold szs
 induction cs with
 |nil=>simp
 |cons c r ih =>
  rw[U0m,U3o]
  have h1:=WD c.1 fun p hp=>((h c U0u).1 p hp).1
  have h2:=ih fun d hd=>h d (U0t _ hd)
  omega
theorem qJ{bs:List (List St2)}(g:Good 2 bs){w:Nat}(hw:w<2)(x:Int):0<=GX bs w x:=uH (Qp (Tf g hw x))
def Im(bs:List (List St2))(w:Nat)(acc:List Tr3)(p:St2):List Tr3:=if 0<GX bs w p.1 then acc++[(p.1,p.2,GX bs w p.1)] else acc
theorem jA{bs:List (List St2)}(g:Good 2 bs){w:Nat}(hw:w<2)(acc:List Tr3)(hl:acc.length<1000000)(p:St2)(z5:Option D):Ia [some (Ak false 2 bs),some (.int w),some (.ref 0),some (.int p.1),some (.int p.2),z5] [some (acc.map Ai)]=some (.nx,[some (Ak false 2 bs),some (.int w),some (.ref 0),some (.int p.1),some (.int p.2),some (.int (GX bs w p.1))],[some ((Im bs w acc p).map Ai)]):=by
 have c1:BR HN (Aa (Ab 0) (Aa (Ab 1) (Aa (Ab 3) Ae))) [some (Ak false 2 bs),some (.int w),some (.ref 0),some (.int p.1),some (.int p.2),z5] [some (acc.map Ai)]=some (Ak true 1 (HF bs w p.1),[some (acc.map Ai)]) :=
  DR (ds:=[Ak false 2 bs,.int w,.int p.1]) (es:=[Ak false 2 bs,.int w,.int p.1]) rfl (by simp[Ax,BX,Ak]) (by simp[Bq,age,Ak]) (iu g (U0o _) hw p.1)
 have c2:BR Ec (Aa (BR HN (Aa (Ab 0) (Aa (Ab 1) (Aa (Ab 3) Ae)))) Ae) [some (Ak false 2 bs),some (.int w),some (.ref 0),some (.int p.1),some (.int p.2),z5] [some (acc.map Ai)]=some (.int (GX bs w p.1),[some (acc.map Ai)]) :=
  DR (ds:=[Ak true 1 (HF bs w p.1)]) (es:=[Ak false 1 (HF bs w p.1)]) (by rw[Am,c1];rfl) (by simp[Ax,BX,Ak,Bo (CG _)]) (by simp[Bq,age,Ak]) (iD (Tf g hw p.1))
 have s1:(Bj 5 (BR Ec (Aa (BR HN (Aa (Ab 0) (Aa (Ab 1) (Aa (Ab 3) Ae)))) Ae))) [some (Ak false 2 bs),some (.int w),some (.ref 0),some (.int p.1),some (.int p.2),z5] [some (acc.map Ai)]=some (.nx,[some (Ak false 2 bs),some (.int w),some (.ref 0),some (.int p.1),some (.int p.2),some (.int (GX bs w p.1))],[some (acc.map Ai)]):=by
  rw[CV,c2];rfl
 have t1:BK (eOp oGt (Ab 5) (eC (.int 0))) [some (Ak false 2 bs),some (.int w),some (.ref 0),some (.int p.1),some (.int p.2),some (.int (GX bs w p.1))] [some (acc.map Ai)]=some (decide (0<GX bs w p.1),[some (acc.map Ai)]):=rfl
 have a1:=Us (r:=[some (Ak false 2 bs),some (.int w),some (.ref 0),some (.int p.1),some (.int p.2),some (.int (GX bs w p.1))]) (j:=2) (a:=BZ (Aa (Ab 3) (Aa (Ab 4) (Aa (Ab 5) Ae)))) (d:=Ai (p.1,p.2,GX bs w p.1)) (L:=acc.map Ai) rfl rfl (by rw[U0j];exact hl)
 unfold Ia
 rw[BW s1]
 unfold Im
 by_cases h:0<GX bs w p.1
 .rw[Ig (by rw[t1,decide_eq_true h]),a1,if_pos h,U1b];rfl
 .rw[GK (by rw[t1,decide_eq_false h]),if_neg h];rfl
theorem Nq(bs:List (List St2))(w:Nat):∀(l:List St2)(acc:List Tr3),(l.foldl (Im bs w) acc).length<=acc.length+l.length
 |[],acc=>by simp
 |p::r,acc=>by
  have h1:=Nq bs w r (Im bs w acc p)
  have h2:(Im bs w acc p).length<=acc.length+1:=by unfold Im;split<;>simp
  simp only[U1v,U0i];omega
theorem X3{bs:List (List St2)}(g:Good 2 bs){w:Nat}(hw:w<2):Cv [Ak false 2 bs,.int w]=some (.lst true ((((steps (CP bs w (U0h bs.length))).foldl (Im bs w) []).foldl Bp []).map Ai)):=by
 have few:=g.few
 have h1:=fX (bs:=bs) (w:=w) (fun b hb=>by rw[(g.box b hb).1];exact hw) few
 have hE:(steps (CP bs w (U0h bs.length))).length<=1000:=by
  have a:=Ms (CP bs w (U0h bs.length))
  have b:=Je ((U0h bs.length).map (fun i=>(at1 bs i w).1)++(U0h bs.length).map fun i=>(at1 bs i w).2)
  rw[U0n,U0j,U0j,U24] at b
  unfold CP at a ⊢
  omega
 generalize steps (CP bs w (U0h bs.length))=E at *
 have s1:=eG g (r:=[some (Ak false 2 bs),some (.int w),none,none,none,none]) (a:=eC (.int 2)) rfl rfl
 have s2:(Fb (BR Ew (Aa (Ab 0) (Aa (Ab 1) Ae)))) [some (Ak false 2 bs),some (.int w),none,none,none,none] []=some (.nx,[some (Ak false 2 bs),some (.int w),none,none,none,none],[]):=by
  rw[Gm,DR (ds:=[Ak false 2 bs,.int w]) (es:=[Ak false 2 bs,.int w]) (S':=[]) rfl (by simp[Ax,BX,Ak]) (by simp[Bq,age,Ak]) (Sg hw)];rfl
 have s3:(Bj 2 (G5 Ae)) [some (Ak false 2 bs),some (.int w),none,none,none,none] []=some (.nx,[some (Ak false 2 bs),some (.int w),some (.ref 0),none,none,none],[some []]):=rfl
 have l1:∃z3 z4 z5,Jw [some (Ak false 2 bs),some (.int w),some (.ref 0),none,none,none] [some []]=some (.nx,[some (Ak false 2 bs),some (.int w),some (.ref 0),z3,z4,z5],[some ((E.foldl (Im bs w) []).map Ai)]):=by
  have c1:BR Cy (Aa (eOp oIx (Ab 0) (eC (.int 1))) (Aa (Ab 1) Ae)) [some (Ak false 2 bs),some (.int w),some (.ref 0),none,none,none] [some []]=some (.lst true (E.map Aq),[some []]) :=
   DR (ds:=[.lst false (bs.map Af),.int w]) (es:=[.lst false (bs.map Af),.int w]) rfl (by simp[Ax,BX]) (by simp[Bq,age]) h1
  have e:Dp (BR Cy (Aa (eOp oIx (Ab 0) (eC (.int 1))) (Aa (Ab 1) Ae))) [some (Ak false 2 bs),some (.int w),some (.ref 0),none,none,none] [some []]=some ((E.map Aq,[]),[some []]):=by
   rw[Fq,c1];rfl
  unfold Jw
  rw[Fp,e]
  obtain⟨env',S',e2,z3,z4,z5,he,hS⟩:=Eo (w:=[]) (g:=Pat.sem (.tp [(.nm 3),(.nm 4)])) (b:=Ia) (ds:=E.map Aq) (env:=[some (Ak false 2 bs),some (.int w),some (.ref 0),none,none,none]) (S:=[some []])
   (fun i env S=>∃z3 z4 z5,env=[some (Ak false 2 bs),some (.int w),some (.ref 0),z3,z4,z5]/\S=[some (((E.take i).foldl (Im bs w) []).map Ai)])
   ⟨none,none,none,rfl,rfl⟩ (fun i env S _=>by simp) (fun i d env S hd q=>by
    obtain⟨z3,z4,z5,he,hS⟩:=q
    subst he hS
    rw[U0y] at hd
    obtain⟨p,hp,rfl⟩:=U2t.mp hd
    have:=Nq bs w (E.take i) []
    rw[U19,U1a] at this
    refine⟨[some (Ak false 2 bs),some (.int w),some (.ref 0),some (.int p.1),some (.int p.2),z5],by simp[DN,Iv,Gs,Fv,-U0d,-U0e,Aq],_,_,jA g hw _ (by omega) p z5,_,_,_,rfl,?_⟩
    rw[U4k,hp,U50,U3z]
    rfl)
  subst he hS
  refine⟨z3,z4,z5,e2.trans ?_⟩
  have:(E.map Aq).length=E.length:=by simp
  rw[this,U3p]
 obtain⟨z3,z4,z5,l1⟩:=l1
 have h5:=Nq bs w E []
 rw[U1a] at h5
 generalize E.foldl (Im bs w) []=k at *
 have hp:∀k:List Tr3,Ax (k.map Ai)=true:=fun k=>Bo (Io k)
 have c5:BR FQ (Aa (Ab 2) Ae) [some (Ak false 2 bs),some (.int w),some (.ref 0),z3,z4,z5] [some (k.map Ai)]=some (.lst true ((k.foldl Bp []).map Ai),[some (k.map Ai)]) :=
  j6 (ds:=[.ref 0]) (es:=[.lst true (k.map Ai)]) (fs:=[.lst false (k.map Ai)]) rfl (by simp[Cw,VS.den,Ca _ _ (hp k),hp k]) (by simp[Bq,age,Hv (Io k)]) (mO k (by omega)) (by simp[newD,Mw (Io _)])
 unfold Cv
 rw[Dc]
 simp only[U0i,U1a,U0m,U1e,U14,U15,U0s,U1c,U2d,U11,if_true]
 unfold PB
 rw[BW s1,BW s2,BW s3,BW l1,Ck,c5]
 show den 0 _ (.lst true _)=_
 rw[den,Ca 0 _ (hp _)];rfl
end W14
end
section
namespace W14
open PySem L2 VS
theorem Rz{acc:List Int}{i:Nat}(hi:i<acc.length):atI (acc.map D.int) (i:Int)=some (.int (acc.getD i 0)):=by
 refine Kh ?_
 rw[U0y,U0g hi,U0k,U0g hi];rfl
theorem Tt{mss:List (List Int)}{w:Nat}(hw:w<mss.length):atI (mss.map encJ) (w:Int)=some (encJ (mss.getD w [])):=by
 refine Kh ?_
 rw[U0y,U0g hw,U0k,U0g hw];rfl
theorem zQ(a b c d:Int):U6o (.tuple [.int a,.int b]) (.tuple [.int c,.int d])=decide (a=c/\b=d):=by
 rw[U26]
 simp[U6o,PyData.eqvAll]
theorem vd(S:Store)(a b c d:Int):oEq false S (.tup [.int a,.int b]) (.tup [.int c,.int d])=some (.bl (decide (a=c/\b=d))):=by
 have h:∀a b:Int,Cp S (.tup [.int a,.int b])=some (.tuple [.int a,.int b]):=fun a b=>by simp[Cp,VS.den,Cw,toP,Gq]
 show eqP false S _ _=_
 unfold eqP
 rw[h,h]
 simp only[U0b]
 rw[Ny (k:=1) (by simp[lev]) (by decide),Ny (k:=1) (by simp[lev]) (by decide),zQ]
 simp
def spot(w k j:Nat):List Nat:=if w=0 then [k,j] else [j,k]
def mk2(mss:List (List Int))(w:Nat):List Int:=mss.getD w []
def PN(sm:List (List St2))(mss:List (List Int))(w k:Nat)(z:Int)(j:Nat):Int:=if Fe sm (spot w k j)=[] then z else z+(mk2 mss (1-w)).getD (j+1) 0-(mk2 mss (1-w)).getD j 0
abbrev dv(sm:List (List St2))(mss:List (List Int))(w k:Nat)(z:Int)(z6 z7 z8 z9 z10:Option D):VS.Env:=[some (.lst false (sm.map Af)),some (.lst false (mss.map encJ)),some (.int w),some (.ref 0),some (.int k),some (.int z),z6,z7,z8,z9,z10]
theorem mR(s:List Nat):age (Dz s)=Dz s:=by
 unfold Dz
 rw[age,show(s.map fun(k:Nat)=>D.int k)=(s.map fun(k:Nat)=>(k:Int)).map D.int by rw[U0d];rfl,Pn]
theorem YS{sm:List (List St2)}{mss:List (List Int)}{w:Nat}(hw:w<2)(hm:mss.length=2)(k:Nat)(z:Int)(z6 z7 z8 z9 z10:Option D)(S:Store):eOp oIx (Ab 1) (eOp Dy (eC (.int 1)) (Ab 2)) (dv sm mss w k z z6 z7 z8 z9 z10) S=some (encJ (mk2 mss (1-w)),S):=by
 have i0:eOp Dy (eC (.int 1)) (Ab 2) (dv sm mss w k z z6 z7 z8 z9 z10) S=some (.int (1-w:Nat),S):=by
  rw[show((1-w:Nat):Int)=1-(w:Int) by omega];rfl
 have v1:Ab 1 (dv sm mss w k z z6 z7 z8 z9 z10) S=some (.lst false (mss.map encJ),S):=rfl
 rw[BJ,v1,U0b,i0,U0b]
 show U17 _ (atI (mss.map encJ) ((1-w:Nat):Int))=_
 rw[Tt (by omega)];rfl
theorem vo{sm:List (List St2)}{mss:List (List Int)}{w:Nat}(hw:w<2)(hm:mss.length=2)(h20:sm.length<=20)(hb:∀b∈sm,b.length<=3)(k j:Nat)(hj:j+1<(mk2 mss (1-w)).length)(z:Int)(z7 z8 z9 z10:Option D)(S:Store):∃y7 y8,
  O1 (dv sm mss w k z (some (.int j)) z7 z8 z9 z10) S=some (.nx,dv sm mss w k (PN sm mss w k z j) (some (.int j)) y7 y8 z9 z10,S):=by
 have s1:(Bj 7 (eOp oIx (Bt (Aa (BZ (Aa (Ab 4) (Aa (Ab 6) Ae))) (Aa (BZ (Aa (Ab 6) (Aa (Ab 4) Ae))) Ae))) (Ab 2))) (dv sm mss w k z (some (.int j)) z7 z8 z9 z10) S=some (.nx,dv sm mss w k z (some (.int j)) (some (Dz (spot w k j))) z8 z9 z10,S):=by
  have f1:Bt (Aa (BZ (Aa (Ab 4) (Aa (Ab 6) Ae))) (Aa (BZ (Aa (Ab 6) (Aa (Ab 4) Ae))) Ae)) (dv sm mss w k z (some (.int j)) z7 z8 z9 z10) S=some (.lst true [Dz [k,j],Dz [j,k]],S):=rfl
  have f2:Ab 2 (dv sm mss w k z (some (.int j)) z7 z8 z9 z10) S=some (.int w,S):=rfl
  have f3:atI [Dz [k,j],Dz [j,k]] (w:Int)=some (Dz (spot w k j)):=by
   match w,hw with
   |0,_=>exact nH _ _
   |1,_=>exact yQ _ _ _
  rw[CV,BJ,f1,U0b,f2,U0b]
  show U61 (U17 _ (atI [Dz [k,j],Dz [j,k]] (w:Int))) _=_
  rw[f3];rfl
 have c1:BR Ge (Aa (Ab 0) (Aa (Ab 7) Ae)) (dv sm mss w k z (some (.int j)) (some (Dz (spot w k j))) z8 z9 z10) S=some (.lst true ((Fe sm (spot w k j)).map fun(i:Nat)=>D.int i),S) :=
  DR (ds:=[.lst false (sm.map Af),Dz (spot w k j)]) (es:=[.lst false (sm.map Af),Dz (spot w k j)]) rfl (by rw[Ax,BX,Bo (CG sm),Ax,gJ,Ax];rfl) (by rw[Bq,age,Hv (CG sm),Bq,mR,Bq]) (qY sm h20 hb (spot w k j))
 have t1:BK (eOp (oEq true) (BR Ge (Aa (Ab 0) (Aa (Ab 7) Ae))) (Bt Ae)) (dv sm mss w k z (some (.int j)) (some (Dz (spot w k j))) z8 z9 z10) S=some (!(Fe sm (spot w k j)).isEmpty,S):=by
  have q:eqP true S (.lst true ((Fe sm (spot w k j)).map fun(i:Nat)=>D.int i)) (.lst true [])=some (.bl (!(Fe sm (spot w k j)).isEmpty)):=by
   rw[show((Fe sm (spot w k j)).map fun(i:Nat)=>D.int i)=((Fe sm (spot w k j)).map fun(i:Nat)=>(i:Int)).map D.int by rw[U0d];rfl,Vt 1 (WK S true _) (Yd _) (by decide)]
   simp
  rw[Cq,BJ,c1,U0b]
  show(U17 _ (eqP true S (.lst true ((Fe sm (spot w k j)).map fun(i:Nat)=>D.int i)) (.lst true []))).bind _=_
  rw[q];rfl
 unfold O1
 rw[BW s1]
 unfold PN
 by_cases h:Fe sm (spot w k j)=[]
 .refine⟨some (Dz (spot w k j)),z8,?_⟩
  rw[GK (by rw[t1,h];rfl),if_pos h];rfl
 .refine⟨some (Dz (spot w k j)),some (encJ (mk2 mss (1-w))),?_⟩
  rw[Ig (by
   rw[t1]
   cases q:Fe sm (spot w k j) with
   |nil=>exact absurd q h
   |cons a r=>rfl),if_neg h]
  have s2:(Bj 8 (eOp oIx (Ab 1) (eOp Dy (eC (.int 1)) (Ab 2)))) (dv sm mss w k z (some (.int j)) (some (Dz (spot w k j))) z8 z9 z10) S=some (.nx,dv sm mss w k z (some (.int j)) (some (Dz (spot w k j))) (some (encJ (mk2 mss (1-w)))) z9 z10,S):=by
   rw[CV,YS hw hm];rfl
  rw[BW s2]
  generalize mk2 mss (1-w)=M at *
  have v8:Ab 8 (dv sm mss w k z (some (.int j)) (some (Dz (spot w k j))) (some (encJ M)) z9 z10) S=some (encJ M,S):=rfl
  have i1:eOp oIx (Ab 8) (eOp Dd (Ab 6) (eC (.int 1))) (dv sm mss w k z (some (.int j)) (some (Dz (spot w k j))) (some (encJ M)) z9 z10) S=some (.int (M.getD (j+1) 0),S):=by
   rw[BJ,v8,U0b]
   show U17 _ (atI (M.map D.int) ((j+1:Nat):Int))=_
   rw[Rz hj];rfl
  have i2:eOp oIx (Ab 8) (Ab 6) (dv sm mss w k z (some (.int j)) (some (Dz (spot w k j))) (some (encJ M)) z9 z10) S=some (.int (M.getD j 0),S):=by
   rw[BJ,v8,U0b]
   show U17 _ (atI (M.map D.int) (j:Int))=_
   rw[Rz (by omega)];rfl
  have v5:Ab 5 (dv sm mss w k z (some (.int j)) (some (Dz (spot w k j))) (some (encJ M)) z9 z10) S=some (.int z,S):=rfl
  have a1:eOp Dy (eOp Dd (Ab 5) (eOp oIx (Ab 8) (eOp Dd (Ab 6) (eC (.int 1))))) (eOp oIx (Ab 8) (Ab 6)) (dv sm mss w k z (some (.int j)) (some (Dz (spot w k j))) (some (encJ M)) z9 z10) S=some (.int (z+M.getD (j+1) 0-M.getD j 0),S):=by
   rw[BJ,BJ,v5,U0b,i1,U0b]
   show((some (D.int (z+M.getD (j+1) 0),S):Option (D×Store)).bind _)=_
   rw[U0b,i2];rfl
  rw[CV,a1];rfl
def Lr(sm:List (List St2))(mss:List (List Int))(w k:Nat):Int:=(U0h ((mk2 mss (1-w)).length-1)).foldl (PN sm mss w k) 0
theorem vh{sm:List (List St2)}{mss:List (List Int)}{w:Nat}(hw:w<2)(hm:mss.length=2)(hx:1<=(mk2 mss (1-w)).length/\(mk2 mss (1-w)).length<=1000)(h20:sm.length<=20)(hb:∀b∈sm,b.length<=3)(k:Nat)(z6 z7 z8 z9 z10:Option D)(S:Store):∃y6 y7 y8,
  Ql (dv sm mss w k 0 z6 z7 z8 z9 z10) S=some (.nx,dv sm mss w k (Lr sm mss w k) y6 y7 y8 z9 z10,S):=by
 have e:Ej (Aa (eOp Dy (eCB Ef (Aa (eOp oIx (Ab 1) (eOp Dy (eC (.int 1)) (Ab 2))) Ae)) (eC (.int 1))) Ae) (dv sm mss w k 0 z6 z7 z8 z9 z10) S=some ((upD 0 ((mk2 mss (1-w)).length-1),[]),S):=by
  refine LC (j:=((mk2 mss (1-w)).length:Int)-1) _ ?_ (by omega) (by omega) (by omega)
  rw[Am,BJ,Fg,Am,YS hw hm]
  show some ([D.int ((((mk2 mss (1-w)).map D.int).length:Nat)-1)],S)=_
  rw[U0j]
 unfold Ql
 rw[Fp,e]
 obtain⟨env',S',e2,hS,y6,y7,y8,he⟩:=Eo (w:=[]) (g:=Pat.sem (.nm 6)) (b:=O1) (ds:=upD 0 ((mk2 mss (1-w)).length-1)) (env:=dv sm mss w k 0 z6 z7 z8 z9 z10) (S:=S)
  (fun i env T=>T=S/\∃y6 y7 y8,env=dv sm mss w k ((U0h i).foldl (PN sm mss w k) 0) y6 y7 y8 z9 z10) ⟨rfl,z6,z7,z8,rfl⟩ (fun i env S _=>by simp) (fun i d env T hd q=>by
   obtain⟨hT,y6,y7,y8,he⟩:=q
   subst hT he
   obtain⟨hi,rfl⟩:=Ls hd
   obtain⟨w7,w8,b1⟩:=vo hw hm h20 hb k i (by omega) ((U0h i).foldl (PN sm mss w k) 0) y7 y8 z9 z10 T
   refine⟨dv sm mss w k ((U0h i).foldl (PN sm mss w k) 0) (some (.int i)) y7 y8 z9 z10,by rw[DN,U5z];rfl,_,_,b1,rfl,some (.int i),w7,w8,?_⟩
   rw[U7o,U3z];rfl)
 subst hS he
 rw[Ke] at e2
 exact⟨y6,y7,y8,e2⟩
end W14
end
section
namespace W14
open PySem L2 VS
def K3(sm:List (List St2))(mss:List (List Int))(w:Nat)(acc:List Tr3)(k:Nat):List Tr3:=if 0<Lr sm mss w k then Bp acc ((mk2 mss w).getD k 0,(mk2 mss w).getD (k+1) 0,Lr sm mss w k) else acc
theorem uF{sm:List (List St2)}{mss:List (List Int)}{w:Nat}(hw:w<2)(hm:mss.length=2)(k:Nat)(z:Int)(z6 z7 z8 z9 z10:Option D)(S:Store):eOp oIx (Ab 1) (Ab 2) (dv sm mss w k z z6 z7 z8 z9 z10) S=some (encJ (mk2 mss w),S):=by
 have v1:Ab 1 (dv sm mss w k z z6 z7 z8 z9 z10) S=some (.lst false (mss.map encJ),S):=rfl
 rw[BJ,v1,U0b]
 show U17 _ (atI (mss.map encJ) (w:Int))=_
 rw[Tt (by omega)];rfl
theorem wC{sm:List (List St2)}{mss:List (List Int)}{w:Nat}(k:Nat)(z lo hi:Int)(z6 z7 z8:Option D)(acc:List Tr3)(hl:acc.length<1000000)(hp:∀q∈acc,0<q.2.2):∃y9,
  (Bm (sIf (G4 (BK (eOp (oEq true) (Ab 3) (Bt Ae))) (BK (eOp (oEq false) (eSl oSl (eOp oIx (Ab 3) (eUn Em (eC (.int 1)))) (GD (eC (.int 1))) GF) (BZ (Aa (Ab 9) (Aa (Ab 5) Ae)))))) (Bj 9 (eOp oIx (Dt Px (Ab 3) Ae) (eC (.int 0)))) Dh)
   (sIf (BK (eOp oGt (Ab 5) (eC (.int 0)))) (Fb (Dt Ed (Ab 3) (Aa (BZ (Aa (Ab 9) (Aa (Ab 10) (Aa (Ab 5) Ae)))) Ae))) Dh))
   (dv sm mss w k z z6 z7 z8 (some (.int lo)) (some (.int hi))) [some (acc.map Ai)]=some (.nx,dv sm mss w k z z6 z7 z8 y9 (some (.int hi)),[some ((if 0<z then Bp acc (lo,hi,z) else acc).map Ai)]):=by
 have t5:∀(v:Int)(L:List D),BK (eOp oGt (Ab 5) (eC (.int 0))) (dv sm mss w k z z6 z7 z8 (some (.int v)) (some (.int hi))) [some L]=some (decide (0<z),[some L]):=fun v L=>rfl
 have add:∀(v:Int)(L:List D),L.length<1000000->(Fb (Dt Ed (Ab 3) (Aa (BZ (Aa (Ab 9) (Aa (Ab 10) (Aa (Ab 5) Ae)))) Ae))) (dv sm mss w k z z6 z7 z8 (some (.int v)) (some (.int hi))) [some L]=some (.nx,dv sm mss w k z z6 z7 z8 (some (.int v)) (some (.int hi)),[some (L++[Ai (v,hi,z)])]):=fun v L h=>Us (j:=3) rfl rfl h
 have last:∀(v:Int)(L:List D),L.length<1000000->sIf (BK (eOp oGt (Ab 5) (eC (.int 0)))) (Fb (Dt Ed (Ab 3) (Aa (BZ (Aa (Ab 9) (Aa (Ab 10) (Aa (Ab 5) Ae)))) Ae))) Dh (dv sm mss w k z z6 z7 z8 (some (.int v)) (some (.int hi))) [some L]=some (.nx,dv sm mss w k z z6 z7 z8 (some (.int v)) (some (.int hi)),[some (if 0<z then L++[Ai (v,hi,z)] else L)]):=fun v L h=>by
  by_cases hz:0<z
  .rw[Ig (by rw[t5,decide_eq_true hz]),if_pos hz];exact add v L h
  .rw[GK (by rw[t5,decide_eq_false hz]),if_neg hz];rfl
 have sq:∀(d:D)(L:List D)(l:List PyData),Cp [some L] (.ref 0)=some (.list l)->lev 2 (.list l)=true->BK (eOp (oEq true) (Ab 3) (Bt Ae)) (dv sm mss w k z z6 z7 z8 (some (.int lo)) (some (.int hi))) [some L]=some (!l.isEmpty,[some L]):=fun d L l h1 h2=>by
  have q:eqP true [some L] (.ref 0) (.lst true [])=some (.bl (true ^^ l.isEmpty)):=Vt 2 h1 h2 (by decide)
  rw[Cq]
  show(U17 _ (eqP true [some L] (.ref 0) (.lst true []))).bind _=_
  rw[q,Bool.true_xor];rfl
 have see:∀acc:List Tr3,Cp [some (acc.map Ai)] (.ref 0)=some (.list (acc.map fun q=>.tuple [.int q.1,.int q.2.1,.int q.2.2])):=fun acc=>by
  have h1:Gq (acc.map Ai)=some (acc.map fun q=>.tuple [.int q.1,.int q.2.1,.int q.2.2]):=by
   induction acc with
   |nil=>rw[U1e,Gq];rfl
   |cons p r ih=>rw[U0m,Gq,ih];simp[Ai,toP,Gq]
  rw[Cp,den,if_neg (by omega)]
  show((if Ax (acc.map Ai)=true then some (D.lst true (acc.map Ai)) else none).bind toP)=_
  rw[if_pos (Bo (Io acc)),U0b,toP,h1];rfl
 have lev3:∀acc:List Tr3,lev 2 (.list (acc.map fun q=>.tuple [.int q.1,.int q.2.1,.int q.2.2]))=true:=fun acc=>by
  rw[lev,U6r,U3]
  exact fun p _=>by simp[lev]
 have t1:=sq .non (acc.map Ai) _ (see acc) (lev3 acc)
 rcases U4 acc with rfl|⟨l,q,rfl⟩
 .refine⟨some (.int lo),?_⟩
  have s1:(sIf (G4 (BK (eOp (oEq true) (Ab 3) (Bt Ae))) (BK (eOp (oEq false) (eSl oSl (eOp oIx (Ab 3) (eUn Em (eC (.int 1)))) (GD (eC (.int 1))) GF) (BZ (Aa (Ab 9) (Aa (Ab 5) Ae)))))) (Bj 9 (eOp oIx (Dt Px (Ab 3) Ae) (eC (.int 0)))) Dh) (dv sm mss w k z z6 z7 z8 (some (.int lo)) (some (.int hi))) [some (U7y Ai [])]=some (.nx,dv sm mss w k z z6 z7 z8 (some (.int lo)) (some (.int hi)),[some (U7y Ai [])]):=by
   rw[GK (by rw[Kf,t1];rfl)];rfl
  rw[BW s1,last lo _ (by simp)]
  by_cases hz:0<z
  .rw[if_pos hz,if_pos hz];rfl
  .rw[if_neg hz,if_neg hz]
 .rw[U4a] at *
  have hq:=hp q (by simp)
  have hll:l.length<1000000:=by rw[U0n] at hl;omega
  rw[U1b] at *
  have v3:Ab 3 (dv sm mss w k z z6 z7 z8 (some (.int lo)) (some (.int hi))) [some (l.map Ai++[Ai q])]=some (.ref 0,[some (l.map Ai++[Ai q])]):=rfl
  have la:eOp oIx (Ab 3) (eUn Em (eC (.int 1))) (dv sm mss w k z z6 z7 z8 (some (.int lo)) (some (.int hi))) [some (l.map Ai++[Ai q])]=some (Ai q,[some (l.map Ai++[Ai q])]):=by
   rw[BJ,v3,U0b]
   show U17 _ (atI (l.map Ai++[Ai q]) (-1))=_
   rw[Qh];rfl
  have t2:BK (eOp (oEq false) (eSl oSl (eOp oIx (Ab 3) (eUn Em (eC (.int 1)))) (GD (eC (.int 1))) GF) (BZ (Aa (Ab 9) (Aa (Ab 5) Ae)))) (dv sm mss w k z z6 z7 z8 (some (.int lo)) (some (.int hi))) [some (l.map Ai++[Ai q])]=some (decide (q.2.1=lo/\q.2.2=z),[some (l.map Ai++[Ai q])]):=by
   have c:cut [D.int q.1,.int q.2.1,.int q.2.2] (some 1) none=[.int q.2.1,.int q.2.2]:=by
    rw[show(1:Int)=((1:Nat):Int) from rfl,Tp (by decide) (by simp)];rfl
   have e1:eSl oSl (eOp oIx (Ab 3) (eUn Em (eC (.int 1)))) (GD (eC (.int 1))) GF (dv sm mss w k z z6 z7 z8 (some (.int lo)) (some (.int hi))) [some (l.map Ai++[Ai q])]=some (.tup [.int q.2.1,.int q.2.2],[some (l.map Ai++[Ai q])]):=by
    rw[Uq,la]
    show(some (D.tup (cut [D.int q.1,.int q.2.1,.int q.2.2] (some 1) none),[some (l.map Ai++[Ai q])]):Option (D×Store))=_
    rw[c]
   have tu:BZ (Aa (Ab 9) (Aa (Ab 5) Ae)) (dv sm mss w k z z6 z7 z8 (some (.int lo)) (some (.int hi))) [some (l.map Ai++[Ai q])]=some (.tup [.int lo,.int z],[some (l.map Ai++[Ai q])]):=rfl
   rw[Cq,BJ,e1,U0b,tu,U0b,vd];rfl
  have tt:G4 (BK (eOp (oEq true) (Ab 3) (Bt Ae))) (BK (eOp (oEq false) (eSl oSl (eOp oIx (Ab 3) (eUn Em (eC (.int 1)))) (GD (eC (.int 1))) GF) (BZ (Aa (Ab 9) (Aa (Ab 5) Ae))))) (dv sm mss w k z z6 z7 z8 (some (.int lo)) (some (.int hi))) [some (l.map Ai++[q].map Ai)]=some (decide (q.2.1=lo/\q.2.2=z),[some (l.map Ai++[q].map Ai)]):=by
   rw[Kf,t1]
   have:(!(U7y (fun q:Tr3=>PyData.tuple [.int q.1,.int q.2.1,.int q.2.2]) (l++[q])).isEmpty)=true:=by simp
   rw[this]
   exact t2
  have js:Bp (l++[q]) (lo,hi,z)=if q.2.1=lo/\q.2.2=z then l++[(q.1,hi,z)] else l++[q]++[(lo,hi,z)]:=by
   unfold Bp
   rw[U3x]
   show(if q.2.1=lo/\q.2.2=z then (l++[q]).dropLast++[(q.1,hi,z)] else _)=_
   rw[U3y]
  by_cases h:q.2.1=lo/\q.2.2=z
  .refine⟨some (.int q.1),?_⟩
   have s1:(sIf (G4 (BK (eOp (oEq true) (Ab 3) (Bt Ae))) (BK (eOp (oEq false) (eSl oSl (eOp oIx (Ab 3) (eUn Em (eC (.int 1)))) (GD (eC (.int 1))) GF) (BZ (Aa (Ab 9) (Aa (Ab 5) Ae)))))) (Bj 9 (eOp oIx (Dt Px (Ab 3) Ae) (eC (.int 0)))) Dh) (dv sm mss w k z z6 z7 z8 (some (.int lo)) (some (.int hi))) [some (l.map Ai++[q].map Ai)]=some (.nx,dv sm mss w k z z6 z7 z8 (some (.int q.1)) (some (.int hi)),[some (l.map Ai)]):=by
    have pp:Dt Px (Ab 3) Ae (dv sm mss w k z z6 z7 z8 (some (.int lo)) (some (.int hi))) [some (l.map Ai++[Ai q])]=some (Ai q,[some (l.map Ai)]):=by
     rw[J5 (d:=.ref 0) (cs:=l.map Ai++[Ai q]) (ds:=[]) (r:=Ai q) (S1:=[some (l.map Ai++[Ai q])]) (S2:=[some (l.map Ai++[Ai q])]) (S3:=[some (l.map Ai)]) rfl rfl rfl (by simp[Px])]
    rw[Ig (by rw[tt,decide_eq_true h]),CV,BJ]
    show U61 (U61 (Dt Px (Ab 3) Ae (dv sm mss w k z z6 z7 z8 (some (.int lo)) (some (.int hi))) [some (l.map Ai++[Ai q])]) _) _=_
    rw[pp]
    simp[CT,oIx,VS.listOf,Br,-U0d,-U0e,Ai]
   have hz:0<z:=by rw[←h.2];exact hq
   rw[BW s1,last q.1 _ (by rw[U0j];exact hll),if_pos hz,if_pos hz,js,if_pos h,U1b];rfl
  .refine⟨some (.int lo),?_⟩
   have s1:(sIf (G4 (BK (eOp (oEq true) (Ab 3) (Bt Ae))) (BK (eOp (oEq false) (eSl oSl (eOp oIx (Ab 3) (eUn Em (eC (.int 1)))) (GD (eC (.int 1))) GF) (BZ (Aa (Ab 9) (Aa (Ab 5) Ae)))))) (Bj 9 (eOp oIx (Dt Px (Ab 3) Ae) (eC (.int 0)))) Dh) (dv sm mss w k z z6 z7 z8 (some (.int lo)) (some (.int hi))) [some (l.map Ai++[q].map Ai)]=some (.nx,dv sm mss w k z z6 z7 z8 (some (.int lo)) (some (.int hi)),[some (l.map Ai++[q].map Ai)]):=by
    rw[GK (by rw[tt,decide_eq_false h])];rfl
   rw[BW s1,last lo _ (by rw[U0n,U0j] at *;simpa using hl),js,if_neg h]
   by_cases hz:0<z
   .rw[if_pos hz,if_pos hz,U1b,U1b];rfl
   .rw[if_neg hz,if_neg hz,U1b]
end W14
end
section
namespace W14
open PySem L2 VS
theorem vm{sm:List (List St2)}{mss:List (List Int)}{w:Nat}(hw:w<2)(hm:mss.length=2)(hx:∀v,v<2->1<=(mk2 mss v).length/\(mk2 mss v).length<=1000)(h20:sm.length<=20)(hb:∀b∈sm,b.length<=3)(k:Nat)(hk:k+1<(mk2 mss w).length)(acc:List Tr3)(hl:acc.length<1000000)(hp:∀q∈acc,0<q.2.2)(z5 z6 z7 z8 z9 z10:Option D):∃y5 y6 y7 y8 y9 y10,
  Nz [some (.lst false (sm.map Af)),some (.lst false (mss.map encJ)),some (.int w),some (.ref 0),some (.int k),z5,z6,z7,z8,z9,z10] [some (acc.map Ai)]=some (.nx,[some (.lst false (sm.map Af)),some (.lst false (mss.map encJ)),some (.int w),some (.ref 0),some (.int k),y5,y6,y7,y8,y9,y10],[some ((K3 sm mss w acc k).map Ai)]):=by
 have s1:(Bj 5 (eC (.int 0))) [some (.lst false (sm.map Af)),some (.lst false (mss.map encJ)),some (.int w),some (.ref 0),some (.int k),z5,z6,z7,z8,z9,z10] [some (acc.map Ai)]=some (.nx,dv sm mss w k 0 z6 z7 z8 z9 z10,[some (acc.map Ai)]):=rfl
 obtain⟨y6,y7,y8,l1⟩:=vh hw hm (hx (1-w) (by omega)) h20 hb k z6 z7 z8 z9 z10 [some (acc.map Ai)]
 have s3:(bR 9 10 (Aa (eOp oIx (eOp oIx (Ab 1) (Ab 2)) (Ab 4)) (Aa (eOp oIx (eOp oIx (Ab 1) (Ab 2)) (eOp Dd (Ab 4) (eC (.int 1)))) Ae))) (dv sm mss w k (Lr sm mss w k) y6 y7 y8 z9 z10) [some (acc.map Ai)]=some (.nx,dv sm mss w k (Lr sm mss w k) y6 y7 y8 (some (.int ((mk2 mss w).getD k 0))) (some (.int ((mk2 mss w).getD (k+1) 0))),[some (acc.map Ai)]):=by
  have wa:=fun S=>uF (sm:=sm) hw hm k (Lr sm mss w k) y6 y7 y8 z9 z10 S
  generalize mk2 mss w=M at *
  have i1:eOp oIx (eOp oIx (Ab 1) (Ab 2)) (Ab 4) (dv sm mss w k (Lr sm mss w k) y6 y7 y8 z9 z10) [some (acc.map Ai)]=some (.int (M.getD k 0),[some (acc.map Ai)]):=by
   rw[BJ,wa,U0b]
   show U17 _ (atI (M.map D.int) (k:Int))=_
   rw[Rz (by omega)];rfl
  have i2:eOp oIx (eOp oIx (Ab 1) (Ab 2)) (eOp Dd (Ab 4) (eC (.int 1))) (dv sm mss w k (Lr sm mss w k) y6 y7 y8 z9 z10) [some (acc.map Ai)]=some (.int (M.getD (k+1) 0),[some (acc.map Ai)]):=by
   rw[BJ,wa,U0b]
   show U17 _ (atI (M.map D.int) ((k+1:Nat):Int))=_
   rw[Rz hk];rfl
  rw[oN,Am,i1,U0b,Am,i2];rfl
 obtain⟨y9,s4⟩:=wC (sm:=sm) (mss:=mss) (w:=w) k (Lr sm mss w k) ((mk2 mss w).getD k 0) ((mk2 mss w).getD (k+1) 0) y6 y7 y8 acc hl hp
 refine⟨some (.int (Lr sm mss w k)),y6,y7,y8,y9,some (.int ((mk2 mss w).getD (k+1) 0)),?_⟩
 unfold Nz
 rw[BW s1,BW l1,BW s3]
 exact s4
theorem iI{acc:List Tr3}{p:Tr3}(h:∀q∈acc,0<q.2.2)(hp:0<p.2.2):∀q∈Bp acc p,0<q.2.2:=fun q hq=>by
 unfold Bp at hq
 split at hq
 .split at hq
  .rcases U1k.mp hq with z|z
   .exact h q (List.dropLast_subset _ z)
   .rw[U03.mp z];exact hp
  .rcases U1k.mp hq with z|z
   .exact h q z
   .rw[U03.mp z];exact hp
 .rcases U1k.mp hq with z|z
  .exact h q z
  .rw[U03.mp z];exact hp
theorem dF(acc:List Tr3)(p:Tr3):(Bp acc p).length<=acc.length+1:=by
 unfold Bp
 split
 .split
  .rw[U0n,U5];simp
  .simp
 .simp
theorem vg{sm:List (List St2)}{mss:List (List Int)}{w:Nat}(hw:w<2)(hm:mss.length=2)(hx:∀v,v<2->1<=(mk2 mss v).length/\(mk2 mss v).length<=1000)(h20:sm.length<=20)(hb:∀b∈sm,b.length<=3):IV [.lst false (sm.map Af),.lst false (mss.map encJ),.int w]=some (.lst true (((U0h ((mk2 mss w).length-1)).foldl (K3 sm mss w) []).map Ai)):=by
 have hx1:=hx w hw
 have s1:(Bj 3 (G5 Ae)) [some (.lst false (sm.map Af)),some (.lst false (mss.map encJ)),some (.int w),none,none,none,none,none,none,none,none] []=some (.nx,[some (.lst false (sm.map Af)),some (.lst false (mss.map encJ)),some (.int w),some (.ref 0),none,none,none,none,none,none,none],[some []]):=rfl
 have l2:∃y4 y5 y6 y7 y8 y9 y10,Qk [some (.lst false (sm.map Af)),some (.lst false (mss.map encJ)),some (.int w),some (.ref 0),none,none,none,none,none,none,none] [some []]=some (.nx,[some (.lst false (sm.map Af)),some (.lst false (mss.map encJ)),some (.int w),some (.ref 0),y4,y5,y6,y7,y8,y9,y10],[some (((U0h ((mk2 mss w).length-1)).foldl (K3 sm mss w) []).map Ai)]):=by
  have e:Ej (Aa (eOp Dy (eCB Ef (Aa (eOp oIx (Ab 1) (Ab 2)) Ae)) (eC (.int 1))) Ae) [some (.lst false (sm.map Af)),some (.lst false (mss.map encJ)),some (.int w),some (.ref 0),none,none,none,none,none,none,none] [some []]=some ((upD 0 ((mk2 mss w).length-1),[]),[some []]):=by
   refine LC (j:=((mk2 mss w).length:Int)-1) _ ?_ (by omega) (by omega) (by omega)
   have v1:Ab 1 [some (.lst false (sm.map Af)),some (.lst false (mss.map encJ)),some (.int w),some (.ref 0),none,none,none,none,none,none,none] [some []]=some (.lst false (mss.map encJ),[some []]):=rfl
   have ix:eOp oIx (Ab 1) (Ab 2) [some (.lst false (sm.map Af)),some (.lst false (mss.map encJ)),some (.int w),some (.ref 0),none,none,none,none,none,none,none] [some []]=some (encJ (mk2 mss w),[some []]):=by
    rw[BJ,v1,U0b]
    show U17 _ (atI (mss.map encJ) (w:Int))=_
    rw[Tt (by omega)];rfl
   rw[Am,BJ,Fg,Am,ix]
   show some ([D.int ((((mk2 mss w).map D.int).length:Nat)-1)],_)=_
   rw[U0j]
  unfold Qk
  rw[Fp,e]
  obtain⟨env',S',e2,acc,y4,y5,y6,y7,y8,y9,y10,he,hS,hacc,_,_⟩:=Eo (w:=[]) (g:=Pat.sem (.nm 4)) (b:=Nz) (ds:=upD 0 ((mk2 mss w).length-1)) (env:=[some (.lst false (sm.map Af)),some (.lst false (mss.map encJ)),some (.int w),some (.ref 0),none,none,none,none,none,none,none]) (S:=[some []])
   (fun i env T=>∃(acc:List Tr3)(y4 y5 y6 y7 y8 y9 y10:Option D),env=[some (.lst false (sm.map Af)),some (.lst false (mss.map encJ)),some (.int w),some (.ref 0),y4,y5,y6,y7,y8,y9,y10]/\T=[some (acc.map Ai)]/\acc=(U0h i).foldl (K3 sm mss w) []/\acc.length<=i/\∀q∈acc,0<q.2.2)
   ⟨[],none,none,none,none,none,none,none,rfl,rfl,rfl,U0o _,by simp⟩ (fun i env S _=>by simp) (fun i d env T hd q=>by
    obtain⟨acc,y4,y5,y6,y7,y8,y9,y10,he,hT,ha,hl,hp⟩:=q
    subst he hT
    obtain⟨hi,rfl⟩:=Ls hd
    obtain⟨w5,w6,w7,w8,w9,w10,b2⟩:=vm hw hm hx h20 hb i (by omega) acc (by omega) hp y5 y6 y7 y8 y9 y10
    refine⟨[some (.lst false (sm.map Af)),some (.lst false (mss.map encJ)),some (.int w),some (.ref 0),some (.int i),y5,y6,y7,y8,y9,y10],by rw[DN,U5z];rfl,_,_,b2,K3 sm mss w acc i,some (.int i),w5,w6,w7,w8,w9,w10,rfl,rfl,?_,?_,?_⟩
    .rw[U7o,U3z,←ha];rfl
    .unfold K3
     split
     .have:=dF acc ((mk2 mss w).getD i 0,(mk2 mss w).getD (i+1) 0,Lr sm mss w i);omega
     .omega
    .unfold K3
     split
     .rename_i h0;exact iI hp h0
     .exact hp)
  subst he hS
  rw[Ke] at hacc
  subst hacc
  exact⟨y4,y5,y6,y7,y8,y9,y10,e2⟩
 obtain⟨y4,y5,y6,y7,y8,y9,y10,l2⟩:=l2
 unfold IV
 rw[Dc]
 simp only[U0i,U1a,U0m,U1e,U14,U15,U0s,U1c,U2d,U11,if_true]
 unfold Wg
 rw[BW s1,BW l2]
 generalize (U0h ((mk2 mss w).length-1)).foldl (K3 sm mss w) []=k
 have hp:Ax (k.map Ai)=true:=Bo (Io k)
 have hd:∀(n:Nat)(S:Store),Cw n S (k.map Ai)=some (k.map Ai):=fun n S=>Ca n S hp
 simp[Ck,Aw,den,-U0d,-U0e,hd,hp]
end W14
end
section
namespace W14
open PySem L2 VS
theorem dg{mss:List (List Int)}(h:mss.length=2):mss=[mk2 mss 0,mk2 mss 1]:=by
 match mss,h with
 |[a,b],_=>rfl
theorem pX{mss:List (List Int)}(h:mss.length=2){v:Nat}(hv:v<2):mk2 mss v∈mss:=by
 match mss,h with
 |[a,b],_ =>
  match v,hv with
  |0,_=>exact U0u
  |1,_=>exact U0t _ U0u
theorem o9{mss:List (List Int)}(h:mss.length=2){w k j:Nat}(hw:w<2)(hk:k<(mk2 mss w).length-1)(hj:j<(mk2 mss (1-w)).length-1):spot w k j∈Lz mss:=by
 rw[dg h]
 match w,hw with
 |0,_=>simp[Lz,Vh,spot];exact⟨hk,hj⟩
 |1,_=>simp[Lz,Vh,spot];exact⟨hj,hk⟩
theorem gq{mss:List (List Int)}(h:mss.length=2){w k j:Nat}(hw:w<2):lows (cellOf mss (spot w k j))=if w=0 then [(mk2 mss w).getD k 0,(mk2 mss (1-w)).getD j 0] else [(mk2 mss (1-w)).getD j 0,(mk2 mss w).getD k 0]:=by
 match mss,h with
 |[a,b],_ =>
  match w,hw with
  |0,_=>rfl
  |1,_=>rfl
theorem Vv{b:List St2}(h:b.length=2){w:Nat}(hw:w<2):(b.eraseIdx w).getD 0 (0,0)=b.getD (1-w) (0,0):=by
 match b,h with
 |[p,q],_ =>
  match w,hw with
  |0,_=>rfl
  |1,_=>rfl
theorem j8(bs:List (List St2))(P:List St2->Prop):(∃i∈U0h bs.length,P (bs.getD i []))↔∃b∈bs,P b:=by
 constructor
 .rintro⟨i,hi,h⟩
  have hi:=U1n.mp hi
  refine⟨bs[i],U1s hi,?_⟩
  rwa [U0k,U0g hi] at h
 .rintro⟨b,hb,h⟩
  obtain⟨i,hi,rfl⟩:=U6v hb
  refine⟨i,U1n.mpr hi,?_⟩
  rw[U0k,U0g hi];exact h
theorem mC{m:Nat}{sm:List (List St2)}{mss:List (List Int)}(md:Made 2 m sm mss){w k j:Nat}(hw:w<2)(hk:k<(mk2 mss w).length-1)(hj:j<(mk2 mss (1-w)).length-1):(Fe sm (spot w k j)≠[])↔((HF (sm.map (placed mss)) w ((mk2 mss w).getD k 0)).map fun b=>b.getD 0 (0,0)).any (fun v=>inS v ((mk2 mss (1-w)).getD j 0))=true:=by
 have g:=md.good (.inr (.inl rfl))
 have hl:(sm.map (placed mss)).length=sm.length:=by simp
 rw[qZ md _ (o9 md.len hw hk hj),gq md.len hw,←hl]
 generalize sm.map (placed mss)=bs at *
 generalize (mk2 mss w).getD k 0=x
 generalize (mk2 mss (1-w)).getD j 0=y
 have e:(Rm bs 0 (if w=0 then [x,y] else [y,x]) (U0h bs.length)≠[])↔∃i∈U0h bs.length,inS (at1 bs i w) x=true/\inS (at1 bs i (1-w)) y=true:=by
  rw[RP,Ne,U47]
  match w,hw with
  |0,_=>simp
  |1,_=>simp[and_comm]
 rw[e]
 refine(j8 bs fun b=>inS (b.getD w (0,0)) x=true/\inS (b.getD (1-w) (0,0)) y=true).trans ?_
 rw[U5c]
 constructor
 .rintro⟨b,hb,h1,h2⟩
  have hb2:=(g.box b hb).1
  refine⟨b.getD (1-w) (0,0),U1t.mpr ⟨b.eraseIdx w,U1t.mpr ⟨b,U3k.mpr ⟨hb,?_⟩,rfl⟩,Vv hb2 hw⟩,h2⟩
  exact h1
 .rintro⟨v,hv,h2⟩
  obtain⟨c,hc,rfl⟩:=U1t.mp hv
  obtain⟨b,hb,rfl⟩:=U1t.mp hc
  obtain⟨hb1,hb2⟩:=U3k.mp hb
  refine⟨b,hb1,hb2,?_⟩
  rw[Vv (g.box b hb1).1 hw] at h2
  exact h2
theorem Yo{f:Nat->Int}{c:Nat->Bool}{F:Int->Nat->Int}(hF:∀z j,F z j=if c j then z+f j else z):∀(l:List Nat)(z:Int),l.foldl F z=z+(l.map fun j=>f j*(if c j then 1 else 0)).sum
 |[],z=>by simp
 |j::r,z=>by
  rw[U1v,Yo hF r,U0m,U3o,hF]
  cases c j
  .simp
  .simp only[if_true,U7q];omega
theorem YZ{m:Nat}{sm:List (List St2)}{mss:List (List Int)}(md:Made 2 m sm mss){v:Nat}(hv:v<2):(mk2 mss v).Pairwise (·<·)/\(∀b∈sm.map (placed mss),(b.getD v (0,0)).1∈mk2 mss v/\(b.getD v (0,0)).2∈mk2 mss v)/\∀e∈mk2 mss v,-1000000000<=e/\e<=-1000000000+(2000000000:Nat):=by
 have c:=Wo md 2 0 rfl
 have hl:(sm.map (placed mss)).length=sm.length:=by simp
 rw[U54,←hl] at c
 generalize sm.map (placed mss)=bs at *
 rw[dg md.len] at c
 have key:∀{E:List Int},(∀i∈U0h (bs).length,(at1 (bs) i v).1∈E/\(at1 (bs) i v).2∈E)->∀b∈bs,(b.getD v (0,0)).1∈E/\(b.getD v (0,0)).2∈E:=fun h b hb=>by
  obtain⟨i,hi,rfl⟩:=U6v hb
  have:=h i (U1n.mpr hi)
  unfold at1 at this
  rwa [U0k (l:=bs),U0g hi] at this
 obtain⟨⟨a1,a2,a3⟩,⟨b1,b2,b3⟩,_⟩:=c
 match v,hv with
 |0,_=>exact⟨a1,key a2,a3⟩
 |1,_=>exact⟨b1,key b2,b3⟩
end W14
end
section
namespace W14
open PySem L2 VS
theorem qK(bs:List (List St2))(w:Nat)(x:Int):GX bs w x=S1 ((HF bs w x).map fun b=>b.getD 0 (0,0)):=by
 unfold GX
 rw[dW]
 congr 1
 conv=>rhs;rw[←SN (HF bs w x),U0d]
 rfl
theorem qH{m:Nat}{sm:List (List St2)}{mss:List (List Int)}(md:Made 2 m sm mss){w k:Nat}(hw:w<2)(hk:k<(mk2 mss w).length-1):Lr sm mss w k=GX (sm.map (placed mss)) w ((mk2 mss w).getD k 0):=by
 have g:=md.good (.inr (.inl rfl))
 obtain⟨m1,m2,m3⟩:=YZ md (v:=1-w) (by omega)
 have ha:=fun j hj=>mC md hw hk (j:=j) hj
 rw[qK]
 rw[mU m1 (fun v hv=>?_) m3]
 .unfold Lr
  have e:(U0h ((mk2 mss (1-w)).length-1)).foldl (PN sm mss w k) 0=0+((U0h ((mk2 mss (1-w)).length-1)).map fun j=>((mk2 mss (1-w)).getD (j+1) 0-(mk2 mss (1-w)).getD j 0)*(if (decide (Fe sm (spot w k j)≠[])) then 1 else 0)).sum:=by
   refine Yo (c:=fun j=>decide (Fe sm (spot w k j)≠[])) (fun z j=>?_) _ 0
   unfold PN
   by_cases h:Fe sm (spot w k j)=[]
   .rw[if_pos h,if_neg (by simp[h])]
   .rw[if_neg h,if_pos (by simp[h])];omega
  rw[e,U5z,YD,U0d]
  refine congrArg List.sum (List.map_congr_left fun j hj=>?_)
  have h:=ha j (U1n.mp hj)
  show _=((mk2 mss (1-w)).getD (j+1) 0-(mk2 mss (1-w)).getD j 0)*(if ((HF (sm.map (placed mss)) w ((mk2 mss w).getD k 0)).map fun b=>b.getD 0 (0,0)).any (fun v=>inS v ((mk2 mss (1-w)).getD j 0))=true then 1 else 0)
  congr 1
  by_cases q:Fe sm (spot w k j)=[]
  .rw[if_neg (by simp[q]),if_neg (fun z=>(h.mpr z) q)]
  .rw[if_pos (by simp[q]),if_pos (h.mp q)]
 .obtain⟨c,hc,rfl⟩:=U1t.mp hv
  obtain⟨b,hb,rfl⟩:=U1t.mp hc
  have hb1:=(U3k.mp hb).1
  rw[Vv (g.box b hb1).1 hw]
  exact m2 b hb1
theorem UL{bs:List (List St2)}{w:Nat}:∀(l:List St2)(acc:List Tr3),(l.foldl (Im bs w) acc).foldl Bp []=l.foldl (Hj (GX bs w)) (acc.foldl Bp [])
 |[],acc=>rfl
 |p::r,acc=>by
  rw[U1v,U1v,UL r]
  congr 1
  unfold Im Hj
  split
  .rw[U3z];rfl
  .rfl
theorem Ye{bs:List (List St2)}{w:Nat}{x:Int}(h:∀b∈bs,OD w x b=false):GX bs w x=0:=by
 have e:HF bs w x=[]:=by
  unfold HF
  rw[U47.mpr fun b hb=>by rw[h b hb];decide];rfl
 unfold GX
 rw[e,U1a,List.range_zero,CQ,if_pos rfl];rfl
theorem cols{m:Nat}{sm:List (List St2)}{mss:List (List Int)}(md:Made 2 m sm mss){w:Nat}(hw:w<2):(U0h ((mk2 mss w).length-1)).foldl (K3 sm mss w) []=((steps (CP (sm.map (placed mss)) w (U0h (sm.map (placed mss)).length))).foldl (Im (sm.map (placed mss)) w) []).foldl Bp []:=by
 have g:=md.good (.inr (.inl rfl))
 obtain⟨m1,m2,m3⟩:=YZ md hw
 have e1:(U0h ((mk2 mss w).length-1)).foldl (K3 sm mss w) []=(steps (mk2 mss w)).foldl (Hj (GX (sm.map (placed mss)) w)) []:=by
  rw[YD,List.foldl_map]
  have:∀(l:List Nat)(acc:List Tr3),(∀k∈l,k<(mk2 mss w).length-1)->l.foldl (K3 sm mss w) acc=l.foldl (fun acc k=>Hj (GX (sm.map (placed mss)) w) acc ((mk2 mss w).getD k 0,(mk2 mss w).getD (k+1) 0)) acc:=by
   intro l
   induction l with
   |nil=>intro acc _;rfl
   |cons k r ih =>
    intro acc h
    rw[U1v,U1v,ih _ fun x hx=>h x (U0t _ hx)]
    congr 1
    unfold K3 Hj
    rw[qH md hw (h k U0u)]
  exact this _ _ fun k hk=>U1n.mp hk
 rw[e1,UL]
 generalize sm.map (placed mss)=bs at *
 have hE:∀b∈bs,(b.getD w (0,0)).1∈CP bs w (U0h bs.length)/\(b.getD w (0,0)).2∈CP bs w (U0h bs.length):=fun b hb=>by
  obtain⟨i,hi,rfl⟩:=U6v hb
  have:=dO (bs:=bs) (w:=w) i (U1n.mpr hi)
  unfold at1 at this
  rwa [U0k (l:=bs),U0g hi] at this
 refine iw m1 (Nt _) (fun e he=>?_) (fun p x hpx hn=>?_) (fun x hx=>Ye fun b hb=>?_) (fun x hx=>Ye fun b hb=>?_) []
 .obtain⟨i,hi,h⟩:=Wm he
  have hi:=U1n.mp hi
  have hb:=m2 bs[i] (U1s hi)
  have e:at1 bs i w=bs[i].getD w (0,0):=by unfold at1;rw[U0k (l:=bs),U0g hi];rfl
  rw[e] at h
  rcases h with h|h
  .rw[h];exact hb.1
  .rw[h];exact hb.2
 .have e:HF bs w x=HF bs w p:=by
   unfold HF
   congr 1
   refine U7b fun b hb=>?_
   have n1:=hn _ (hE b hb).1
   have n2:=hn _ (hE b hb).2
   unfold OD
   rw[U26,U00,U00,decide_eq_true_eq,decide_eq_true_eq,decide_eq_true_eq,decide_eq_true_eq]
   omega
  unfold GX
  rw[e]
 .have:=hx _ (hE b hb).1
  unfold OD
  rw[decide_eq_false (by omega:¬(b.getD w (0,0)).1<=x),U7t]
 .have:=hx _ (hE b hb).2
  unfold OD
  rw[decide_eq_false (by omega:¬x<(b.getD w (0,0)).2),Bool.and_false]
end W14
end
section
namespace W14
open PySem L2 VS
def ins(x:Int):List Int->List Int
 |[]=>[x]
 |y::r=>if x<=y then x::y::r else y::ins x r
def Ri:List Int->List Int
 |[]=>[]
 |x::r=>ins x (Ri r)
theorem Te(x:Int):∀l:List Int,(ins x l).Perm (x::l)
 |[]=>.refl _
 |y::r=>by
  rw[ins]
  split
  .exact .refl _
  .exact((Te x r).cons y).trans (.swap ..)
theorem Uz:∀l:List Int,(Ri l).Perm l
 |[]=>.refl _
 |x::r=>(Te x _).trans ((Uz r).cons x)
theorem Yl(x:Int):∀{l:List Int},l.Pairwise (·<=·)->(ins x l).Pairwise (·<=·)
 |[],_=>by simp[ins]
 |y::r,h=>by
  obtain⟨h1,h2⟩:=U1l.mp h
  rw[ins]
  split
  .rename_i q
   refine U1l.mpr ⟨fun z hz=>?_,h⟩
   rcases U0q.mp hz with e|e
   .omega
   .have:=h1 z e;omega
  .refine U1l.mpr ⟨fun z hz=>?_,Yl x h2⟩
   rcases U0q.mp ((Te x r).mem_iff.mp hz) with e|e
   .omega
   .exact h1 z e
theorem Uy:∀l:List Int,(Ri l).Pairwise (·<=·)
 |[]=>.nil
 |x::r=>Yl x (Uy r)
theorem YF(ns:List Int):FZ ns=Ri (SetP.once ns):=(Ut (Uz _) (Uy _)).symm
def Ur(bs:List (List St2)):Nat->Nat->List Nat->List (List St2×List Nat)
 |0,_,ns=>if ns=[] then [] else [([],ns)]
 |k+1,w,ns=>if ns=[] then [] else (steps (Ri (SetP.once (ns.map (fun i=>(at1 bs i w).1)++ns.map (fun i=>(at1 bs i w).2))))).flatMap fun p=>(Ur bs k (w+1) (KN bs w p.1 ns)).map fun c=>(p::c.1,c.2)
theorem Wr(bs:List (List St2)):∀(k w:Nat)(ns:List Nat),CQ bs k w ns=Ur bs k w ns
 |0,_,_=>rfl
 |k+1,w,ns=>by
  rw[CQ,Ur,CP,YF]
  simp only[Wr bs k]
theorem dj{k:Nat}:∀cs:List (List St2×List Nat),(∀c∈cs,c.1.length=1)->jM k cs->szs cs<=2000000000*cs.length
 |[],_,_=>by simp[szs]
 |c::r,h,hf=>by
  have ih:=dj r (fun d hd=>h d (U0t _ hd)) fun d hd=>hf d (U0t _ hd)
  obtain⟨p,hp⟩:=List.length_eq_one_iff.mp (h c U0u)
  have hb:=(hf c U0u).1 p (by rw[hp];exact U0u)
  have e:QV c.1=p.2-p.1:=by rw[hp];exact U7q _
  unfold szs at *
  rw[U0m,U3o,U0i,e]
  omega
theorem qI{bs:List (List St2)}(g:Good 2 bs){w:Nat}(hw:w<2)(x:Int):GX bs w x<=80000000000:=by
 have gc:=Tf g hw x
 have few:=gc.few
 have hl:=Jt (bs:=HF bs w x) 1 0 (U0h (HF bs w x).length) (by simpa using few)
 have:=dj _ (fun c hc=>Mz 1 0 _ c hc) (Qp gc)
 unfold GX
 omega
theorem bF(ws:List Nat)(w:Nat)(xs:List PyData)(hl:xs.length<=w)(h:∀x∈xs,fit ws x=true):fit (w::ws) (.list xs)=true/\fit (w::ws) (.tuple xs)=true:=by
 have:(decide (xs.length<=w)&&xs.all (fit ws))=true:=by
  rw[U00]
  exact⟨decide_eq_true hl,U3.mpr h⟩
 exact⟨this,this⟩
theorem aV{S:Store}{d:D}{p:PyData}{ws:List Nat}(h:Cp S d=some p)(hf:fit ws p=true)(hw:ws.length<=50)(hb:bnd ws<=1000000):Jj S [d]=some (.str p.shown):=by
 obtain⟨f1,f2,f3⟩:=eZ ws p hf
 show(Cp S d).bind _=_
 rw[h,U0b]
 have:(p.showable&&decide (p.depth<=60)&&decide (p.shown.length<=1000000))=true:=by
  rw[U00,U00]
  exact⟨⟨f1,decide_eq_true (by omega)⟩,decide_eq_true (by omega)⟩
 rw[if_pos this]
theorem qg{n:Nat}{bs:List (List St2)}(m m':Bool)(S:Store):eqP true S (Ak m n bs) (Ak m' n bs)=some (.bl false):=Ys 4 (RJ S m n bs) (RJ S m' n bs) (lJ 0 n bs) (by decide)
theorem oX(n:Nat)(bs:List (List St2)):Ax [Ak true n bs]=true:=by simp[Ax,BX,Ak,Bo (CG bs)]
theorem wH(n:Nat)(bs:List (List St2)):Bq [Ak true n bs]=[Ak false n bs]:=by simp[Bq,age,Ak]
theorem gY{n:Nat}{bs:List (List St2)}:IK [Ak false n bs]=some (Ak true n bs):=by
 simp[IK,Wf,Ck,Aw,CT,BJ,Bl,Am,Ho,mF,oIx,nList,VS.listOf,Br,Dc,den,Cw,-U0d,-U0e,Ak,Bo (CG bs)]
theorem Wy:∀mss:List (List Int),Bq (mss.map Dl)=mss.map encJ
 |[]=>by rw[U1e,Bq];rfl
 |m::r=>by rw[U0m,Bq,Dl,age,Pn,Wy r];rfl
def N41(v:Int):Prop:=v.natAbs<10^41
theorem Xq{v:Int}(h:-80000000000<=v/\v<=80000000000):N41 v:=U4z (m:=80000000000) (by omega) (by decide)
def Nr(q:Tr3):Prop:=N41 q.1/\N41 q.2.1/\N41 q.2.2
theorem lR{acc:List Tr3}{p:Tr3}(h:∀q∈acc,Nr q)(hp:Nr p):∀q∈Bp acc p,Nr q:=fun q hq=>by
 unfold Bp at hq
 split at hq
 .rename_i t ht
  have ht':=h t (List.mem_of_getLast? ht)
  split at hq
  .rcases U1k.mp hq with z|z
   .exact h q (List.dropLast_subset _ z)
   .rw[U03.mp z];exact⟨ht'.1,hp.2.1,hp.2.2⟩
  .rcases U1k.mp hq with z|z
   .exact h q z
   .rw[U03.mp z];exact hp
 .rcases U1k.mp hq with z|z
  .exact h q z
  .rw[U03.mp z];exact hp
def told(bs:List (List St2))(w:Nat):List Tr3:=((steps (CP bs w (U0h bs.length))).foldl (Im bs w) []).foldl Bp []
theorem o7{bs:List (List St2)}(g:Good 2 bs){w:Nat}(hw:w<2):(told bs w).length<=40/\∀q∈told bs w,Nr q:=by
 have few:=g.few
 have hb:=QB (bs:=bs) (A:=-1000000000) (N:=2000000000) (w:=w) (k:=1-w) (ns:=U0h bs.length) (fun i hi v h1 h2=>Wc g i hi v (by omega) (by omega))
 unfold told
 rw[UL]
 constructor
 .rw[←UL]
  have a:=Ms (CP bs w (U0h bs.length))
  have b:=Je ((U0h bs.length).map (fun i=>(at1 bs i w).1)++(U0h bs.length).map fun i=>(at1 bs i w).2)
  rw[U0n,U0j,U0j,U24] at b
  have c:=Nq bs w (steps (CP bs w (U0h bs.length))) []
  have d:=Wa ((steps (CP bs w (U0h bs.length))).foldl (Im bs w) [])
  rw[U1a] at c
  have e:(CP bs w (U0h bs.length)).length<=40:=by unfold CP;omega
  omega
 .have key:∀(l:List St2)(acc:List Tr3),(∀p∈l,N41 p.1/\N41 p.2)->(∀q∈acc,Nr q)->∀q∈l.foldl (Hj (GX bs w)) acc,Nr q:=by
   intro l
   induction l with
   |nil=>intro acc _ h;exact h
   |cons p r ih =>
    intro acc hl h
    refine ih _ (fun x hx=>hl x (U0t _ hx)) ?_
    unfold Hj
    split
    .have h1:=qJ g hw p.1
     have h2:=qI g hw p.1
     have h3:=hl p U0u
     exact lR h ⟨h3.1,h3.2,Xq (v:=GX bs w p.1) (by omega)⟩
    .exact h
  refine key _ _ (fun p hp=>?_) (by simp)
  obtain⟨_,s2,s3,_⟩:=Pa (Nt _) p hp
  have b1:=hb _ s2
  have b2:=hb _ s3
  exact⟨Xq (by omega),Xq (by omega)⟩
def pT(q:Tr3):PyData:=.tuple [.int q.1,.int q.2.1,.int q.2.2]
theorem Vn:∀k:List Tr3,Gq (k.map Ai)=some (k.map pT)
 |[]=>by rw[U1e,Gq];rfl
 |p::r=>by rw[U0m,Gq,Vn r];simp[Ai,toP,Gq,pT]
theorem Xn(S:Store)(k:List Tr3):Cp S (.lst true (k.map Ai))=some (.list (k.map pT)):=by
 rw[Cp,den,Ca 0 S (Bo (Io k))]
 show toP (.lst true (k.map Ai))=_
 rw[toP,Vn];rfl
theorem oM{S:Store}{i:Nat}{k:List Tr3}(h:S[i]?=some (some (k.map Ai))):Cp S (.ref i)=some (.list (k.map pT)):=by
 rw[Cp,den,if_neg (by omega),h]
 show((if Ax (k.map Ai)=true then some (D.lst true (k.map Ai)) else none).bind toP)=_
 rw[if_pos (Bo (Io k)),U0b,toP,Vn];rfl
theorem vZ{k:List Tr3}(hl:k.length<=40)(h:∀q∈k,Nr q):fit [40,3] (.list (k.map pT))=true:=by
 refine(bF _ _ _ (by rw[U0j];exact hl) fun x hx=>?_).1
 obtain⟨q,hq,rfl⟩:=U1t.mp hx
 refine(bF _ _ _ (by simp) fun x hx=>?_).2
 obtain⟨q1,q2,q3⟩:=h q hq
 simp only[U0q,U1f,or_false] at hx
 rcases hx with rfl|rfl|rfl
 .exact decide_eq_true q1
 .exact decide_eq_true q2
 .exact decide_eq_true q3
end W14
end
section
namespace W14
open PySem L2 VS
theorem nu{bs:List (List St2)}(g:Good 2 bs){w:Nat}(hw:w<2)(e0 e1 e2 e3 e4 z9 z10:Option D)(S:Store) :
  Ul [e0,e1,e2,e3,e4,some (Ak true 2 bs),some (Ak true 2 bs),some (.int w),some (.lst true ((told bs w).map Ai)),z9,z10] S=some (.nx,[e0,e1,e2,e3,e4,some (Ak true 2 bs),some (Ak true 2 bs),some (.int w),some (.lst true ((told bs w).map Ai)),z9,some (.ref S.length)],S++[some ((told bs w).map Ai++[.non])]):=by
 have h1:Cv [Ak false 2 bs,.int w]=some (.lst true ((told bs w).map Ai)):=X3 g hw
 obtain⟨hl,hn⟩:=o7 g hw
 generalize told bs w=k at *
 have hf:=vZ hl hn
 have hS:=Xi S (some (k.map Ai)) []
 have s1:(Bj 10 (Og Cv (Aa (Ab 6) (Aa (Ab 7) Ae)))) [e0,e1,e2,e3,e4,some (Ak true 2 bs),some (Ak true 2 bs),some (.int w),some (.lst true (k.map Ai)),z9,z10] S=some (.nx,[e0,e1,e2,e3,e4,some (Ak true 2 bs),some (Ak true 2 bs),some (.int w),some (.lst true (k.map Ai)),z9,some (.ref S.length)],S++[some (k.map Ai)]):=by
  rw[CV,Y8 (d':=.ref S.length) (cs:=k.map Ai) (DR (ds:=[Ak true 2 bs,.int w]) (es:=[Ak false 2 bs,.int w]) (S':=S) rfl (by simp[Ax,BX,Ak,Bo (CG bs)]) (by simp[Bq,age,Ak]) h1) (by rw[N7,if_pos (Io k)])]
  rfl
 have r1:=aV (oM hS) hf (by decide) (by decide)
 have r2:=aV (Xn (S++[some (k.map Ai)]) k) hf (by decide) (by decide)
 have k1:BK (eOp (Ve true) (eCB Jj (Aa (Ab 10) Ae)) (eCB Jj (Aa (Ab 8) Ae))) [e0,e1,e2,e3,e4,some (Ak true 2 bs),some (Ak true 2 bs),some (.int w),some (.lst true (k.map Ai)),z9,some (.ref S.length)] (S++[some (k.map Ai)])=some (false,S++[some (k.map Ai)]):=by
  have c1:eCB Jj (Aa (Ab 10) Ae) [e0,e1,e2,e3,e4,some (Ak true 2 bs),some (Ak true 2 bs),some (.int w),some (.lst true (k.map Ai)),z9,some (.ref S.length)] (S++[some (k.map Ai)])=some (.str (U5v (.list (k.map pT))),S++[some (k.map Ai)]):=by
   show U17 _ (Jj (S++[some (k.map Ai)]) [.ref S.length])=_
   rw[r1];rfl
  have c2:eCB Jj (Aa (Ab 8) Ae) [e0,e1,e2,e3,e4,some (Ak true 2 bs),some (Ak true 2 bs),some (.int w),some (.lst true (k.map Ai)),z9,some (.ref S.length)] (S++[some (k.map Ai)])=some (.str (U5v (.list (k.map pT))),S++[some (k.map Ai)]):=by
   show U17 _ (Jj (S++[some (k.map Ai)]) [.lst true (k.map Ai)])=_
   rw[r2];rfl
  rw[Cq,BJ,c1,U0b,c2,U0b]
  simp[Ve]
 have k2:BK (eOp (oEq true) (Ab 6) (Ab 5)) [e0,e1,e2,e3,e4,some (Ak true 2 bs),some (Ak true 2 bs),some (.int w),some (.lst true (k.map Ai)),z9,some (.ref S.length)] (S++[some (k.map Ai)])=some (false,S++[some (k.map Ai)]):=by
  have he':oEq true (S++[some (k.map Ai)]) (Ak true 2 bs) (Ak true 2 bs)=some (.bl false):=qg true true _
  show(U17 _ (oEq true (S++[some (k.map Ai)]) (Ak true 2 bs) (Ak true 2 bs))).bind _=_
  rw[he'];rfl
 have s2:(sIf (VS.tOr (BK (eOp (Ve true) (eCB Jj (Aa (Ab 10) Ae)) (eCB Jj (Aa (Ab 8) Ae)))) (BK (eOp (oEq true) (Ab 6) (Ab 5)))) (Dk (eC (.bl false))) Dh) [e0,e1,e2,e3,e4,some (Ak true 2 bs),some (Ak true 2 bs),some (.int w),some (.lst true (k.map Ai)),z9,some (.ref S.length)] (S++[some (k.map Ai)])=some (.nx,[e0,e1,e2,e3,e4,some (Ak true 2 bs),some (Ak true 2 bs),some (.int w),some (.lst true (k.map Ai)),z9,some (.ref S.length)],S++[some (k.map Ai)]):=by
  rw[GK (by
   rw[R0,k1]
   simp only[U0b,U1y,if_false]
   exact k2)]
  rfl
 have s4:(Fb (Dt Ed (Ab 10) (Aa (eC .non) Ae))) [e0,e1,e2,e3,e4,some (Ak true 2 bs),some (Ak true 2 bs),some (.int w),some (.lst true (k.map Ai)),z9,some (.ref S.length)] (S++[some (k.map Ai)])=some (.nx,[e0,e1,e2,e3,e4,some (Ak true 2 bs),some (Ak true 2 bs),some (.int w),some (.lst true (k.map Ai)),z9,some (.ref S.length)],S++[some (k.map Ai++[.non])]):=by
  rw[Gm,J5 (d:=.ref S.length) (cs:=k.map Ai) (ds:=[.non]) (r:=.non) (S1:=S++[some (k.map Ai)]) (S2:=S++[some (k.map Ai)]) (S3:=S++[some (k.map Ai++[.non])]) rfl (by rw[VS.listOf,hS];rfl) rfl (by
   unfold Ed
   simp only[hS]
   rw[if_pos (by rw[U0j];omega),sY])]
  rfl
 unfold Ul
 rw[BW s1,BW s2,s4]
theorem nq{m:Nat}{sm:List (List St2)}{mss:List (List Int)}(md:Made 2 m sm mss){w:Nat}(hw:w<2)(e0 e1 e2 z8 z9 z10:Option D)(S:Store):∃y8 y9 y10 S',
  Uk [e0,e1,e2,some (.lst true (sm.map Af)),some (.lst true (mss.map Dl)),some (Ak true 2 (sm.map (placed mss))),some (Ak true 2 (sm.map (placed mss))),some (.int w),z8,z9,z10] S=some (.nx,[e0,e1,e2,some (.lst true (sm.map Af)),some (.lst true (mss.map Dl)),some (Ak true 2 (sm.map (placed mss))),some (Ak true 2 (sm.map (placed mss))),some (.int w),y8,y9,y10],S'):=by
 have g:=md.good (.inr (.inl rfl))
 have h20:sm.length<=20:=by have:=md.few;simp at this;omega
 have hd:=vg hw md.len (fun v hv=>by
  have k:=md.mks _ (pX md.len hv)
  have:=md.big
  rw[k.len];omega) h20 (fun b hb=>by rw[(md.box b hb).len];omega)
 rw[cols md hw] at hd
 have s1:(Bj 8 (BR IV (Aa (Ab 3) (Aa (Ab 4) (Aa (Ab 7) Ae))))) [e0,e1,e2,some (.lst true (sm.map Af)),some (.lst true (mss.map Dl)),some (Ak true 2 (sm.map (placed mss))),some (Ak true 2 (sm.map (placed mss))),some (.int w),z8,z9,z10] S=some (.nx,[e0,e1,e2,some (.lst true (sm.map Af)),some (.lst true (mss.map Dl)),some (Ak true 2 (sm.map (placed mss))),some (Ak true 2 (sm.map (placed mss))),some (.int w),some (.lst true ((told (sm.map (placed mss)) w).map Ai)),z9,z10],S):=by
  rw[CV,DR (ds:=[.lst true (sm.map Af),.lst true (mss.map Dl),.int w]) (es:=[.lst false (sm.map Af),.lst false (mss.map encJ),.int w]) (S':=S) rfl (by rw[Ax,BX,Bo (CG sm),Ax,BX,Qj];rfl) (by simp only[Bq,age,Hv (CG sm),Wy]) hd]
  rfl
 generalize sm.map (placed mss)=bs at *
 unfold Uk
 rw[BW s1]
 have e:Ej (Aa (eC (.int 2)) Ae) [e0,e1,e2,some (.lst true (sm.map Af)),some (.lst true (mss.map Dl)),some (Ak true 2 bs),some (Ak true 2 bs),some (.int w),some (.lst true ((told bs w).map Ai)),z9,z10] S=some ((upD 0 2,[]),S):=LC (j:=2) 2 rfl (by decide) (by decide) (by decide)
 unfold eO
 rw[Fp,e]
 obtain⟨env',S',e2',y9,y10,he⟩:=Eo (w:=[]) (g:=Pat.sem (.nm 9)) (b:=Ul) (ds:=upD 0 2) (env:=[e0,e1,e2,some (.lst true (sm.map Af)),some (.lst true (mss.map Dl)),some (Ak true 2 bs),some (Ak true 2 bs),some (.int w),some (.lst true ((told bs w).map Ai)),z9,z10]) (S:=S)
  (fun _ env S'=>∃y9 y10:Option D,env=[e0,e1,e2,some (.lst true (sm.map Af)),some (.lst true (mss.map Dl)),some (Ak true 2 bs),some (Ak true 2 bs),some (.int w),some (.lst true ((told bs w).map Ai)),y9,y10]) ⟨z9,z10,rfl⟩ (fun i env S _=>by simp) (fun j d env S' hd q=>by
   obtain⟨y9,y10,he⟩:=q
   subst he
   exact⟨_,DN _ _ _,_,_,nu g hw _ _ _ _ _ _ _ S',_,_,rfl⟩)
 subst he
 exact⟨_,y9,y10,S',e2'⟩
theorem nj(ns:List Int)(c:Int)(z2 z3 z4 z5 z6 z7 z8 z9 z10:Option D)(S:Store):∃(S':Store)(y2 y3 y4 y5 y6 y7 y8 y9 y10:Option D),Uj [some (.scr ns),some (.int c),z2,z3,z4,z5,z6,z7,z8,z9,z10] S=some (.nx,[some (.scr ns),some (.int c),y2,y3,y4,y5,y6,y7,y8,y9,y10],S'):=by
 obtain⟨x0,p0⟩:=uW c
 have s1:(Bj 2 (Og Hz (Aa (Ab 1) Ae))) [some (.scr ns),some (.int c),z2,z3,z4,z5,z6,z7,z8,z9,z10] S=some (.nx,[some (.scr ns),some (.int c),some (.ref S.length),z3,z4,z5,z6,z7,z8,z9,z10],S++[some [.int x0,.int c,.int 0]]):=by
  rw[CV,Y8 (d':=.ref S.length) (cs:=[.int x0,.int c,.int 0]) (DR (ds:=[.int c]) (es:=[.int c]) (S':=S) rfl (by simp[Ax,BX]) (by simp[Bq,age]) p0) (by simp[N7,Ek,Dm])]
  rfl
 obtain⟨m,sm,mss,x',z',h1,md⟩:=qd x0 c 0 2 10 (.inr (.inl rfl)) (by decide) (by decide)
 have hS:=Xi S (some [.int x0,.int c,.int 0]) []
 generalize S++[some [.int x0,.int c,.int 0]]=T at *
 have hc:Bg Gf (Aa (Ab 2) (Aa (eC (.int 2)) (Aa (eC (.int 10)) Ae))) [some (.scr ns),some (.int c),some (.ref S.length),z3,z4,z5,z6,z7,z8,z9,z10] T=some (.tup [.lst true (sm.map Af),.lst true (mss.map Dl),Ak true 2 (sm.map (placed mss))],T.set S.length (some ([x',c,z'].map .int))) :=
  Ip (ns:=[x0,c,0]) (rest:=[.int 2,.int 10]) (es:=[.int 2,.int 10]) (i:=S.length) (S':=T) rfl hS (by simp[Ax,BX]) (by simp[Bq,age]) h1
 generalize T.set S.length (some ([x',c,z'].map .int))=U at *
 have s2:(bT (Bg Gf (Aa (Ab 2) (Aa (eC (.int 2)) (Aa (eC (.int 10)) Ae)))) (Pat.sem (.tp [(.nm 3),(.nm 4),(.nm 5)]))) [some (.scr ns),some (.int c),some (.ref S.length),z3,z4,z5,z6,z7,z8,z9,z10] T=some (.nx,[some (.scr ns),some (.int c),some (.ref S.length),some (.lst true (sm.map Af)),some (.lst true (mss.map Dl)),some (Ak true 2 (sm.map (placed mss))),z6,z7,z8,z9,z10],U):=by
  rw[oO,hc]
  simp[DN,Iv,Gs,Fv,-U0d,-U0e]
 have s3:(Bj 6 (BR IK (Aa (Ab 5) Ae))) [some (.scr ns),some (.int c),some (.ref S.length),some (.lst true (sm.map Af)),some (.lst true (mss.map Dl)),some (Ak true 2 (sm.map (placed mss))),z6,z7,z8,z9,z10] U=some (.nx,[some (.scr ns),some (.int c),some (.ref S.length),some (.lst true (sm.map Af)),some (.lst true (mss.map Dl)),some (Ak true 2 (sm.map (placed mss))),some (Ak true 2 (sm.map (placed mss))),z7,z8,z9,z10],U):=by
  rw[CV,DR (ds:=[Ak true 2 (sm.map (placed mss))]) (es:=[Ak false 2 (sm.map (placed mss))]) (S':=U) rfl (oX ..) (wH ..) gY];rfl
 unfold Uj
 rw[BW s1,BW s2,BW s3]
 have e:Dp (BZ (Aa (eC (.int 0)) (Aa (eC (.int 1)) (Aa (eC (.int 0)) Ae)))) [some (.scr ns),some (.int c),some (.ref S.length),some (.lst true (sm.map Af)),some (.lst true (mss.map Dl)),some (Ak true 2 (sm.map (placed mss))),some (Ak true 2 (sm.map (placed mss))),z7,z8,z9,z10] U=some (([0,1,0].map (fun w:Nat=>D.int w),[]),U):=rfl
 unfold eN
 rw[Fp,e]
 obtain⟨env',S',e2',y7,y8,y9,y10,he⟩:=Eo (w:=[]) (g:=Pat.sem (.nm 7)) (b:=Uk) (ds:=[0,1,0].map (fun w:Nat=>D.int w)) (env:=[some (.scr ns),some (.int c),some (.ref S.length),some (.lst true (sm.map Af)),some (.lst true (mss.map Dl)),some (Ak true 2 (sm.map (placed mss))),some (Ak true 2 (sm.map (placed mss))),z7,z8,z9,z10]) (S:=U)
  (fun _ env S'=>∃y7 y8 y9 y10:Option D,env=[some (.scr ns),some (.int c),some (.ref S.length),some (.lst true (sm.map Af)),some (.lst true (mss.map Dl)),some (Ak true 2 (sm.map (placed mss))),some (Ak true 2 (sm.map (placed mss))),y7,y8,y9,y10]) ⟨z7,z8,z9,z10,rfl⟩ (fun i env S _=>by simp) (fun j d env S' hd q=>by
   obtain⟨y7,y8,y9,y10,he⟩:=q
   subst he
   rw[U0y] at hd
   obtain⟨w,hq,rfl⟩:=U2t.mp hd
   have hw:w<2:=by
    have hm:=U18 hq
    simp only[U0q,U1f,or_false] at hm
    omega
   obtain⟨w8,w9,w10,S2,b2⟩:=nq md hw (some (.scr ns)) (some (.int c)) (some (.ref S.length)) y8 y9 y10 S'
   exact⟨_,DN _ _ _,_,_,b2,_,_,_,_,rfl⟩)
 subst he
 exact⟨S',some (.ref S.length),_,_,_,_,y7,y8,y9,y10,e2'⟩
end W14
end
section
namespace W14
open PySem L2 VS
def jD(bs:List (List St2))(w:Nat)(x:Int):Int:=szs (Ur (HF bs w x) 1 0 (U0h (HF bs w x).length))
def cD(bs:List (List St2))(w:Nat):List Tr3:=(steps (Ri (SetP.once ((U0h bs.length).map (fun i=>(at1 bs i w).1)++(U0h bs.length).map fun i=>(at1 bs i w).2)))).foldl (Hj (jD bs w)) []
theorem jY(bs:List (List St2))(w:Nat):told bs w=cD bs w:=by
 have e:GX bs w=jD bs w:=funext fun x=>by unfold GX jD;rw[Wr]
 unfold told cD
 rw[UL,e]
 unfold CP
 rw[YF];rfl
theorem lK:∀ns:List Int,ns.length<=63->Vo [.scr ns]=some (.bl true):=by
 intro ns hns
 obtain⟨l,e⟩:∃l:List Int,Dp (eOp Dd (eSl oSl (Ab 0) GF (GD (eC (.int 4)))) (Bt (Aa (eCB Ef (Aa (Ab 0) Ae)) Ae))) [some (.scr ns),none,none,none,none,none,none,none,none,none,none] []=some ((l.map .int,[]),[]):=by
  obtain⟨cs,hc,hl⟩:∃cs:List Int,cut (ns.map D.int) none (some 4)=cs.map D.int/\cs.length<=63:=by
   unfold cut
   rw[←U70,←U71]
   exact⟨_,rfl,by rw[U19,U6f];omega⟩
  have hl2:cs.length+1<=1000000:=by omega
  refine⟨cs++[(ns.length:Int)],?_⟩
  have a1:eSl oSl (Ab 0) GF (GD (eC (.int 4))) [some (.scr ns),none,none,none,none,none,none,none,none,none,none] []=some (.lst true (cs.map .int),[]):=by
   show(some (D.lst true (cut (ns.map D.int) none (some 4)),([]:Store)):Option (D×Store))=_
   rw[hc]
  have a2:Bt (Aa (eCB Ef (Aa (Ab 0) Ae)) Ae) [some (.scr ns),none,none,none,none,none,none,none,none,none,none] []=some (.lst true ([(ns.length:Int)].map .int),[]):=by
   show(some (D.lst true [.int ((ns.map D.int).length:Nat)],([]:Store)):Option (D×Store))=_
   rw[U0j];rfl
  rw[Fq,BJ,a1,U0b,a2,U0b]
  show(U17 _ (if (cs.map D.int).length+1<=1000000 then some (D.lst true (cs.map D.int++[(ns.length:Int)].map D.int)) else none)).bind _=_
  rw[if_pos (by rw[U0j];exact hl2),←U1b]
  rfl
 have l1:∃env' S',Xr [some (.scr ns),none,none,none,none,none,none,none,none,none,none] []=some (.nx,env',S')/\∃y1 y2 y3 y4 y5 y6 y7 y8 y9 y10,env'=[some (.scr ns),y1,y2,y3,y4,y5,y6,y7,y8,y9,y10]:=by
  unfold Xr
  rw[Fp,e]
  exact Eo (w:=[]) (g:=Pat.sem (.nm 1)) (b:=Uj) (ds:=l.map .int) (env:=[some (.scr ns),none,none,none,none,none,none,none,none,none,none]) (S:=[])
   (fun _ env S=>∃y1 y2 y3 y4 y5 y6 y7 y8 y9 y10,env=[some (.scr ns),y1,y2,y3,y4,y5,y6,y7,y8,y9,y10]) ⟨_,_,_,_,_,_,_,_,_,_,rfl⟩ (fun i env S _=>by simp) (fun j d env S hd q=>by
    obtain⟨y1,y2,y3,y4,y5,y6,y7,y8,y9,y10,he⟩:=q
    rw[U0y] at hd
    obtain⟨c,hc,rfl⟩:=U2t.mp hd
    subst he
    obtain⟨S',w2,w3,w4,w5,w6,w7,w8,w9,w10,e3⟩:=nj ns c y2 y3 y4 y5 y6 y7 y8 y9 y10 S
    exact⟨_,DN _ _ _,_,_,e3,_,_,_,_,_,_,_,_,_,_,rfl⟩)
 obtain⟨env',S',l1,y1,y2,y3,y4,y5,y6,y7,y8,y9,y10,he⟩:=l1
 subst he
 have gB:Good 2 [[((0:Int),(1:Int)),(0,2)],[(1,4),(7,9)]]:=⟨.inr (.inl rfl),by simp,by decide⟩
 have hB:Cv [Ak false 2 [[((0:Int),(1:Int)),(0,2)],[(1,4),(7,9)]],.int (0:Nat)]=some (.lst true ((told [[((0:Int),(1:Int)),(0,2)],[(1,4),(7,9)]] 0).map Ai)):=X3 gB (by decide)
 rw[jY,show cD [[((0:Int),(1:Int)),(0,2)],[(1,4),(7,9)]] 0=[(0,4,2)] by decide +kernel] at hB
 have cB:(BR Cv (Aa (BZ (Aa (eC (.int 2)) (Aa (Bt (Aa (BZ (Aa (BZ (Aa (eC (.int 0)) (Aa (eC (.int 1)) Ae))) (Aa (BZ (Aa (eC (.int 0)) (Aa (eC (.int 2)) Ae))) Ae))) (Aa (BZ (Aa (BZ (Aa (eC (.int 1)) (Aa (eC (.int 4)) Ae))) (Aa (BZ (Aa (eC (.int 7)) (Aa (eC (.int 9)) Ae))) Ae))) Ae))) Ae))) (Aa (eC (.int 0)) Ae))) [some (.scr ns),y1,y2,y3,y4,y5,y6,y7,y8,y9,y10] S'=some (.lst true ([(0,4,2)].map Ai),S') :=
  DR (ds:=[Ak true 2 [[((0:Int),(1:Int)),(0,2)],[(1,4),(7,9)]],.int 0]) (es:=[Ak false 2 [[((0:Int),(1:Int)),(0,2)],[(1,4),(7,9)]],.int 0]) (S':=S') rfl (by simp[Ax,BX,Ak,Bo (CG _)]) (by simp[Bq,age,Ak]) hB
 have cC:(Bt (Aa (BZ (Aa (eC (.int 0)) (Aa (eC (.int 4)) (Aa (eC (.int 2)) Ae)))) Ae)) [some (.scr ns),y1,y2,y3,y4,y5,y6,y7,y8,y9,y10] S'=some (.lst true ([(0,4,2)].map Ai),S'):=rfl
 have qB:oEq false S' (.lst true ([(0,4,2)].map Ai)) (.lst true ([(0,4,2)].map Ai))=some (.bl true):=Ys 2 (Xn S' [(0,4,2)]) (Xn S' [(0,4,2)]) (by simp[lev,pT]) (by decide)
 unfold Vo
 rw[Dc]
 simp only[U0i,U1a,U0m,U1e,U14,U15,U0s,U1c,U2d,U11,if_true]
 unfold nG
 rw[BW l1]
 rw[Ck,BJ,cB,U0b,cC,U0b,qB]
 rfl
end W14
end
section
namespace W14
open PySem PySem.Spec L2 VS
theorem N6:∀{us:List Value},us.length=1->∃a0,us=[a0]
 |[a0],_=>⟨a0,rfl⟩
theorem N5:∀{us:List Value},us.length=2->∃a0 a1,us=[a0,a1]
 |[a0,a1],_=>⟨a0,a1,rfl⟩
theorem Xe:∀{us:List Value},us.length=3->∃a0 a1 a2,us=[a0,a1,a2]
 |[a0,a1,a2],_=>⟨a0,a1,a2,rfl⟩
theorem sO:∀{us:List Value},us.length=4->∃a0 a1 a2 a3,us=[a0,a1,a2,a3]
 |[a0,a1,a2,a3],_=>⟨a0,a1,a2,a3,rfl⟩
theorem tops{l:U6l}{w:World}{K:U0a}{h:Heap}{mg:Str->Option Value}{fa dM:Addr}{f1 f2 f3 f4 f5 f6 f7 f8 f9 f10 f11 f12 f13 f14 f15 f16 f17 f18 f19 f20 f21 f22 f23 f24 f25 f26 f27 f28 f29 f30 f31 f32:Addr}(X:K.In h)(G:h.Ns mainGlobals mg)(hfa:mg "law"=some (.ref fa))
  {od1 an1 od2 an2 od3 an3 od4 an4 od5 an5 od6 an6 od7 an7 od8 an8 od9 an9 od10 an10 od11 an11 od12 an12 od13 an13 od14 an14 od15 an15 od16 an16 od17 an17 od18 an18 od19 an19 od20 an20 od21 an21 od22 an22 od23 an23 od24 an24 od25 an25 od26 an26 od27 an27 od28 an28 od29 an29 od30 an30 od31 an31 od32 an32:Option Addr} {sl1 sl2 sl3 sl4 sl5 sl6 sl7 sl8 sl9 sl10 sl11 sl12 sl13 sl14 sl15 sl16 sl17 sl18 sl19 sl20 sl21 sl22 sl23 sl24 sl25 sl26 sl27 sl28 sl29 sl30 sl31 sl32:Array (Option Value)} {oc1 kV1 dc1 pm1 cd1 ct1 oc2 kV2 dc2 pm2 cd2 ct2 oc3 kV3 dc3 pm3 cd3 ct3 oc4 kV4 dc4 pm4 cd4 ct4 oc5 kV5 dc5 pm5 cd5 ct5 oc6 kV6 dc6 pm6 cd6 ct6 oc7 kV7 dc7 pm7 cd7 ct7 oc8 kV8 dc8 pm8 cd8 ct8 oc9 kV9 dc9 pm9 cd9 ct9 oc10 kV10 dc10 pm10 cd10 ct10 oc11 kV11 dc11 pm11 cd11 ct11 oc12 kV12 dc12 pm12 cd12 ct12 oc13 kV13 dc13 pm13 cd13 ct13 oc14 kV14 dc14 pm14 cd14 ct14 oc15 kV15 dc15 pm15 cd15 ct15 oc16 kV16 dc16 pm16 cd16 ct16 oc17 kV17 dc17 pm17 cd17 ct17 oc18 kV18 dc18 pm18 cd18 ct18 oc19 kV19 dc19 pm19 cd19 ct19 oc20 kV20 dc20 pm20 cd20 ct20 oc21 kV21 dc21 pm21 cd21 ct21 oc22 kV22 dc22 pm22 cd22 ct22 oc23 kV23 dc23 pm23 cd23 ct23 oc24 kV24 dc24 pm24 cd24 ct24 oc25 kV25 dc25 pm25 cd25 ct25 oc26 kV26 dc26 pm26 cd26 ct26 oc27 kV27 dc27 pm27 cd27 ct27 oc28 kV28 dc28 pm28 cd28 ct28 oc29 kV29 dc29 pm29 cd29 ct29 oc30 kV30 dc30 pm30 cd30 ct30 oc31 kV31 dc31 pm31 cd31 ct31 oc32 kV32 dc32 pm32 cd32 ct32:Value}
  (a1:U0x K mainGlobals "is_whole"=some (some (.ref f1))) (l1:K.lookup f1=some ⟨oc1,od1,.func (U08 "is_whole" "is_whole" (CJ Jq) (Bv Jq) (Al Jq) .none kV1 dc1 pm1 an1 cd1 ct1),sl1⟩) (c1:U02 K cd1 "is_whole"=true) (k1:U01 K (.ref f1)=true)
  (a2:U0x K mainGlobals "are_ways"=some (some (.ref f2))) (l2:K.lookup f2=some ⟨oc2,od2,.func (U08 "are_ways" "are_ways" (CJ Js) (Bv Js) (Al Js) .none kV2 dc2 pm2 an2 cd2 ct2),sl2⟩) (c2:U02 K cd2 "are_ways"=true) (k2:U01 K (.ref f2)=true)
  (a3:U0x K mainGlobals "is_stretch"=some (some (.ref f3))) (l3:K.lookup f3=some ⟨oc3,od3,.func (U08 "is_stretch" "is_stretch" (CJ Ik) (Bv Ik) (Al Ik) .none kV3 dc3 pm3 an3 cd3 ct3),sl3⟩) (c3:U02 K cd3 "is_stretch"=true) (k3:U01 K (.ref f3)=true)
  (a4:U0x K mainGlobals "is_box"=some (some (.ref f4))) (l4:K.lookup f4=some ⟨oc4,od4,.func (U08 "is_box" "is_box" (CJ Ka) (Bv Ka) (Al Ka) .none kV4 dc4 pm4 an4 cd4 ct4),sl4⟩) (c4:U02 K cd4 "is_box"=true) (k4:U01 K (.ref f4)=true)
  (a5:U0x K mainGlobals "is_heap"=some (some (.ref f5))) (l5:K.lookup f5=some ⟨oc5,od5,.func (U08 "is_heap" "is_heap" (CJ Jf) (Bv Jf) (Al Jf) .none kV5 dc5 pm5 an5 cd5 ct5),sl5⟩) (c5:U02 K cd5 "is_heap"=true) (k5:U01 K (.ref f5)=true)
  (a6:U0x K mainGlobals "need_heap"=some (some (.ref f6))) (l6:K.lookup f6=some ⟨oc6,od6,.func (U08 "need_heap" "need_heap" (CJ JD) (Bv JD) (Al JD) .none kV6 dc6 pm6 an6 cd6 ct6),sl6⟩) (c6:U02 K cd6 "need_heap"=true) (k6:U01 K (.ref f6)=true)
  (a7:U0x K mainGlobals "need_ways"=some (some (.ref f7))) (l7:K.lookup f7=some ⟨oc7,od7,.func (U08 "need_ways" "need_ways" (CJ JB) (Bv JB) (Al JB) .none kV7 dc7 pm7 an7 cd7 ct7),sl7⟩) (c7:U02 K cd7 "need_ways"=true) (k7:U01 K (.ref f7)=true)
  (a8:U0x K mainGlobals "ends_along"=some (some (.ref f8))) (l8:K.lookup f8=some ⟨oc8,od8,.func (U08 "ends_along" "ends_along" (CJ Gi) (Bv Gi) (Al Gi) .none kV8 dc8 pm8 an8 cd8 ct8),sl8⟩) (c8:U02 K cd8 "ends_along"=true) (k8:U01 K (.ref f8)=true)
  (a9:U0x K mainGlobals "steps_along"=some (some (.ref f9))) (l9:K.lookup f9=some ⟨oc9,od9,.func (U08 "steps_along" "steps_along" (CJ Hr) (Bv Hr) (Al Hr) .none kV9 dc9 pm9 an9 cd9 ct9),sl9⟩) (c9:U02 K cd9 "steps_along"=true) (k9:U01 K (.ref f9)=true)
  (a10:U0x K mainGlobals "cells_from"=some (some (.ref f10))) (l10:K.lookup f10=some ⟨oc10,od10,.func (U08 "cells_from" "cells_from" (CJ Gj) (Bv Gj) (Al Gj) .none kV10 dc10 pm10 an10 cd10 ct10),sl10⟩) (c10:U02 K cd10 "cells_from"=true) (k10:U01 K (.ref f10)=true)
  (a11:U0x K mainGlobals "cells_of"=some (some (.ref f11))) (l11:K.lookup f11=some ⟨oc11,od11,.func (U08 "cells_of" "cells_of" (CJ Jr) (Bv Jr) (Al Jr) .none kV11 dc11 pm11 an11 cd11 ct11),sl11⟩) (c11:U02 K cd11 "cells_of"=true) (k11:U01 K (.ref f11)=true)
  (a12:U0x K mainGlobals "joined"=some (some (.ref f12))) (l12:K.lookup f12=some ⟨oc12,od12,.func (U08 "joined" "joined" (CJ M8) (Bv M8) (Al M8) .none kV12 dc12 pm12 an12 cd12 ct12),sl12⟩) (c12:U02 K cd12 "joined"=true) (k12:U01 K (.ref f12)=true)
  (a13:U0x K mainGlobals "pieces_held"=some (some (.ref f13))) (l13:K.lookup f13=some ⟨oc13,od13,.func (U08 "pieces_held" "pieces_held" (CJ Gy) (Bv Gy) (Al Gy) .none kV13 dc13 pm13 an13 cd13 ct13),sl13⟩) (c13:U02 K cd13 "pieces_held"=true) (k13:U01 K (.ref f13)=true)
  (a14:U0x K mainGlobals "pieces_of"=some (some (.ref f14))) (l14:K.lookup f14=some ⟨oc14,od14,.func (U08 "pieces_of" "pieces_of" (CJ J9) (Bv J9) (Al J9) .none kV14 dc14 pm14 an14 cd14 ct14),sl14⟩) (c14:U02 K cd14 "pieces_of"=true) (k14:U01 K (.ref f14)=true)
  (a15:U0x K mainGlobals "covered_length"=some (some (.ref f15))) (l15:K.lookup f15=some ⟨oc15,od15,.func (U08 "covered_length" "covered_length" (CJ FT) (Bv FT) (Al FT) .none kV15 dc15 pm15 an15 cd15 ct15),sl15⟩) (c15:U02 K cd15 "covered_length"=true) (k15:U01 K (.ref f15)=true)
  (a16:U0x K mainGlobals "need_way"=some (some (.ref f16))) (l16:K.lookup f16=some ⟨oc16,od16,.func (U08 "need_way" "need_way" (CJ Jo) (Bv Jo) (Al Jo) .none kV16 dc16 pm16 an16 cd16 ct16),sl16⟩) (c16:U02 K cd16 "need_way"=true) (k16:U01 K (.ref f16)=true)
  (a17:U0x K mainGlobals "cut_boxes"=some (some (.ref f17))) (l17:K.lookup f17=some ⟨oc17,od17,.func (U08 "cut_boxes" "cut_boxes" (CJ HW) (Bv HW) (Al HW) .none kV17 dc17 pm17 an17 cd17 ct17),sl17⟩) (c17:U02 K cd17 "cut_boxes"=true) (k17:U01 K (.ref f17)=true)
  (a18:U0x K mainGlobals "cut_at"=some (some (.ref f18))) (l18:K.lookup f18=some ⟨oc18,od18,.func (U08 "cut_at" "cut_at" (CJ M9) (Bv M9) (Al M9) .none kV18 dc18 pm18 an18 cd18 ct18),sl18⟩) (c18:U02 K cd18 "cut_at"=true) (k18:U01 K (.ref f18)=true)
  (a19:U0x K mainGlobals "joined_alike"=some (some (.ref f19))) (l19:K.lookup f19=some ⟨oc19,od19,.func (U08 "joined_alike" "joined_alike" (CJ Hh) (Bv Hh) (Al Hh) .none kV19 dc19 pm19 an19 cd19 ct19),sl19⟩) (c19:U02 K cd19 "joined_alike"=true) (k19:U01 K (.ref f19)=true)
  (a20:U0x K mainGlobals "lengths_across"=some (some (.ref f20))) (l20:K.lookup f20=some ⟨oc20,od20,.func (U08 "lengths_across" "lengths_across" (CJ GC) (Bv GC) (Al GC) .none kV20 dc20 pm20 an20 cd20 ct20),sl20⟩) (c20:U02 K cd20 "lengths_across"=true) (k20:U01 K (.ref f20)=true)
  (a21:U0x K mainGlobals "_law_mixed"=some (some (.ref f21))) (l21:K.lookup f21=some ⟨oc21,od21,.func (U08 "_law_mixed" "_law_mixed" (CJ JF) (Bv JF) (Al JF) .none kV21 dc21 pm21 an21 cd21 ct21),sl21⟩) (c21:U02 K cd21 "_law_mixed"=true) (k21:U01 K (.ref f21)=true)
  (a22:U0x K mainGlobals "_law_pot"=some (some (.ref f22))) (l22:K.lookup f22=some ⟨oc22,od22,.func (U08 "_law_pot" "_law_pot" (CJ Kl) (Bv Kl) (Al Kl) .none kV22 dc22 pm22 an22 cd22 ct22),sl22⟩) (c22:U02 K cd22 "_law_pot"=true) (k22:U01 K (.ref f22)=true)
  (a23:U0x K mainGlobals "_law_take"=some (some (.ref f23))) (l23:K.lookup f23=some ⟨oc23,od23,.func (U08 "_law_take" "_law_take" (CJ Jp) (Bv Jp) (Al Jp) .none kV23 dc23 pm23 an23 cd23 ct23),sl23⟩) (c23:U02 K cd23 "_law_take"=true) (k23:U01 K (.ref f23)=true)
  (a24:U0x K mainGlobals "_law_mixed_up"=some (some (.ref f24))) (l24:K.lookup f24=some ⟨oc24,od24,.func (U08 "_law_mixed_up" "_law_mixed_up" (CJ G9) (Bv G9) (Al G9) .none kV24 dc24 pm24 an24 cd24 ct24),sl24⟩) (c24:U02 K cd24 "_law_mixed_up"=true) (k24:U01 K (.ref f24)=true)
  (a25:U0x K mainGlobals "_law_unlike"=some (some (.ref f25))) (l25:K.lookup f25=some ⟨oc25,od25,.func (U08 "_law_unlike" "_law_unlike" (CJ Gh) (Bv Gh) (Al Gh) .none kV25 dc25 pm25 an25 cd25 ct25),sl25⟩) (c25:U02 K cd25 "_law_unlike"=true) (k25:U01 K (.ref f25)=true)
  (a26:U0x K mainGlobals "_law_small"=some (some (.ref f26))) (l26:K.lookup f26=some ⟨oc26,od26,.func (U08 "_law_small" "_law_small" (CJ IW) (Bv IW) (Al IW) .none kV26 dc26 pm26 an26 cd26 ct26),sl26⟩) (c26:U02 K cd26 "_law_small"=true) (k26:U01 K (.ref f26)=true)
  (a27:U0x K mainGlobals "_law_marks"=some (some (.ref f27))) (l27:K.lookup f27=some ⟨oc27,od27,.func (U08 "_law_marks" "_law_marks" (CJ JH) (Bv JH) (Al JH) .none kV27 dc27 pm27 an27 cd27 ct27),sl27⟩) (c27:U02 K cd27 "_law_marks"=true) (k27:U01 K (.ref f27)=true)
  (a28:U0x K mainGlobals "_law_heap"=some (some (.ref f28))) (l28:K.lookup f28=some ⟨oc28,od28,.func (U08 "_law_heap" "_law_heap" (CJ Hw) (Bv Hw) (Al Hw) .none kV28 dc28 pm28 an28 cd28 ct28),sl28⟩) (c28:U02 K cd28 "_law_heap"=true) (k28:U01 K (.ref f28)=true)
  (a29:U0x K mainGlobals "_law_own"=some (some (.ref f29))) (l29:K.lookup f29=some ⟨oc29,od29,.func (U08 "_law_own" "_law_own" (CJ Km) (Bv Km) (Al Km) .none kV29 dc29 pm29 an29 cd29 ct29),sl29⟩) (c29:U02 K cd29 "_law_own"=true) (k29:U01 K (.ref f29)=true)
  (a30:U0x K mainGlobals "_law_held"=some (some (.ref f30))) (l30:K.lookup f30=some ⟨oc30,od30,.func (U08 "_law_held" "_law_held" (CJ Ir) (Bv Ir) (Al Ir) .none kV30 dc30 pm30 an30 cd30 ct30),sl30⟩) (c30:U02 K cd30 "_law_held"=true) (k30:U01 K (.ref f30)=true)
  (a31:U0x K mainGlobals "_law_due"=some (some (.ref f31))) (l31:K.lookup f31=some ⟨oc31,od31,.func (U08 "_law_due" "_law_due" (CJ Ko) (Bv Ko) (Al Ko) .none kV31 dc31 pm31 an31 cd31 ct31),sl31⟩) (c31:U02 K cd31 "_law_due"=true) (k31:U01 K (.ref f31)=true)
  (a32:U0x K mainGlobals "law"=some (some (.ref f32))) (l32:K.lookup f32=some ⟨oc32,od32,.func (U08 "law" "law" (CJ Nj) (Bv Nj) (Al Nj) .none kV32 dc32 pm32 an32 cd32 ct32),sl32⟩) (c32:U02 K cd32 "law"=true) (k32:U01 K (.ref f32)=true)
  (z1:U0x K mainGlobals "len"=some none)
  (z2:U0x K mainGlobals "isinstance"=some none)
  (z3:U0x K mainGlobals "all"=some none)
  (z4:U0x K mainGlobals "sorted"=some none)
  (z5:U0x K mainGlobals "min"=some none)
  (z6:U0x K mainGlobals "max"=some none)
  (z7:U0x K mainGlobals "abs"=some none)
  (z8:U0x K mainGlobals "repr"=some none)
  (z9:U0x K mainGlobals "set"=some none)
  (z10:U0x K mainGlobals "list"=some none)
  (z11:U0x K mainGlobals "tuple"=some none)
  (z12:U0x K mainGlobals "range"=some none)
  (z13:U0x K mainGlobals "int"=some none)
  (z14:U0x K mainGlobals "bool"=some none)
  (z15:U0x K mainGlobals "str"=some none)
  (zBz:U0x K mainGlobals "zip"=some none)
  (zBe:U0x K mainGlobals "enumerate"=some none)
  (zBs:U0x K mainGlobals "sum"=some none)
  {ep:Nat} {h1 h2 h3:Int} {t1 t2 t3 u1 u2 u3:Tok} (aM:U0x K mainGlobals "MOST_BOXES"=some (some (.ref dM))) (hM:(dM==sysModules)=false)
  (lM:K.lookup dM=some { cls:=.type "dict",data:=.dict #[⟨h1,.int 1 t1,.int 20 u1⟩,⟨h2,.int 2 t2,.int 10 u2⟩,⟨h3,.int 3 t3,.int 6 u3⟩] ep }) (e1:h1=hashInt 1) (e2:h2=hashInt 2) (e3:h3=hashInt 3)
  : ∃fd:FuncData,(∀(s:Shared)(v:Value),BindsTo s fd ⟨[v],[]⟩ [("script",v)])/\∀base:Heap,K.In base->base.Ns mainGlobals mg->DG l.prog w K mg base CX0 12 fa fd ["script"] (Ub K):=by
 have e:=hfa.symm.trans (U04 X G a32)
 cases e
 have F1:=DW (st:=Jq) l1 c1 k1
 have b1:=F1.binds (ps:=["thing"]) fun _ _ _ _ _ _ us hl=>by obtain⟨_,rfl⟩:=N6 hl;rfl
 have F2:=DW (st:=Js) l2 c2 k2
 have b2:=F2.binds (ps:=["thing"]) fun _ _ _ _ _ _ us hl=>by obtain⟨_,rfl⟩:=N6 hl;rfl
 have F3:=DW (st:=Ik) l3 c3 k3
 have b3:=F3.binds (ps:=["thing"]) fun _ _ _ _ _ _ us hl=>by obtain⟨_,rfl⟩:=N6 hl;rfl
 have F4:=DW (st:=Ka) l4 c4 k4
 have b4:=F4.binds (ps:=["ways","thing"]) fun _ _ _ _ _ _ us hl=>by obtain⟨_,_,rfl⟩:=N5 hl;rfl
 have F5:=DW (st:=Jf) l5 c5 k5
 have b5:=F5.binds (ps:=["thing"]) fun _ _ _ _ _ _ us hl=>by obtain⟨_,rfl⟩:=N6 hl;rfl
 have F6:=DW (st:=JD) l6 c6 k6
 have b6:=F6.binds (ps:=["heap"]) fun _ _ _ _ _ _ us hl=>by obtain⟨_,rfl⟩:=N6 hl;rfl
 have F7:=DW (st:=JB) l7 c7 k7
 have b7:=F7.binds (ps:=["heap","ways"]) fun _ _ _ _ _ _ us hl=>by obtain⟨_,_,rfl⟩:=N5 hl;rfl
 have F8:=DW (st:=Gi) l8 c8 k8
 have b8:=F8.binds (ps:=["boxes","way"]) fun _ _ _ _ _ _ us hl=>by obtain⟨_,_,rfl⟩:=N5 hl;rfl
 have F9:=DW (st:=Hr) l9 c9 k9
 have b9:=F9.binds (ps:=["boxes","way"]) fun _ _ _ _ _ _ us hl=>by obtain⟨_,_,rfl⟩:=N5 hl;rfl
 have F10:=DW (st:=Gj) l10 c10 k10
 have b10:=F10.binds (ps:=["boxes","numbers","way","ways"]) fun _ _ _ _ _ _ us hl=>by obtain⟨_,_,_,_,rfl⟩:=sO hl;rfl
 have F11:=DW (st:=Jr) l11 c11 k11
 have b11:=F11.binds (ps:=["heap"]) fun _ _ _ _ _ _ us hl=>by obtain⟨_,rfl⟩:=N6 hl;rfl
 have F12:=DW (st:=M8) l12 c12 k12
 have b12:=F12.binds (ps:=["stretches"]) fun _ _ _ _ _ _ us hl=>by obtain⟨_,rfl⟩:=N6 hl;rfl
 have F13:=DW (st:=Gy) l13 c13 k13
 have b13:=F13.binds (ps:=["heap","least"]) fun _ _ _ _ _ _ us hl=>by obtain⟨_,_,rfl⟩:=N5 hl;rfl
 have F14:=DW (st:=J9) l14 c14 k14
 have b14:=F14.binds (ps:=["heap"]) fun _ _ _ _ _ _ us hl=>by obtain⟨_,rfl⟩:=N6 hl;rfl
 have F15:=DW (st:=FT) l15 c15 k15
 have b15:=F15.binds (ps:=["heap"]) fun _ _ _ _ _ _ us hl=>by obtain⟨_,rfl⟩:=N6 hl;rfl
 have F16:=DW (st:=Jo) l16 c16 k16
 have b16:=F16.binds (ps:=["heap","way"]) fun _ _ _ _ _ _ us hl=>by obtain⟨_,_,rfl⟩:=N5 hl;rfl
 have F17:=DW (st:=HW) l17 c17 k17
 have b17:=F17.binds (ps:=["boxes","way","number"]) fun _ _ _ _ _ _ us hl=>by obtain⟨_,_,_,rfl⟩:=Xe hl;rfl
 have F18:=DW (st:=M9) l18 c18 k18
 have b18:=F18.binds (ps:=["heap","way","number"]) fun _ _ _ _ _ _ us hl=>by obtain⟨_,_,_,rfl⟩:=Xe hl;rfl
 have F19:=DW (st:=Hh) l19 c19 k19
 have b19:=F19.binds (ps:=["steps"]) fun _ _ _ _ _ _ us hl=>by obtain⟨_,rfl⟩:=N6 hl;rfl
 have F20:=DW (st:=GC) l20 c20 k20
 have b20:=F20.binds (ps:=["heap","way"]) fun _ _ _ _ _ _ us hl=>by obtain⟨_,_,rfl⟩:=N5 hl;rfl
 have F21:=DW (st:=JF) l21 c21 k21
 have b21:=F21.binds (ps:=["cell","k"]) fun _ _ _ _ _ _ us hl=>by obtain⟨_,_,rfl⟩:=N5 hl;rfl
 have F22:=DW (st:=Kl) l22 c22 k22
 have b22:=F22.binds (ps:=["cell"]) fun _ _ _ _ _ _ us hl=>by obtain⟨_,rfl⟩:=N6 hl;rfl
 have F23:=DW (st:=Jp) l23 c23 k23
 have b23:=F23.binds (ps:=["pot","many"]) fun _ _ _ _ _ _ us hl=>by obtain⟨_,_,rfl⟩:=N5 hl;rfl
 have F24:=DW (st:=G9) l24 c24 k24
 have b24:=F24.binds (ps:=["pot","things"]) fun _ _ _ _ _ _ us hl=>by obtain⟨_,_,rfl⟩:=N5 hl;rfl
 have F25:=DW (st:=Gh) l25 c25 k25
 have b25:=F25.binds (ps:=["pot","ways","count"]) fun _ _ _ _ _ _ us hl=>by obtain⟨_,_,_,rfl⟩:=Xe hl;rfl
 have F26:=DW (st:=IW) l26 c26 k26
 have b26:=F26.binds (ps:=["pot","ways","most","many"]) fun _ _ _ _ _ _ us hl=>by obtain⟨_,_,_,_,rfl⟩:=sO hl;rfl
 have F27:=DW (st:=JH) l27 c27 k27
 have b27:=F27.binds (ps:=["pot","many"]) fun _ _ _ _ _ _ us hl=>by obtain⟨_,_,rfl⟩:=N5 hl;rfl
 have F28:=DW (st:=Hw) l28 c28 k28
 have b28:=F28.binds (ps:=["pot","ways","most"]) fun _ _ _ _ _ _ us hl=>by obtain⟨_,_,_,rfl⟩:=Xe hl;rfl
 have F29:=DW (st:=Km) l29 c29 k29
 have b29:=F29.binds (ps:=["heap"]) fun _ _ _ _ _ _ us hl=>by obtain⟨_,rfl⟩:=N6 hl;rfl
 have F30:=DW (st:=Ir) l30 c30 k30
 have b30:=F30.binds (ps:=["small","spot"]) fun _ _ _ _ _ _ us hl=>by obtain⟨_,_,rfl⟩:=N5 hl;rfl
 have F31:=DW (st:=Ko) l31 c31 k31
 have b31:=F31.binds (ps:=["small","marks","way"]) fun _ _ _ _ _ _ us hl=>by obtain⟨_,_,_,rfl⟩:=Xe hl;rfl
 have F32:=DW (st:=Nj) l32 c32 k32
 have mM:=U04 X G aM
 have B:Blt mg:=fun x hx=>by
  simp only[Tq,U0q,U1f,or_false] at hx
  rcases hx with rfl|rfl|rfl|rfl|rfl|rfl|rfl|rfl|rfl|rfl|rfl|rfl|rfl|rfl|rfl
  .exact U1p X G z1
  .exact U1p X G z2
  .exact U1p X G z3
  .exact U1p X G z4
  .exact U1p X G z5
  .exact U1p X G z6
  .exact U1p X G z7
  .exact U1p X G z8
  .exact U1p X G z9
  .exact U1p X G z10
  .exact U1p X G z11
  .exact U1p X G z12
  .exact U1p X G z13
  .exact U1p X G z14
  .exact U1p X G z15
 have Bz:mg "zip"=none:=U1p X G zBz
 have Be:mg "enumerate"=none:=U1p X G zBe
 have Bs:mg "sum"=none:=U1p X G zBs
 refine⟨U08 "law" "law" (CJ Nj) (Bv Nj) (Al Nj) .none kV32 dc32 pm32 an32 cd32 ct32,fun s v=>.of_eq rfl,fun base _ _=>?_⟩
 have C_is_whole:CN l.prog w K mg base "is_whole" 1 Cu:=⟨⟨["thing"],⟨_,_,Zr F1 B,b1,k1,U04 X G a1⟩,fun ds r h=>DP h⟩⟩
 have C_are_ways:CN l.prog w K mg base "are_ways" 2 Ey:=⟨⟨["thing"],⟨_,_,Zu F2 B mM (sS hM lM e1 e2 e3 (by decide)) C_is_whole,b2,k2,U04 X G a2⟩,fun ds r h=>DP h⟩⟩
 have C_is_stretch:CN l.prog w K mg base "is_stretch" 2 Hf:=⟨⟨["thing"],⟨_,_,X8 F3 B C_is_whole,b3,k3,U04 X G a3⟩,fun ds r h=>DP h⟩⟩
 have C_is_box:CN l.prog w K mg base "is_box" 3 Jm:=⟨⟨["ways","thing"],⟨_,_,gj F4 B C_are_ways C_is_stretch,b4,k4,U04 X G a4⟩,fun ds r h=>DP h⟩⟩
 have C_is_heap:CN l.prog w K mg base "is_heap" 4 J7:=⟨⟨["thing"],⟨_,_,cj F5 B mM (sS hM lM e1 e2 e3 (by decide)) C_are_ways C_is_box,b5,k5,U04 X G a5⟩,fun ds r h=>DP h⟩⟩
 have C_need_heap:CN l.prog w K mg base "need_heap" 5 El:=⟨⟨["heap"],⟨_,_,ZJ F6 B C_is_heap,b6,k6,U04 X G a6⟩,fun ds r h=>DP h⟩⟩
 have C_need_ways:CN l.prog w K mg base "need_ways" 6 Ez:=⟨⟨["heap","ways"],⟨_,_,ZG F7 B C_need_heap,b7,k7,U04 X G a7⟩,fun ds r h=>DP h⟩⟩
 have C_ends_along:CN l.prog w K mg base "ends_along" 1 Hg:=⟨⟨["boxes","way"],⟨_,_,XC F8 B,b8,k8,U04 X G a8⟩,fun ds r h=>DP h⟩⟩
 have C_steps_along:CN l.prog w K mg base "steps_along" 2 Cy:=⟨⟨["boxes","way"],⟨_,_,Vy F9 B Bz C_ends_along,b9,k9,U04 X G a9⟩,fun ds r h=>DP h⟩⟩
 have C_cells_from0:CN l.prog w K mg base "cells_from" 2 (Cd 0):=⟨⟨["boxes","numbers","way","ways"],⟨_,_,qz (f:=f10) rfl,b10,k10,U04 X G a10⟩,fun ds r h=>by cases h⟩⟩
 have C_cells_from1:CN l.prog w K mg base "cells_from" 3 (Cd 1):=⟨⟨["boxes","numbers","way","ways"],⟨_,_,K6 F10 B C_steps_along (by decide) C_cells_from0,b10,k10,U04 X G a10⟩,fun ds r h=>DP h⟩⟩
 have C_cells_from2:CN l.prog w K mg base "cells_from" 4 (Cd 2):=⟨⟨["boxes","numbers","way","ways"],⟨_,_,K6 F10 B C_steps_along (by decide) C_cells_from1,b10,k10,U04 X G a10⟩,fun ds r h=>DP h⟩⟩
 have C_cells_from3:CN l.prog w K mg base "cells_from" 5 (Cd 3):=⟨⟨["boxes","numbers","way","ways"],⟨_,_,K6 F10 B C_steps_along (by decide) C_cells_from2,b10,k10,U04 X G a10⟩,fun ds r h=>DP h⟩⟩
 have C_cells_from4:CN l.prog w K mg base "cells_from" 6 (Cd 4):=⟨⟨["boxes","numbers","way","ways"],⟨_,_,K6 F10 B C_steps_along (by decide) C_cells_from3,b10,k10,U04 X G a10⟩,fun ds r h=>DP h⟩⟩
 have C_cells_from:=C_cells_from4
 have C_cells_of:CN l.prog w K mg base "cells_of" 7 Gg:=⟨⟨["heap"],⟨_,_,Zt F11 B C_cells_from,b11,k11,U04 X G a11⟩,fun ds r h=>DP h⟩⟩
 have C_joined:CN l.prog w K mg base "joined" 1 Jl:=⟨⟨["stretches"],⟨_,_,gb F12 B,b12,k12,U04 X G a12⟩,fun ds r h=>DP h⟩⟩
 have C_pieces_held:CN l.prog w K mg base "pieces_held" 8 Fo:=⟨⟨["heap","least"],⟨_,_,Vz F13 B C_joined C_cells_of,b13,k13,U04 X G a13⟩,fun ds r h=>DP h⟩⟩
 have C_pieces_of:CN l.prog w K mg base "pieces_of" 9 Fx:=⟨⟨["heap"],⟨_,_,ZF F14 B C_need_ways C_pieces_held,b14,k14,U04 X G a14⟩,fun ds r h=>DP h⟩⟩
 have C_covered_length:CN l.prog w K mg base "covered_length" 10 Ec:=⟨⟨["heap"],⟨_,_,S9 F15 B Bs C_pieces_of,b15,k15,U04 X G a15⟩,fun ds r h=>DP h⟩⟩
 have C_need_way:CN l.prog w K mg base "need_way" 2 Ew:=⟨⟨["heap","way"],⟨_,_,Zm F16 B C_is_whole,b16,k16,U04 X G a16⟩,fun ds r h=>DP h⟩⟩
 have C_cut_boxes:CN l.prog w K mg base "cut_boxes" 1 Gw:=⟨⟨["boxes","way","number"],⟨_,_,ZP F17 B,b17,k17,U04 X G a17⟩,fun ds r h=>DP h⟩⟩
 have C_cut_at:CN l.prog w K mg base "cut_at" 6 HN:=⟨⟨["heap","way","number"],⟨_,_,gk F18 B C_need_heap C_need_way C_is_whole C_cut_boxes,b18,k18,U04 X G a18⟩,fun ds r h=>DP h⟩⟩
 have C_joined_alike:CN l.prog w K mg base "joined_alike" 1 FQ:=⟨⟨["steps"],⟨_,_,VP F19 B,b19,k19,U04 X G a19⟩,fun ds r h=>DP h⟩⟩
 have C_lengths_across:CN l.prog w K mg base "lengths_across" 11 Cv:=⟨⟨["heap","way"],⟨_,_,S8 F20 B C_need_ways C_need_way C_steps_along C_covered_length C_cut_at C_joined_alike,b20,k20,U04 X G a20⟩,fun ds r h=>DP h⟩⟩
 have C_law_mixed:CN l.prog w K mg base "_law_mixed" 1 Hq:=⟨⟨["cell","k"],⟨_,_,ZL F21 B,b21,k21,U04 X G a21⟩,fun ds r h=>DP h⟩⟩
 have C_law_pot:CN l.prog w K mg base "_law_pot" 1 Hz:=⟨⟨["cell"],⟨_,_,cY F22 B,b22,k22,U04 X G a22⟩,fun ds r h=>DP h⟩⟩
 have C_law_take:JZ l.prog w K mg base "_law_take" 2 Ao:=⟨⟨["pot","many"],⟨_,_,Zn F23 B C_law_mixed,b23,k23,U04 X G a23⟩,fun ns ds r h=>O5 h⟩⟩
 have C_law_mixed_up:JZ l.prog w K mg base "_law_mixed_up" 3 FP:=⟨⟨["pot","things"],⟨_,_,VN F24 B C_law_take,b24,k24,U04 X G a24⟩,fun ns ds r h=>O5 h⟩⟩
 have C_law_unlike:JZ l.prog w K mg base "_law_unlike" 4 G8:=⟨⟨["pot","ways","count"],⟨_,_,X7 F25 B Bz C_law_mixed_up,b25,k25,U04 X G a25⟩,fun ns ds r h=>O5 h⟩⟩
 have C_law_small:JZ l.prog w K mg base "_law_small" 5 Gu:=⟨⟨["pot","ways","most","many"],⟨_,_,ZK F26 B C_law_take C_law_unlike,b26,k26,U04 X G a26⟩,fun ns ds r h=>O5 h⟩⟩
 have C_law_marks:JZ l.prog w K mg base "_law_marks" 3 Gv:=⟨⟨["pot","many"],⟨_,_,ZM F27 B C_law_take,b27,k27,U04 X G a27⟩,fun ns ds r h=>O5 h⟩⟩
 have C_law_heap:JZ l.prog w K mg base "_law_heap" 6 Gf:=⟨⟨["pot","ways","most"],⟨_,_,Zq F28 B Bz C_law_take C_law_small C_law_marks,b28,k28,U04 X G a28⟩,fun ns ds r h=>O5 h⟩⟩
 have C_law_own:CN l.prog w K mg base "_law_own" 1 IK:=⟨⟨["heap"],⟨_,_,cZ F29 B,b29,k29,U04 X G a29⟩,fun ds r h=>DP h⟩⟩
 have C_law_held:CN l.prog w K mg base "_law_held" 1 Ge:=⟨⟨["small","spot"],⟨_,_,Zo F30 B Bz Be,b30,k30,U04 X G a30⟩,fun ds r h=>DP h⟩⟩
 have C_law_due:CN l.prog w K mg base "_law_due" 2 IV:=⟨⟨["small","marks","way"],⟨_,_,cg F31 B C_law_held,b31,k31,U04 X G a31⟩,fun ds r h=>DP h⟩⟩
 exact(v9 F32 B C_law_pot C_law_heap C_law_own C_law_due C_lengths_across).imp (vI lK)
theorem walk{l:U6l}{q:Program}{loose:List Str}{XP:(Str->Option Value)->Heap->Prop}{YP:World->Heap->Prop}{d:DefRec}{K:Params->U0a}(hn:l.most=some 63)(hdf:d.params.defaults=[])
  (hY:∀(w:World)(h:Heap),YP w h->(K w.params).In h)
  (F:∀(w:World)(mg:Str->Option Value)(fa:Addr)(h:Heap),(K w.params).In h->h.Ns mainGlobals mg->mg d.name=some (.ref fa) ->
   ∃fd:FuncData,(∀(s:Shared)(u:Value),BindsTo s fd ⟨[u],[]⟩ [("script",u)])/\∀base:Heap,(K w.params).In base->base.Ns mainGlobals mg->DG l.prog w (K w.params) mg base CX0 12 fa fd ["script"] (Ub (K w.params))) :
  U7z q loose XP YP l.row.toRowW d [] (fun f vs=>U7x f vs) :=
 L2.jR (n:=63) (k:=12) (x:="script") (CX:=CX0) (sp:=Ub) hn (by decide) hdf ⟨rfl,by decide,by decide,rfl⟩ hY F (fun _ _ a ns hl hO hS=>⟨a,ns,rfl,hO,hl,hS,fun _=>rfl⟩) fun _ _ _ _ z=>z
end W14
open PySem PySem.W PyProof.Rows
set_option maxRecDepth 100000 in
set_option maxHeartbeats 0 in
theorem PySem.Challenge.cw_boxcover_k14_lengths_across_told_holds : PySem.Challenge.rw_boxcover_k14_lengths_across_told.Holds := by
 w_on;o_law;k_head;(case hw=>w_witness2)
 k_fill
 refine W14.walk (l := PySem.Challenge.rw_boxcover_k14_lengths_across_told) rfl rfl (fun w h Y => PySem.W.kIn_of Y) ?F
 case F =>
  intro w mg fa h KX G hmg
  refine' W14.tops KX G hmg ?a1 ?l1 ?c1 ?k1 ?a2 ?l2 ?c2 ?k2 ?a3 ?l3 ?c3 ?k3 ?a4 ?l4 ?c4 ?k4 ?a5 ?l5 ?c5 ?k5 ?a6 ?l6 ?c6 ?k6 ?a7 ?l7 ?c7 ?k7 ?a8 ?l8 ?c8 ?k8 ?a9 ?l9 ?c9 ?k9 ?a10 ?l10 ?c10 ?k10 ?a11 ?l11 ?c11 ?k11 ?a12 ?l12 ?c12 ?k12 ?a13 ?l13 ?c13 ?k13 ?a14 ?l14 ?c14 ?k14 ?a15 ?l15 ?c15 ?k15 ?a16 ?l16 ?c16 ?k16 ?a17 ?l17 ?c17 ?k17 ?a18 ?l18 ?c18 ?k18 ?a19 ?l19 ?c19 ?k19 ?a20 ?l20 ?c20 ?k20 ?a21 ?l21 ?c21 ?k21 ?a22 ?l22 ?c22 ?k22 ?a23 ?l23 ?c23 ?k23 ?a24 ?l24 ?c24 ?k24 ?a25 ?l25 ?c25 ?k25 ?a26 ?l26 ?c26 ?k26 ?a27 ?l27 ?c27 ?k27 ?a28 ?l28 ?c28 ?k28 ?a29 ?l29 ?c29 ?k29 ?a30 ?l30 ?c30 ?k30 ?a31 ?l31 ?c31 ?k31 ?a32 ?l32 ?c32 ?k32 ?z1 ?z2 ?z3 ?z4 ?z5 ?z6 ?z7 ?z8 ?z9 ?z10 ?z11 ?z12 ?z13 ?z14 ?z15 ?zBz ?zBe ?zBs ?aM ?hM ?lM ?e1 ?e2 ?e3
  (case a1=>k_is);(case l1=>k_is);(case c1=>k_is);(case k1=>k_is)
  (case a2=>k_is);(case l2=>k_is);(case c2=>k_is);(case k2=>k_is)
  (case a3=>k_is);(case l3=>k_is);(case c3=>k_is);(case k3=>k_is)
  (case a4=>k_is);(case l4=>k_is);(case c4=>k_is);(case k4=>k_is)
  (case a5=>k_is);(case l5=>k_is);(case c5=>k_is);(case k5=>k_is)
  (case a6=>k_is);(case l6=>k_is);(case c6=>k_is);(case k6=>k_is)
  (case a7=>k_is);(case l7=>k_is);(case c7=>k_is);(case k7=>k_is)
  (case a8=>k_is);(case l8=>k_is);(case c8=>k_is);(case k8=>k_is)
  (case a9=>k_is);(case l9=>k_is);(case c9=>k_is);(case k9=>k_is)
  (case a10=>k_is);(case l10=>k_is);(case c10=>k_is);(case k10=>k_is)
  (case a11=>k_is);(case l11=>k_is);(case c11=>k_is);(case k11=>k_is)
  (case a12=>k_is);(case l12=>k_is);(case c12=>k_is);(case k12=>k_is)
  (case a13=>k_is);(case l13=>k_is);(case c13=>k_is);(case k13=>k_is)
  (case a14=>k_is);(case l14=>k_is);(case c14=>k_is);(case k14=>k_is)
  (case a15=>k_is);(case l15=>k_is);(case c15=>k_is);(case k15=>k_is)
  (case a16=>k_is);(case l16=>k_is);(case c16=>k_is);(case k16=>k_is)
  (case a17=>k_is);(case l17=>k_is);(case c17=>k_is);(case k17=>k_is)
  (case a18=>k_is);(case l18=>k_is);(case c18=>k_is);(case k18=>k_is)
  (case a19=>k_is);(case l19=>k_is);(case c19=>k_is);(case k19=>k_is)
  (case a20=>k_is);(case l20=>k_is);(case c20=>k_is);(case k20=>k_is)
  (case a21=>k_is);(case l21=>k_is);(case c21=>k_is);(case k21=>k_is)
  (case a22=>k_is);(case l22=>k_is);(case c22=>k_is);(case k22=>k_is)
  (case a23=>k_is);(case l23=>k_is);(case c23=>k_is);(case k23=>k_is)
  (case a24=>k_is);(case l24=>k_is);(case c24=>k_is);(case k24=>k_is)
  (case a25=>k_is);(case l25=>k_is);(case c25=>k_is);(case k25=>k_is)
  (case a26=>k_is);(case l26=>k_is);(case c26=>k_is);(case k26=>k_is)
  (case a27=>k_is);(case l27=>k_is);(case c27=>k_is);(case k27=>k_is)
  (case a28=>k_is);(case l28=>k_is);(case c28=>k_is);(case k28=>k_is)
  (case a29=>k_is);(case l29=>k_is);(case c29=>k_is);(case k29=>k_is)
  (case a30=>k_is);(case l30=>k_is);(case c30=>k_is);(case k30=>k_is)
  (case a31=>k_is);(case l31=>k_is);(case c31=>k_is);(case k31=>k_is)
  (case a32=>k_is);(case l32=>k_is);(case c32=>k_is);(case k32=>k_is)
  (case z1=>k_is);(case z2=>k_is);(case z3=>k_is);(case z4=>k_is);(case z5=>k_is);(case z6=>k_is);(case z7=>k_is);(case z8=>k_is);(case z9=>k_is);(case z10=>k_is);(case z11=>k_is);(case z12=>k_is);(case z13=>k_is);(case z14=>k_is);(case z15=>k_is)
  (case zBz=>k_is)
  (case zBe=>k_is)
  (case zBs=>k_is)
  (case aM=>k_is);(case lM=>k_is)
  (case hM=>rfl);(case e1=>rfl);(case e2=>rfl);(case e3=>rfl)
end
